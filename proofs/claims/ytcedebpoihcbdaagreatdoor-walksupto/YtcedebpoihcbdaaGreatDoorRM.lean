/-
  The document's own answer: Move, Here, Go.
  The document's own answer: Move.
-/
import Derived.Test.YtcedebpoihcbdaaGreatDoorRL
set_option linter.unusedVariables false
set_option maxHeartbeats 4000000
set_option maxRecDepth 100000
namespace Go.Proofs.YtcedebpoihcbdaaGreatDoor
open Go.RowKit Go.Shelf Gv
section
variable {w w' W:World} {r:Rx} {s:Fo} {K:Nat→List Nat}
theorem RefOK.wkCell (h:RefOK w r) {ig n cap:Nat} (hv:r.qv=.slice (some ⟨ig,0,none⟩) n cap) {i j:Nat} {x:Wk} (hi:r.ql[i]?=some x) (hj:j<4):w.cell? ⟨ig,i*4+j,none⟩=x.row[j]?:=by
 have hl:i<r.ql.length:=(List.getElem?_eq_some_iff.1 hi).1
 have h':=h.wks
 rw [hv] at h'
 obtain rfl:=row_n h'
 rw [h'.cellAt (i*4+j) (by omega)]
 exact flat_at Wk.row_len hi hj
theorem RefOK.wkFree (h:RefOK w r) {ig n cap:Nat} (hv:r.qv=.slice (some ⟨ig,0,none⟩) n cap) (j:Nat):w.frozen? ⟨ig,j,none⟩=false:=by
 have h':=h.wks
 rw [hv] at h'
 obtain rfl:=row_n h'
 exact h'.frozenAt j
def Rx.went (r:Rx) (i:Nat) (x:Wk) (a:Nat):Rx:={ r with ql:=r.ql.set i { x with here:=a } }
theorem went_end {W3:World} {i:Nat} {x:Wk} {ig n cap a:Nat} (h:RefOK W3 r) (hb:Below w.heap.size w W3) (hv:r.qv=.slice (some ⟨ig,0,none⟩) n cap) (hi:r.ql[i]?=some x) :
  RPost w (W3.setCell ⟨ig,i*4+3,none⟩ (.int .i64 a)) r (r.went i x a):=by
 have h':=h.wks
 rw [hv] at h'
 obtain rfl:=row_n h'
 obtain ⟨cs,hcs⟩:=row_block h' rfl
 have hst:=(h'.stored (i*4+3) (.int .i64 a)).1
 rw [flat_set Wk.row_len (a':={ x with here:=a }) hi (by omega) rfl] at hst
 obtain ⟨p1,p2,p3,p4,p5,p6,p7,_,p9⟩:=h.part (ok:=fun t=>t≠210) (w':=W3.setCell ⟨ig,i*4+3,none⟩ (.int .i64 a)) (store_apart (p:=⟨ig,i*4+3,none⟩) hcs _)
 have hig:r.own ig:=Rx.own_q (by rw [hv];rfl)
 refine ⟨⟨p1 (by decide),p2 (by decide),h.hN,p3 (by decide),h.few,p4 (by decide),h.afew,h.hT,h.nd,p5 (by decide),h.wfew,p6 (by decide),h.ifew,p7 (by decide),?_,?_,fun y hy=>?_⟩,(Fr.of_below hb).setCell (p:=⟨ig,i*4+3,none⟩) hig _,fun b hb=>.inl ?_,rfl⟩
 ·show (W3.setCell ⟨ig,i*4+3,none⟩ (.int .i64 a)).ownsRow 0 _ 4 r.qv (r.ql.set i { x with here:=a }).length ((r.ql.set i { x with here:=a }).flatMap Wk.row)
  rw [hv,List.length_set];exact hst
 ·show (r.ql.set i { x with here:=a }).length≤50
  rw [List.length_set];exact h.qfew
 ·rcases List.mem_or_eq_of_mem_set (show y∈r.ql.set i { x with here:=a } from hy) with hy | rfl
  ·exact p9 (by decide) y hy
  ·exact p9 (by decide) x (List.mem_of_getElem? hi)
 ·rcases hb with h | h | h | h | h | h | h | h | ⟨y,hy,h⟩
  ·exact .inl h
  ·exact .inr (.inl h)
  ·exact .inr (.inr (.inl h))
  ·exact .inr (.inr (.inr (.inl h)))
  ·exact Rx.own_w h
  ·exact Rx.own_i h
  ·exact Rx.own_q h
  ·exact .inr (.inr (.inr (.inr (.inr (.inr (.inr (.inl h)))))))
  ·rcases List.mem_or_eq_of_mem_set (show y∈r.ql.set i { x with here:=a } from hy) with hy | rfl
   ·exact Rx.own_qr hy h
   ·exact Rx.own_qr (List.mem_of_getElem? hi) h
def HereR (w:World) (r:Rx) (n:Int) (e:Ending) (w':World):Prop:=w'=w ∧
 (((n<1∨((r.ql.length:Nat):Int)<n)∧e=.returned (.tuple #[.int .i64 0,.int .i64 10]))∨∃ (i:Nat) (x:Wk),n=((i+1:Nat):Int)∧r.ql[i]?=some x∧e=.returned (.tuple #[.int .i64 x.here,.int .i64 0]))
theorem refHere (h:RefOK w r) (n:Int) :
  Calls Tryz.prog 114 #[.pointer (some ⟨r.rb,0,none⟩),.int .i64 n] w (HereR w r n):=by
 have h50:=h.qfew
 obtain ⟨iao,icap,hiv,hic,hiF⟩:=rowForm h.wks
 have c3:w.cell? ⟨r.rb,3,none⟩=some (.slice iao r.ql.length icap):=by rw [← hiv];exact h.c3
 rcases thing_cases n r.ql.length with hn | ⟨i,hi,rfl⟩
 ·have HN:Hid (n<1∨((r.ql.length:Nat):Int)<n):=hn
  clear h hiv hic hiF
  by_cases h1:n<1
  ·have e1:decide (n<1)=true:=by simpa using h1
   go_enter Tryz.func114, Tryz.ntmps114
   go_wp2_with fail
   go_ret2
   exact ⟨rfl,.inl ⟨HN.out,rfl⟩⟩
  ·have h2:((r.ql.length:Nat):Int)<n:=by omega
   have e1:decide (n<1)=false:=by simpa using h1
   have e2:decide (((r.ql.length:Nat):Int)<n)=true:=by simpa using h2
   go_enter Tryz.func114, Tryz.ntmps114
   go_wp2_with fail
   go_ret2
   exact ⟨rfl,.inl ⟨HN.out,rfl⟩⟩
 ·obtain ⟨x,hx⟩:∃ x,r.ql[i]?=some x:=⟨_,List.getElem?_eq_getElem hi⟩
  rcases hiF with h0 | ⟨ig,rfl,higs,hiC⟩
  ·omega
  have k3:w.cell? ⟨ig,i*4+3,none⟩=some (.int .i64 x.here):=h.wkCell hiv hx (j:=3) (by omega)
  have HX:Hid (r.ql[i]?=some x):=hx
  have e1:decide ((i:Int)+1<1)=false:=by simp;omega
  have e2:decide (((r.ql.length:Nat):Int)<(i:Int)+1)=false:=by simp;omega
  have hil:(i:Int)<((r.ql.length:Nat):Int):=by omega
  clear h hx hiv hiC
  go_enter Tryz.func114, Tryz.ntmps114
  go_wp2_with fail
  go_ret2
  exact ⟨rfl,.inr ⟨i,x,rfl,HX.out,rfl⟩⟩
def GoR (w:World) (r:Rx) (n m:Int) (e:Ending) (w':World):Prop :=
 ((n<1∨((r.ql.length:Nat):Int)<n)∧e=.returned (.int .i64 10)∧w'=w)∨(¬ (n<1∨((r.ql.length:Nat):Int)<n)∧hasB (r.N+1) m=false∧e=.returned (.int .i64 5)∧w'=w) ∨
 ∃ (i k:Nat) (x:Wk),n=((i+1:Nat):Int)∧m=k∧1≤k∧k≤r.N∧r.ql[i]?=some x∧e=.returned (.int .i64 0)∧RPost w w' r (r.went i x k)
theorem refGo (h:RefOK w r) (n m:Int) :
  Calls Tryz.prog 116 #[.pointer (some ⟨r.rb,0,none⟩),.int .i64 n,.int .i64 m] w (GoR w r n m):=by
 have HH:Hid (RefOK w r):=h
 have h50:=h.qfew
 obtain ⟨iao,icap,hiv,hic,hiF⟩:=rowForm h.wks
 have c3:w.cell? ⟨r.rb,3,none⟩=some (.slice iao r.ql.length icap):=by rw [← hiv];exact h.c3
 rcases thing_cases n r.ql.length with hn | ⟨i,hi,rfl⟩
 ·have HN:Hid (n<1∨((r.ql.length:Nat):Int)<n):=hn
  clear h hiv hic hiF
  by_cases h1:n<1
  ·have e1:decide (n<1)=true:=by simpa using h1
   go_enter Tryz.func116, Tryz.ntmps116
   go_wp2_with fail
   go_ret
   exact .inl ⟨HN.out,rfl,rfl⟩
  ·have h2:((r.ql.length:Nat):Int)<n:=by omega
   have e1:decide (n<1)=false:=by simpa using h1
   have e2:decide (((r.ql.length:Nat):Int)<n)=true:=by simpa using h2
   go_enter Tryz.func116, Tryz.ntmps116
   go_wp2_with fail
   go_ret
   exact .inl ⟨HN.out,rfl,rfl⟩
 ·obtain ⟨x,hx⟩:∃ x,r.ql[i]?=some x:=⟨_,List.getElem?_eq_getElem hi⟩
  rcases hiF with h0 | ⟨ig,rfl,higs,hiC⟩
  ·omega
  have k3:w.cell? ⟨ig,i*4+3,none⟩=some (.int .i64 x.here):=h.wkCell hiv hx (j:=3) (by omega)
  have fz:∀ j,w.frozen? ⟨ig,j,none⟩=false:=h.wkFree hiv
  have HX:Hid (r.ql[i]?=some x):=hx
  have HIV:Hid (r.qv=.slice (some ⟨ig,0,none⟩) r.ql.length icap):=hiv
  have e1:decide ((i:Int)+1<1)=false:=by simp;omega
  have e2:decide (((r.ql.length:Nat):Int)<(i:Int)+1)=false:=by simp;omega
  have hil:(i:Int)<((r.ql.length:Nat):Int):=by omega
  have HNO:Hid (¬ (((i+1:Nat):Int)<1∨((r.ql.length:Nat):Int)<((i+1:Nat):Int))):=by show ¬ _;omega
  clear h hx hiv hiC
  cases hb:hasB (r.N+1) m with
  | false =>
   go_enter Tryz.func116, Tryz.ntmps116
   go_wp2_with fail
   refine (refIs HH.out m).mono ?_
   rintro e w ⟨rfl,rfl⟩
   rw [hb]
   go_wp2_with fail
   go_ret
   exact .inr (.inl ⟨HNO.out,hb,rfl,rfl⟩)
  | true =>
   obtain ⟨k,rfl,hk1,hkN⟩:=has_nat hb
   have HP:Hid (RPost w (w.setCell ⟨ig,i*4+3,none⟩ (.int .i64 k)) r (r.went i x k)):=went_end HH.out (Below.refl _ _) HIV.out HX.out
   go_enter Tryz.func116, Tryz.ntmps116
   go_wp2_with fail
   refine (refIs HH.out k).mono ?_
   rintro e w ⟨rfl,rfl⟩
   rw [hb]
   go_wp2_with fail
   go_ret
   exact .inr (.inr ⟨i,k,x,rfl,rfl,hk1,hkN,HX.out,rfl,HP.out⟩)
end
open Go.RowKit Go.Shelf Gv
section
variable {w w' W:World} {r:Rx} {s:Fo} {K:Nat→List Nat}
def Rx.moved (r:Rx) (i:Nat) (x:Wk) (a:Nat):Rx:=if a=0 then r else r.went i x a
def MoveR (w:World) (r:Rx) (s:Fo) (vf:Wk→Nat→Int) (n how:Int) (e:Ending) (w':World):Prop :=
 ((n<1∨((r.ql.length:Nat):Int)<n)∧e=.returned (.tuple #[.int .i64 0,.int .i64 10])∧w'=w) ∨
 (¬ (n<1∨((r.ql.length:Nat):Int)<n)∧(how<1∨7<how)∧e=.returned (.tuple #[.int .i64 0,.int .i64 1])∧w'=w) ∨
 ∃ (i k a:Nat) (x:Wk),n=((i+1:Nat):Int)∧how=k∧1≤k∧k≤7∧r.ql[i]?=some x∧e=.returned (.tuple #[.int .i64 a,.int .i64 0])∧MoveTo r.N s (vf x) x.root x.here k a∧RPost w w' r (r.moved i x a)
theorem refMove (h:RefOK w r) (hwf:WF r.N s K) (hK:r.K=K) (hp:r.par=s.par) (hlo:Lo r.N s) (hkn:∀ i,1≤i→i≤r.N→r.kn i≤4) (hok:∀ x,x∈r.ql→1≤x.root∧x.root≤r.N∧1≤x.here∧x.here≤r.N) (hsee:∀ x,x∈r.ql→0≤x.see∧x.see≤30) (vf:Wk→Nat→Int) (hvf:∀ x,x∈r.ql→∀ n,1≤n→n≤r.N→saysF x.see x.rl (r.kn n) (r.tag n)=vf x n) (n how:Int) :
  Calls Tryz.prog 113 #[.pointer (some ⟨r.rb,0,none⟩),.int .i64 n,.int .i64 how] w (MoveR w r s vf n how):=by
 have HH:Hid (RefOK w r):=h
 have h50:=h.qfew
 obtain ⟨iao,icap,hiv,hic,hiF⟩:=rowForm h.wks
 have c3:w.cell? ⟨r.rb,3,none⟩=some (.slice iao r.ql.length icap):=by rw [← hiv];exact h.c3
 rcases thing_cases n r.ql.length with hn | ⟨i,hi,rfl⟩
 ·have HN:Hid (n<1∨((r.ql.length:Nat):Int)<n):=hn
  clear h hiv hic hiF hwf hK hp hlo hkn hok hsee hvf
  by_cases h1:n<1
  ·have e1:decide (n<1)=true:=by simpa using h1
   go_enter Tryz.func113, Tryz.ntmps113
   go_wp2_with fail
   go_ret2
   exact .inl ⟨HN.out,rfl,rfl⟩
  ·have h2:((r.ql.length:Nat):Int)<n:=by omega
   have e1:decide (n<1)=false:=by simpa using h1
   have e2:decide (((r.ql.length:Nat):Int)<n)=true:=by simpa using h2
   go_enter Tryz.func113, Tryz.ntmps113
   go_wp2_with fail
   go_ret2
   exact .inl ⟨HN.out,rfl,rfl⟩
 ·obtain ⟨x,hx⟩:∃ x,r.ql[i]?=some x:=⟨_,List.getElem?_eq_getElem hi⟩
  have hm:=List.mem_of_getElem? hx
  have e1:decide ((i:Int)+1<1)=false:=by simp;omega
  have e2:decide (((r.ql.length:Nat):Int)<(i:Int)+1)=false:=by simp;omega
  have hil:(i:Int)<((r.ql.length:Nat):Int):=by omega
  have HNO:Hid (¬ (((i+1:Nat):Int)<1∨((r.ql.length:Nat):Int)<((i+1:Nat):Int))):=by show ¬ _;omega
  by_cases hh:how<1∨7<how
  ·have HHW:Hid (how<1∨7<how):=hh
   clear h hx hiv hiF hwf hK hp hlo hkn hok hsee hvf
   by_cases h1:how<1
   ·have f1:decide (how<1)=true:=by simpa using h1
    clear hh
    go_enter Tryz.func113, Tryz.ntmps113
    go_wp2_with fail
    go_ret2
    exact .inr (.inl ⟨HNO.out,HHW.out,rfl,rfl⟩)
   ·have f1:decide (how<1)=false:=by simpa using h1
    have f7:decide (7<how)=true:=by simp;omega
    clear hh
    go_enter Tryz.func113, Tryz.ntmps113
    go_wp2_with fail
    go_ret2
    exact .inr (.inl ⟨HNO.out,HHW.out,rfl,rfl⟩)
  obtain ⟨k,rfl⟩:=Int.eq_ofNat_of_zero_le (show 0≤how by omega)
  have hk1:1≤k:=by omega
  have hk7:k≤7:=by omega
  obtain ⟨sv,hsv⟩:=Int.eq_ofNat_of_zero_le (hsee x hm).1
  have hsv30:sv≤30:=by have:=(hsee x hm).2;omega
  have hbx:=hok x hm
  rcases hiF with h0 | ⟨ig,rfl,higs,hiC⟩
  ·omega
  obtain ⟨rao,rcap,hrv,_,hrC⟩:=rowForm (h.qrl x hm).1
  have k0:w.cell? ⟨ig,i*4,none⟩=some (.int .i64 x.root):=h.wkCell hiv hx (j:=0) (by omega)
  have k1:w.cell? ⟨ig,i*4+1,none⟩=some (.int .i64 (sv:Nat)):=by rw [← show x.see=((sv:Nat):Int) from hsv];exact h.wkCell hiv hx (j:=1) (by omega)
  have k2:w.cell? ⟨ig,i*4+2,none⟩=some (.slice rao x.rl.length rcap):=by rw [← hrv];exact h.wkCell hiv hx (j:=2) (by omega)
  have k3:w.cell? ⟨ig,i*4+3,none⟩=some (.int .i64 x.here):=h.wkCell hiv hx (j:=3) (by omega)
  have HX:Hid (r.ql[i]?=some x):=hx
  have HIV:Hid (r.qv=.slice (some ⟨ig,0,none⟩) r.ql.length icap):=hiv
  have HWR:Hid (Wr w r s K x.root x.here sv rao rcap x.rl (vf x)):=⟨h,hwf,hK,hp,hlo,hkn,hbx.1,hbx.2.1,hbx.2.2.1,hbx.2.2.2,hsv30,by rw [← hrv];exact (h.qrl x hm).1,(h.qrl x hm).2,by have:=hvf x hm;rw [show x.see=((sv:Nat):Int) from hsv] at this;exact this⟩
  have hbA:Below w.heap.size w (w.alloc (.cells #[.int .i64 x.root,.int .i64 (sv:Nat),.slice rao x.rl.length rcap,.int .i64 x.here] 210)):=(Below.refl _ _).alloc (Nat.le_refl _) _
  have HWA:Hid (Wr (w.alloc (.cells #[.int .i64 x.root,.int .i64 (sv:Nat),.slice rao x.rl.length rcap,.int .i64 x.here] 210)) r s K x.root x.here sv rao rcap x.rl (vf x)):=HWR.out.since hbA
  have HBA:Hid (Below w.heap.size w (w.alloc (.cells #[.int .i64 x.root,.int .i64 (sv:Nat),.slice rao x.rl.length rcap,.int .i64 x.here] 210))):=hbA
  have hb0:=box4 (Below.refl (w.alloc (.cells #[.int .i64 x.root,.int .i64 (sv:Nat),.slice rao x.rl.length rcap,.int .i64 x.here] 210)).heap.size _)
  have o0:=hb0.1
  have o1:=hb0.2.1
  have o2:=hb0.2.2.1
  have o3:=hb0.2.2.2.1
  have f1:decide ((k:Int)<1)=false:=by simp;omega
  have f7:decide (7<(k:Int))=false:=by simp;omega
  have HEND:Hid (∀ (a:Nat) (w2:World),Below (w.alloc (.cells #[.int .i64 x.root,.int .i64 (sv:Nat),.slice rao x.rl.length rcap,.int .i64 x.here] 210)).heap.size (w.alloc (.cells #[.int .i64 x.root,.int .i64 (sv:Nat),.slice rao x.rl.length rcap,.int .i64 x.here] 210)) w2→RefOK w2 r∧Below w.heap.size w w2):=fun a w2 hb=>by
   have hb2:Below w.heap.size w w2:=HBA.out.trans (hb.mono HBA.out.size)
   exact ⟨HH.out.since hb2,hb2⟩
  clear h hwf hK hp hlo hkn hok hsee hvf hbx hsv hrv hrC hx hiv hiC hm hbA hb0 hh
  have hkk:k=1∨k=2∨k=3∨k=4∨k=5∨k=6∨k=7:=by omega
  rcases hkk with rfl | rfl | rfl | rfl | rfl | rfl | rfl
  ·have HC:Hid (Calls Tryz.prog 158 #[.pointer (some ⟨r.rb,0,none⟩),.agg #[.int .i64 x.root,.int .i64 (sv:Nat),.slice rao x.rl.length rcap,.int .i64 x.here]] (w.alloc (.cells #[.int .i64 x.root,.int .i64 (sv:Nat),.slice rao x.rl.length rcap,.int .i64 x.here] 210)) (Found (w.alloc (.cells #[.int .i64 x.root,.int .i64 (sv:Nat),.slice rao x.rl.length rcap,.int .i64 x.here] 210)) r.N (fun a=>MoveTo r.N s (vf x) x.root x.here 1 a))):=by
    refine (HWA.out.up).mono ?_
    rintro e w' ⟨a,rfl,haN,ha,hb⟩
    exact ⟨a,rfl,haN,.inl ⟨rfl,ha⟩,hb⟩
   go_enter Tryz.func113, Tryz.ntmps113
   go_wp2_with fail
   refine Calls.mono HC.out ?_
   rintro e w2 ⟨a,rfl,haN,ha,hb⟩
   have hE:=HEND.out a w2 hb
   have HM:Hid (MoveTo r.N s (vf x) x.root x.here 1 a):=ha
   have HB2:Hid (Below w.heap.size w w2):=hE.2
   have HR2:Hid (RefOK w2 r):=hE.1
   clear ha hb hE
   by_cases ha0:a=0
   ·have a0':((a:Int) != 0)=false:=by simp [ha0]
    have HP:Hid (RPost w w2 r (r.moved i x a)):=by unfold Rx.moved;rw [if_pos ha0];exact RPost.of_below HH.out HB2.out
    clear ha0
    go_wp2_with fail
    go_ret2
    exact .inr (.inr ⟨i,1,a,x,rfl,rfl,by omega,by omega,HX.out,rfl,HM.out,HP.out⟩)
   ·have a0':((a:Int) != 0)=true:=by simp;omega
    have HP:Hid (RPost w (w2.setCell ⟨ig,i*4+3,none⟩ (.int .i64 a)) r (r.moved i x a)):=by unfold Rx.moved;rw [if_neg ha0];exact went_end HR2.out HB2.out HIV.out HX.out
    have c32:w2.cell? ⟨r.rb,3,none⟩=some (.slice (some ⟨ig,0,none⟩) r.ql.length icap):=by rw [← HIV.out];exact HR2.out.c3
    have k32:w2.cell? ⟨ig,i*4+3,none⟩=some (.int .i64 x.here):=HR2.out.wkCell HIV.out HX.out (j:=3) (by omega)
    have fz2:∀ j,w2.frozen? ⟨ig,j,none⟩=false:=HR2.out.wkFree HIV.out
    clear ha0
    go_wp2_with fail
    go_ret2
    exact .inr (.inr ⟨i,1,a,x,rfl,rfl,by omega,by omega,HX.out,rfl,HM.out,HP.out⟩)
  ·have HC:Hid (Calls Tryz.prog 159 #[.pointer (some ⟨r.rb,0,none⟩),.agg #[.int .i64 x.root,.int .i64 (sv:Nat),.slice rao x.rl.length rcap,.int .i64 x.here],.int .i64 1] (w.alloc (.cells #[.int .i64 x.root,.int .i64 (sv:Nat),.slice rao x.rl.length rcap,.int .i64 x.here] 210)) (Found (w.alloc (.cells #[.int .i64 x.root,.int .i64 (sv:Nat),.slice rao x.rl.length rcap,.int .i64 x.here] 210)) r.N (fun a=>MoveTo r.N s (vf x) x.root x.here 2 a))):=by
    refine (HWA.out.under false).mono ?_
    rintro e w' ⟨a,rfl,haN,ha,hb⟩
    exact ⟨a,rfl,haN,.inr (.inl ⟨rfl,ha⟩),hb⟩
   go_enter Tryz.func113, Tryz.ntmps113
   go_wp2_with fail
   refine Calls.mono HC.out ?_
   rintro e w2 ⟨a,rfl,haN,ha,hb⟩
   have hE:=HEND.out a w2 hb
   have HM:Hid (MoveTo r.N s (vf x) x.root x.here 2 a):=ha
   have HB2:Hid (Below w.heap.size w w2):=hE.2
   have HR2:Hid (RefOK w2 r):=hE.1
   clear ha hb hE
   by_cases ha0:a=0
   ·have a0':((a:Int) != 0)=false:=by simp [ha0]
    have HP:Hid (RPost w w2 r (r.moved i x a)):=by unfold Rx.moved;rw [if_pos ha0];exact RPost.of_below HH.out HB2.out
    clear ha0
    go_wp2_with fail
    go_ret2
    exact .inr (.inr ⟨i,2,a,x,rfl,rfl,by omega,by omega,HX.out,rfl,HM.out,HP.out⟩)
   ·have a0':((a:Int) != 0)=true:=by simp;omega
    have HP:Hid (RPost w (w2.setCell ⟨ig,i*4+3,none⟩ (.int .i64 a)) r (r.moved i x a)):=by unfold Rx.moved;rw [if_neg ha0];exact went_end HR2.out HB2.out HIV.out HX.out
    have c32:w2.cell? ⟨r.rb,3,none⟩=some (.slice (some ⟨ig,0,none⟩) r.ql.length icap):=by rw [← HIV.out];exact HR2.out.c3
    have k32:w2.cell? ⟨ig,i*4+3,none⟩=some (.int .i64 x.here):=HR2.out.wkCell HIV.out HX.out (j:=3) (by omega)
    have fz2:∀ j,w2.frozen? ⟨ig,j,none⟩=false:=HR2.out.wkFree HIV.out
    clear ha0
    go_wp2_with fail
    go_ret2
    exact .inr (.inr ⟨i,2,a,x,rfl,rfl,by omega,by omega,HX.out,rfl,HM.out,HP.out⟩)
  ·have HC:Hid (Calls Tryz.prog 159 #[.pointer (some ⟨r.rb,0,none⟩),.agg #[.int .i64 x.root,.int .i64 (sv:Nat),.slice rao x.rl.length rcap,.int .i64 x.here],.int .i64 (-1)] (w.alloc (.cells #[.int .i64 x.root,.int .i64 (sv:Nat),.slice rao x.rl.length rcap,.int .i64 x.here] 210)) (Found (w.alloc (.cells #[.int .i64 x.root,.int .i64 (sv:Nat),.slice rao x.rl.length rcap,.int .i64 x.here] 210)) r.N (fun a=>MoveTo r.N s (vf x) x.root x.here 3 a))):=by
    refine (HWA.out.under true).mono ?_
    rintro e w' ⟨a,rfl,haN,ha,hb⟩
    exact ⟨a,rfl,haN,.inr (.inr (.inl ⟨rfl,ha⟩)),hb⟩
   go_enter Tryz.func113, Tryz.ntmps113
   go_wp2_with fail
   refine Calls.mono HC.out ?_
   rintro e w2 ⟨a,rfl,haN,ha,hb⟩
   have hE:=HEND.out a w2 hb
   have HM:Hid (MoveTo r.N s (vf x) x.root x.here 3 a):=ha
   have HB2:Hid (Below w.heap.size w w2):=hE.2
   have HR2:Hid (RefOK w2 r):=hE.1
   clear ha hb hE
   by_cases ha0:a=0
   ·have a0':((a:Int) != 0)=false:=by simp [ha0]
    have HP:Hid (RPost w w2 r (r.moved i x a)):=by unfold Rx.moved;rw [if_pos ha0];exact RPost.of_below HH.out HB2.out
    clear ha0
    go_wp2_with fail
    go_ret2
    exact .inr (.inr ⟨i,3,a,x,rfl,rfl,by omega,by omega,HX.out,rfl,HM.out,HP.out⟩)
   ·have a0':((a:Int) != 0)=true:=by simp;omega
    have HP:Hid (RPost w (w2.setCell ⟨ig,i*4+3,none⟩ (.int .i64 a)) r (r.moved i x a)):=by unfold Rx.moved;rw [if_neg ha0];exact went_end HR2.out HB2.out HIV.out HX.out
    have c32:w2.cell? ⟨r.rb,3,none⟩=some (.slice (some ⟨ig,0,none⟩) r.ql.length icap):=by rw [← HIV.out];exact HR2.out.c3
    have k32:w2.cell? ⟨ig,i*4+3,none⟩=some (.int .i64 x.here):=HR2.out.wkCell HIV.out HX.out (j:=3) (by omega)
    have fz2:∀ j,w2.frozen? ⟨ig,j,none⟩=false:=HR2.out.wkFree HIV.out
    clear ha0
    go_wp2_with fail
    go_ret2
    exact .inr (.inr ⟨i,3,a,x,rfl,rfl,by omega,by omega,HX.out,rfl,HM.out,HP.out⟩)
  ·have HC:Hid (Calls Tryz.prog 160 #[.pointer (some ⟨r.rb,0,none⟩),.agg #[.int .i64 x.root,.int .i64 (sv:Nat),.slice rao x.rl.length rcap,.int .i64 x.here],.int .i64 (-1)] (w.alloc (.cells #[.int .i64 x.root,.int .i64 (sv:Nat),.slice rao x.rl.length rcap,.int .i64 x.here] 210)) (Found (w.alloc (.cells #[.int .i64 x.root,.int .i64 (sv:Nat),.slice rao x.rl.length rcap,.int .i64 x.here] 210)) r.N (fun a=>MoveTo r.N s (vf x) x.root x.here 4 a))):=by
    refine (HWA.out.side true).mono ?_
    rintro e w' ⟨a,rfl,haN,ha,hb⟩
    exact ⟨a,rfl,haN,.inr (.inr (.inr (.inl ⟨rfl,ha⟩))),hb⟩
   go_enter Tryz.func113, Tryz.ntmps113
   go_wp2_with fail
   refine Calls.mono HC.out ?_
   rintro e w2 ⟨a,rfl,haN,ha,hb⟩
   have hE:=HEND.out a w2 hb
   have HM:Hid (MoveTo r.N s (vf x) x.root x.here 4 a):=ha
   have HB2:Hid (Below w.heap.size w w2):=hE.2
   have HR2:Hid (RefOK w2 r):=hE.1
   clear ha hb hE
   by_cases ha0:a=0
   ·have a0':((a:Int) != 0)=false:=by simp [ha0]
    have HP:Hid (RPost w w2 r (r.moved i x a)):=by unfold Rx.moved;rw [if_pos ha0];exact RPost.of_below HH.out HB2.out
    clear ha0
    go_wp2_with fail
    go_ret2
    exact .inr (.inr ⟨i,4,a,x,rfl,rfl,by omega,by omega,HX.out,rfl,HM.out,HP.out⟩)
   ·have a0':((a:Int) != 0)=true:=by simp;omega
    have HP:Hid (RPost w (w2.setCell ⟨ig,i*4+3,none⟩ (.int .i64 a)) r (r.moved i x a)):=by unfold Rx.moved;rw [if_neg ha0];exact went_end HR2.out HB2.out HIV.out HX.out
    have c32:w2.cell? ⟨r.rb,3,none⟩=some (.slice (some ⟨ig,0,none⟩) r.ql.length icap):=by rw [← HIV.out];exact HR2.out.c3
    have k32:w2.cell? ⟨ig,i*4+3,none⟩=some (.int .i64 x.here):=HR2.out.wkCell HIV.out HX.out (j:=3) (by omega)
    have fz2:∀ j,w2.frozen? ⟨ig,j,none⟩=false:=HR2.out.wkFree HIV.out
    clear ha0
    go_wp2_with fail
    go_ret2
    exact .inr (.inr ⟨i,4,a,x,rfl,rfl,by omega,by omega,HX.out,rfl,HM.out,HP.out⟩)
  ·have HC:Hid (Calls Tryz.prog 160 #[.pointer (some ⟨r.rb,0,none⟩),.agg #[.int .i64 x.root,.int .i64 (sv:Nat),.slice rao x.rl.length rcap,.int .i64 x.here],.int .i64 1] (w.alloc (.cells #[.int .i64 x.root,.int .i64 (sv:Nat),.slice rao x.rl.length rcap,.int .i64 x.here] 210)) (Found (w.alloc (.cells #[.int .i64 x.root,.int .i64 (sv:Nat),.slice rao x.rl.length rcap,.int .i64 x.here] 210)) r.N (fun a=>MoveTo r.N s (vf x) x.root x.here 5 a))):=by
    refine (HWA.out.side false).mono ?_
    rintro e w' ⟨a,rfl,haN,ha,hb⟩
    exact ⟨a,rfl,haN,.inr (.inr (.inr (.inr (.inl ⟨rfl,ha⟩)))),hb⟩
   go_enter Tryz.func113, Tryz.ntmps113
   go_wp2_with fail
   refine Calls.mono HC.out ?_
   rintro e w2 ⟨a,rfl,haN,ha,hb⟩
   have hE:=HEND.out a w2 hb
   have HM:Hid (MoveTo r.N s (vf x) x.root x.here 5 a):=ha
   have HB2:Hid (Below w.heap.size w w2):=hE.2
   have HR2:Hid (RefOK w2 r):=hE.1
   clear ha hb hE
   by_cases ha0:a=0
   ·have a0':((a:Int) != 0)=false:=by simp [ha0]
    have HP:Hid (RPost w w2 r (r.moved i x a)):=by unfold Rx.moved;rw [if_pos ha0];exact RPost.of_below HH.out HB2.out
    clear ha0
    go_wp2_with fail
    go_ret2
    exact .inr (.inr ⟨i,5,a,x,rfl,rfl,by omega,by omega,HX.out,rfl,HM.out,HP.out⟩)
   ·have a0':((a:Int) != 0)=true:=by simp;omega
    have HP:Hid (RPost w (w2.setCell ⟨ig,i*4+3,none⟩ (.int .i64 a)) r (r.moved i x a)):=by unfold Rx.moved;rw [if_neg ha0];exact went_end HR2.out HB2.out HIV.out HX.out
    have c32:w2.cell? ⟨r.rb,3,none⟩=some (.slice (some ⟨ig,0,none⟩) r.ql.length icap):=by rw [← HIV.out];exact HR2.out.c3
    have k32:w2.cell? ⟨ig,i*4+3,none⟩=some (.int .i64 x.here):=HR2.out.wkCell HIV.out HX.out (j:=3) (by omega)
    have fz2:∀ j,w2.frozen? ⟨ig,j,none⟩=false:=HR2.out.wkFree HIV.out
    clear ha0
    go_wp2_with fail
    go_ret2
    exact .inr (.inr ⟨i,5,a,x,rfl,rfl,by omega,by omega,HX.out,rfl,HM.out,HP.out⟩)
  ·have HC:Hid (Calls Tryz.prog 161 #[.pointer (some ⟨r.rb,0,none⟩),.agg #[.int .i64 x.root,.int .i64 (sv:Nat),.slice rao x.rl.length rcap,.int .i64 x.here]] (w.alloc (.cells #[.int .i64 x.root,.int .i64 (sv:Nat),.slice rao x.rl.length rcap,.int .i64 x.here] 210)) (Found (w.alloc (.cells #[.int .i64 x.root,.int .i64 (sv:Nat),.slice rao x.rl.length rcap,.int .i64 x.here] 210)) r.N (fun a=>MoveTo r.N s (vf x) x.root x.here 6 a))):=by
    refine (HWA.out.back).mono ?_
    rintro e w' ⟨a,rfl,haN,ha,hb⟩
    exact ⟨a,rfl,haN,.inr (.inr (.inr (.inr (.inr (.inl ⟨rfl,ha⟩))))),hb⟩
   go_enter Tryz.func113, Tryz.ntmps113
   go_wp2_with fail
   refine Calls.mono HC.out ?_
   rintro e w2 ⟨a,rfl,haN,ha,hb⟩
   have hE:=HEND.out a w2 hb
   have HM:Hid (MoveTo r.N s (vf x) x.root x.here 6 a):=ha
   have HB2:Hid (Below w.heap.size w w2):=hE.2
   have HR2:Hid (RefOK w2 r):=hE.1
   clear ha hb hE
   by_cases ha0:a=0
   ·have a0':((a:Int) != 0)=false:=by simp [ha0]
    have HP:Hid (RPost w w2 r (r.moved i x a)):=by unfold Rx.moved;rw [if_pos ha0];exact RPost.of_below HH.out HB2.out
    clear ha0
    go_wp2_with fail
    go_ret2
    exact .inr (.inr ⟨i,6,a,x,rfl,rfl,by omega,by omega,HX.out,rfl,HM.out,HP.out⟩)
   ·have a0':((a:Int) != 0)=true:=by simp;omega
    have HP:Hid (RPost w (w2.setCell ⟨ig,i*4+3,none⟩ (.int .i64 a)) r (r.moved i x a)):=by unfold Rx.moved;rw [if_neg ha0];exact went_end HR2.out HB2.out HIV.out HX.out
    have c32:w2.cell? ⟨r.rb,3,none⟩=some (.slice (some ⟨ig,0,none⟩) r.ql.length icap):=by rw [← HIV.out];exact HR2.out.c3
    have k32:w2.cell? ⟨ig,i*4+3,none⟩=some (.int .i64 x.here):=HR2.out.wkCell HIV.out HX.out (j:=3) (by omega)
    have fz2:∀ j,w2.frozen? ⟨ig,j,none⟩=false:=HR2.out.wkFree HIV.out
    clear ha0
    go_wp2_with fail
    go_ret2
    exact .inr (.inr ⟨i,6,a,x,rfl,rfl,by omega,by omega,HX.out,rfl,HM.out,HP.out⟩)
  ·have HC:Hid (Calls Tryz.prog 162 #[.pointer (some ⟨r.rb,0,none⟩),.agg #[.int .i64 x.root,.int .i64 (sv:Nat),.slice rao x.rl.length rcap,.int .i64 x.here]] (w.alloc (.cells #[.int .i64 x.root,.int .i64 (sv:Nat),.slice rao x.rl.length rcap,.int .i64 x.here] 210)) (Found (w.alloc (.cells #[.int .i64 x.root,.int .i64 (sv:Nat),.slice rao x.rl.length rcap,.int .i64 x.here] 210)) r.N (fun a=>MoveTo r.N s (vf x) x.root x.here 7 a))):=by
    refine (HWA.out.on).mono ?_
    rintro e w' ⟨a,rfl,haN,ha,hb⟩
    exact ⟨a,rfl,haN,.inr (.inr (.inr (.inr (.inr (.inr ⟨rfl,ha⟩))))),hb⟩
   go_enter Tryz.func113, Tryz.ntmps113
   go_wp2_with fail
   refine Calls.mono HC.out ?_
   rintro e w2 ⟨a,rfl,haN,ha,hb⟩
   have hE:=HEND.out a w2 hb
   have HM:Hid (MoveTo r.N s (vf x) x.root x.here 7 a):=ha
   have HB2:Hid (Below w.heap.size w w2):=hE.2
   have HR2:Hid (RefOK w2 r):=hE.1
   clear ha hb hE
   by_cases ha0:a=0
   ·have a0':((a:Int) != 0)=false:=by simp [ha0]
    have HP:Hid (RPost w w2 r (r.moved i x a)):=by unfold Rx.moved;rw [if_pos ha0];exact RPost.of_below HH.out HB2.out
    clear ha0
    go_wp2_with fail
    go_ret2
    exact .inr (.inr ⟨i,7,a,x,rfl,rfl,by omega,by omega,HX.out,rfl,HM.out,HP.out⟩)
   ·have a0':((a:Int) != 0)=true:=by simp;omega
    have HP:Hid (RPost w (w2.setCell ⟨ig,i*4+3,none⟩ (.int .i64 a)) r (r.moved i x a)):=by unfold Rx.moved;rw [if_neg ha0];exact went_end HR2.out HB2.out HIV.out HX.out
    have c32:w2.cell? ⟨r.rb,3,none⟩=some (.slice (some ⟨ig,0,none⟩) r.ql.length icap):=by rw [← HIV.out];exact HR2.out.c3
    have k32:w2.cell? ⟨ig,i*4+3,none⟩=some (.int .i64 x.here):=HR2.out.wkCell HIV.out HX.out (j:=3) (by omega)
    have fz2:∀ j,w2.frozen? ⟨ig,j,none⟩=false:=HR2.out.wkFree HIV.out
    clear ha0
    go_wp2_with fail
    go_ret2
    exact .inr (.inr ⟨i,7,a,x,rfl,rfl,by omega,by omega,HX.out,rfl,HM.out,HP.out⟩)
end
end Go.Proofs.YtcedebpoihcbdaaGreatDoor
