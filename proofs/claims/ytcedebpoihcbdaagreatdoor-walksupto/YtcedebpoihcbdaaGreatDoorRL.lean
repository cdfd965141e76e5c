/-
  The document's own answer: a walker's moves to the side.
  The document's own answer: a walker's move back.
  The document's own answer: a walker's move on.
-/
import Derived.Test.YtcedebpoihcbdaaGreatDoorRK
set_option linter.unusedVariables false
set_option maxHeartbeats 4000000
set_option maxRecDepth 100000
namespace Go.Proofs.YtcedebpoihcbdaaGreatDoor
open Go.RowKit Go.Shelf Gv
section
variable {w w' W:World} {r:Rx} {s:Fo} {K:Nat→List Nat} {root here sv:Nat} {ra:Option Addr} {rc:Nat} {rl:List Rule} {vf:Nat→Int}
theorem Wr.side (h:Wr w r s K root here sv ra rc rl vf) (back:Bool) :
  Calls Tryz.prog 160 #[.pointer (some ⟨r.rb,0,none⟩),.agg #[.int .i64 root,.int .i64 sv,.slice ra rl.length rc,.int .i64 here],.int .i64 (sideOf back)] w (Found w r.N (SibGoal s (vf) root here back)):=by
 have HX:Hid (Wr w r s K root here sv ra rc rl vf):=h
 have hN:=h.hN
 have h1:=h.h1
 have hr3:=h.ok.hN
 obtain ⟨L,hLe⟩:∃ L,L=r.N+1:=⟨_,rfl⟩
 have HLe:Hid (L=r.N+1):=hLe
 have hL3:L≤301:=by omega
 have hb0:=box4 (Below.refl (w.alloc (.cells #[.int .i64 root,.int .i64 sv,.slice ra rl.length rc,.int .i64 here] 210)).heap.size _)
 have o3:=hb0.2.2.2.1
 obtain ⟨sd,hsd⟩:∃ sd,sideOf back=sd:=⟨_,rfl⟩
 have HSD:Hid (sideOf back=sd):=hsd
 rw [hsd]
 clear h hLe hb0 hsd
 go_enter Tryz.func160, Tryz.ntmps160
 go_wp2_with fail
 clear o3
 go_loopg [7] (done r.N s K back here) (fun m n wr=>∃ x:Nat,n=.int .i64 x∧1≤x∧x≤r.N∧m=done r.N s K back x∧Hid (x=root→SibGoal s (vf) root here back 0)∧Hid (x≠root→∀ a,EvSib s (vf) root back x (besD s x back) a→SibGoal s (vf) root here back a)∧Hid (Below (w.alloc (.cells #[.int .i64 root,.int .i64 sv,.slice ra rl.length rc,.int .i64 here] 210)).heap.size (w.alloc (.cells #[.int .i64 root,.int .i64 sv,.slice ra rl.length rc,.int .i64 here] 210)) wr))
 case atStart=>exact ⟨here,rfl,h1,hN,rfl,fun e=>.inl ⟨e,rfl⟩,fun e a ha=>.inr ⟨e,ha⟩,Below.refl _ _⟩
 case round =>
  obtain ⟨x,rfl,hx1,hxN,hm,HZ,HE,HB0⟩:=hrel
  obtain ⟨o0,_,_,_,hbw⟩:=box4 HB0.out
  have HB:Hid (Below w.heap.size w wr):=hbw
  have HX1:Hid (Wr wr r s K root here sv ra rc rl vf):=HX.out.since hbw
  clear hbw
  by_cases er:x=root
  ·have er':((x:Int) != (root:Int))=false:=by simp [er]
   have HZ0:Hid (SibGoal s (vf) root here back 0):=HZ.out er
   clear er HZ HE
   go_wp2_with fail
   go_ret
   exact ⟨0,rfl,Nat.zero_le _,HZ0.out,HB.out⟩
  ·have er':((x:Int) != (root:Int))=true:=by simp;omega
   have HG:Hid (∀ a,EvSib s (vf) root back x (besD s x back) a→SibGoal s (vf) root here back a):=HE.out er
   have hbx:=bes_ok HX.out.wf HX.out.lo back hx1 hxN
   clear er HE HZ
   go_wp2_with fail
   refine Calls.mono (by rw [← HSD.out];exact HX1.out.bes x hx1 hxN back) ?_
   rintro e wr' ⟨rfl,hwr'⟩
   subst hwr'
   clear o0
   go_wp2_with fail
   go_loopg [7,8] (look r.N s K back (besD s x back)) (fun m n s2 wr=>∃ y t:Nat,n=.int .i64 y∧s2=.int .i64 t∧1≤y∧y≤r.N∧t≤r.N∧m=look r.N s K back t∧Hid (y=x∨lies r.N s K back y<lies r.N s K back x)∧look r.N s K back t≤lies r.N s K back x∧Hid (t=0→besD s y back=0)∧Hid (∀ a,EvSib s (vf) root back y t a→SibGoal s (vf) root here back a)∧Hid (Below (w.alloc (.cells #[.int .i64 root,.int .i64 sv,.slice ra rl.length rc,.int .i64 here] 210)).heap.size (w.alloc (.cells #[.int .i64 root,.int .i64 sv,.slice ra rl.length rc,.int .i64 here] 210)) wr))
   case atStart=>exact ⟨x,_,rfl,rfl,hx1,hxN,hbx.1,rfl,.inl rfl,hbx.2,fun e=>e,HG.out,HB0.out⟩
   case round =>
    clear hbx
    obtain ⟨y,t,rfl,rfl,hy1,hyN,htN,hm2,HXY,hlk,HT,HGy,HBi⟩:=hrel
    obtain ⟨o0,o1,o2,_,hbw⟩:=box4 HBi.out
    have HBw:Hid (Below w.heap.size w wr):=hbw
    have HX2:Hid (Wr wr r s K root here sv ra rc rl vf):=HX.out.since hbw
    have g0:wr.cell? ⟨r.rb,0,none⟩=some (.slice (some ⟨r.rn,0,none⟩) L r.cap):=by rw [HLe.out];exact HX2.out.ok.c0
    clear hbw
    by_cases ht0:t=0
    ·have ht0':((t:Int) != 0)=false:=by simp [ht0]
     have hup:=done_up HX.out.wf hx1 hxN hy1 hyN HXY.out (HT.out ht0)
     have hpN:=HX.out.wf.parLe y hyN
     have n3:=HX2.out.par hyN
     have hyL:(y:Int)<(L:Int):=by have:=HLe.out;omega
     obtain ⟨p,hpe⟩:∃ p,s.par y=p:=⟨_,rfl⟩
     have HP:Hid (s.par y=p):=hpe
     have HT0:Hid (t=0):=ht0
     rw [hpe] at hpN hup n3
     clear hpe ht0
     by_cases hst:p=0∨p=root
     ·have HZ0:Hid (SibGoal s (vf) root here back 0):=HGy.out 0 (.stop HT0.out (by rw [HP.out];rcases hst with e | e;exact .inl e;exact .inr (.inl e)))
      by_cases e0:p=0
      ·have e0':((p:Int) == 0)=true:=by simp [e0]
       clear hst e0
       go_wp2_with fail
       go_ret
       exact ⟨0,rfl,Nat.zero_le _,HZ0.out,HBw.out⟩
      ·have e0':((p:Int) == 0)=false:=by simp;omega
       have e1':((p:Int) == (root:Int))=true:=by simp;omega
       clear hst e0
       go_wp2_with fail
       go_ret
       exact ⟨0,rfl,Nat.zero_le _,HZ0.out,HBw.out⟩
     ·have e0':((p:Int) == 0)=false:=by simp;omega
      have e1':((p:Int) == (root:Int))=false:=by simp;omega
      have hp1:1≤p:=by omega
      have HST:Hid (p≠0∧p≠root):=⟨fun e=>hst (.inl e),fun e=>hst (.inr e)⟩
      clear hst
      go_wp2_with fail
      refine (HX2.out.of p hp1 hpN).mono ?_
      rintro e w2 ⟨rfl,hb2⟩
      have HB2:Hid (Below w.heap.size w w2):=HBw.out.trans (hb2.mono HBw.out.size)
      have HB3:Hid (Below (w.alloc (.cells #[.int .i64 root,.int .i64 sv,.slice ra rl.length rc,.int .i64 here] 210)).heap.size (w.alloc (.cells #[.int .i64 root,.int .i64 sv,.slice ra rl.length rc,.int .i64 here] 210)) w2):=HBi.out.trans (hb2.mono HBi.out.size)
      clear hb2 o0 o1 o2 g0 n3
      obtain ⟨v,hve⟩:∃ v,vf p=v:=⟨_,rfl⟩
      have HV:Hid (vf p=v):=hve
      rw [hve]
      clear hve
      by_cases v1:v=1
      ·have v1':(v == 1)=true:=by simpa using v1
       have HZ0:Hid (SibGoal s (vf) root here back 0):=HGy.out 0 (.stop HT0.out (.inr (.inr (by rw [HP.out,HV.out];exact v1))))
       clear v1
       go_wp2_with fail
       go_ret
       exact ⟨0,rfl,Nat.zero_le _,HZ0.out,HB2.out⟩
      ·have v1':(v == 1)=false:=by simpa using v1
       have HUP:Hid (∀ a,EvSib s (vf) root back p (besD s p back) a→SibGoal s (vf) root here back a):=fun a ha=>HGy.out a (.up HT0.out (by rw [HP.out];rintro (e | e | e);exact HST.out.1 e;exact HST.out.2 e;exact v1 (by rw [HV.out] at e;exact e)) (by rw [HP.out];exact ha))
       clear v1
       go_wp2_with fail
       go_roundg (done r.N s K back p)
       case measure=>omega
       case rel=>exact ⟨p,rfl,hp1,hpN,rfl,fun e=>absurd e HST.out.2,fun _=>HUP.out,HB3.out⟩
    ·have ht0':((t:Int) != 0)=true:=by simp;omega
     have ht1:1≤t:=by omega
     have HT0:Hid (t≠0):=ht0
     clear ht0
     go_wp2_with fail
     refine (HX2.out.of t ht1 htN).mono ?_
     rintro e w1 ⟨rfl,hb⟩
     have HB1:Hid (Below w.heap.size w w1):=HBw.out.trans (hb.mono HBw.out.size)
     have HX3:Hid (Wr w1 r s K root here sv ra rc rl vf):=HX.out.since HB1.out
     have HB3:Hid (Below (w.alloc (.cells #[.int .i64 root,.int .i64 sv,.slice ra rl.length rc,.int .i64 here] 210)).heap.size (w.alloc (.cells #[.int .i64 root,.int .i64 sv,.slice ra rl.length rc,.int .i64 here] 210)) w1):=HBi.out.trans (hb.mono HBi.out.size)
     clear hb o0 o1 o2 g0
     obtain ⟨v,hve⟩:∃ v,vf t=v:=⟨_,rfl⟩
     have HV:Hid (vf t=v):=hve
     rw [hve]
     clear hve
     by_cases v1:v=1
     ·have v1':(v == 1)=true:=by simpa using v1
      have HZ0:Hid (SibGoal s (vf) root here back t):=HGy.out t (.hit HT0.out (by rw [HV.out];exact v1))
      clear v1
      go_wp2_with fail
      go_ret
      exact ⟨t,rfl,htN,HZ0.out,HB1.out⟩
     ·have v1':(v == 1)=false:=by simpa using v1
      have hin:=inst_ok HX.out.wf HX.out.lo back v ht1 htN
      have HLT:Hid (lies r.N s K back t<lies r.N s K back x):=by
       have e:look r.N s K back t=sz r.N K t+lies r.N s K back t:=by unfold look;rw [if_neg HT0.out]
       have:=sz_pos (N:=r.N) (K:=K) t
       show _<_
       omega
      have HGt:Hid (∀ a,EvSib s (vf) root back t (instF s v t back) a→SibGoal s (vf) root here back a):=by
       intro a ha
       unfold instF at ha
       by_cases hc:v=3∧kidD s t back≠0
       ·rw [if_pos hc] at ha
        exact HGy.out a (.kid HT0.out (by rw [HV.out];exact hc.1) hc.2 ha)
       ·rw [if_neg hc] at ha
        exact HGy.out a (.bes HT0.out (by rw [HV.out];exact v1) (by rw [HV.out];exact hc) ha)
      have HINE:Hid (instF s v t back=if v=3∧kidD s t back≠0 then kidD s t back else besD s t back):=rfl
      obtain ⟨nx,hnx⟩:∃ nx,instF s v t back=nx:=⟨_,rfl⟩
      rw [hnx] at hin HGt HINE
      have hin1:=hin.1
      have hin2:=hin.2.1
      have HIN:Hid (nx=0→besD s t back=0):=hin.2.2
      clear v1 hin hnx
      by_cases v3:v=3
      ·have v3':(v == 3)=true:=by simpa using v3
       have HV3:Hid (v=3):=v3
       clear v3
       go_wp2_with fail
       refine Calls.mono (by rw [← HSD.out];exact HX3.out.kid t ht1 htN back) ?_
       rintro e w1' ⟨rfl,hw1'⟩
       subst hw1'
       obtain ⟨kd,hkd⟩:∃ kd,kidD s t back=kd:=⟨_,rfl⟩
       rw [hkd] at HINE ⊢
       clear hkd
       by_cases k0:kd=0
       ·have k0':((kd:Int) == 0)=true:=by simp [k0]
        have HNX:Hid (nx=besD s t back):=by show nx=_;rw [HINE.out,if_neg (fun e=>e.2 k0)]
        clear k0
        go_wp2_with fail
        refine Calls.mono (by rw [← HSD.out];exact HX3.out.bes t ht1 htN back) ?_
        rintro e w2' ⟨rfl,hw2'⟩
        subst hw2'
        rw [← HNX.out]
        go_wp2_with fail
        go_roundg (look r.N s K back nx)
        case measure=>omega
        case rel=>exact ⟨t,_,rfl,rfl,ht1,htN,hin1,rfl,.inr HLT.out,by omega,HIN.out,HGt.out,HB3.out⟩
       ·have k0':((kd:Int) == 0)=false:=by simp;omega
        have HNX:Hid (nx=kd):=by show nx=_;rw [HINE.out,if_pos ⟨HV3.out,k0⟩]
        clear k0
        rw [← HNX.out] at k0' ⊢
        go_wp2_with fail
        go_roundg (look r.N s K back nx)
        case measure=>omega
        case rel=>exact ⟨t,_,rfl,rfl,ht1,htN,hin1,rfl,.inr HLT.out,by omega,HIN.out,HGt.out,HB3.out⟩
      ·have v3':(v == 3)=false:=by simpa using v3
       have HNX:Hid (nx=besD s t back):=by show nx=_;rw [HINE.out,if_neg (fun e=>v3 e.1)]
       clear v3
       go_wp2_with fail
       refine Calls.mono (by rw [← HSD.out];exact HX3.out.bes t ht1 htN back) ?_
       rintro e w2' ⟨rfl,hw2'⟩
       subst hw2'
       rw [← HNX.out]
       go_wp2_with fail
       go_roundg (look r.N s K back nx)
       case measure=>omega
       case rel=>exact ⟨t,_,rfl,rfl,ht1,htN,hin1,rfl,.inr HLT.out,by omega,HIN.out,HGt.out,HB3.out⟩
end
open Go.RowKit Go.Shelf Gv
section
variable {w w' W:World} {r:Rx} {s:Fo} {K:Nat→List Nat} {root here sv:Nat} {ra:Option Addr} {rc:Nat} {rl:List Rule} {vf:Nat→Int}
theorem Wr.kidB (h:Wr w r s K root here sv ra rc rl vf) (n:Nat) (h1:1≤n) (hn:n≤r.N) :
  Calls Tryz.prog 179 #[.pointer (some ⟨r.rb,0,none⟩),.int .i64 n,.int .i64 (-1)] w fun e w'=>e=.returned (.int .i64 (kidD s n true:Nat))∧w'=w:=h.kid n h1 hn true
theorem Wr.kidF (h:Wr w r s K root here sv ra rc rl vf) (n:Nat) (h1:1≤n) (hn:n≤r.N) :
  Calls Tryz.prog 179 #[.pointer (some ⟨r.rb,0,none⟩),.int .i64 n,.int .i64 1] w fun e w'=>e=.returned (.int .i64 (kidD s n false:Nat))∧w'=w:=h.kid n h1 hn false
theorem Wr.besB (h:Wr w r s K root here sv ra rc rl vf) (n:Nat) (h1:1≤n) (hn:n≤r.N) :
  Calls Tryz.prog 180 #[.pointer (some ⟨r.rb,0,none⟩),.int .i64 n,.int .i64 (-1)] w fun e w'=>e=.returned (.int .i64 (besD s n true:Nat))∧w'=w:=h.bes n h1 hn true
theorem Wr.besF (h:Wr w r s K root here sv ra rc rl vf) (n:Nat) (h1:1≤n) (hn:n≤r.N) :
  Calls Tryz.prog 180 #[.pointer (some ⟨r.rb,0,none⟩),.int .i64 n,.int .i64 1] w fun e w'=>e=.returned (.int .i64 (besD s n false:Nat))∧w'=w:=h.bes n h1 hn false
def DeepOK (r:Rx) (s:Fo) (K:Nat→List Nat) (root here sv:Nat) (ra:Option Addr) (rc:Nat) (rl:List Rule) (vf:Nat→Int) (f:Nat):Prop:=∀ (w:World) (n:Nat),Wr w r s K root here sv ra rc rl vf→1≤n→n≤r.N→look r.N s K true n≤f →
 Calls Tryz.prog 181 #[.pointer (some ⟨r.rb,0,none⟩),.agg #[.int .i64 root,.int .i64 sv,.slice ra rl.length rc,.int .i64 here],.int .i64 n] w fun e w'=>∃ x:Nat,e=.returned (.int .i64 x)∧1≤x∧x≤r.N∧EvIn s (vf) n x∧look r.N s K true x≤look r.N s K true n∧Below w.heap.size w w'
theorem deepStep (f:Nat) (ih:∀ f',f=f'+1→DeepOK r s K root here sv ra rc rl vf f'):DeepOK r s K root here sv ra rc rl vf f:=by
 intro w n h h1 hn hf
 have HX:Hid (Wr w r s K root here sv ra rc rl vf):=h
 have HI:Hid (∀ f',f=f'+1→DeepOK r s K root here sv ra rc rl vf f'):=ih
 have hr3:=h.ok.hN
 have hb0:=box4 (Below.refl (w.alloc (.cells #[.int .i64 root,.int .i64 sv,.slice ra rl.length rc,.int .i64 here] 210)).heap.size _)
 have o1:=hb0.2.1
 have o2:=hb0.2.2.1
 have HX0:Hid (Wr (w.alloc (.cells #[.int .i64 root,.int .i64 sv,.slice ra rl.length rc,.int .i64 here] 210)) r s K root here sv ra rc rl vf):=h.since hb0.2.2.2.2
 clear h hb0 ih
 go_enter Tryz.func181, Tryz.ntmps181
 go_wp2_with fail
 refine (HX0.out.of n h1 hn).mono ?_
 rintro e w1 ⟨rfl,hb1⟩
 clear o1 o2
 obtain ⟨o0,o1,o2,o3,hbw⟩:=box4 hb1
 have HB1:Hid (Below w.heap.size w w1):=hbw
 have HX1:Hid (Wr w1 r s K root here sv ra rc rl vf):=HX.out.since hbw
 obtain ⟨v,hve⟩:∃ v,vf n=v:=⟨_,rfl⟩
 have HV:Hid (vf n=v):=hve
 rw [hve]
 clear hve hb1 hbw
 go_wp2_with fail
 refine (HX1.out.kidB n h1 hn).mono ?_
 rintro e w1' ⟨rfl,hw1'⟩
 subst hw1'
 have hkd:kidD s n true=s.lst n:=by simp [kidD]
 rw [hkd]
 by_cases hgo:v≠2∧s.lst n≠0
 ·have c2:(v != 2)=true:=by simpa using hgo.1
  have ck:(((s.lst n:Nat):Int) != 0)=true:=by have:=hgo.2;simp;omega
  have hf1:=kid_fact HX.out.wf h1 hn true (by rw [hkd];exact hgo.2)
  rw [hkd] at hf1
  have hk:=HX.out.wf.kid _ _ hf1.1
  have hl1:=hk.2.2.1
  have hlN:=hk.2.2.2.1
  have hlk:look r.N s K true (s.lst n)<look r.N s K true n:=by unfold look;rw [if_neg hgo.2,if_neg (show n≠0 by omega)];omega
  obtain ⟨f',rfl⟩:∃ f',f=f'+1:=⟨f-1,by omega⟩
  have HEV:Hid (∀ x,EvIn s (vf) (s.lst n) x→EvIn s (vf) n x):=fun x hx=>.go hgo.2 (by rw [HV.out];exact hgo.1) hx
  have HC:Hid (∀ w2,Wr w2 r s K root here sv ra rc rl vf→Calls Tryz.prog 181 #[.pointer (some ⟨r.rb,0,none⟩),.agg #[.int .i64 root,.int .i64 sv,.slice ra rl.length rc,.int .i64 here],.int .i64 (s.lst n:Nat)] w2 fun e w'=>∃ x:Nat,e=.returned (.int .i64 x)∧1≤x∧x≤r.N∧EvIn s (vf) (s.lst n) x∧look r.N s K true x≤look r.N s K true (s.lst n)∧Below w2.heap.size w2 w'):=fun w2 h2=>HI.out f' rfl w2 _ h2 hl1 hlN (by omega)
  clear hf1 hk hgo hkd
  go_wp2_with fail
  refine Calls.mono (HC.out _ HX1.out) ?_
  rintro e w2 ⟨x,rfl,hx1,hxN,hxE,hxl,hb2⟩
  have HB2:Hid (Below w.heap.size w w2):=HB1.out.trans (hb2.mono HB1.out.size)
  have HXE:Hid (EvIn s (vf) n x):=HEV.out x hxE
  clear hb2 hxE
  go_wp2_with fail
  go_ret
  exact ⟨x,rfl,hx1,hxN,HXE.out,by omega,HB2.out⟩
 ·have HEV:Hid (EvIn s (vf) n n):=.stop (by rw [HV.out];omega)
  by_cases v2:v=2
  ·have c2:(v != 2)=false:=by simpa using v2
   clear hgo v2 hkd
   go_wp2_with fail
   go_ret
   exact ⟨n,rfl,h1,hn,HEV.out,Nat.le_refl _,HB1.out⟩
  ·have c2:(v != 2)=true:=by simpa using v2
   have ck:(((s.lst n:Nat):Int) != 0)=false:=by simp;omega
   clear hgo v2 hkd
   go_wp2_with fail
   go_ret
   exact ⟨n,rfl,h1,hn,HEV.out,Nat.le_refl _,HB1.out⟩
theorem deepAll (f:Nat):DeepOK r s K root here sv ra rc rl vf f:=by
 induction f with
 | zero=>exact deepStep 0 (fun f' h=>by omega)
 | succ f ih=>exact deepStep (f+1) (fun f' h=>(show f=f' by omega) ▸ ih)
theorem Wr.back (h:Wr w r s K root here sv ra rc rl vf) :
  Calls Tryz.prog 161 #[.pointer (some ⟨r.rb,0,none⟩),.agg #[.int .i64 root,.int .i64 sv,.slice ra rl.length rc,.int .i64 here]] w (Found w r.N (BackGoal s (vf) root here)):=by
 have HX:Hid (Wr w r s K root here sv ra rc rl vf):=h
 have hN:=h.hN
 have h1:=h.h1
 have hr3:=h.ok.hN
 obtain ⟨L,hLe⟩:∃ L,L=r.N+1:=⟨_,rfl⟩
 have HLe:Hid (L=r.N+1):=hLe
 have hL3:L≤301:=by omega
 have hb0:=box4 (Below.refl (w.alloc (.cells #[.int .i64 root,.int .i64 sv,.slice ra rl.length rc,.int .i64 here] 210)).heap.size _)
 have o3:=hb0.2.2.2.1
 clear h hLe hb0
 go_enter Tryz.func161, Tryz.ntmps161
 go_wp2_with fail
 clear o3
 go_loopg [5] (done r.N s K true here) (fun m n wr=>∃ x:Nat,n=.int .i64 x∧1≤x∧x≤r.N∧m=done r.N s K true x∧Hid (x=root→BackGoal s (vf) root here 0)∧Hid (x≠root→∀ a,EvBack s (vf) root x a→BackGoal s (vf) root here a)∧Hid (Below (w.alloc (.cells #[.int .i64 root,.int .i64 sv,.slice ra rl.length rc,.int .i64 here] 210)).heap.size (w.alloc (.cells #[.int .i64 root,.int .i64 sv,.slice ra rl.length rc,.int .i64 here] 210)) wr))
 case atStart=>exact ⟨here,rfl,h1,hN,rfl,fun e=>.inl ⟨e,rfl⟩,fun e a ha=>.inr ⟨e,ha⟩,Below.refl _ _⟩
 case round =>
  obtain ⟨x,rfl,hx1,hxN,hm,HZ,HE,HB0⟩:=hrel
  obtain ⟨o0,_,_,_,hbw⟩:=box4 HB0.out
  have HB:Hid (Below w.heap.size w wr):=hbw
  have HX1:Hid (Wr wr r s K root here sv ra rc rl vf):=HX.out.since hbw
  clear hbw
  by_cases er:x=root
  ·have er':((x:Int) != (root:Int))=false:=by simp [er]
   have HZ0:Hid (BackGoal s (vf) root here 0):=HZ.out er
   clear er HZ HE
   go_wp2_with fail
   go_ret
   exact ⟨0,rfl,Nat.zero_le _,HZ0.out,HB.out⟩
  ·have er':((x:Int) != (root:Int))=true:=by simp;omega
   have HG:Hid (∀ a,EvBack s (vf) root x a→BackGoal s (vf) root here a):=HE.out er
   clear er HE HZ
   go_wp2_with fail
   refine (HX1.out.besB x hx1 hxN).mono ?_
   rintro e wr' ⟨rfl,hwr'⟩
   subst hwr'
   clear o0
   go_wp2_with fail
   go_loopg [5,6] (lies r.N s K true x) (fun m n s2 wr=>∃ y:Nat,n=.int .i64 y∧s2=.int .i64 (besD s y true:Nat)∧1≤y∧y≤r.N∧m=lies r.N s K true y∧Hid (y=x∨lies r.N s K true y<lies r.N s K true x)∧lies r.N s K true y≤lies r.N s K true x∧Hid (∀ a,EvBack s (vf) root y a→BackGoal s (vf) root here a)∧Hid (Below (w.alloc (.cells #[.int .i64 root,.int .i64 sv,.slice ra rl.length rc,.int .i64 here] 210)).heap.size (w.alloc (.cells #[.int .i64 root,.int .i64 sv,.slice ra rl.length rc,.int .i64 here] 210)) wr))
   case atStart=>exact ⟨x,rfl,rfl,hx1,hxN,rfl,.inl rfl,Nat.le_refl _,HG.out,HB0.out⟩
   case round =>
    obtain ⟨y,rfl,rfl,hy1,hyN,hm2,HXY,hly,HGy,HBi⟩:=hrel
    obtain ⟨o0,o1,o2,o3,hbw⟩:=box4 HBi.out
    have HBw:Hid (Below w.heap.size w wr):=hbw
    have HX2:Hid (Wr wr r s K root here sv ra rc rl vf):=HX.out.since hbw
    have g0:wr.cell? ⟨r.rb,0,none⟩=some (.slice (some ⟨r.rn,0,none⟩) L r.cap):=by rw [HLe.out];exact HX2.out.ok.c0
    have hbk:=bes_ok HX.out.wf HX.out.lo true hy1 hyN
    obtain ⟨t,hte⟩:∃ t,besD s y true=t:=⟨_,rfl⟩
    have HTE:Hid (s.ahd y=t):=by show s.ahd y=t;rw [← hte];simp [besD]
    have HTB:Hid (besD s y true=t):=hte
    rw [hte] at hbk ⊢
    have htN:=hbk.1
    have htl:=hbk.2
    clear hte hbw hbk
    by_cases ht0:t=0
    ·have ht0':((t:Int) != 0)=false:=by simp [ht0]
     have hup:=done_up (back:=true) HX.out.wf hx1 hxN hy1 hyN HXY.out (HTB.out.trans ht0)
     have hpN:=HX.out.wf.parLe y hyN
     have n3:=HX2.out.par hyN
     have hyL:(y:Int)<(L:Int):=by have:=HLe.out;omega
     have HT0:Hid (s.ahd y=0):=HTE.out.trans ht0
     obtain ⟨p,hpe⟩:∃ p,s.par y=p:=⟨_,rfl⟩
     have HP:Hid (s.par y=p):=hpe
     rw [hpe] at hpN hup n3
     clear hpe ht0
     by_cases hst:y=root∨p=0
     ·have HZ0:Hid (BackGoal s (vf) root here 0):=HGy.out 0 (.top HT0.out (by rw [HP.out];exact hst))
      by_cases e0:y=root
      ·have e0':((y:Int) == (root:Int))=true:=by simp [e0]
       clear hst e0
       go_wp2_with fail
       go_ret
       exact ⟨0,rfl,Nat.zero_le _,HZ0.out,HBw.out⟩
      ·have e0':((y:Int) == (root:Int))=false:=by simp;omega
       have e1':((p:Int) == 0)=true:=by simp;omega
       clear hst e0
       go_wp2_with fail
       go_ret
       exact ⟨0,rfl,Nat.zero_le _,HZ0.out,HBw.out⟩
     ·have e0':((y:Int) == (root:Int))=false:=by simp;omega
      have e1':((p:Int) == 0)=false:=by simp;omega
      have hp1:1≤p:=by omega
      have HST:Hid (y≠root∧p≠0):=⟨fun e=>hst (.inl e),fun e=>hst (.inr e)⟩
      clear hst
      go_wp2_with fail
      refine (HX2.out.of p hp1 hpN).mono ?_
      rintro e w2 ⟨rfl,hb2⟩
      have HB2:Hid (Below w.heap.size w w2):=HBw.out.trans (hb2.mono HBw.out.size)
      have HB3:Hid (Below (w.alloc (.cells #[.int .i64 root,.int .i64 sv,.slice ra rl.length rc,.int .i64 here] 210)).heap.size (w.alloc (.cells #[.int .i64 root,.int .i64 sv,.slice ra rl.length rc,.int .i64 here] 210)) w2):=HBi.out.trans (hb2.mono HBi.out.size)
      clear hb2 o0 o1 o2 o3 g0 n3
      obtain ⟨v,hve⟩:∃ v,vf p=v:=⟨_,rfl⟩
      have HV:Hid (vf p=v):=hve
      rw [hve]
      clear hve
      by_cases v1:v=1
      ·have v1':(v == 1)=true:=by simpa using v1
       have HZ0:Hid (BackGoal s (vf) root here p):=HGy.out p (by have:=EvBack.par (s:=s) (v:=vf) (root:=root) (n:=y) HT0.out HST.out.1 (by rw [HP.out];exact HST.out.2) (by rw [HP.out,HV.out];exact v1);rw [HP.out] at this;exact this)
       clear v1
       go_wp2_with fail
       go_ret
       exact ⟨p,rfl,hpN,HZ0.out,HB2.out⟩
      ·have v1':(v == 1)=false:=by simpa using v1
       have HEN:Hid (p=root→BackGoal s (vf) root here 0):=fun e=>HGy.out 0 (.end_ HT0.out HST.out.1 (by rw [HP.out];exact HST.out.2) (by rw [HP.out,HV.out];exact v1) (by rw [HP.out];exact e))
       have HUP:Hid (p≠root→∀ a,EvBack s (vf) root p a→BackGoal s (vf) root here a):=fun e a ha=>HGy.out a (.up HT0.out HST.out.1 (by rw [HP.out];exact HST.out.2) (by rw [HP.out,HV.out];exact v1) (by rw [HP.out];exact e) (by rw [HP.out];exact ha))
       clear v1
       go_wp2_with fail
       go_roundg (done r.N s K true p)
       case measure=>omega
       case rel=>exact ⟨p,rfl,hp1,hpN,rfl,HEN.out,HUP.out,HB3.out⟩
    ·have ht0':((t:Int) != 0)=true:=by simp;omega
     have ht1:1≤t:=by omega
     have HT0:Hid (s.ahd y≠0):=by show s.ahd y≠0;rw [HTE.out];exact ht0
     have HDEEP:Hid (∀ w2,Wr w2 r s K root here sv ra rc rl vf→Calls Tryz.prog 181 #[.pointer (some ⟨r.rb,0,none⟩),.agg #[.int .i64 root,.int .i64 sv,.slice ra rl.length rc,.int .i64 here],.int .i64 t] w2 fun e w'=>∃ x:Nat,e=.returned (.int .i64 x)∧1≤x∧x≤r.N∧EvIn s (vf) t x∧look r.N s K true x≤look r.N s K true t∧Below w2.heap.size w2 w'):=fun w2 h2=>deepAll _ w2 t h2 ht1 htN (Nat.le_refl _)
     clear ht0
     go_wp2_with fail
     refine Calls.mono (HDEEP.out _ HX2.out) ?_
     rintro e w1 ⟨z,rfl,hz1,hzN,hzE,hzl,hb⟩
     have HB1:Hid (Below w.heap.size w w1):=HBw.out.trans (hb.mono HBw.out.size)
     have HX3:Hid (Wr w1 r s K root here sv ra rc rl vf):=HX.out.since HB1.out
     have HB3:Hid (Below (w.alloc (.cells #[.int .i64 root,.int .i64 sv,.slice ra rl.length rc,.int .i64 here] 210)).heap.size (w.alloc (.cells #[.int .i64 root,.int .i64 sv,.slice ra rl.length rc,.int .i64 here] 210)) w1):=HBi.out.trans (hb.mono HBi.out.size)
     have HZE:Hid (EvIn s (vf) (s.ahd y) z):=by rw [HTE.out];exact hzE
     have hzs:lies r.N s K true z<lies r.N s K true y:=by
      have e:look r.N s K true z=sz r.N K z+lies r.N s K true z:=by unfold look;rw [if_neg (by omega)]
      have:=sz_pos (N:=r.N) (K:=K) z
      omega
     have HLT:Hid (lies r.N s K true z<lies r.N s K true x):=by show _<_;omega
     clear hb hzE o0 o1 o2 o3 g0
     obtain ⟨_,o1,o2,_,_⟩:=box4 HB3.out
     go_wp2_with fail
     refine (HX3.out.of z hz1 hzN).mono ?_
     rintro e w2 ⟨rfl,hb2⟩
     have HB2:Hid (Below w.heap.size w w2):=HB1.out.trans (hb2.mono HB1.out.size)
     have HX4:Hid (Wr w2 r s K root here sv ra rc rl vf):=HX.out.since HB2.out
     have HB4:Hid (Below (w.alloc (.cells #[.int .i64 root,.int .i64 sv,.slice ra rl.length rc,.int .i64 here] 210)).heap.size (w.alloc (.cells #[.int .i64 root,.int .i64 sv,.slice ra rl.length rc,.int .i64 here] 210)) w2):=HB3.out.trans (hb2.mono HB3.out.size)
     clear hb2 o1 o2
     obtain ⟨v,hve⟩:∃ v,vf z=v:=⟨_,rfl⟩
     have HV:Hid (vf z=v):=hve
     rw [hve]
     clear hve
     by_cases v1:v=1
     ·have v1':(v == 1)=true:=by simpa using v1
      have HZ0:Hid (BackGoal s (vf) root here z):=HGy.out z (.hit HT0.out HZE.out (by rw [HV.out];exact v1))
      clear v1
      go_wp2_with fail
      go_ret
      exact ⟨z,rfl,hzN,HZ0.out,HB2.out⟩
     ·have v1':(v == 1)=false:=by simpa using v1
      have HGO:Hid (∀ a,EvBack s (vf) root z a→BackGoal s (vf) root here a):=fun a ha=>HGy.out a (.go HT0.out HZE.out (by rw [HV.out];exact v1) ha)
      clear v1
      go_wp2_with fail
      refine (HX4.out.besB z hz1 hzN).mono ?_
      rintro e w2' ⟨rfl,hw2'⟩
      subst hw2'
      go_wp2_with fail
      go_roundg (lies r.N s K true z)
      case measure=>omega
      case rel=>exact ⟨z,rfl,rfl,hz1,hzN,rfl,.inr HLT.out,by omega,HGO.out,HB4.out⟩
end
open Go.RowKit Go.Shelf Gv
def nxF (s:Fo) (N root:Nat) (v:Int) (x:Nat):Nat:=if v=2 then pastF s (N+1) x root else nextF s (N+1) x root
section
variable {w w' W:World} {r:Rx} {s:Fo} {K:Nat→List Nat} {root here sv:Nat} {ra:Option Addr} {rc:Nat} {rl:List Rule} {vf:Nat→Int}
theorem nx_ok (h:WF r.N s K) (hlo:Lo r.N s) (v:Int) {x:Nat} (h1:1≤x) (hN:x≤r.N):nxF s r.N root v x≤r.N∧look r.N s K false (nxF s r.N root v x)<look r.N s K false x:=by
 unfold nxF
 split
 ·exact ⟨past_ok h hlo hN,look_past h hlo h1 hN⟩
 ·exact ⟨(look_next h hlo h1 hN).2,(look_next h hlo h1 hN).1⟩
theorem past_eq (f n t:Nat):pastF s (f+1) n t=if n=0 then 0 else if n=t then 0 else if s.bhd n=0 then pastF s f (s.par n) t else s.bhd n:=rfl
theorem Wr.on (h:Wr w r s K root here sv ra rc rl vf) :
  Calls Tryz.prog 162 #[.pointer (some ⟨r.rb,0,none⟩),.agg #[.int .i64 root,.int .i64 sv,.slice ra rl.length rc,.int .i64 here]] w (Found w r.N (EvOn s (vf) root r.N (nextF s (r.N+1) here root))):=by
 have HX:Hid (Wr w r s K root here sv ra rc rl vf):=h
 have hN:=h.hN
 have h1:=h.h1
 have hr3:=h.ok.hN
 obtain ⟨L,hLe⟩:∃ L,L=r.N+1:=⟨_,rfl⟩
 have HLe:Hid (L=r.N+1):=hLe
 have hL3:L≤301:=by omega
 have hb0:=box4 (Below.refl (w.alloc (.cells #[.int .i64 root,.int .i64 sv,.slice ra rl.length rc,.int .i64 here] 210)).heap.size _)
 have o3:=hb0.2.2.2.1
 clear h hLe hb0
 go_enter Tryz.func162, Tryz.ntmps162
 go_wp2_with fail
 clear o3
 go_loopg [5,6] (look r.N s K false here) (fun m n v wr=>∃ (x:Nat) (vx:Int),n=.int .i64 x∧v=.int .i64 vx∧1≤x∧x≤r.N∧m=look r.N s K false x∧Hid (∀ a,EvOn s (vf) root r.N (nxF s r.N root vx x) a→EvOn s (vf) root r.N (nextF s (r.N+1) here root) a)∧Hid (Below (w.alloc (.cells #[.int .i64 root,.int .i64 sv,.slice ra rl.length rc,.int .i64 here] 210)).heap.size (w.alloc (.cells #[.int .i64 root,.int .i64 sv,.slice ra rl.length rc,.int .i64 here] 210)) wr))
 case atStart=>exact ⟨here,1,rfl,rfl,h1,hN,rfl,fun a ha=>ha,Below.refl _ _⟩
 case round =>
  obtain ⟨x,vx,rfl,rfl,hx1,hxN,hm,HE,HB0⟩:=hrel
  obtain ⟨o0,o1,o2,_,hbw⟩:=box4 HB0.out
  have HB:Hid (Below w.heap.size w wr):=hbw
  have HX1:Hid (Wr wr r s K root here sv ra rc rl vf):=HX.out.since hbw
  have g0:wr.cell? ⟨r.rb,0,none⟩=some (.slice (some ⟨r.rn,0,none⟩) L r.cap):=by rw [HLe.out];exact HX1.out.ok.c0
  have hnx:=nx_ok (root:=root) HX.out.wf HX.out.lo vx hx1 hxN
  have HNX:Hid (nxF s r.N root vx x=if vx=2 then pastF s (r.N+1) x root else nextF s (r.N+1) x root):=rfl
  obtain ⟨tg,htg⟩:∃ tg,nxF s r.N root vx x=tg:=⟨_,rfl⟩
  rw [htg] at hnx HNX HE
  have htN:=hnx.1
  have htl:=hnx.2
  clear htg hnx hbw
  obtain ⟨w1,rfl⟩:∃ w1:World,w1=wr:=⟨_,rfl⟩
  go_wp2_with fail
  refine (HX1.out.kidF x hx1 hxN).mono ?_
  rintro e w1' ⟨rfl,hw1'⟩
  subst hw1'
  have hkd:kidD s x false=s.fst x:=by simp [kidD]
  rw [hkd]
  clear hkd
  go_upto_region 4 with fail
  go_cut [18] (fun t wx=>(∃ q:Bool,t=.bool q∧(q=true↔(vx≠2∧s.fst x≠0)))∧wx=w1')
  case first =>
   by_cases e2:vx=2
   ·have c2:(vx != 2)=false:=by simpa using e2
    have HQ:Hid (¬ (vx≠2∧s.fst x≠0)):=fun e=>absurd e2 e.1
    clear e2
    go_wp2_with fail
    go_meet
    case rel=>exact ⟨⟨false,rfl,⟨fun e=>(by cases e),fun e=>absurd e HQ.out⟩⟩,rfl⟩
   ·have c2:(vx != 2)=true:=by simpa using e2
    by_cases ek:s.fst x=0
    ·have ck:(((s.fst x:Nat):Int) != 0)=false:=by simp [ek]
     have HQ:Hid (¬ (vx≠2∧s.fst x≠0)):=fun e=>absurd ek e.2
     clear e2 ek
     go_wp2_with fail
     go_meet
     case rel=>exact ⟨⟨false,rfl,⟨fun e=>(by cases e),fun e=>absurd e HQ.out⟩⟩,rfl⟩
    ·have ck:(((s.fst x:Nat):Int) != 0)=true:=by simp;omega
     have HQ:Hid (vx≠2∧s.fst x≠0):=⟨e2,ek⟩
     clear e2 ek
     go_wp2_with fail
     go_meet
     case rel=>exact ⟨⟨true,rfl,⟨fun _=>HQ.out,fun _=>rfl⟩⟩,rfl⟩
  case rest =>
  obtain ⟨⟨q,rfl,hq⟩,hwc⟩:=hcut
  subst hwc
  have HQ:Hid (q=true↔(vx≠2∧s.fst x≠0)):=hq
  clear hq
  obtain ⟨w4,hw4⟩:∃ w4:World,w4=wc:=⟨_,rfl⟩
  subst hw4
  go_upto_if 18 with fail
  go_cut [5] (fun t wx=>t=.int .i64 tg∧tg≠0∧wx=w4)
  case first =>
   cases q with
   | true =>
    have hgo:=HQ.out.1 rfl
    have htg:tg=s.fst x:=by rw [HNX.out,if_neg hgo.1];unfold nextF;rw [if_neg hgo.2]
    have HF:Hid (s.fst x≠0):=hgo.2
    clear hgo
    subst htg
    go_wp2_with fail
    go_meet
    case rel=>exact ⟨rfl,HF.out,rfl⟩
   | false =>
    have hgo:¬ (vx≠2∧s.fst x≠0):=fun e=>by have:=HQ.out.2 e;cases this
    have HTP:Hid (tg=pastF s (r.N+1) x root):=by
     show tg=_
     rw [HNX.out]
     by_cases e2:vx=2
     ·rw [if_pos e2]
     ·rw [if_neg e2]
      unfold nextF
      rw [if_pos (Classical.byContradiction (fun e=>hgo ⟨e2,e⟩))]
    have hdx:=dep_le (s:=s) r.N x
    clear hgo
    go_wp2_with fail
    go_loopg [5] (dep s r.N x) (fun m n wr=>∃ y f:Nat,n=.int .i64 y∧y≤r.N∧m=dep s r.N y∧dep s r.N y≤f∧Hid (tg=pastF s (f+1) y root)∧wr=w4)
    case atStart=>exact ⟨x,r.N,rfl,hxN,rfl,hdx,HTP.out,rfl⟩
    case round =>
     obtain ⟨y,f,rfl,hyN,hm2,hdf,HTY,rfl⟩:=hrel
     obtain ⟨w5,rfl⟩:∃ w5:World,w5=wr:=⟨_,rfl⟩
     have HPE:=past_eq (s:=s) f y root
     have HPE':Hid (pastF s (f+1) y root=if y=0 then 0 else if y=root then 0 else if s.bhd y=0 then pastF s f (s.par y) root else s.bhd y):=HPE
     clear HPE
     by_cases hy0:y=0
     ·have y0':((y:Int) != 0)=false:=by simp [hy0]
      have y0'':((y:Int) == 0)=true:=by simp [hy0]
      have HZ0:Hid (EvOn s (vf) root r.N (nextF s (r.N+1) here root) 0):=by
       have e:tg=0:=by rw [HTY.out,HPE'.out,if_pos hy0]
       exact HE.out 0 (.none e)
      clear hy0
      go_wp2_with fail
      go_ret
      exact ⟨0,rfl,Nat.zero_le _,HZ0.out,HB.out⟩
     have y0':((y:Int) != 0)=true:=by simp;omega
     have y0'':((y:Int) == 0)=false:=by simp;omega
     by_cases hyr:y=root
     ·have yr':((y:Int) != (root:Int))=false:=by simp [hyr]
      have yr'':((y:Int) == (root:Int))=true:=by simp [hyr]
      have HZ0:Hid (EvOn s (vf) root r.N (nextF s (r.N+1) here root) 0):=by
       have e:tg=0:=by rw [HTY.out,HPE'.out,if_neg hy0,if_pos hyr]
       exact HE.out 0 (.none e)
      clear hy0 hyr
      go_wp2_with fail
      go_ret
      exact ⟨0,rfl,Nat.zero_le _,HZ0.out,HB.out⟩
     have yr':((y:Int) != (root:Int))=true:=by simp;omega
     have yr'':((y:Int) == (root:Int))=false:=by simp;omega
     have hy1:1≤y:=by omega
     have hyL:(y:Int)<(L:Int):=by have:=HLe.out;omega
     have n3:=HX1.out.par hyN
     have hpN:=HX.out.wf.parLe y hyN
     have hdp:=dep_par HX.out.wf hy1 hyN
     have HYY:Hid (y≠0∧y≠root):=⟨hy0,hyr⟩
     clear hy0 hyr
     go_wp2_with fail
     refine (HX1.out.besF y hy1 hyN).mono ?_
     rintro e w5' ⟨rfl,hw5'⟩
     subst hw5'
     have hbd:besD s y false=s.bhd y:=by simp [besD]
     rw [hbd]
     by_cases hb0:s.bhd y=0
     ·have b0':(((s.bhd y:Nat):Int) == 0)=true:=by simp [hb0]
      have HNXT:Hid (tg=pastF s f (s.par y) root):=by show tg=_;rw [HTY.out,HPE'.out,if_neg HYY.out.1,if_neg HYY.out.2,if_pos hb0]
      obtain ⟨f',rfl⟩:∃ f',f=f'+1:=⟨f-1,by omega⟩
      clear hb0 hbd
      go_wp2_with fail
      go_roundg (dep s r.N (s.par y))
      case measure=>omega
      case rel=>exact ⟨s.par y,f',rfl,hpN,rfl,by omega,HNXT.out,rfl⟩
     ·have b0':(((s.bhd y:Nat):Int) == 0)=false:=by simp;omega
      have htg:tg=s.bhd y:=by rw [HTY.out,HPE'.out,if_neg HYY.out.1,if_neg HYY.out.2,if_neg hb0]
      have HB0':Hid (s.bhd y≠0):=hb0
      have HTG:Hid (tg=s.bhd y):=htg
      clear hb0 htg
      go_wp2_with fail
      refine (HX1.out.besF y hy1 hyN).mono ?_
      rintro e w6' ⟨rfl,hw6'⟩
      subst hw6'
      rw [hbd,← HTG.out]
      go_wp2_with fail
      go_meet
      case rel=>exact ⟨rfl,by rw [HTG.out];exact HB0'.out,rfl⟩
  case rest =>
   obtain ⟨rfl,ht0,hwc⟩:=hcut
   subst hwc
   have ht1:1≤tg:=by omega
   have HT0:Hid (tg≠0):=ht0
   clear ht0 o0 g0
   go_wp2_with fail
   refine (HX1.out.of tg ht1 htN).mono ?_
   rintro e w2 ⟨rfl,hb2⟩
   have HB2:Hid (Below w.heap.size w w2):=HB.out.trans (hb2.mono HB.out.size)
   have HB3:Hid (Below (w.alloc (.cells #[.int .i64 root,.int .i64 sv,.slice ra rl.length rc,.int .i64 here] 210)).heap.size (w.alloc (.cells #[.int .i64 root,.int .i64 sv,.slice ra rl.length rc,.int .i64 here] 210)) w2):=HB0.out.trans (hb2.mono HB0.out.size)
   clear hb2 o1 o2
   obtain ⟨v,hve⟩:∃ v,vf tg=v:=⟨_,rfl⟩
   have HV:Hid (vf tg=v):=hve
   rw [hve]
   clear hve
   by_cases v1:v=1
   ·have v1':(v == 1)=true:=by simpa using v1
    have HZ0:Hid (EvOn s (vf) root r.N (nextF s (r.N+1) here root) tg):=HE.out tg (.hit HT0.out (by rw [HV.out];exact v1))
    clear v1
    go_wp2_with fail
    go_ret
    exact ⟨tg,rfl,htN,HZ0.out,HB2.out⟩
   ·have v1':(v == 1)=false:=by simpa using v1
    have HGO:Hid (∀ a,EvOn s (vf) root r.N (nxF s r.N root v tg) a→EvOn s (vf) root r.N (nextF s (r.N+1) here root) a):=fun a ha=>HE.out a (by
     unfold nxF at ha
     by_cases e2:v=2
     ·rw [if_pos e2] at ha
      exact .past HT0.out (by rw [HV.out];exact e2) ha
     ·rw [if_neg e2] at ha
      exact .next HT0.out (by rw [HV.out];exact v1) (by rw [HV.out];exact e2) ha)
    clear v1
    go_wp2_with fail
    go_roundg (look r.N s K false tg)
    case measure=>omega
    case rel=>exact ⟨tg,v,rfl,rfl,ht1,htN,rfl,HGO.out,HB3.out⟩
end
end Go.Proofs.YtcedebpoihcbdaaGreatDoor
