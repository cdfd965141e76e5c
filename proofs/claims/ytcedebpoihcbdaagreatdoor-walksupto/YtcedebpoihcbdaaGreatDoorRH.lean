/-
  The document's own answer: what a list has.
  The document's own answer: Len, Item, Named.
  The document's own answer: Named.
-/
import Derived.Test.YtcedebpoihcbdaaGreatDoorRG
import Derived.Test.YtcedebpoihcbdaaGreatDoorR9
set_option linter.unusedVariables false
set_option maxHeartbeats 1000000
set_option maxRecDepth 100000
namespace Go.Proofs.YtcedebpoihcbdaaGreatDoor
open Go.RowKit Go.Shelf Gv
section
variable {w w' W:World} {r:Rx} {s:Fo} {K:Nat→List Nat}
theorem refClass2 {D:Nat} (kn:Nat) (tag:ByteArray) (av:Value) (par:Nat) (ka:Option Addr) (kl kc:Nat) (l:List Atr) (c:ByteArray) (hv:W.ownsRow D 199 2 av l.length (l.flatMap arow)) (hl:l.length≤4000001) (hsv:∀ v,atOf l strClass=some v→v.size≤40) :
  Calls Tryz.prog 164 #[nodeV kn tag av par (.slice ka kl kc),.string c] W fun e w'=>e=.returned (.bool (hasCls (atOf l) c))∧Below W.heap.size W w':=by
 refine (refClass kn tag av par ka kl kc l c hv hl hsv).mono ?_
 rintro e w' ⟨b,rfl,hb,hB⟩
 refine ⟨?_,hB⟩
 have:b=hasCls (atOf l) c:=by
  have h2:=hasCls_iff (atOf l) c
  cases b with
  | true=>exact (h2.2 (hb.1 rfl)).symm
  | false =>
   cases e:hasCls (atOf l) c with
   | false=>rfl
   | true=>exact absurd (hb.2 (h2.1 e)) (by simp)
 rw [this]
def wantR (r:Rx) (root how:Nat) (what:ByteArray) (y:Nat):Bool :=
 if how=1 then decide (r.kn y=2) && ((what.toList == [42]) || (what.toList == (r.tag y).toList))
 else if how=2 then decide (r.kn y=2) && hasCls (atOf (r.ats y)) what
 else if how=3 then decide (r.kn y=2) && decide (r.par y=root)
 else decide (r.par y=root)
def listR (r:Rx) (K:Nat→List Nat) (root how:Nat) (what:ByteArray):List Nat:=(P r.N K root).tail.filter (wantR r root how what)
theorem filter_take {p:Nat→Bool} {l:List Nat} {k:Nat} (hk:k<l.length):(l.take (k+1)).filter p=(l.take k).filter p++(if p (l.getD k 0)=true then [l.getD k 0] else []):=by
 rw [List.take_add_one,List.filter_append,List.getD_eq_getElem?_getD,List.getElem?_eq_getElem hk]
 simp only [Option.toList_some,Option.getD_some,List.filter_cons,List.filter_nil]
theorem refList (h:RefOK w r) (hwf:WF r.N s K) (hK:r.K=K) (root how:Nat) (what:ByteArray) (h1:1≤root) (hm:root≤r.N) (hh1:1≤how) (hh4:how≤4) (hsz:∀ y,1≤y→y≤r.N→∀ v,atOf (r.ats y) strClass=some v→v.size≤40) :
  Calls Tryz.prog 117 #[.pointer (some ⟨r.rb,0,none⟩),.agg #[.int .i64 root,.int .i64 how,.string what]] w fun e w'=>∃ v,e=.returned v∧w'.ownsRow w.heap.size 3 1 v (listR r K root how what).length (ints (listR r K root how what))∧Below w.heap.size w w':=by
 have HW:Hid (WF r.N s K):=hwf
 have HK:Hid (r.K=K):=hK
 have hN:=h.hN
 obtain ⟨L,hLe⟩:∃ L,L=r.N+1:=⟨_,rfl⟩
 have HLe:Hid (L=r.N+1):=hLe
 have hL3:L≤301:=by omega
 have hB1:Below w.heap.size w (w.alloc (.cells #[.int .i64 root,.int .i64 how,.string what] 177)):=(Below.refl _ _).alloc (Nat.le_refl _) _
 have HB1:Hid (Below w.heap.size w (w.alloc (.cells #[.int .i64 root,.int .i64 how,.string what] 177))):=hB1
 have HH:Hid (RefOK (w.alloc (.cells #[.int .i64 root,.int .i64 how,.string what] 177)) r):=h.since hB1
 have hob:(w.alloc (.cells #[.int .i64 root,.int .i64 how,.string what] 177)).heap[w.heap.size]?=some (.cells #[.int .i64 root,.int .i64 how,.string what] 177 (0,0)):=heap_alloc_new w _
 have HOB:Hid ((w.alloc (.cells #[.int .i64 root,.int .i64 how,.string what] 177)).heap[w.heap.size]?=some (.cells #[.int .i64 root,.int .i64 how,.string what] 177 (0,0))):=hob
 have o0:=cells_of hob 0
 have hsz1:(w.alloc (.cells #[.int .i64 root,.int .i64 how,.string what] 177)).heap.size=w.heap.size+1:=by simp
 have HI:Hid (∀ y,y∈P r.N K root→1≤y∧y≤r.N):=fun y hy=>pre_le hwf r.N root y h1 hm hy
 have HSZ:Hid (∀ y,1≤y→y≤r.N→∀ v,atOf (r.ats y) strClass=some v→v.size≤40):=hsz
 have hpl:=P_len hwf h1 hm
 clear h hLe hwf hK hB1 hob hsz
 obtain ⟨i0,hi,hz0,hz1,hz2⟩:=info_parts Tryz.info3
 go_enter Tryz.func117, Tryz.ntmps117
 go_wp2_with fail
 refine (refWithin HH.out HW.out HK.out root h1 hm).mono ?_
 rintro e w2 ⟨v,rfl,hv,hb2⟩
 obtain ⟨ao,cap,rfl,hnum⟩:=nums_form hv rfl
 have HNU:Hid _:=hnum
 have HB2:Hid (Below w.heap.size w w2):=HB1.out.trans (hb2.mono (by omega))
 have R2:Hid (RefOK w2 r):=HH.out.since hb2
 have hob2:w2.heap[w.heap.size]?=some (.cells #[.int .i64 root,.int .i64 how,.string what] 177 (0,0)):=(hb2.block w.heap.size (by omega)).trans HOB.out
 have HOB2:Hid (w2.heap[w.heap.size]?=some (.cells #[.int .i64 root,.int .i64 how,.string what] 177 (0,0))):=hob2
 have hs2:w.heap.size<w2.heap.size:=by have:=hb2.size;omega
 obtain ⟨l,hl⟩:∃ l,l=P r.N K root:=⟨_,rfl⟩
 have HF:Hid (listR r K root how what=l.tail.filter (wantR r root how what)):=by show listR r K root how what=_;rw [hl];rfl
 rw [← hl] at HI HNU hpl ⊢
 clear hv hb2 hnum hl hob2 o0
 obtain ⟨xb,hxb⟩:∃ x,x=w.heap.size:=⟨_,rfl⟩
 have HXB:Hid (xb=w.heap.size):=hxb
 rw [← hxb] at HOB2 hs2 ⊢
 clear hxb
 go_wp2_with fail
 go_loopw [5,7] (fun o i wr=>∃ k:Nat,1≤k∧(k≤l.length∨k=1)∧i=.int .i64 k∧Below w2.heap.size w2 wr∧wr.ownsRow w2.heap.size 3 1 o ((l.tail.take (k-1)).filter (wantR r root how what)).length (ints ((l.tail.take (k-1)).filter (wantR r root how what)))) (fun _ i _=>l.length-(intOf i).toNat)
 case atStart=>exact ⟨1,Nat.le_refl _,.inr rfl,rfl,Below.refl _ _,by simpa [ints] using World.ownsRow_nil _ _ _ _⟩
 case round =>
  obtain ⟨k,hk1,hkl,rfl,hb3,hov⟩:=hrel
  obtain ⟨oa,on,oc,hoe⟩:=slice_of hov
  subst hoe
  obtain ⟨ov,hove⟩:∃ v:Value,v=.slice oa on oc:=⟨_,rfl⟩
  rw [← hove] at hov
  obtain ⟨w3,rfl⟩:∃ w3:World,w3=wr:=⟨_,rfl⟩
  have HB3:Hid (Below w2.heap.size w2 w3):=hb3
  have HOV:Hid (w3.ownsRow w2.heap.size 3 1 ov ((l.tail.take (k-1)).filter (wantR r root how what)).length (ints ((l.tail.take (k-1)).filter (wantR r root how what)))):=hov
  clear hb3 hov
  by_cases hlt:k<l.length
  ·rcases HNU.out with h0 | ⟨g,rfl,hgs,hc⟩
   ·omega
   have hs3:=HB3.out.size
   have HX:Hid (l.tail.getD (k-1) 0=l.getD k 0):=tail_getD hk1
   have hmem:l.getD k 0∈l:=by rw [List.getD_eq_getElem?_getD,List.getElem?_eq_getElem hlt];exact List.getElem_mem _
   have hy:=HI.out _ hmem
   have c1:w3.cell? ⟨g,k,none⟩=some (.int .i64 (l.getD k 0:Nat)):=(HB3.out.cell (p:=⟨g,k,none⟩) hgs).trans (hc k hlt)
   have hltail:k-1<l.tail.length:=by rw [List.length_tail];omega
   have HT:Hid ((l.tail.take (k-1+1)).filter (wantR r root how what)=(l.tail.take (k-1)).filter (wantR r root how what)++(if wantR r root how what (l.tail.getD (k-1) 0)=true then [l.tail.getD (k-1) 0] else [])):=filter_take hltail
   have R3:Hid (RefOK w3 r):=R2.out.since HB3.out
   have g3:w3.cell? ⟨r.rb,0,none⟩=some (.slice (some ⟨r.rn,0,none⟩) L r.cap):=by rw [HLe.out];exact R3.out.c0
   generalize hyy:l.getD k 0=y at *
   obtain ⟨aa,ac,ka,kc,n0,n1,n2,n3,n4,hat⟩:=R3.out.node hy.2
   have HAT:Hid (w3.ownsRow 0 199 2 (.slice aa (r.ats y).length ac) (r.ats y).length ((r.ats y).flatMap arow)):=hat
   have HT4:Hid ((r.ats y).length≤4000001):=by have h4:=R3.out.afew y hy.2;have h5:=R3.out.hT;show (r.ats y).length≤4000001;omega
   have hyL:(y:Int)<(L:Int):=by have:=HLe.out;omega
   have ib:(k:Int)<(l.length:Int):=by omega
   have ltb:=R3.out.ltb
   have ltn:=R3.out.ltn
   have hg3:g<w3.heap.size:=by omega
   have x1:=World.new_ne w3 ⟨r.rb,0,none⟩ g3
   have x2:=World.new_ne w3 ⟨r.rn,y*5,none⟩ n0
   have x3:=World.new_ne w3 ⟨g,k,none⟩ c1
   clear hc hmem hat hyy
   generalize hkm:r.kn y=km at *
   generalize htm:r.tag y=tm at *
   generalize hpm:r.par y=pm at *
   generalize (r.K y).length=kq at *
   go_wp2_with fail
   go_region_held3 (fun wx=>wx.cell? ⟨r.rb,0,none⟩=some (.slice (some ⟨r.rn,0,none⟩) L r.cap)∧wx.cell? ⟨g,k,none⟩=some (.int .i64 y)∧wx.cell? ⟨r.rn,y*5,none⟩=some (.int .i64 km)∧wx.cell? ⟨r.rn,y*5+1,none⟩=some (.string tm)∧wx.cell? ⟨r.rn,y*5+2,none⟩=some (.slice aa (r.ats y).length ac)∧wx.cell? ⟨r.rn,y*5+3,none⟩=some (.int .i64 pm)∧wx.cell? ⟨r.rn,y*5+4,none⟩=some (.slice ka kq kc)) (first | exact ⟨g3,c1,n0,n1,n2,n3,n4⟩ | go_keep) (fail)
   have HB4:Hid (Below w3.heap.size w3 (w3.alloc (.cells #[.int .i64 km,.string tm,.slice aa (r.ats y).length ac,.int .i64 pm,.slice ka kq kc] 150)).drew):=((Below.refl _ w3).alloc (Nat.le_refl _) _).drew
   have hob4:(w3.alloc (.cells #[.int .i64 km,.string tm,.slice aa (r.ats y).length ac,.int .i64 pm,.slice ka kq kc] 150)).drew.heap[w3.heap.size]?=some (.cells #[.int .i64 km,.string tm,.slice aa (r.ats y).length ac,.int .i64 pm,.slice ka kq kc] 150 (0,0)):=heap_alloc_new w3 (.cells #[.int .i64 km,.string tm,.slice aa (r.ats y).length ac,.int .i64 pm,.slice ka kq kc] 150)
   have hwt4:(w3.alloc (.cells #[.int .i64 km,.string tm,.slice aa (r.ats y).length ac,.int .i64 pm,.slice ka kq kc] 150)).drew.heap[xb]?=some (.cells #[.int .i64 root,.int .i64 how,.string what] 177 (0,0)):=(HB4.out.block xb (by omega)).trans ((HB3.out.block xb hs2).trans HOB2.out)
   have hs4:(w3.alloc (.cells #[.int .i64 km,.string tm,.slice aa (r.ats y).length ac,.int .i64 pm,.slice ka kq kc] 150)).drew.heap.size=w3.heap.size+1:=by show (w3.alloc _).heap.size=_;simp
   have HAT4:Hid ((w3.alloc (.cells #[.int .i64 km,.string tm,.slice aa (r.ats y).length ac,.int .i64 pm,.slice ka kq kc] 150)).drew.ownsRow 0 199 2 (.slice aa (r.ats y).length ac) (r.ats y).length ((r.ats y).flatMap arow)):=row_keep HAT.out (fun b hb=>HB4.out.block b (HAT.out.lt b hb).2)
   have q0:=cells_of hob4 0
   have q1:=cells_of hob4 1
   have q2:=cells_of hob4 2
   have q3:=cells_of hob4 3
   have q4:=cells_of hob4 4
   have t2:=cells_of hwt4 2
   have HOB4:Hid ((w3.alloc (.cells #[.int .i64 km,.string tm,.slice aa (r.ats y).length ac,.int .i64 pm,.slice ka kq kc] 150)).drew.heap[w3.heap.size]?=some (.cells #[.int .i64 km,.string tm,.slice aa (r.ats y).length ac,.int .i64 pm,.slice ka kq kc] 150 (0,0))):=hob4
   have HWT4:Hid ((w3.alloc (.cells #[.int .i64 km,.string tm,.slice aa (r.ats y).length ac,.int .i64 pm,.slice ka kq kc] 150)).drew.heap[xb]?=some (.cells #[.int .i64 root,.int .i64 how,.string what] 177 (0,0))):=hwt4
   have HSZY:Hid (∀ v,atOf (r.ats y) strClass=some v→v.size≤40):=HSZ.out y hy.1 hy.2
   have HWA:Hid (wantR r root how what y=if how=1 then decide (km=2) && ((what.toList == [42]) || (what.toList == tm.toList)) else if how=2 then decide (km=2) && hasCls (atOf (r.ats y)) what else if how=3 then decide (km=2) && decide (pm=root) else decide (pm=root)):=by
    show wantR r root how what y=_
    unfold wantR
    rw [hkm,htm,hpm]
   have hltx:xb<w3.heap.size+1:=by omega
   have hneg:xb≠w3.heap.size:=by omega
   have gng:g≠w3.heap.size:=by omega
   clear hkm htm hpm n0 n1 n2 n3 n4 g3 x1 x2 x3 hob4 hwt4
   obtain ⟨w4,hw4⟩:∃ w4,w4=(w3.alloc (.cells #[.int .i64 km,.string tm,.slice aa (r.ats y).length ac,.int .i64 pm,.slice ka kq kc] 150)).drew:=⟨_,rfl⟩
   rw [← hw4] at HB4 hs4 HAT4 q0 q1 q2 q3 q4 t2 HOB4 HWT4 ⊢
   clear hw4
   generalize hlq:(r.ats y).length=lq at *
   obtain ⟨nb,hnb⟩:∃ x,x=w3.heap.size:=⟨_,rfl⟩
   have HNB:Hid (nb=w3.heap.size):=hnb
   rw [← hnb] at HOB4 q0 q1 q2 q3 q4 hs4 hneg gng hltx ⊢
   clear hnb
   have HLQ:Hid ((r.ats y).length=lq):=hlq
   clear hlq
   go_wp2_with fail
   refine (refClass2 (D:=0) km tm (.slice aa lq ac) pm ka kq kc (r.ats y) what (by rw [HLQ.out];exact HAT4.out) (by rw [HLQ.out];exact HT4.out) HSZY.out).mono ?_
   rintro e w5 ⟨rfl,hb5⟩
   have HB5:Hid (Below w2.heap.size w2 w5):=HB3.out.trans ((HB4.out.trans (hb5.mono HB4.out.size)).mono hs3)
   have hob5:w5.heap[nb]?=some (.cells #[.int .i64 km,.string tm,.slice aa lq ac,.int .i64 pm,.slice ka kq kc] 150 (0,0)):=(hb5.block nb (by omega)).trans HOB4.out
   have hwt5:w5.heap[xb]?=some (.cells #[.int .i64 root,.int .i64 how,.string what] 177 (0,0)):=(hb5.block xb (by omega)).trans HWT4.out
   have HOV5:Hid (w5.ownsRow w2.heap.size 3 1 (.slice oa on oc) ((l.tail.take (k-1)).filter (wantR r root how what)).length (ints ((l.tail.take (k-1)).filter (wantR r root how what)))):=by
    rw [← hove]
    exact row_keep HOV.out (fun b hb=>(hb5.block b (by have:=(HOV.out.lt b hb).2;have:=HB4.out.size;omega)).trans (HB4.out.block b (HOV.out.lt b hb).2))
   have c5:w5.cell? ⟨g,k,none⟩=some (.int .i64 y):=(hb5.cell (p:=⟨g,k,none⟩) (by have:=HB4.out.size;show g<w4.heap.size;omega)).trans ((HB4.out.cell (p:=⟨g,k,none⟩) hg3).trans c1)
   have s0:=cells_of hob5 0
   have s1:=cells_of hob5 1
   have s3:=cells_of hob5 3
   have u0:=cells_of hwt5 0
   have u1:=cells_of hwt5 1
   have u2:=cells_of hwt5 2
   have hs5:=HB5.out.size
   clear hob5 hwt5 hb5 q0 q1 q2 q3 q4 t2 c1
   generalize hasCls (atOf (r.ats y)) what=cb at *
   have HHO:Hid (how=1∨how=2∨how=3∨how=4):=by show how=1∨how=2∨how=3∨how=4;omega
   rcases HHO.out with hw | hw | hw | hw
   ·have HWH:Hid (how=1):=hw
    have d1:((how:Int) == 1)=true:=by simp;omega
    clear hw
    by_cases k2:km=2
    ·have k2':((km:Int) == 2)=true:=by simp;omega
     cases hst:(what.toList == [42]) with
     | true =>
      have HWT:Hid (wantR r root how what y=true):=by show wantR r root how what y=true;rw [HWA.out];simp [HWH.out,k2,hst]
      have HRow:Hid ((l.tail.take (k+1-1)).filter (wantR r root how what)=(l.tail.take (k-1)).filter (wantR r root how what)++[y]):=by
       show (l.tail.take (k+1-1)).filter (wantR r root how what)=_
       rw [show k+1-1=k-1+1 by omega,HT.out,HX.out,HWT.out];rfl
      have HU:Hid ((w5.alloc (.cells #[.int .i64 y] 3)).ownsRow w2.heap.size 3 1 (.slice oa on oc) ((l.tail.take (k-1)).filter (wantR r root how what)).length (ints ((l.tail.take (k-1)).filter (wantR r root how what)))):=World.ownsRow.alloc HOV5.out _
      have C1:Hid (∀ j u,[Value.int .i64 y][j]?=some u→(w5.alloc (.cells #[.int .i64 y] 3)).cell? ((⟨w5.heap.size,0,none⟩:Addr).add j)=some u):=one_cell _ _ _
      have hal:((l.tail.take (k-1)).filter (wantR r root how what)).length≤300:=Nat.le_trans (List.length_filter_le _ _) (by rw [List.length_take,List.length_tail];omega)
      generalize (l.tail.take (k-1)).filter (wantR r root how what)=acc at *
      go_wp2_with (at_builtin;refine wpList_append_own _ rfl _ _ 25 rfl w2.heap.size 3 i0 (.int .i64 0) 1 8 Tryz.underlying25 hi hz0 hz1 hz2 rfl (by decide) (.slice oa on oc) acc.length (ints acc) rfl HU.out ⟨w5.heap.size,0,none⟩ 1 1 [.int .i64 y] rfl ?b0 C1.out ?b2 ?b3 ?b4 ?b5 ?_)
      case b0=>rfl
      case b2=>exact int_one y
      case b3=>unfold maxLen;omega
      case b4=>omega
      case b5=>simp;omega
      intro nv w6 hv6 hg6 _
      have HB6:Hid (Below w2.heap.size w2 w6):=(HB5.out.alloc hs5 _).trans ⟨hg6.os,hg6.tape,hg6.output,hg6.size,fun b hb=>hg6.block b (by simp;omega) (fun e=>by have:=(HOV5.out.lt b e.symm).1;omega)⟩
      have HV6:Hid (w6.ownsRow w2.heap.size 3 1 nv (acc++[y]).length (ints (acc++[y]))):=by
       show w6.ownsRow w2.heap.size 3 1 nv (acc++[y]).length (ints (acc++[y]))
       have e1:ints (acc++[y])=ints acc++[.int .i64 y]:=by simp [ints]
       rw [List.length_append,e1];exact hv6
      clear hv6 hg6
      go_wp2_with fail
      go_roundw
      case rel=>exact ⟨k+1,by omega,.inl hlt,by go_num,HB6.out,by rw [HRow.out];exact HV6.out⟩
      case measure=>simp [intOf];omega
     | false =>
      cases htg:(what.toList == tm.toList) with
      | true =>
       have HWT:Hid (wantR r root how what y=true):=by show wantR r root how what y=true;rw [HWA.out];simp [HWH.out,k2,htg]
       have HRow:Hid ((l.tail.take (k+1-1)).filter (wantR r root how what)=(l.tail.take (k-1)).filter (wantR r root how what)++[y]):=by
        show (l.tail.take (k+1-1)).filter (wantR r root how what)=_
        rw [show k+1-1=k-1+1 by omega,HT.out,HX.out,HWT.out];rfl
       have HU:Hid ((w5.alloc (.cells #[.int .i64 y] 3)).ownsRow w2.heap.size 3 1 (.slice oa on oc) ((l.tail.take (k-1)).filter (wantR r root how what)).length (ints ((l.tail.take (k-1)).filter (wantR r root how what)))):=World.ownsRow.alloc HOV5.out _
       have C1:Hid (∀ j u,[Value.int .i64 y][j]?=some u→(w5.alloc (.cells #[.int .i64 y] 3)).cell? ((⟨w5.heap.size,0,none⟩:Addr).add j)=some u):=one_cell _ _ _
       have hal:((l.tail.take (k-1)).filter (wantR r root how what)).length≤300:=Nat.le_trans (List.length_filter_le _ _) (by rw [List.length_take,List.length_tail];omega)
       generalize (l.tail.take (k-1)).filter (wantR r root how what)=acc at *
       go_wp2_with (at_builtin;refine wpList_append_own _ rfl _ _ 25 rfl w2.heap.size 3 i0 (.int .i64 0) 1 8 Tryz.underlying25 hi hz0 hz1 hz2 rfl (by decide) (.slice oa on oc) acc.length (ints acc) rfl HU.out ⟨w5.heap.size,0,none⟩ 1 1 [.int .i64 y] rfl ?b0 C1.out ?b2 ?b3 ?b4 ?b5 ?_)
       case b0=>rfl
       case b2=>exact int_one y
       case b3=>unfold maxLen;omega
       case b4=>omega
       case b5=>simp;omega
       intro nv w6 hv6 hg6 _
       have HB6:Hid (Below w2.heap.size w2 w6):=(HB5.out.alloc hs5 _).trans ⟨hg6.os,hg6.tape,hg6.output,hg6.size,fun b hb=>hg6.block b (by simp;omega) (fun e=>by have:=(HOV5.out.lt b e.symm).1;omega)⟩
       have HV6:Hid (w6.ownsRow w2.heap.size 3 1 nv (acc++[y]).length (ints (acc++[y]))):=by
        show w6.ownsRow w2.heap.size 3 1 nv (acc++[y]).length (ints (acc++[y]))
        have e1:ints (acc++[y])=ints acc++[.int .i64 y]:=by simp [ints]
        rw [List.length_append,e1];exact hv6
       clear hv6 hg6
       go_wp2_with fail
       go_roundw
       case rel=>exact ⟨k+1,by omega,.inl hlt,by go_num,HB6.out,by rw [HRow.out];exact HV6.out⟩
       case measure=>simp [intOf];omega
      | false =>
       have HWF:Hid (wantR r root how what y=false):=by show wantR r root how what y=false;rw [HWA.out];simp [HWH.out,hst,htg]
       have HRow:Hid ((l.tail.take (k+1-1)).filter (wantR r root how what)=(l.tail.take (k-1)).filter (wantR r root how what)):=by
        show (l.tail.take (k+1-1)).filter (wantR r root how what)=_
        rw [show k+1-1=k-1+1 by omega,HT.out,HX.out,HWF.out];simp
       go_wp2_with fail
       go_roundw
       case rel=>exact ⟨k+1,by omega,.inl hlt,by go_num,HB5.out,by rw [HRow.out];exact HOV5.out⟩
       case measure=>simp [intOf];omega
    ·have k2':((km:Int) == 2)=false:=by simp;omega
     have HWF:Hid (wantR r root how what y=false):=by show wantR r root how what y=false;rw [HWA.out];simp [HWH.out,k2]
     have HRow:Hid ((l.tail.take (k+1-1)).filter (wantR r root how what)=(l.tail.take (k-1)).filter (wantR r root how what)):=by
      show (l.tail.take (k+1-1)).filter (wantR r root how what)=_
      rw [show k+1-1=k-1+1 by omega,HT.out,HX.out,HWF.out];simp
     go_wp2_with fail
     go_roundw
     case rel=>exact ⟨k+1,by omega,.inl hlt,by go_num,HB5.out,by rw [HRow.out];exact HOV5.out⟩
     case measure=>simp [intOf];omega
   ·have HWH:Hid (how=2):=hw
    have d1:((how:Int) == 1)=false:=by simp;omega
    have d2:((how:Int) == 2)=true:=by simp;omega
    clear hw
    by_cases k2:km=2
    ·have k2':((km:Int) == 2)=true:=by simp;omega
     cases cb with
     | true =>
      have HWT:Hid (wantR r root how what y=true):=by show wantR r root how what y=true;rw [HWA.out];simp [HWH.out,k2]
      have HRow:Hid ((l.tail.take (k+1-1)).filter (wantR r root how what)=(l.tail.take (k-1)).filter (wantR r root how what)++[y]):=by
       show (l.tail.take (k+1-1)).filter (wantR r root how what)=_
       rw [show k+1-1=k-1+1 by omega,HT.out,HX.out,HWT.out];rfl
      have HU:Hid ((w5.alloc (.cells #[.int .i64 y] 3)).ownsRow w2.heap.size 3 1 (.slice oa on oc) ((l.tail.take (k-1)).filter (wantR r root how what)).length (ints ((l.tail.take (k-1)).filter (wantR r root how what)))):=World.ownsRow.alloc HOV5.out _
      have C1:Hid (∀ j u,[Value.int .i64 y][j]?=some u→(w5.alloc (.cells #[.int .i64 y] 3)).cell? ((⟨w5.heap.size,0,none⟩:Addr).add j)=some u):=one_cell _ _ _
      have hal:((l.tail.take (k-1)).filter (wantR r root how what)).length≤300:=Nat.le_trans (List.length_filter_le _ _) (by rw [List.length_take,List.length_tail];omega)
      generalize (l.tail.take (k-1)).filter (wantR r root how what)=acc at *
      go_wp2_with (at_builtin;refine wpList_append_own _ rfl _ _ 25 rfl w2.heap.size 3 i0 (.int .i64 0) 1 8 Tryz.underlying25 hi hz0 hz1 hz2 rfl (by decide) (.slice oa on oc) acc.length (ints acc) rfl HU.out ⟨w5.heap.size,0,none⟩ 1 1 [.int .i64 y] rfl ?b0 C1.out ?b2 ?b3 ?b4 ?b5 ?_)
      case b0=>rfl
      case b2=>exact int_one y
      case b3=>unfold maxLen;omega
      case b4=>omega
      case b5=>simp;omega
      intro nv w6 hv6 hg6 _
      have HB6:Hid (Below w2.heap.size w2 w6):=(HB5.out.alloc hs5 _).trans ⟨hg6.os,hg6.tape,hg6.output,hg6.size,fun b hb=>hg6.block b (by simp;omega) (fun e=>by have:=(HOV5.out.lt b e.symm).1;omega)⟩
      have HV6:Hid (w6.ownsRow w2.heap.size 3 1 nv (acc++[y]).length (ints (acc++[y]))):=by
       show w6.ownsRow w2.heap.size 3 1 nv (acc++[y]).length (ints (acc++[y]))
       have e1:ints (acc++[y])=ints acc++[.int .i64 y]:=by simp [ints]
       rw [List.length_append,e1];exact hv6
      clear hv6 hg6
      go_wp2_with fail
      go_roundw
      case rel=>exact ⟨k+1,by omega,.inl hlt,by go_num,HB6.out,by rw [HRow.out];exact HV6.out⟩
      case measure=>simp [intOf];omega
     | false =>
      have HWF:Hid (wantR r root how what y=false):=by show wantR r root how what y=false;rw [HWA.out];simp [HWH.out]
      have HRow:Hid ((l.tail.take (k+1-1)).filter (wantR r root how what)=(l.tail.take (k-1)).filter (wantR r root how what)):=by
       show (l.tail.take (k+1-1)).filter (wantR r root how what)=_
       rw [show k+1-1=k-1+1 by omega,HT.out,HX.out,HWF.out];simp
      go_wp2_with fail
      go_roundw
      case rel=>exact ⟨k+1,by omega,.inl hlt,by go_num,HB5.out,by rw [HRow.out];exact HOV5.out⟩
      case measure=>simp [intOf];omega
    ·have k2':((km:Int) == 2)=false:=by simp;omega
     have HWF:Hid (wantR r root how what y=false):=by show wantR r root how what y=false;rw [HWA.out];simp [HWH.out,k2]
     have HRow:Hid ((l.tail.take (k+1-1)).filter (wantR r root how what)=(l.tail.take (k-1)).filter (wantR r root how what)):=by
      show (l.tail.take (k+1-1)).filter (wantR r root how what)=_
      rw [show k+1-1=k-1+1 by omega,HT.out,HX.out,HWF.out];simp
     go_wp2_with fail
     go_roundw
     case rel=>exact ⟨k+1,by omega,.inl hlt,by go_num,HB5.out,by rw [HRow.out];exact HOV5.out⟩
     case measure=>simp [intOf];omega
   ·have HWH:Hid (how=3):=hw
    have d1:((how:Int) == 1)=false:=by simp;omega
    have d2:((how:Int) == 2)=false:=by simp;omega
    have d3:((how:Int) == 3)=true:=by simp;omega
    clear hw
    by_cases k2:km=2
    ·have k2':((km:Int) == 2)=true:=by simp;omega
     by_cases hpr:pm=root
     ·have hpr':((pm:Int) == (root:Int))=true:=by simp;omega
      have HWT:Hid (wantR r root how what y=true):=by show wantR r root how what y=true;rw [HWA.out];simp [HWH.out,k2,hpr]
      have HRow:Hid ((l.tail.take (k+1-1)).filter (wantR r root how what)=(l.tail.take (k-1)).filter (wantR r root how what)++[y]):=by
       show (l.tail.take (k+1-1)).filter (wantR r root how what)=_
       rw [show k+1-1=k-1+1 by omega,HT.out,HX.out,HWT.out];rfl
      have HU:Hid ((w5.alloc (.cells #[.int .i64 y] 3)).ownsRow w2.heap.size 3 1 (.slice oa on oc) ((l.tail.take (k-1)).filter (wantR r root how what)).length (ints ((l.tail.take (k-1)).filter (wantR r root how what)))):=World.ownsRow.alloc HOV5.out _
      have C1:Hid (∀ j u,[Value.int .i64 y][j]?=some u→(w5.alloc (.cells #[.int .i64 y] 3)).cell? ((⟨w5.heap.size,0,none⟩:Addr).add j)=some u):=one_cell _ _ _
      have hal:((l.tail.take (k-1)).filter (wantR r root how what)).length≤300:=Nat.le_trans (List.length_filter_le _ _) (by rw [List.length_take,List.length_tail];omega)
      generalize (l.tail.take (k-1)).filter (wantR r root how what)=acc at *
      go_wp2_with (at_builtin;refine wpList_append_own _ rfl _ _ 25 rfl w2.heap.size 3 i0 (.int .i64 0) 1 8 Tryz.underlying25 hi hz0 hz1 hz2 rfl (by decide) (.slice oa on oc) acc.length (ints acc) rfl HU.out ⟨w5.heap.size,0,none⟩ 1 1 [.int .i64 y] rfl ?b0 C1.out ?b2 ?b3 ?b4 ?b5 ?_)
      case b0=>rfl
      case b2=>exact int_one y
      case b3=>unfold maxLen;omega
      case b4=>omega
      case b5=>simp;omega
      intro nv w6 hv6 hg6 _
      have HB6:Hid (Below w2.heap.size w2 w6):=(HB5.out.alloc hs5 _).trans ⟨hg6.os,hg6.tape,hg6.output,hg6.size,fun b hb=>hg6.block b (by simp;omega) (fun e=>by have:=(HOV5.out.lt b e.symm).1;omega)⟩
      have HV6:Hid (w6.ownsRow w2.heap.size 3 1 nv (acc++[y]).length (ints (acc++[y]))):=by
       show w6.ownsRow w2.heap.size 3 1 nv (acc++[y]).length (ints (acc++[y]))
       have e1:ints (acc++[y])=ints acc++[.int .i64 y]:=by simp [ints]
       rw [List.length_append,e1];exact hv6
      clear hv6 hg6
      go_wp2_with fail
      go_roundw
      case rel=>exact ⟨k+1,by omega,.inl hlt,by go_num,HB6.out,by rw [HRow.out];exact HV6.out⟩
      case measure=>simp [intOf];omega
     ·have hpr':((pm:Int) == (root:Int))=false:=by simp;omega
      have HWF:Hid (wantR r root how what y=false):=by show wantR r root how what y=false;rw [HWA.out];simp [HWH.out,hpr]
      have HRow:Hid ((l.tail.take (k+1-1)).filter (wantR r root how what)=(l.tail.take (k-1)).filter (wantR r root how what)):=by
       show (l.tail.take (k+1-1)).filter (wantR r root how what)=_
       rw [show k+1-1=k-1+1 by omega,HT.out,HX.out,HWF.out];simp
      go_wp2_with fail
      go_roundw
      case rel=>exact ⟨k+1,by omega,.inl hlt,by go_num,HB5.out,by rw [HRow.out];exact HOV5.out⟩
      case measure=>simp [intOf];omega
    ·have k2':((km:Int) == 2)=false:=by simp;omega
     have HWF:Hid (wantR r root how what y=false):=by show wantR r root how what y=false;rw [HWA.out];simp [HWH.out,k2]
     have HRow:Hid ((l.tail.take (k+1-1)).filter (wantR r root how what)=(l.tail.take (k-1)).filter (wantR r root how what)):=by
      show (l.tail.take (k+1-1)).filter (wantR r root how what)=_
      rw [show k+1-1=k-1+1 by omega,HT.out,HX.out,HWF.out];simp
     go_wp2_with fail
     go_roundw
     case rel=>exact ⟨k+1,by omega,.inl hlt,by go_num,HB5.out,by rw [HRow.out];exact HOV5.out⟩
     case measure=>simp [intOf];omega
   ·have HWH:Hid (how=4):=hw
    have d1:((how:Int) == 1)=false:=by simp;omega
    have d2:((how:Int) == 2)=false:=by simp;omega
    have d3:((how:Int) == 3)=false:=by simp;omega
    have d4:((how:Int) == 4)=true:=by simp;omega
    clear hw
    by_cases hpr:pm=root
    ·have hpr':((pm:Int) == (root:Int))=true:=by simp;omega
     have HWT:Hid (wantR r root how what y=true):=by show wantR r root how what y=true;rw [HWA.out];simp [HWH.out,hpr]
     have HRow:Hid ((l.tail.take (k+1-1)).filter (wantR r root how what)=(l.tail.take (k-1)).filter (wantR r root how what)++[y]):=by
      show (l.tail.take (k+1-1)).filter (wantR r root how what)=_
      rw [show k+1-1=k-1+1 by omega,HT.out,HX.out,HWT.out];rfl
     have HU:Hid ((w5.alloc (.cells #[.int .i64 y] 3)).ownsRow w2.heap.size 3 1 (.slice oa on oc) ((l.tail.take (k-1)).filter (wantR r root how what)).length (ints ((l.tail.take (k-1)).filter (wantR r root how what)))):=World.ownsRow.alloc HOV5.out _
     have C1:Hid (∀ j u,[Value.int .i64 y][j]?=some u→(w5.alloc (.cells #[.int .i64 y] 3)).cell? ((⟨w5.heap.size,0,none⟩:Addr).add j)=some u):=one_cell _ _ _
     have hal:((l.tail.take (k-1)).filter (wantR r root how what)).length≤300:=Nat.le_trans (List.length_filter_le _ _) (by rw [List.length_take,List.length_tail];omega)
     generalize (l.tail.take (k-1)).filter (wantR r root how what)=acc at *
     go_wp2_with (at_builtin;refine wpList_append_own _ rfl _ _ 25 rfl w2.heap.size 3 i0 (.int .i64 0) 1 8 Tryz.underlying25 hi hz0 hz1 hz2 rfl (by decide) (.slice oa on oc) acc.length (ints acc) rfl HU.out ⟨w5.heap.size,0,none⟩ 1 1 [.int .i64 y] rfl ?b0 C1.out ?b2 ?b3 ?b4 ?b5 ?_)
     case b0=>rfl
     case b2=>exact int_one y
     case b3=>unfold maxLen;omega
     case b4=>omega
     case b5=>simp;omega
     intro nv w6 hv6 hg6 _
     have HB6:Hid (Below w2.heap.size w2 w6):=(HB5.out.alloc hs5 _).trans ⟨hg6.os,hg6.tape,hg6.output,hg6.size,fun b hb=>hg6.block b (by simp;omega) (fun e=>by have:=(HOV5.out.lt b e.symm).1;omega)⟩
     have HV6:Hid (w6.ownsRow w2.heap.size 3 1 nv (acc++[y]).length (ints (acc++[y]))):=by
      show w6.ownsRow w2.heap.size 3 1 nv (acc++[y]).length (ints (acc++[y]))
      have e1:ints (acc++[y])=ints acc++[.int .i64 y]:=by simp [ints]
      rw [List.length_append,e1];exact hv6
     clear hv6 hg6
     go_wp2_with fail
     go_roundw
     case rel=>exact ⟨k+1,by omega,.inl hlt,by go_num,HB6.out,by rw [HRow.out];exact HV6.out⟩
     case measure=>simp [intOf];omega
    ·have hpr':((pm:Int) == (root:Int))=false:=by simp;omega
     have HWF:Hid (wantR r root how what y=false):=by show wantR r root how what y=false;rw [HWA.out];simp [HWH.out,hpr]
     have HRow:Hid ((l.tail.take (k+1-1)).filter (wantR r root how what)=(l.tail.take (k-1)).filter (wantR r root how what)):=by
      show (l.tail.take (k+1-1)).filter (wantR r root how what)=_
      rw [show k+1-1=k-1+1 by omega,HT.out,HX.out,HWF.out];simp
     go_wp2_with fail
     go_roundw
     case rel=>exact ⟨k+1,by omega,.inl hlt,by go_num,HB5.out,by rw [HRow.out];exact HOV5.out⟩
     case measure=>simp [intOf];omega
  ·have ib:¬ (k:Int)<(l.length:Int):=by omega
   have HR:Hid (w3.ownsRow w.heap.size 3 1 (.slice oa on oc) (listR r K root how what).length (ints (listR r K root how what))):=by
    rw [← hove]
    have e1:(l.tail.take (k-1))=l.tail:=List.take_of_length_le (by rw [List.length_tail];omega)
    have h5:=HOV.out
    rw [e1,← HF.out] at h5
    exact row_base h5 (by have:=HXB.out;omega)
   have HB5:Hid (Below w.heap.size w w3):= HB2.out.trans (HB3.out.mono HB2.out.size)
   go_wp2_with fail
   go_ret
   exact ⟨_,rfl,HR.out,HB5.out⟩
end
open Go.RowKit Go.Shelf Gv
theorem wrow_at {l:List Wat} {i:Nat} {x:Wat} (h:l[i]?=some x):(l.flatMap wrow)[i*3]?=some (.int .i64 x.1)∧(l.flatMap wrow)[i*3+1]?=some (.int .i64 x.2.1)∧(l.flatMap wrow)[i*3+2]?=some (.string x.2.2):=by
 induction l generalizing i with
 | nil=>simp at h
 | cons y l ih =>
  cases i with
  | zero =>
   simp only [List.getElem?_cons_zero,Option.some.injEq] at h
   subst h
   exact ⟨rfl,rfl,rfl⟩
  | succ i =>
   rw [List.getElem?_cons_succ] at h
   have:=ih h
   rw [List.flatMap_cons,show (i+1)*3=i*3+3 by omega]
   exact this
structure ListsOK (r:Rx):Prop where
 wat:∀ x,x∈r.wl→1≤x.1∧x.1≤r.N∧1≤x.2.1∧x.2.1≤4
 cls:∀ y,1≤y→y≤r.N→∀ v,atOf (r.ats y) strClass=some v→v.size≤40
def Rx.list (r:Rx) (K:Nat→List Nat) (x:Wat):List Nat:=listR r K x.1 x.2.1 x.2.2
section
variable {w w' W:World} {r:Rx} {s:Fo} {K:Nat→List Nat}
theorem RefOK.watch (h:RefOK w r) {i:Nat} {x:Wat} (hx:r.wl[i]?=some x):∃ wg wc,w.cell? ⟨r.rb,1,none⟩=some (.slice (some ⟨wg,0,none⟩) r.wl.length wc)∧w.cell? ⟨wg,i*3,none⟩=some (.int .i64 x.1)∧w.cell? ⟨wg,i*3+1,none⟩=some (.int .i64 x.2.1)∧w.cell? ⟨wg,i*3+2,none⟩=some (.string x.2.2):=by
 have hl:=(List.getElem?_eq_some_iff.1 hx).1
 obtain ⟨wa,wc,hwv,_,hc⟩:=rowForm h.wat
 rcases hc with h0 | ⟨wg,rfl,_,hc⟩
 ·omega
 refine ⟨wg,wc,by rw [← hwv];exact h.c1,?_,?_,?_⟩
 ·rw [hc _ (by omega)];exact (wrow_at hx).1
 ·rw [hc _ (by omega)];exact (wrow_at hx).2.1
 ·rw [hc _ (by omega)];exact (wrow_at hx).2.2
def LenPost (w:World) (r:Rx) (K:Nat→List Nat) (n:Int) (e:Ending) (w':World):Prop :=
 ((n<1∨((r.wl.length:Nat):Int)<n)∧e=.returned (.tuple #[.int .i64 0,.int .i64 10])∧w'=w)∨∃ (i:Nat) (x:Wat),n=((i+1:Nat):Int)∧r.wl[i]?=some x∧e=.returned (.tuple #[.int .i64 ((r.list K x).length:Nat),.int .i64 0])∧Below w.heap.size w w'
def ItemPost (w:World) (r:Rx) (K:Nat→List Nat) (n j:Int) (e:Ending) (w':World):Prop :=
 ((n<1∨((r.wl.length:Nat):Int)<n)∧e=.returned (.tuple #[.int .i64 0,.int .i64 10])∧w'=w)∨∃ (i:Nat) (x:Wat),n=((i+1:Nat):Int)∧r.wl[i]?=some x∧e=.returned (.tuple #[.int .i64 (itemF (r.list K x) j:Nat),.int .i64 0])∧Below w.heap.size w w'
theorem listR_len (hwf:WF r.N s K) {root how:Nat} {what:ByteArray} (h1:1≤root) (hm:root≤r.N):(listR r K root how what).length≤r.N:=by
 unfold listR
 refine Nat.le_trans (List.length_filter_le _ _) ?_
 rw [List.length_tail]
 have:=P_len hwf h1 hm
 omega
theorem refLen (h:RefOK w r) (hwf:WF r.N s K) (hK:r.K=K) (hl:ListsOK r) (n:Int) :
  Calls Tryz.prog 65 #[.pointer (some ⟨r.rb,0,none⟩),.int .i64 n] w (LenPost w r K n):=by
 have HH:Hid (RefOK w r):=h
 have HW:Hid (WF r.N s K):=hwf
 have HK:Hid (r.K=K):=hK
 have HL:Hid (ListsOK r):=hl
 have hwf50:=h.wfew
 obtain ⟨wa,wc,hwv,_,_⟩:=rowForm h.wat
 have g1:w.cell? ⟨r.rb,1,none⟩=some (.slice wa r.wl.length wc):=by rw [← hwv];exact h.c1
 rcases thing_cases n r.wl.length with hn | ⟨i,hi,rfl⟩
 ·have HN:Hid (n<1∨((r.wl.length:Nat):Int)<n):=hn
  by_cases hn1:n<1
  ·have hn1':decide (n<1)=true:=by simpa using hn1
   clear h hwf hK hl hn hwv
   go_enter Tryz.func65, Tryz.ntmps65
   go_wp2_with fail
   go_ret2
   exact .inl ⟨HN.out,rfl,rfl⟩
  ·have hn2:((r.wl.length:Nat):Int)<n:=by omega
   clear h hwf hK hl hn hwv
   go_enter Tryz.func65, Tryz.ntmps65
   go_wp2_with fail
   go_ret2
   exact .inl ⟨HN.out,rfl,rfl⟩
 ·obtain ⟨x,hx⟩:∃ x,r.wl[i]?=some x:=⟨_,List.getElem?_eq_getElem hi⟩
  obtain ⟨wg,wc',c1,x0,x1,x2⟩:=h.watch hx
  have HX:Hid (r.wl[i]?=some x):=hx
  have hxo:=hl.wat x (List.mem_of_getElem? hx)
  have hN:=h.hN
  have ht:=hl.cls
  have HLi:Hid (Calls Tryz.prog 117 #[.pointer (some ⟨r.rb,0,none⟩),.agg #[.int .i64 x.1,.int .i64 x.2.1,.string x.2.2]] w fun e w'=>∃ v,e=.returned v∧w'.ownsRow w.heap.size 3 1 v (r.list K x).length (ints (r.list K x))∧Below w.heap.size w w'):=refList h hwf hK x.1 x.2.1 x.2.2 hxo.1 hxo.2.1 hxo.2.2.1 hxo.2.2.2 ht
  have hll:=listR_len (how:=x.2.1) (what:=x.2.2) hwf hxo.1 hxo.2.1
  have hll':(r.list K x).length≤300:=by show (listR r K x.1 x.2.1 x.2.2).length≤300;omega
  have e1:((i+1:Nat):Int)=(i:Int)+1:=by omega
  have ib:(i:Int)<(r.wl.length:Int):=by omega
  have n1:¬ (i:Int)+1<1:=by omega
  have n2:¬ ((r.wl.length:Nat):Int)<(i:Int)+1:=by omega
  rw [e1]
  have HE1:Hid (((i+1:Nat):Int)=(i:Int)+1):=e1
  clear h hwf hK hl hx hxo ht hll e1 g1 hwv
  generalize x.1=q0 at *
  go_enter Tryz.func65, Tryz.ntmps65
  go_wp2_with fail
  refine Calls.mono HLi.out ?_
  rintro e w2 ⟨v,rfl,hv,hb⟩
  obtain ⟨va,vc,hvv,_,_⟩:=rowForm hv
  subst hvv
  have HB:Hid (Below w.heap.size w w2):=hb
  clear hv hb
  go_wp2_with fail
  go_ret2
  exact .inr ⟨i,x,HE1.out.symm,HX.out,rfl,HB.out⟩
theorem refItem (h:RefOK w r) (hwf:WF r.N s K) (hK:r.K=K) (hl:ListsOK r) (n j:Int) :
  Calls Tryz.prog 103 #[.pointer (some ⟨r.rb,0,none⟩),.int .i64 n,.int .i64 j] w (ItemPost w r K n j):=by
 have HH:Hid (RefOK w r):=h
 have HW:Hid (WF r.N s K):=hwf
 have HK:Hid (r.K=K):=hK
 have HL:Hid (ListsOK r):=hl
 have hwf50:=h.wfew
 obtain ⟨wa,wc,hwv,_,_⟩:=rowForm h.wat
 have g1:w.cell? ⟨r.rb,1,none⟩=some (.slice wa r.wl.length wc):=by rw [← hwv];exact h.c1
 rcases thing_cases n r.wl.length with hn | ⟨i,hi,rfl⟩
 ·have HN:Hid (n<1∨((r.wl.length:Nat):Int)<n):=hn
  by_cases hn1:n<1
  ·have hn1':decide (n<1)=true:=by simpa using hn1
   clear h hwf hK hl hn hwv
   go_enter Tryz.func103, Tryz.ntmps103
   go_wp2_with fail
   go_ret2
   exact .inl ⟨HN.out,rfl,rfl⟩
  ·have hn2:((r.wl.length:Nat):Int)<n:=by omega
   clear h hwf hK hl hn hwv
   go_enter Tryz.func103, Tryz.ntmps103
   go_wp2_with fail
   go_ret2
   exact .inl ⟨HN.out,rfl,rfl⟩
 ·obtain ⟨x,hx⟩:∃ x,r.wl[i]?=some x:=⟨_,List.getElem?_eq_getElem hi⟩
  obtain ⟨wg,wc',c1,x0,x1,x2⟩:=h.watch hx
  have HX:Hid (r.wl[i]?=some x):=hx
  have hxo:=hl.wat x (List.mem_of_getElem? hx)
  have hN:=h.hN
  have ht:=hl.cls
  have HLi:Hid (Calls Tryz.prog 117 #[.pointer (some ⟨r.rb,0,none⟩),.agg #[.int .i64 x.1,.int .i64 x.2.1,.string x.2.2]] w fun e w'=>∃ v,e=.returned v∧w'.ownsRow w.heap.size 3 1 v (r.list K x).length (ints (r.list K x))∧Below w.heap.size w w'):=refList h hwf hK x.1 x.2.1 x.2.2 hxo.1 hxo.2.1 hxo.2.2.1 hxo.2.2.2 ht
  have hll:=listR_len (how:=x.2.1) (what:=x.2.2) hwf hxo.1 hxo.2.1
  have hll':(r.list K x).length≤300:=by show (listR r K x.1 x.2.1 x.2.2).length≤300;omega
  have e1:((i+1:Nat):Int)=(i:Int)+1:=by omega
  have ib:(i:Int)<(r.wl.length:Int):=by omega
  have n1:¬ (i:Int)+1<1:=by omega
  have n2:¬ ((r.wl.length:Nat):Int)<(i:Int)+1:=by omega
  rw [e1]
  have HE1:Hid (((i+1:Nat):Int)=(i:Int)+1):=e1
  clear h hwf hK hl hx hxo ht hll e1 g1 hwv
  generalize x.1=q0 at *
  go_enter Tryz.func103, Tryz.ntmps103
  go_wp2_with fail
  refine Calls.mono HLi.out ?_
  rintro e w2 ⟨v,rfl,hv,hb⟩
  obtain ⟨va,vc,hvv,hnu⟩:=nums_form hv rfl
  subst hvv
  have HB:Hid (Below w.heap.size w w2):=hb
  have HNU:Hid _:=hnu
  clear hv hb hnu
  by_cases hj0:j<0
  ·have hj0':decide (j<0)=true:=by simpa using hj0
   have HR:Hid (itemF (r.list K x) j=0):=by show itemF (r.list K x) j=0;unfold itemF;rw [if_pos hj0]
   go_wp2_with fail
   go_ret2
   exact .inr ⟨i,x,HE1.out.symm,HX.out,by rw [HR.out];rfl,HB.out⟩
  ·obtain ⟨jj,rfl⟩:=Int.eq_ofNat_of_zero_le (show 0≤j by omega)
   have hj0':¬ (jj:Int)<0:=by omega
   by_cases hjl:jj<(r.list K x).length
   ·have hjl':¬ ((r.list K x).length:Int)≤(jj:Int):=by omega
    have HR:Hid (itemF (r.list K x) jj=(r.list K x).getD jj 0):=by show itemF (r.list K x) jj=_;unfold itemF;rw [if_neg (by omega),Int.toNat_natCast]
    rcases HNU.out with h0 | ⟨g,rfl,hgs,hc⟩
    ·omega
    have c2:=hc jj hjl
    have hjl2:(jj:Int)<((r.list K x).length:Int):=by omega
    clear hc
    generalize (r.list K x).getD jj 0=y at *
    go_wp2_with fail
    go_ret2
    exact .inr ⟨i,x,HE1.out.symm,HX.out,by rw [HR.out];rfl,HB.out⟩
   ·have hjl':((r.list K x).length:Int)≤(jj:Int):=by omega
    have HR:Hid (itemF (r.list K x) jj=0):=by show itemF (r.list K x) jj=0;unfold itemF;rw [if_neg (by omega),Int.toNat_natCast,List.getD_eq_getElem?_getD,List.getElem?_eq_none (by omega)];rfl
    go_wp2_with fail
    go_ret2
    exact .inr ⟨i,x,HE1.out.symm,HX.out,by rw [HR.out];rfl,HB.out⟩
end
open Go.RowKit Go.Shelf Gv
def namR (r:Rx) (name:ByteArray) (y:Nat):Bool:=decide (r.kn y=2) && (hasV (atOf (r.ats y) strId) name || hasV (atOf (r.ats y) strName) name)
def NamedPost (w:World) (r:Rx) (K:Nat→List Nat) (n:Int) (name:ByteArray) (e:Ending) (w':World):Prop :=
 ((n<1∨((r.wl.length:Nat):Int)<n)∧e=.returned (.tuple #[.int .i64 0,.int .i64 10])∧w'=w)∨∃ (i:Nat) (x:Wat),n=((i+1:Nat):Int)∧r.wl[i]?=some x∧e=.returned (.tuple #[.int .i64 (((r.list K x).find? (namR r name)).getD 0:Nat),.int .i64 0])∧Below w.heap.size w w'
theorem NamedPost.mk' {w w':World} {r:Rx} {K:Nat→List Nat} {i y:Nat} {x:Wat} {name:ByteArray} {l:List Nat} (he:((i+1:Nat):Int)=(i:Int)+1) (hx:r.wl[i]?=some x) (hl:l=r.list K x) (hf:l.find? (namR r name)=some y) (hb:Below w.heap.size w w'):NamedPost w r K ((i:Int)+1) name (.returned (.tuple #[.int .i64 (y:Nat),.int .i64 0])) w' :=
 .inr ⟨i,x,he.symm,hx,by rw [← hl,hf];rfl,hb⟩
theorem NamedPost.none' {w w':World} {r:Rx} {K:Nat→List Nat} {i:Nat} {x:Wat} {name:ByteArray} {l:List Nat} (he:((i+1:Nat):Int)=(i:Int)+1) (hx:r.wl[i]?=some x) (hl:l=r.list K x) (hf:l.find? (namR r name)=none) (hb:Below w.heap.size w w'):NamedPost w r K ((i:Int)+1) name (.returned (.tuple #[.int .i64 0,.int .i64 0])) w' :=
 .inr ⟨i,x,he.symm,hx,by rw [← hl,hf];rfl,hb⟩
section
variable {w w' W:World} {r:Rx} {s:Fo} {K:Nat→List Nat}
theorem refNamed (h:RefOK w r) (hwf:WF r.N s K) (hK:r.K=K) (hl:ListsOK r) (n:Int) (name:ByteArray) :
  Calls Tryz.prog 104 #[.pointer (some ⟨r.rb,0,none⟩),.int .i64 n,.string name] w (NamedPost w r K n name):=by
 have HH:Hid (RefOK w r):=h
 have HW:Hid (WF r.N s K):=hwf
 have HK:Hid (r.K=K):=hK
 have HL:Hid (ListsOK r):=hl
 have hwf50:=h.wfew
 obtain ⟨wa,wc,hwv,_,_⟩:=rowForm h.wat
 have g1:w.cell? ⟨r.rb,1,none⟩=some (.slice wa r.wl.length wc):=by rw [← hwv];exact h.c1
 rcases thing_cases n r.wl.length with hn | ⟨i,hi,rfl⟩
 ·have HN:Hid (n<1∨((r.wl.length:Nat):Int)<n):=hn
  by_cases hn1:n<1
  ·have hn1':decide (n<1)=true:=by simpa using hn1
   clear h hwf hK hl hn hwv
   go_enter Tryz.func104, Tryz.ntmps104
   go_wp2_with fail
   go_ret2
   exact .inl ⟨HN.out,rfl,rfl⟩
  ·have hn2:((r.wl.length:Nat):Int)<n:=by omega
   clear h hwf hK hl hn hwv
   go_enter Tryz.func104, Tryz.ntmps104
   go_wp2_with fail
   go_ret2
   exact .inl ⟨HN.out,rfl,rfl⟩
 ·obtain ⟨x,hx⟩:∃ x,r.wl[i]?=some x:=⟨_,List.getElem?_eq_getElem hi⟩
  obtain ⟨wg,wc',c1,x0,x1,x2⟩:=h.watch hx
  have HX:Hid (r.wl[i]?=some x):=hx
  have hxo:=hl.wat x (List.mem_of_getElem? hx)
  have hN:=h.hN
  have ht:=hl.cls
  have HLi:Hid (Calls Tryz.prog 117 #[.pointer (some ⟨r.rb,0,none⟩),.agg #[.int .i64 x.1,.int .i64 x.2.1,.string x.2.2]] w fun e w'=>∃ v,e=.returned v∧w'.ownsRow w.heap.size 3 1 v (r.list K x).length (ints (r.list K x))∧Below w.heap.size w w'):=refList h hwf hK x.1 x.2.1 x.2.2 hxo.1 hxo.2.1 hxo.2.2.1 hxo.2.2.2 ht
  have HI:Hid (∀ y,y∈r.list K x→1≤y∧y≤r.N):=fun y hy=>tail_in hwf hxo.1 hxo.2.1 (List.mem_filter.1 hy).1
  have hll:=listR_len (how:=x.2.1) (what:=x.2.2) hwf hxo.1 hxo.2.1
  have hll':(r.list K x).length≤300:=by show (listR r K x.1 x.2.1 x.2.2).length≤300;omega
  have e1:((i+1:Nat):Int)=(i:Int)+1:=by omega
  have ib:(i:Int)<(r.wl.length:Int):=by omega
  have n1:¬ (i:Int)+1<1:=by omega
  have n2:¬ ((r.wl.length:Nat):Int)<(i:Int)+1:=by omega
  rw [e1]
  have HE1:Hid (((i+1:Nat):Int)=(i:Int)+1):=e1
  clear h hwf hK hl hx hxo ht hll e1 g1 hwv
  generalize x.1=q0 at *
  go_enter Tryz.func104, Tryz.ntmps104
  go_wp2_with fail
  refine Calls.mono HLi.out ?_
  rintro e w2 ⟨v,rfl,hv,hb⟩
  obtain ⟨ao,cap,hvv,hnum⟩:=nums_form hv rfl
  subst hvv
  have HNU:Hid _:=hnum
  have HB2:Hid (Below w.heap.size w w2):=hb
  have R2:Hid (RefOK w2 r):=HH.out.since hb
  obtain ⟨L,hLe⟩:∃ L,L=r.N+1:=⟨_,rfl⟩
  have HLe:Hid (L=r.N+1):=hLe
  have hL3:L≤301:=by omega
  obtain ⟨l,hl⟩:∃ l,l=r.list K x:=⟨_,rfl⟩
  have HLL:Hid (l=r.list K x):=hl
  rw [← hl] at HNU HI hll' ⊢
  clear hv hb hnum hl hLe
  go_wp2_with fail
  go_loopw [9] (fun i wr=>∃ k:Nat,k≤l.length∧i=.int .i64 k∧Below w2.heap.size w2 wr∧∀ y,y∈l.take k→namR r name y=false) (fun i _=>l.length-(intOf i).toNat)
  case atStart=>exact ⟨0,Nat.zero_le _,rfl,Below.refl _ _,by simp⟩
  case round =>
   obtain ⟨k,hkl,rfl,hb3,hno⟩:=hrel
   obtain ⟨w3,rfl⟩:∃ w3:World,w3=wr:=⟨_,rfl⟩
   have HB3:Hid (Below w2.heap.size w2 w3):=hb3
   have HNO:Hid (∀ y,y∈l.take k→namR r name y=false):=hno
   clear hb3 hno
   by_cases hlt:k<l.length
   ·rcases HNU.out with h0 | ⟨g,rfl,hgs,hc⟩
    ·omega
    have hs3:=HB3.out.size
    have hmem:l.getD k 0∈l:=by rw [List.getD_eq_getElem?_getD,List.getElem?_eq_getElem hlt];exact List.getElem_mem _
    have hy:=HI.out _ hmem
    have c1:w3.cell? ⟨g,k,none⟩=some (.int .i64 (l.getD k 0:Nat)):=(HB3.out.cell (p:=⟨g,k,none⟩) hgs).trans (hc k hlt)
    have HT:Hid (l.take (k+1)=l.take k++[l.getD k 0]):=by
     show l.take (k+1)=_
     rw [List.take_add_one,List.getD_eq_getElem?_getD,List.getElem?_eq_getElem hlt];rfl
    have HFN:Hid (namR r name (l.getD k 0)=true→l.find? (namR r name)=some (l.getD k 0)):=fun e=>take_find hlt HNO.out e
    have R3:Hid (RefOK w3 r):=R2.out.since HB3.out
    have g3:w3.cell? ⟨r.rb,0,none⟩=some (.slice (some ⟨r.rn,0,none⟩) L r.cap):=by rw [HLe.out];exact R3.out.c0
    generalize hyy:l.getD k 0=y at *
    obtain ⟨aa,ac,ka,kc,n0,n1,n2,n3,n4,hat⟩:=R3.out.node hy.2
    have HAT:Hid (w3.ownsRow 0 199 2 (.slice aa (r.ats y).length ac) (r.ats y).length ((r.ats y).flatMap arow)):=hat
    have HT4:Hid ((r.ats y).length≤4000001):=by have h4:=R3.out.afew y hy.2;have h5:=R3.out.hT;show (r.ats y).length≤4000001;omega
    have hyL:(y:Int)<(L:Int):=by have:=HLe.out;omega
    have ib2:(k:Int)<(l.length:Int):=by omega
    have hg3:g<w3.heap.size:=by omega
    have x1:=World.new_ne w3 ⟨r.rb,0,none⟩ g3
    have x2:=World.new_ne w3 ⟨r.rn,y*5,none⟩ n0
    have x3:=World.new_ne w3 ⟨g,k,none⟩ c1
    have HNA:Hid (namR r name y=(decide (r.kn y=2) && (hasV (atOf (r.ats y) strId) name || hasV (atOf (r.ats y) strName) name))):=rfl
    clear hc hmem hat hyy
    generalize r.kn y=km at *
    generalize r.tag y=tm at *
    generalize r.par y=pm at *
    generalize (r.K y).length=kq at *
    go_wp2_with fail
    go_region_held3 (fun wx=>wx.cell? ⟨r.rb,0,none⟩=some (.slice (some ⟨r.rn,0,none⟩) L r.cap)∧wx.cell? ⟨g,k,none⟩=some (.int .i64 y)∧wx.cell? ⟨r.rn,y*5,none⟩=some (.int .i64 km)∧wx.cell? ⟨r.rn,y*5+1,none⟩=some (.string tm)∧wx.cell? ⟨r.rn,y*5+2,none⟩=some (.slice aa (r.ats y).length ac)∧wx.cell? ⟨r.rn,y*5+3,none⟩=some (.int .i64 pm)∧wx.cell? ⟨r.rn,y*5+4,none⟩=some (.slice ka kq kc)) (first | exact ⟨g3,c1,n0,n1,n2,n3,n4⟩ | go_keep) (fail)
    have HB4:Hid (Below w3.heap.size w3 (w3.alloc (.cells #[.int .i64 km,.string tm,.slice aa (r.ats y).length ac,.int .i64 pm,.slice ka kq kc] 150)).drew):=((Below.refl _ w3).alloc (Nat.le_refl _) _).drew
    have hob4:(w3.alloc (.cells #[.int .i64 km,.string tm,.slice aa (r.ats y).length ac,.int .i64 pm,.slice ka kq kc] 150)).drew.heap[w3.heap.size]?=some (.cells #[.int .i64 km,.string tm,.slice aa (r.ats y).length ac,.int .i64 pm,.slice ka kq kc] 150 (0,0)):=heap_alloc_new w3 (.cells #[.int .i64 km,.string tm,.slice aa (r.ats y).length ac,.int .i64 pm,.slice ka kq kc] 150)
    have hs4:(w3.alloc (.cells #[.int .i64 km,.string tm,.slice aa (r.ats y).length ac,.int .i64 pm,.slice ka kq kc] 150)).drew.heap.size=w3.heap.size+1:=by show (w3.alloc _).heap.size=_;simp
    have HAT4:Hid ((w3.alloc (.cells #[.int .i64 km,.string tm,.slice aa (r.ats y).length ac,.int .i64 pm,.slice ka kq kc] 150)).drew.ownsRow 0 199 2 (.slice aa (r.ats y).length ac) (r.ats y).length ((r.ats y).flatMap arow)):=row_keep HAT.out (fun b hb=>HB4.out.block b (HAT.out.lt b hb).2)
    have q0:=cells_of hob4 0
    have q1:=cells_of hob4 1
    have q2:=cells_of hob4 2
    have q3:=cells_of hob4 3
    have q4:=cells_of hob4 4
    have HOB4:Hid ((w3.alloc (.cells #[.int .i64 km,.string tm,.slice aa (r.ats y).length ac,.int .i64 pm,.slice ka kq kc] 150)).drew.heap[w3.heap.size]?=some (.cells #[.int .i64 km,.string tm,.slice aa (r.ats y).length ac,.int .i64 pm,.slice ka kq kc] 150 (0,0))):=hob4
    clear n0 n1 n2 n3 n4 g3 x1 x2 x3 hob4
    obtain ⟨w4,hw4⟩:∃ w4,w4=(w3.alloc (.cells #[.int .i64 km,.string tm,.slice aa (r.ats y).length ac,.int .i64 pm,.slice ka kq kc] 150)).drew:=⟨_,rfl⟩
    rw [← hw4] at HB4 hs4 HAT4 q0 q1 q2 q3 q4 HOB4 ⊢
    clear hw4
    generalize hlq:(r.ats y).length=lq at *
    obtain ⟨nb,hnb⟩:∃ z,z=w3.heap.size:=⟨_,rfl⟩
    have HNB:Hid (nb=w3.heap.size):=hnb
    rw [← hnb] at HOB4 q0 q1 q2 q3 q4 hs4 ⊢
    clear hnb
    have HLQ:Hid ((r.ats y).length=lq):=hlq
    clear hlq
    go_wp2_with fail
    refine (refHas (D:=0) km tm (.slice aa lq ac) pm ka kq kc (r.ats y) strId name (by rw [HLQ.out];exact HAT4.out) (by rw [HLQ.out];exact HT4.out)).mono ?_
    rintro e w5 ⟨rfl,hb5⟩
    have hob5:w5.heap[nb]?=some (.cells #[.int .i64 km,.string tm,.slice aa lq ac,.int .i64 pm,.slice ka kq kc] 150 (0,0)):=(hb5.block nb (by omega)).trans HOB4.out
    have HOB5:Hid (w5.heap[nb]?=some (.cells #[.int .i64 km,.string tm,.slice aa lq ac,.int .i64 pm,.slice ka kq kc] 150 (0,0))):=hob5
    have HB5:Hid (Below w3.heap.size w3 w5):=HB4.out.trans (hb5.mono HB4.out.size)
    have hs5:=hb5.size
    have HAT5:Hid (w5.ownsRow 0 199 2 (.slice aa lq ac) lq ((r.ats y).flatMap arow)):=row_keep HAT4.out (fun b hb=>hb5.block b (HAT4.out.lt b hb).2)
    have p0:=cells_of hob5 0
    have p1:=cells_of hob5 1
    have p2:=cells_of hob5 2
    have p3:=cells_of hob5 3
    have p4:=cells_of hob5 4
    clear hob5 hb5 q0 q1 q2 q3 q4
    generalize hasV (atOf (r.ats y) strId) name=ba at *
    go_wp2_with fail
    refine (refHas (D:=0) km tm (.slice aa lq ac) pm ka kq kc (r.ats y) strName name (by rw [HLQ.out];exact HAT5.out) (by rw [HLQ.out];exact HT4.out)).mono ?_
    rintro e w6 ⟨rfl,hb6⟩
    have hob6:w6.heap[nb]?=some (.cells #[.int .i64 km,.string tm,.slice aa lq ac,.int .i64 pm,.slice ka kq kc] 150 (0,0)):=(hb6.block nb (by omega)).trans HOB5.out
    have HB6:Hid (Below w3.heap.size w3 w6):=HB5.out.trans (hb6.mono HB5.out.size)
    have s0:=cells_of hob6 0
    have c6:w6.cell? ⟨g,k,none⟩=some (.int .i64 y):=(HB6.out.cell (p:=⟨g,k,none⟩) hg3).trans c1
    clear hob6 hb6 p0 p1 p2 p3 p4 c1
    generalize hasV (atOf (r.ats y) strName) name=bb at *
    have HBW:Hid (Below w.heap.size w w6):=HB2.out.trans ((HB3.out.trans (HB6.out.mono hs3)).mono HB2.out.size)
    have HB7:Hid (Below w2.heap.size w2 w6):=HB3.out.trans (HB6.out.mono hs3)
    by_cases k2:km=2
    ·have k2':((km:Int) == 2)=true:=by simp;omega
     cases ba with
     | true =>
      have HR:Hid (l.find? (namR r name)=some y):=HFN.out (by rw [HNA.out];simp [k2])
      go_wp2_with fail
      go_ret2
      exact NamedPost.mk' HE1.out HX.out HLL.out HR.out HBW.out
     | false =>
      cases bb with
      | true =>
       have HR:Hid (l.find? (namR r name)=some y):=HFN.out (by rw [HNA.out];simp [k2])
       go_wp2_with fail
       go_ret2
       exact NamedPost.mk' HE1.out HX.out HLL.out HR.out HBW.out
      | false =>
       have HR:Hid (namR r name y=false):=by show namR r name y=false;rw [HNA.out];simp
       go_wp2_with fail
       go_roundw
       case rel=>exact ⟨k+1,hlt,by go_num,HB7.out,by rw [HT.out];intro z hz;rcases mem_snoc hz with hz | rfl;(exact HNO.out z hz);(exact HR.out)⟩
       case measure=>simp [intOf];omega
    ·have k2':((km:Int) == 2)=false:=by simp;omega
     have HR:Hid (namR r name y=false):=by show namR r name y=false;rw [HNA.out];simp [k2]
     go_wp2_with fail
     go_roundw
     case rel=>exact ⟨k+1,hlt,by go_num,HB7.out,by rw [HT.out];intro z hz;rcases mem_snoc hz with hz | rfl;(exact HNO.out z hz);(exact HR.out)⟩
     case measure=>simp [intOf];omega
   ·have ib2:¬ (k:Int)<(l.length:Int):=by omega
    have HR:Hid (l.find? (namR r name)=none):=find_not (fun y hy=>HNO.out y (by rw [List.take_of_length_le (by omega)];exact hy))
    have HBW:Hid (Below w.heap.size w w3):=HB2.out.trans (HB3.out.mono HB2.out.size)
    go_wp2_with fail
    go_ret2
    exact NamedPost.none' HE1.out HX.out HLL.out HR.out HBW.out
end
end Go.Proofs.YtcedebpoihcbdaaGreatDoor
