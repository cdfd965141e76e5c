/-
  The law's step on the trees: Kids, twice, and the document's; both lists that came out are laid by.
-/
import Derived.Test.YtcedebpoihcbdaaGreatDoorD3
set_option linter.unusedVariables false
set_option maxHeartbeats 2000000
set_option maxRecDepth 100000
namespace Go.Proofs.YtcedebpoihcbdaaGreatDoor
open Go.RowKit Go.Shelf Gv
section
variable {W W1 W2 W3:World} {D wb last c k:Nat} {l:La} {g g':Gx} {r r':Rx}
theorem twoKids (h:Twin W D c g r) (n:Int):∃ (ks:List Nat) (q:Int),ks.length≤300 ∧
  (∀ w,GOK D w g→Calls Tryz.prog 50 #[.pointer (some ⟨g.gb,0,none⟩),.int .i64 n] w fun e w'=>Below w.heap.size w w'∧∃ v,e=.returned (.tuple #[v,.int .i64 q])∧w'.ownsRow w.heap.size 3 1 v ks.length (ints ks)) ∧
  (∀ w,RefOK w r→Calls Tryz.prog 94 #[.pointer (some ⟨r.rb,0,none⟩),.int .i64 n] w fun e w'=>w'=w∧∃ v,e=.returned (.tuple #[v,.int .i64 q])∧w.ownsRow 0 3 1 v ks.length (ints ks)):=by
 cases hb:hasB (g.N+1) n with
 | false =>
  refine ⟨[],5,by simp,fun w hw=>(kidsX hw n).mono ?_,fun w hw=>(refKids hw n).mono ?_⟩
  ·rintro e w' ⟨h1,⟨_,rfl⟩ | ⟨m,rfl,h2,h3,_⟩⟩
   ·exact ⟨h1,_,rfl,World.ownsRow_nil _ _ _ _⟩
   ·rw [hasB_nat h2 h3] at hb;cases hb
  ·rintro e w' ⟨rfl,⟨h2,_⟩ | ⟨_,rfl⟩⟩
   ·rw [h.N,hb] at h2;cases h2
   ·exact ⟨rfl,_,rfl,World.ownsRow_nil _ _ _ _⟩
 | true =>
  obtain ⟨m,rfl,h1,hN⟩:=has_nat hb
  refine ⟨g.σ.K m,0,by have:=h.gok.wf.few m;have:=h.gok.N3;omega,fun w hw=>(kidsX hw m).mono ?_,fun w hw=>(refKids hw m).mono ?_⟩
  ·rintro e w' ⟨h1,⟨h2,_⟩ | ⟨m',e1,h2,h3,v,rfl,hv⟩⟩
   ·rw [hb] at h2;cases h2
   ·obtain rfl:m=m':=by omega
    exact ⟨h1,v,rfl,hv⟩
  ·rintro e w' ⟨rfl,⟨_,rfl⟩ | ⟨h2,_⟩⟩
   ·refine ⟨rfl,_,rfl,?_⟩
    have:=hw.kids m (by rw [h.N];exact hN)
    rw [h.K] at this
    rw [Int.toNat_natCast]
    exact this
   ·rw [h.N,hb] at h2;cases h2
theorem ints_step {v uv:Value} {ks:List Nat} {wv' ev':Value} (h:LInv W D wb last c l) (hH:HInv W1 D wb l.gsv l.rsv l.n l.iv wv' ev' l.es (l.ws++[(v,uv,ks)])) (hF:Fr (LW wb l.iv l.wv l.ev l.ws) W W1) (hO:∀ b,LOwn wb l.iv wv' ev' l.es (l.ws++[(v,uv,ks)]) b→LOwn wb l.iv l.wv l.ev l.es l.ws b∨v.ownBlock=some b∨W.heap.size≤b)
  (hv:∀ b,v.ownBlock=some b→l.col b=0∧b<W.heap.size) :
  LInv W1 D wb last (c+1) { l with wv:=wv',ev:=ev',ws:=l.ws++[(v,uv,ks)],col:=Go.Proofs.YtcedebpoihcbdaaGreatDoor.recol W l.col 0 }∧Below D W W1:=by
 refine h.law hH (h.q.keep (fun b hb _=>hF.block b (h.q.lt hb) (h.q.apart h.h b hb)) hF.size) hF (fun b hb=>?_) (by have:=h.few;rw [List.length_append];simp;omega) (by omega)
 rcases hO b hb with e | e | e
 ·exact .inl (.inl e)
 ·exact .inr (.inl (hv b e))
 ·exact .inr (.inr e)
theorem treeKids (h:LInv W D wb last c l) (hk:k<l.gs.length) (hk2:l.gs.length≤1000000000000) (hc:c≤100000000000) (a b' c' g':Int) (s t:ByteArray) (ra:Option Addr) (rn rc:Nat) (y:Bool) :
  Calls Tryz.prog 59 #[.pointer (some ⟨wb,0,none⟩),.int .i64 k,.agg #[.int .i64 5,.int .i64 a,.int .i64 b',.int .i64 c',.int .i64 g',.string s,.string t,.slice ra rn rc,.bool y]] W (StepPost W D wb last c l):=by
 have HD:=h.lowD
 have hB1:Below W.heap.size W (W.alloc (.cells #[.int .i64 5,.int .i64 a,.int .i64 b',.int .i64 c',.int .i64 g',.string s,.string t,.slice ra rn rc,.bool y] 59)):=(Below.refl _ _).alloc (Nat.le_refl _) _
 have H1:Hid (LInv _ D wb last c _):=h.made hB1
 have hob:(W.alloc (.cells #[.int .i64 5,.int .i64 a,.int .i64 b',.int .i64 c',.int .i64 g',.string s,.string t,.slice ra rn rc,.bool y] 59)).heap[W.heap.size]?=some (.cells #[.int .i64 5,.int .i64 a,.int .i64 b',.int .i64 c',.int .i64 g',.string s,.string t,.slice ra rn rc,.bool y] 59 (0,0)):=heap_alloc_new W _
 obtain ⟨g,r,gg,gc,rg,rc',hg,hr,c0,c1,cg,cr⟩:=H1.out.open hk
 have o0:=cells_of hob 0
 have o1:=cells_of hob 1
 have hsz:(W.alloc (.cells #[.int .i64 5,.int .i64 a,.int .i64 b',.int .i64 c',.int .i64 g',.string s,.string t,.slice ra rn rc,.bool y] 59)).heap.size=W.heap.size+1:=by simp
 have HT1:=H1.out.tw k g r hg hr
 obtain ⟨ks,q,hks,hK1,hK2⟩:=twoKids HT1 a
 have HK1:Hid _:=hK1
 have HK2:Hid _:=hK2
 have HGOK:Hid _:=HT1.gok
 have HROK:Hid _:=HT1.rok
 have HOB:Hid _:=hob
 have HB1:Hid _:=hB1
 have hkl:(k:Int)<(l.gs.length:Int):=by omega
 have hfew:l.n+l.ws.length≤2*c:=h.few
 clear hob hB1 hg hr h HT1 hK1 hK2
 have HSZ:Hid _:=hsz
 go_enter Tryz.func59, Tryz.ntmps59
 go_wp2_with fail
 refine (HK1.out _ HGOK.out).mono ?_
 rintro e w2 ⟨hb2,v1,rfl,hv1⟩
 obtain ⟨a1,cp1,rfl,hn1⟩:=nums_form hv1 rfl
 have hs2:=hb2.size
 have hob2:w2.heap[W.heap.size]?=_:=(hb2.block W.heap.size (by omega)).trans HOB.out
 have p1:=cells_of hob2 1
 rw [hsz] at hv1
 have HV1:Hid (w2.ownsRow (W.heap.size+1) 3 1 (.slice a1 ks.length cp1) ks.length (ints ks)):=hv1
 have HB2:Hid _:=hb2
 have HN1:Hid _:=hn1
 clear hb2 hv1 hn1 hob2
 go_wp2_with fail
 refine (HK1.out _ (HGOK.out.since HB2.out)).mono ?_
 rintro e w3 ⟨hb3,v2,rfl,hv2⟩
 obtain ⟨a2,cp2,rfl,hn2⟩:=nums_form hv2 rfl
 have hs3:=hb3.size
 have hB13:=HB2.out.trans (hb3.mono hs2)
 have hob3:w3.heap[W.heap.size]?=_:=(hB13.block W.heap.size (by omega)).trans HOB.out
 have p3:=cells_of hob3 1
 have HV2:Hid (w3.ownsRow w2.heap.size 3 1 (.slice a2 ks.length cp2) ks.length (ints ks)):=hv2
 have HB3:Hid _:=hb3
 have HB13:Hid _:=hB13
 have HN2:Hid _:=hn2
 clear hb3 hv2 hn2 hob3 hB13
 go_wp2_with fail
 refine (HK2.out _ (HROK.out.since HB13.out)).mono ?_
 rintro e w3' ⟨hw3,v3,rfl,hv3⟩
 subst hw3
 obtain ⟨a3,cp3,rfl,hn3⟩:=nums_form hv3 rfl
 have HN3:Hid _:=hn3
 clear hv3 hn3
 have hll:((ks.length:Int) == (ks.length:Int))=true:=by simp
 have hqq:(q == q)=true:=by simp
 go_wp2_with fail
 go_loopw [23,24] (fun o i wr=>∃ j:Nat,j≤ks.length∧o=.bool true∧i=.int .i64 j∧Below w3'.heap.size w3' wr) (fun _ i _=>ks.length-(intOf i).toNat)
 case atStart=>exact ⟨0,Nat.zero_le _,by simp,rfl,Below.refl _ _⟩
 case round =>
  obtain ⟨j,hj,rfl,rfl,hb4⟩:=hrel
  obtain ⟨w4,rfl⟩:∃ w4:World,w4=wr:=⟨_,rfl⟩
  have HB4:Hid (Below w3'.heap.size w3' w4):=hb4
  clear hb4
  by_cases hjl:j<ks.length
  ·rcases HN1.out with h0 | ⟨g1,rfl,hgs1,hc1⟩
   ·omega
   rcases HN2.out with h0 | ⟨g2,rfl,hgs2,hc2⟩
   ·omega
   rcases HN3.out with h0 | ⟨g3,rfl,hgs3,hc3⟩
   ·omega
   have x1:w4.cell? ⟨g1,j,none⟩=some (.int .i64 (ks.getD j 0:Nat)):=(HB4.out.cell (p:=⟨g1,j,none⟩) (Nat.lt_of_lt_of_le hgs1 hs3)).trans ((HB3.out.cell (p:=⟨g1,j,none⟩) hgs1).trans (hc1 j hjl))
   have x2:w4.cell? ⟨g2,j,none⟩=some (.int .i64 (ks.getD j 0:Nat)):=(HB4.out.cell (p:=⟨g2,j,none⟩) hgs2).trans (hc2 j hjl)
   have x3:w4.cell? ⟨g3,j,none⟩=some (.int .i64 (ks.getD j 0:Nat)):=(HB4.out.cell (p:=⟨g3,j,none⟩) hgs3).trans (hc3 j hjl)
   generalize ks.getD j 0=z at *
   have ib:(j:Int)<(ks.length:Int):=by omega
   have hzz:((z:Int) == (z:Int))=true:=by simp
   clear hc1 hc2 hc3
   go_wp2_with fail
   go_quiet (fail)
   go_wp2_with fail
   go_roundw
   case rel=>exact ⟨j+1,hjl,by simp,by go_num,below_drewN' HB4.out nq⟩
   case measure=>simp [intOf];omega
  ·have hjj:¬ (j:Int)<(ks.length:Int):=by omega
   have hB14:=HB13.out.trans (HB4.out.mono (Nat.le_trans hs2 hs3))
   have hs4:=HB4.out.size
   have H4:Hid (LInv w4 D wb last c _):=H1.out.made hB14
   have V1:Hid (w4.ownsRow D 3 1 (.slice a1 ks.length cp1) ks.length (ints ks)):=row_base (row_keep HV1.out (fun b hb=>(HB4.out.block b (Nat.lt_of_lt_of_le (HV1.out.lt b hb).2 hs3)).trans (HB3.out.block b (HV1.out.lt b hb).2))) (by omega)
   have V2:Hid (w4.ownsRow D 3 1 (.slice a2 ks.length cp2) ks.length (ints ks)):=row_base (row_keep HV2.out (fun b hb=>HB4.out.block b (HV2.out.lt b hb).2)) (by have:=HSZ.out;omega)
   have hf1:∀ b,(Value.slice a1 ks.length cp1).ownBlock=some b→(∀ x,x∈l.es→x.1.ownBlock≠some b)∧∀ x,x∈l.ws→x.1.ownBlock≠some b∧x.2.1.ownBlock≠some b:=by
    intro b hb
    have hge:=(HV1.out.lt b hb).1
    have hno:¬ LOwn wb l.iv l.wv l.ev l.es l.ws b:=fun e=>by have:=H1.out.h.bounds e;have:=HSZ.out;omega
    exact ⟨fun x hx e=>hno (LOwn.en hx e),fun x hx=>⟨fun e=>hno (LOwn.x1 hx e),fun e=>hno (LOwn.x2 hx e)⟩⟩
   have HF1:Hid _:=hf1
   clear hf1 hB14
   go_wp2_with fail
   refine (intsL H4.out.h V1.out hks HF1.out (by show l.ws.length≤_;omega)).mono ?_
   rintro e w5 ⟨rfl,wv5,ev5,uv5,hH5,hF5,hO5⟩
   have HO5:Hid _:=hO5
   have HF5:Hid _:=hF5
   have hs5:=hF5.size
   have hL5:=ints_step H4.out hH5 hF5 hO5 (fun b hb=>⟨recol_new (by rw [HSZ.out];exact (HV1.out.lt b hb).1),by have:=(V1.out.lt b hb).2;exact this⟩)
   have H5:Hid _:=hL5
   have V2':Hid (w5.ownsRow D 3 1 (.slice a2 ks.length cp2) ks.length (ints ks)):=row_keep V2.out (fun b hb=>HF5.out.block b (V2.out.lt b hb).2 (fun e=>by
    have h1:=H1.out.h.bounds (.inl e)
    have h3:=HSZ.out
    have h2:=(HV2.out.lt b hb).1
    omega))
   have hf2:∀ b,(Value.slice a2 ks.length cp2).ownBlock=some b→(∀ x,x∈l.es→x.1.ownBlock≠some b)∧∀ x,x∈l.ws++[(Value.slice a1 ks.length cp1,uv5,ks)]→x.1.ownBlock≠some b∧x.2.1.ownBlock≠some b:=by
    intro b hb
    have hge:=(HV2.out.lt b hb).1
    have hlt:=(HV2.out.lt b hb).2
    have hno:¬ LOwn wb l.iv wv5 ev5 l.es (l.ws++[(Value.slice a1 ks.length cp1,uv5,ks)]) b:=fun e=>by
     rcases HO5.out b e with e | e | e
     ·have:=H1.out.h.bounds e;have:=HSZ.out;omega
     ·have:=(HV1.out.lt b e).2;omega
     ·omega
    exact ⟨fun x hx e=>hno (LOwn.en hx e),fun x hx=>⟨fun e=>hno (LOwn.x1 hx e),fun e=>hno (LOwn.x2 hx e)⟩⟩
   have HF2:Hid _:=hf2
   clear hf2 hH5 hF5 hO5 hL5
   go_wp2_with fail
   refine (intsL H5.out.1.h V2'.out hks HF2.out (by show (l.ws++[_]).length≤_;simp;omega)).mono ?_
   rintro e w6 ⟨rfl,wv6,ev6,uv6,hH6,hF6,hO6⟩
   have hL6:=ints_step H5.out.1 hH6 hF6 hO6 (fun b hb=>⟨by
    have h1:=(HV2.out.lt b hb).1
    have h2:=(HV2.out.lt b hb).2
    show recol w4 (recol _ _ 0) 0 b=0
    rw [recol_old (by omega)]
    exact recol_new (by have:=HSZ.out;omega),by have:=(V2'.out.lt b hb).2;exact this⟩)
   have HEND:Hid (StepLaw W D wb last c l w6) :=
    ⟨_,hL6.1,rfl,rfl,rfl,(((HB1.out.trans ((HB13.out.trans (HB4.out.mono (Nat.le_trans hs2 hs3))).mono (by rw [HSZ.out];omega))).mono HD).trans H5.out.2).trans hL6.2⟩
   clear hH6 hF6 hO6 hL6
   go_wp2_with fail
   refine (numL q w6).mono ?_
   rintro e w7 ⟨rfl,rfl⟩
   go_wp2_with fail
   refine (numL q w7).mono ?_
   rintro e w8 ⟨rfl,rfl⟩
   go_wp2_with fail
   go_ret
   exact ⟨rfl,HEND.out⟩
end
end Go.Proofs.YtcedebpoihcbdaaGreatDoor
