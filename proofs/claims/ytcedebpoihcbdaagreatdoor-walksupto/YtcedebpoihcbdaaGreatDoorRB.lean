/-
  The document's own answer: what its Take does.
  The document's own answer: what its New and Make do.
  The document's own answer: what its New does.
  The document's own answer: what its Put refuses.
-/
import Derived.Test.YtcedebpoihcbdaaGreatDoorRA
import Derived.Deep.CutBlock
import Derived.Deep.DeepCutAuto
set_option linter.unusedVariables false
set_option maxHeartbeats 1000000
set_option maxRecDepth 100000
namespace Go.Proofs.YtcedebpoihcbdaaGreatDoor
open Go.RowKit Gv
theorem nums_take {xs ys:List Nat} (j:Nat) (u:Value) (hj:(ints xs)[j]?=some u):(ints (xs++ys))[j]?=some u:=by
 simp only [ints,List.getElem?_map] at hj ⊢
 by_cases h:j<xs.length
 ·rw [List.getElem?_append_left h];exact hj
 ·rw [List.getElem?_eq_none (by omega)] at hj;simp at hj
theorem nums_drop {xs ys:List Nat} (j:Nat) (u:Value) (hj:(ints ys)[j]?=some u):(ints (xs++ys))[xs.length+j]?=some u:=by
 simp only [ints,List.getElem?_map] at hj ⊢
 rw [List.getElem?_append_right (by omega),Nat.add_sub_cancel_left];exact hj
theorem nums_append (xs ys:List Nat):ints xs++ints ys=ints (xs++ys):=by simp [ints]
theorem at_add (g o j:Nat):(⟨g,o,none⟩:Addr).add j=⟨g,o+j,none⟩:=by unfold Addr.add;split <;> simp_all
theorem piece {w:World} {g n:Nat} {l xs ys zs:List Nat} (hc:∀ j,j<n→w.cell? ⟨g,j,none⟩=(ints l)[j]?) (hn:n=l.length) (hl:l=xs++(ys++zs)):∀ j u,(ints ys)[j]?=some u→w.cell? ((⟨g,xs.length,none⟩:Addr).add j)=some u:=by
 intro j u hj
 rw [at_add]
 have hjy:j<ys.length:=by
  have:=(List.getElem?_eq_some_iff.1 hj).1
  simpa [ints] using this
 rw [hc _ (by rw [hn,hl];simp;omega),hl]
 exact nums_drop j u (nums_take j u hj)
theorem idx_at {xs ys:List Nat} {m k:Nat} (h1:m ∉ xs) (h2:m ∉ ys) (h:(xs++m :: ys)[k]?=some m):k=xs.length:=by
 rcases Nat.lt_trichotomy k xs.length with hk | hk | hk
 ·rw [List.getElem?_append_left hk] at h
  exact absurd (List.mem_of_getElem? h) h1
 ·exact hk
 ·rw [List.getElem?_append_right (by omega)] at h
  have e:k-xs.length=(k-xs.length-1)+1:=by omega
  rw [e,List.getElem?_cons_succ] at h
  exact absurd (List.mem_of_getElem? h) h2
section
variable {w w':World} {r:Rx} {s:Fo} {K:Nat→List Nat}
def Rx.took (r:Rx) (s:Fo) (K:Nat→List Nat) (m:Nat) (nv:Value):Rx:={ r with par:=(s.remove m).par,kv:=up r.kv (s.par m) nv,K:=dropK K m,il:=r.il.map (It.leave r.N s m) }
theorem take_end {W w4:World} {m:Nat} {nv:Value} {xs ys:List Nat} (h:RefOK W { r with il:=r.il.map (It.leave r.N s m) }) (hp:r.par=s.par) (hK:r.K=K) (hwf:WF r.N s K) (hF:Fr r.own w W) (hm1:1≤m) (hm:m≤r.N) (h0:s.par m≠0) (hKp:K (s.par m)=xs++m :: ys)
  (hb:Below W.heap.size W w4) (hv:w4.ownsRow W.heap.size 3 1 nv (xs++ys).length (ints (xs++ys))) (hl:(xs++ys).length≤300) :
  RPost w ((w4.setCell ⟨r.rn,s.par m*5+4,none⟩ nv).setCell ⟨r.rn,m*5+3,none⟩ (.int .i64 0)) r (r.took s K m nv):=by
 have hpL:s.par m≤r.N:=hwf.parLe m hm
 have h5:=(h.since hb).putKids (i:=s.par m) hpL (row_base hv (Nat.zero_le _)) hl
 have h6:=h5.putPar (i:=m) 0 hm
 have e1:up r.par m 0=(s.remove m).par:=by rw [hp];rfl
 have e2:up r.K (s.par m) (xs++ys)=dropK K m:=by rw [hK,drop_kid hwf hKp]
 have h7:RefOK ((w4.setCell ⟨r.rn,s.par m*5+4,none⟩ nv).setCell ⟨r.rn,m*5+3,none⟩ (.int .i64 0)) (r.took s K m nv):=by
  have e3:r.took s K m nv={ r with par:=up r.par m 0,kv:=up r.kv (s.par m) nv,K:=up r.K (s.par m) (xs++ys),il:=r.il.map (It.leave r.N s m) }:=by rw [e1,e2];rfl
  rw [e3]
  exact h6
 refine ⟨h7,?_,fun i hi=>?_,rfl⟩
 ·have f1:Fr r.own w w4:=hF.trans (Fr.of_below hb)
  exact (f1.setCell (p:=⟨r.rn,s.par m*5+4,none⟩) Rx.own_n _).setCell (p:=⟨r.rn,m*5+3,none⟩) Rx.own_n _
 ·rcases hi with h | h | ⟨j,hj,h⟩ | h | h | h | h | ⟨x,hx,h⟩ | h
  ·exact .inl (.inl h)
  ·exact .inl (.inr (.inl h))
  ·have h':(up r.kv (s.par m) nv j).ownBlock=some i:=h
   by_cases ej:j=s.par m
   ·subst ej
    rw [up_same] at h'
    exact .inr (Nat.le_trans hF.size (hv.lt i h').1)
   ·rw [up_other _ _ _ ej] at h'
    exact .inl (Rx.own_k hj h')
  ·exact .inl (.inr (.inr (.inr (.inl h))))
  ·exact .inl (Rx.own_w h)
  ·exact .inl (Rx.own_i h)
  ·exact .inl (Rx.own_q h)
  ·obtain ⟨y,hy,rfl⟩:=List.mem_map.1 hx
   exact .inl (Rx.own_ir hy h)
  ·exact .inl (.inr (.inr (.inr (.inr (.inr (.inr (.inr (.inr h))))))))
theorem refTakeOk (h:RefOK w r) (hp:r.par=s.par) (hK:r.K=K) (hwf:WF r.N s K) (hs:∀ x,x∈r.il→x.Sound r.N s) (m:Nat) (h1:1≤m) (hm:m≤r.N) (h0:s.par m≠0) :
  Calls Tryz.prog 93 #[.pointer (some ⟨r.rb,0,none⟩),.int .i64 m] w fun e w'=>e=.returned (.int .i64 0)∧∃ nv,RPost w w' r (r.took s K m nv):=by
 have HH:Hid (RefOK w r):=h
 have HP:Hid (r.par=s.par):=hp
 have HK:Hid (r.K=K):=hK
 have HW:Hid (WF r.N s K):=hwf
 have HS:Hid (∀ x,x∈r.il→x.Sound r.N s):=hs
 have hN:=h.hN
 obtain ⟨xs,ys,hKp⟩:=split_of_mem (hwf.own m h1 hm h0)
 have hnd:=hwf.nd (s.par m)
 rw [hKp] at hnd
 have HND:Hid (m ∉ xs∧m ∉ ys):=split_nodup hnd
 have hpL:s.par m≤r.N:=hwf.parLe m hm
 have hfew:=h.few (s.par m) hpL
 rw [hK,hKp] at hfew
 have hlen:(xs++m :: ys).length=xs.length+1+ys.length:=by simp;omega
 rw [hlen] at hfew
 obtain ⟨p,hpe⟩:∃ p,p=s.par m:=⟨_,rfl⟩
 have HPM:Hid (s.par m=p):=hpe.symm
 have HKP:Hid (K p=xs++m :: ys):=by rw [hpe];exact hKp
 rw [← hpe] at hpL
 have hc:=h.cpar hm
 rw [hp,← hpe] at hc
 have hp0:((p:Int) == 0)=false:=by simp;omega
 have hp1:1≤p:=by omega
 have hg:=h.c0
 obtain ⟨L,hLe⟩:∃ L,L=r.N+1:=⟨_,rfl⟩
 rw [← hLe] at hg
 have HLe:Hid (L=r.N+1):=hLe
 have hL3:L≤301:=by omega
 have hmL:(m:Int)<(L:Int):=by omega
 have hpLL:(p:Int)<(L:Int):=by omega
 have hbb:hasB (r.N+1) (m:Int)=true:=hasB_nat h1 hm
 have HBB:Hid (hasB (r.N+1) (m:Int)=true):=hbb
 clear hbb
 obtain ⟨i0,hi,hz0,hz1,hz2⟩:=info_parts Tryz.info3
 clear h hp hK hwf hs hKp hnd hlen h0 hpe hLe
 go_enter Tryz.func93, Tryz.ntmps93
 go_wp2_with fail
 refine (refIs HH.out m).mono ?_
 rintro e w ⟨rfl,rfl⟩
 rw [HBB.out]
 go_wp2_with fail
 refine (refLeaving HH.out HP.out HK.out HW.out HS.out m h1 hm).mono ?_
 rintro e W2 ⟨rfl,hR1,hF1⟩
 have HR1:Hid (RefOK W2 { r with il:=r.il.map (It.leave r.N s m) }):=hR1
 have HF1:Hid (Fr r.own w W2):=hF1
 have hg1:W2.cell? ⟨r.rb,0,none⟩=some (.slice (some ⟨r.rn,0,none⟩) L r.cap):=by rw [HLe.out];exact hR1.c0
 have hrow:W2.ownsRow 0 3 1 (r.kv p) (K p).length (ints (K p)):=by rw [← HK.out];exact hR1.kids p hpL
 have ck:W2.cell? ⟨r.rn,p*5+4,none⟩=some (r.kv p):=hR1.ckv hpL
 rw [HKP.out] at hrow
 have hlen:(xs++m :: ys).length=xs.length+1+ys.length:=by simp;omega
 rw [hlen] at hrow
 obtain ⟨kao,kcap,hkv,hkc,hkcell⟩:=rowForm hrow
 rw [hkv] at ck hrow
 rcases hkcell with h0 | ⟨kg,hkg,hkgs,hkc2⟩
 ·omega
 subst hkg
 have HROW:Hid (W2.ownsRow 0 3 1 (.slice (some ⟨kg,0,none⟩) (xs.length+1+ys.length) kcap) (xs.length+1+ys.length) (ints (xs++m :: ys))):=hrow
 have P1:Hid (∀ j u,(ints xs)[j]?=some u→W2.cell? ((⟨kg,0,none⟩:Addr).add j)=some u):=piece (xs:=[]) (ys:=xs) (zs:=m :: ys) (fun j hj=>hkc2 j (by omega)) rfl rfl
 have P2:Hid (∀ j u,(ints ys)[j]?=some u→W2.cell? ((⟨kg,xs.length+1,none⟩:Addr).add j)=some u):=by
  have h1:=piece (xs:=xs++[m]) (ys:=ys) (zs:=[]) (l:=xs++m :: ys) (fun j hj=>hkc2 j (by omega)) rfl (by simp)
  rw [List.length_append] at h1
  exact h1
 clear hR1 hF1 hrow hkv hkc2 hlen HH hg hc
 go_wp2_with fail
 refine (refAt W2 _ (xs++m :: ys) m (xs.length+1+ys.length) HROW.out (by simp;omega) (by simp;omega) (by simp)).mono ?_
 rintro e W3 ⟨hW3,k,hk,hget,rfl⟩
 have ek:k=xs.length:=idx_at HND.out.1 HND.out.2 hget
 subst ek
 rw [hW3]
 clear hk hget hW3 HND
 have ib1:(xs.length:Int)≤(kcap:Int):=by omega
 go_wp2_with (at_builtin;refine wpList_append_own _ rfl _ _ 25 rfl W2.heap.size 3 i0 (.int .i64 0) 1 8 Tryz.underlying25 hi hz0 hz1 hz2 rfl (by decide) (.slice none 0 0) 0 [] rfl (World.ownsRow_nil _ _ _ _) ⟨kg,0,none⟩ xs.length kcap (ints xs) rfl ?a0 P1.out ?a2 ?a3 ?a4 (Nat.le_refl _) ?_)
 case a0=>simp [ints]
 case a2=>exact ints_one xs
 case a3=>unfold maxLen;omega
 case a4=>omega
 intro uv w3 hu hgrow3 _
 have hB3:Below W2.heap.size W2 w3:=⟨hgrow3.os,hgrow3.tape,hgrow3.output,hgrow3.size,fun k hk=>hgrow3.block k hk (by simp [Value.ownBlock])⟩
 have HB3:Hid (Below W2.heap.size W2 w3):=hB3
 have HU:Hid (w3.ownsRow W2.heap.size 3 1 uv xs.length (ints xs)):=hu
 have hsz3:=hB3.size
 have P2':Hid (∀ j u,(ints ys)[j]?=some u→w3.cell? ((⟨kg,xs.length+1,none⟩:Addr).add j)=some u):=fun j u hj=>by
  rw [at_add]
  have:=P2.out j u hj
  rw [at_add] at this
  rw [← this]
  exact World.cell?_of_block (hB3.block kg hkgs)
 clear hu hgrow3 hB3 P1 P2
 by_cases hcap:kcap=xs.length+1
 ·have hys:ys=[]:=by
   cases ys with
   | nil=>rfl
   | cons y ys=>simp at hkc;omega
  subst hys
  subst hcap
  go_wp2_with (at_builtin;refine wpList_append_own _ rfl _ _ 25 rfl W2.heap.size 3 i0 (.int .i64 0) 1 8 Tryz.underlying25 hi hz0 hz1 hz2 rfl (by decide) uv xs.length (ints xs) rfl HU.out _ 0 _ (ints []) rfl (by rfl) ?b1 ?b2 ?b3 ?b4 ?b5 ?_)
  case b1=>intro j u hj;simp [ints] at hj
  case b2=>exact ints_one []
  case b3=>unfold maxLen;omega
  case b4=>omega
  case b5=>exact hsz3
  intro nv w4 hv4 hg4 _
  have hB4:Below W2.heap.size W2 w4:=HB3.out.trans ⟨hg4.os,hg4.tape,hg4.output,hg4.size,fun k hk=>hg4.block k (by omega) (fun e=>by have:=(HU.out.lt k e.symm).1;omega)⟩
  rw [nums_append] at hv4
  obtain ⟨nao,ncap,hnv,_,_⟩:=rowForm hv4
  subst hnv
  have HE:Hid (RPost w ((w4.setCell ⟨r.rn,p*5+4,none⟩ (.slice nao (xs.length+0) ncap)).setCell ⟨r.rn,m*5+3,none⟩ (.int .i64 0)) r (r.took s K m (.slice nao (xs.length+0) ncap))):=by
   rw [← HPM.out]
   exact take_end HR1.out HP.out HK.out HW.out HF1.out h1 hm (by rw [HPM.out];omega) (by rw [HPM.out];exact HKP.out) hB4 (by simpa using hv4) (by simp;omega)
  have H4:RefOK w4 { r with il:=r.il.map (It.leave r.N s m) }:=HR1.out.since hB4
  have hg':w4.cell? ⟨r.rb,0,none⟩=some (.slice (some ⟨r.rn,0,none⟩) L r.cap):=by rw [HLe.out];exact H4.c0
  obtain ⟨u4,hp4⟩:∃ u,w4.cell? ⟨r.rn,p*5+4,none⟩=some u:=⟨_,H4.ckv hpL⟩
  have hm4:w4.cell? ⟨r.rn,m*5+3,none⟩=some (.int .i64 (r.par m)):=H4.cpar hm
  have fr':∀ j,w4.frozen? ⟨r.rn,j,none⟩=false:=H4.free
  have hne:r.rb≠r.rn:=H4.ne
  clear hv4 hg4 hB4 H4 HB3 HU hg1 ck hsz3 HR1 HF1
  go_wp2_with fail
  go_ret
  exact ⟨rfl,_,HE.out⟩
 ·have hcap':xs.length+1<kcap:=by omega
  go_wp2_with (at_builtin;refine wpList_append_own _ rfl _ _ 25 rfl W2.heap.size 3 i0 (.int .i64 0) 1 8 Tryz.underlying25 hi hz0 hz1 hz2 rfl (by decide) uv xs.length (ints xs) rfl HU.out ⟨kg,xs.length+1,none⟩ ys.length (kcap-(xs.length+1)) (ints ys) rfl ?b0 P2'.out ?b2 ?b3 ?b4 ?b5 ?_)
  case b0=>simp [ints]
  case b2=>exact ints_one ys
  case b3=>unfold maxLen;omega
  case b4=>omega
  case b5=>exact hsz3
  intro nv w4 hv4 hg4 _
  have hB4:Below W2.heap.size W2 w4:=HB3.out.trans ⟨hg4.os,hg4.tape,hg4.output,hg4.size,fun k hk=>hg4.block k (by omega) (fun e=>by have:=(HU.out.lt k e.symm).1;omega)⟩
  rw [nums_append] at hv4
  obtain ⟨nao,ncap,hnv,_,_⟩:=rowForm hv4
  subst hnv
  have HE:Hid (RPost w ((w4.setCell ⟨r.rn,p*5+4,none⟩ (.slice nao (xs.length+ys.length) ncap)).setCell ⟨r.rn,m*5+3,none⟩ (.int .i64 0)) r (r.took s K m (.slice nao (xs.length+ys.length) ncap))):=by
   rw [← HPM.out]
   exact take_end HR1.out HP.out HK.out HW.out HF1.out h1 hm (by rw [HPM.out];omega) (by rw [HPM.out];exact HKP.out) hB4 (by simpa using hv4) (by simp;omega)
  have H4:RefOK w4 { r with il:=r.il.map (It.leave r.N s m) }:=HR1.out.since hB4
  have hg':w4.cell? ⟨r.rb,0,none⟩=some (.slice (some ⟨r.rn,0,none⟩) L r.cap):=by rw [HLe.out];exact H4.c0
  obtain ⟨u4,hp4⟩:∃ u,w4.cell? ⟨r.rn,p*5+4,none⟩=some u:=⟨_,H4.ckv hpL⟩
  have hm4:w4.cell? ⟨r.rn,m*5+3,none⟩=some (.int .i64 (r.par m)):=H4.cpar hm
  have fr':∀ j,w4.frozen? ⟨r.rn,j,none⟩=false:=H4.free
  have hne:r.rb≠r.rn:=H4.ne
  clear hv4 hg4 hB4 H4 HB3 HU hg1 ck hsz3 HR1 HF1
  go_wp2_with fail
  go_ret
  exact ⟨rfl,_,HE.out⟩
theorem refTake (h:RefOK w r) (hp:r.par=s.par) (hK:r.K=K) (hwf:WF r.N s K) (hs:∀ x,x∈r.il→x.Sound r.N s) (c:Int) :
  Calls Tryz.prog 93 #[.pointer (some ⟨r.rb,0,none⟩),.int .i64 c] w fun e w' =>
   (e=.returned (.int .i64 5)∧hasB (r.N+1) c=false∧w'=w)∨∃ n:Nat,c=n∧1≤n∧n≤r.N ∧
     ((e=.returned (.int .i64 8)∧s.par n=0∧w'=w)∨(e=.returned (.int .i64 0)∧s.par n≠0∧∃ nv,RPost w w' r (r.took s K n nv))):=by
 cases hb:hasB (r.N+1) c with
 | false =>
  have HH:Hid (RefOK w r):=h
  have HB:Hid (hasB (r.N+1) c=false):=hb
  clear hb h hp hK hwf hs
  go_enter Tryz.func93, Tryz.ntmps93
  go_wp2_with fail
  refine (refIs HH.out c).mono ?_
  rintro e w ⟨rfl,rfl⟩
  rw [HB.out]
  go_wp2_with fail
  go_ret
  exact .inl ⟨rfl,trivial,rfl⟩
 | true =>
  obtain ⟨n,rfl,h1,hn⟩:=has_nat hb
  by_cases h0:s.par n=0
  ·have HH:Hid (RefOK w r):=h
   have HB:Hid (hasB (r.N+1) n=true):=hb
   have H0:Hid (s.par n=0):=h0
   have hc:=h.cpar hn
   rw [hp,h0] at hc
   have hg:=h.c0
   have hN:=h.hN
   obtain ⟨L,hLe⟩:∃ L,L=r.N+1:=⟨_,rfl⟩
   rw [← hLe] at hg
   have hL3:L≤301:=by omega
   have hnL:(n:Int)<(L:Int):=by omega
   clear hb h hp hK hwf hs hLe h0
   go_enter Tryz.func93, Tryz.ntmps93
   go_wp2_with fail
   refine (refIs HH.out n).mono ?_
   rintro e w ⟨rfl,rfl⟩
   rw [HB.out]
   go_wp2_with fail
   go_ret
   exact .inr ⟨n,rfl,h1,hn,.inl ⟨rfl,H0.out,rfl⟩⟩
  ·refine (refTakeOk h hp hK hwf hs n h1 hn h0).mono ?_
   rintro e w' ⟨rfl,nv,hP⟩
   exact .inr ⟨n,rfl,h1,hn,.inr ⟨rfl,h0,nv,hP⟩⟩
end
open Go.RowKit Go.Shelf Gv
theorem Tryz.info150:(Tryz.prog.info? 150).map (fun i=>(i.zero,i.size,i.bytes))=some (some (.agg #[.int .i64 0,.string ByteArray.empty,.slice none 0 0,.int .i64 0,.slice none 0 0]),5,80):=by kernel_rfl
def newRow (k:Nat) (t:ByteArray):List Value:=[.int .i64 k,.string t,.slice none 0 0,.int .i64 0,.slice none 0 0]
theorem newRow_one (k:Nat) (t:ByteArray):∀ u∈newRow k t,u.oneCell'=true:=by
 intro u hu
 simp only [newRow,List.mem_cons,List.not_mem_nil,or_false] at hu
 rcases hu with rfl | rfl | rfl | rfl | rfl <;> rfl
theorem step_node_append {ops:Array Oper} {o:Oper} {a:Act} {w:World} {K:Act→World→Prop} {Q:Exit→Act→World→Prop} {E:Prop} {n icap:Nat} {iao:Option Addr} {cs:List Value} {k:Nat} {t:ByteArray}
  (hgd:o.guard=none) (s x:Operand) (ho:o.op=.call { callee:=.builtin .append,args:=#[s,x],argTypes:=#[112,112] })
  (hs:a.eval s=.slice iao n icap) (hx:a.eval x=.slice (some ⟨w.heap.size,0,none⟩) 1 1)
  (hown:w.ownsRow 0 150 5 (.slice iao n icap) n cs) (h50:n≤301)
  (hK:∀ g cap w',w'.ownsRow 0 150 5 (.slice (some ⟨g,0,none⟩) (n+1) cap) (n+1) (cs++newRow k t) →
    World.grownBy (w.alloc (.cells (newRow k t).toArray 150)).drew w' (Value.slice iao n icap).ownBlock→((Value.slice iao n icap).ownBlock=some g∨g=w.heap.size+1)→g<w'.heap.size→K (a.put o.dst (.slice (some ⟨g,0,none⟩) (n+1) cap)) w') :
  if Region.wanted o (yielded ops a.tmps)=true then Oper.wp Tryz.prog o a (w.alloc (.cells (newRow k t).toArray 150)).drew K Q else E:=by
 obtain ⟨i0,hi,hz0,hz1,hz2⟩:=info_parts Tryz.info150
 have hal:Below w.heap.size w (w.alloc (.cells (newRow k t).toArray 150)).drew:=((Below.refl _ w).alloc (Nat.le_refl _) _).drew
 refine step_append_lies _ hgd s x 112 ho 0 150 i0 _ 5 80 Tryz.underlying112 hi hz0 hz1 hz2 rfl (by decide) (.slice iao n icap) n cs hs (ownsRow_since hown hal) ⟨w.heap.size,0,none⟩ 1 1 (newRow k t) hx rfl ?_ (newRow_one k t) (by omega) (by unfold maxLen;omega) (by omega) (by simp) (w.heap.size+1) (by simp) hK
 intro j u hj
 have e:(⟨w.heap.size,0,none⟩:Addr).add j=⟨w.heap.size,j,none⟩:=by unfold Addr.add;split <;> simp_all
 rw [e]
 have hb:(w.alloc (.cells (newRow k t).toArray 150)).drew.heap[w.heap.size]?=some (.cells (newRow k t).toArray 150 (0,0)):=heap_alloc_new w (.cells (newRow k t).toArray 150)
 rw [cells_of hb j]
 simpa using hj
section
variable {w w':World} {r:Rx}
def Rx.made (r:Rx) (k:Nat) (t:ByteArray) (rn cap:Nat):Rx :=
 { r with rn:=rn,cap:=cap,N:=r.N+1,kn:=up r.kn (r.N+1) k,tag:=up r.tag (r.N+1) t,av:=up r.av (r.N+1) (.slice none 0 0),par:=up r.par (r.N+1) 0,kv:=up r.kv (r.N+1) (.slice none 0 0),K:=up r.K (r.N+1) [],ats:=up r.ats (r.N+1) [] }
theorem made_end {w2 w3:World} {k g cap:Nat} {t:ByteArray} (h:RefOK w2 r) (h3:r.N<300) (hown:w3.ownsRow 0 150 5 (.slice (some ⟨g,0,none⟩) (r.N+1+1) cap) (r.N+1+1) (refCells (r.N+1) r.kn r.tag r.av r.par r.kv++newRow k t))
  (hgrow:World.grownBy (w2.alloc (.cells (newRow k t).toArray 150)).drew w3 (some r.rn)) (hat:r.rn=g∨g=w2.heap.size+1) :
  RPost w2 (w3.setCell ⟨r.rb,0,none⟩ (.slice (some ⟨g,0,none⟩) (r.N+1+1) cap)) r (r.made k t g cap):=by
 have hal:Below w2.heap.size w2 (w2.alloc (.cells (newRow k t).toArray 150)).drew:=((Below.refl _ w2).alloc (Nat.le_refl _) _).drew
 have hk3:∀ b,b<w2.heap.size→b≠r.rn→w3.heap[b]?=w2.heap[b]?:=fun b hb hne=>(hgrow.block b (Nat.lt_of_lt_of_le hb hal.size) (by simpa using hne)).trans (hal.block b hb)
 have hs3:w2.heap.size≤w3.heap.size:=Nat.le_trans hal.size hgrow.size
 have hne:=h.ne
 have hg3:w3.heap[r.rb]?=some (.cells #[.slice (some ⟨r.rn,0,none⟩) (r.N+1) r.cap,r.wv,r.iv,r.qv] 117 (0,0)):=(hk3 _ h.ltb hne).trans h.g
 have hgb:g≠r.rb:=by
  rcases hat with e | e
  ·rw [← e];exact fun e=>hne e.symm
  ·have:=h.ltb;omega
 obtain ⟨csn,hcn⟩:=h.rnblock
 have hk:∀ (b:Nat) (cs:Array Value) (ty:TypeId),w2.heap[b]?=some (.cells cs ty (0,0))→(ty≠150∧ty≠117)→(w3.setCell ⟨r.rb,0,none⟩ (.slice (some ⟨g,0,none⟩) (r.N+1+1) cap)).heap[b]?=w2.heap[b]?:=by
  intro b cs ty hb ht
  rw [heap_setCell_other _ _ _ _ (fun e=>?_)]
  ·refine hk3 b (lt_of_block hb) (fun e=>?_)
   rw [e,hcn] at hb;simp at hb;exact ht.1 hb.2.symm
  ·have hb':=h.g
   have e':b=r.rb:=e
   rw [← e',hb] at hb';simp at hb';exact ht.2 hb'.2
 obtain ⟨_,_,p3,p4,p5,p6,p7,p8,p9⟩:=h.part (ok:=fun ty=>ty≠150∧ty≠117) hk
 have hcs:refCells (r.N+1) r.kn r.tag r.av r.par r.kv++newRow k t=refCells (r.N+1+1) (up r.kn (r.N+1) k) (up r.tag (r.N+1) t) (up r.av (r.N+1) (.slice none 0 0)) (up r.par (r.N+1) 0) (up r.kv (r.N+1) (.slice none 0 0)):=by
  rw [refCells_succ (r.N+1)]
  congr 1
  ·refine (refCells_congr (fun i hi=>?_)).symm
   have:i≠r.N+1:=by omega
   simp only [refRow,up_other _ _ _ this]
  ·simp [refRow,newRow,up_same]
 refine ⟨⟨?_,?_,by show r.N+1≤300;omega,fun i hi=>?_,fun i hi=>?_,fun i hi=>?_,fun i hi=>?_,h.hT,fun i j hi hj hij b hb=>?_,p5 (by decide),h.wfew,p6 (by decide),h.ifew,p7 (by decide),p8 (by decide),h.qfew,p9 (by decide)⟩,?_,fun i hi=>?_,rfl⟩
 ·exact heap_setCell_same w3 r.rb 0 _ _ _ hg3
 ·rw [hcs] at hown
  exact ownsRow_setCell_other hown (by simp [Value.ownBlock];exact hgb) _
 ·show World.ownsRow _ 0 3 1 (up r.kv (r.N+1) (.slice none 0 0) i) (up r.K (r.N+1) [] i).length (ints (up r.K (r.N+1) [] i))
  by_cases ei:i=r.N+1
  ·subst ei;rw [up_same,up_same];exact World.ownsRow_nil _ _ _ _
  ·rw [up_other _ _ _ ei,up_other _ _ _ ei]
   have hi':i≤r.N+1:=hi
   exact p3 (by decide) i (by omega)
 ·show (up r.K (r.N+1) [] i).length≤300
  by_cases ei:i=r.N+1
  ·subst ei;rw [up_same];simp
  ·rw [up_other _ _ _ ei]
   have hi':i≤r.N+1:=hi
   exact h.few i (by omega)
 ·show World.ownsRow _ 0 199 2 (up r.av (r.N+1) (.slice none 0 0) i) (up r.ats (r.N+1) [] i).length ((up r.ats (r.N+1) [] i).flatMap arow)
  by_cases ei:i=r.N+1
  ·subst ei;rw [up_same,up_same];exact World.ownsRow_nil _ _ _ _
  ·rw [up_other _ _ _ ei,up_other _ _ _ ei]
   have hi':i≤r.N+1:=hi
   exact p4 (by decide) i (by omega)
 ·show (up r.ats (r.N+1) [] i).length≤r.top
  by_cases ei:i=r.N+1
  ·subst ei;rw [up_same];simp
  ·rw [up_other _ _ _ ei]
   have hi':i≤r.N+1:=hi
   exact h.afew i (by omega)
 ·have hi':i≤r.N+1:=hi
  have hj':j≤r.N+1:=hj
  have hb':(up r.av (r.N+1) (.slice none 0 0) i).ownBlock=some b:=hb
  show (up r.av (r.N+1) (.slice none 0 0) j).ownBlock≠some b
  by_cases ei:i=r.N+1
  ·subst ei;rw [up_same] at hb';simp [Value.ownBlock] at hb'
  ·rw [up_other _ _ _ ei] at hb'
   by_cases ej:j=r.N+1
   ·subst ej;rw [up_same];simp [Value.ownBlock]
   ·rw [up_other _ _ _ ej]
    exact h.nd i j (by omega) (by omega) hij b hb'
 ·have f1:Fr r.own w2 w3:=⟨hgrow.os.trans hal.os,hgrow.tape.trans hal.tape,hgrow.output.trans hal.output,hs3,fun i hi hn=>hk3 i hi (fun e=>hn (e ▸ Rx.own_n))⟩
  exact f1.setCell (p:=⟨r.rb,0,none⟩) Rx.own_b _
 ·rcases hi with hi | hi | ⟨j,hj,hi⟩ | ⟨j,hj,hi⟩ | hi | hi | hi | hi | hi
  ·exact .inl (.inl hi)
  ·have hi':i=g:=hi
   rcases hat with e | e
   ·exact .inl (by rw [hi',← e];exact Rx.own_n)
   ·exact .inr (by omega)
  ·have hi':(up r.kv (r.N+1) (.slice none 0 0) j).ownBlock=some i:=hi
   have hj':j≤r.N+1:=hj
   by_cases ej:j=r.N+1
   ·subst ej;rw [up_same] at hi';simp [Value.ownBlock] at hi'
   ·rw [up_other _ _ _ ej] at hi'
    exact .inl (Rx.own_k (by omega) hi')
  ·have hi':(up r.av (r.N+1) (.slice none 0 0) j).ownBlock=some i:=hi
   have hj':j≤r.N+1:=hj
   by_cases ej:j=r.N+1
   ·subst ej;rw [up_same] at hi';simp [Value.ownBlock] at hi'
   ·rw [up_other _ _ _ ej] at hi'
    exact .inl (Rx.own_a (by omega) hi')
  ·exact .inl (Rx.own_w hi)
  ·exact .inl (Rx.own_i hi)
  ·exact .inl (Rx.own_q hi)
  ·exact .inl (.inr (.inr (.inr (.inr (.inr (.inr (.inr (.inl hi))))))))
  ·exact .inl (.inr (.inr (.inr (.inr (.inr (.inr (.inr (.inr hi))))))))
theorem kindErr_bad {kind:Int} {t:ByteArray} (h:kind<1∨4<kind):kindErr kind t=1:=by
 unfold kindErr
 rw [if_neg (by omega),if_neg (by omega)]
theorem kindErr_el (t:ByteArray):kindErr 2 t=if nameB t.data.toList then 0 else 2:=by
 unfold kindErr
 rw [if_pos rfl]
theorem kindErr_oth {kind:Int} {t:ByteArray} (h1:1≤kind) (h4:kind≤4) (h2:kind≠2):kindErr kind t=if t.size≤40 then 0 else 3:=by
 unfold kindErr
 rw [if_neg h2,if_pos (by omega)]
def MakePost (w:World) (r:Rx) (kind:Int) (t:ByteArray) (e:Ending) (w':World):Prop :=
 (kindErr kind t≠0∧w'=w∧e=.returned (.tuple #[.int .i64 0,.int .i64 (kindErr kind t)])) ∨
 (kindErr kind t=0∧r.N=300∧w'=w∧e=.returned (.tuple #[.int .i64 0,.int .i64 4])) ∨
 (kindErr kind t=0∧r.N<300∧e=.returned (.tuple #[.int .i64 (r.N+1:Nat),.int .i64 0])∧∃ k rn cap:Nat,kind=k∧RPost w w' r (r.made k (if k=2 then t else ByteArray.empty) rn cap))
theorem refMake (h:RefOK w r) (kind:Int) (t:ByteArray) (hs:t.size≤maxLen) :
  Calls Tryz.prog 90 #[.pointer (some ⟨r.rb,0,none⟩),.int .i64 kind,.string t] w (MakePost w r kind t):=by
 have HH:Hid (RefOK w r):=h
 have HS:Hid (t.size≤maxLen):=hs
 have hg:=h.c0
 have hN:=h.hN
 obtain ⟨L,hLe⟩:∃ L,L=r.N+1:=⟨_,rfl⟩
 rw [← hLe] at hg
 have HLe:Hid (L=r.N+1):=hLe
 have hL3:L≤301:=by omega
 clear h hs hLe
 by_cases c1:1≤kind
 ·by_cases c4:kind≤4
  ·by_cases c2:kind=2
   ·subst c2
    cases hb:nameB t.data.toList with
    | false =>
     have HE:Hid (kindErr 2 t=2):=by show kindErr 2 t=2;rw [kindErr_el,hb];rfl
     go_enter Tryz.func90, Tryz.ntmps90
     go_wp2_with fail
     refine (refIsName t w HS.out).mono ?_
     rintro e w ⟨rfl,rfl⟩
     rw [hb]
     go_wp2_with fail
     go_ret2
     exact .inl ⟨by rw [HE.out];decide,rfl,by rw [HE.out];rfl⟩
    | true =>
     have HE:Hid (kindErr 2 t=0):=by show kindErr 2 t=0;rw [kindErr_el,hb];rfl
     by_cases h3:r.N=300
     ·have h3':(300:Int)<(L:Int):=by have:=HLe.out;omega
      go_enter Tryz.func90, Tryz.ntmps90
      go_wp2_with fail
      refine (refIsName t w HS.out).mono ?_
      rintro e w ⟨rfl,rfl⟩
      rw [hb]
      go_wp2_with fail
      go_ret2
      exact .inr (.inl ⟨HE.out,h3,rfl,rfl⟩)
     ·have h3':¬ (300:Int)<(L:Int):=by have:=HLe.out;omega
      go_enter Tryz.func90, Tryz.ntmps90
      go_wp2_with fail
      refine (refIsName t w HS.out).mono ?_
      rintro e w ⟨rfl,rfl⟩
      rw [hb]
      go_wp2_with fail
      have hb2:Below w.heap.size w (w.alloc (.cells #[.int .i64 2,.string t,.slice none 0 0,.int .i64 0,.slice none 0 0] 150)):=(Below.refl _ _).alloc (Nat.le_refl _) _
      have f0:(w.alloc (.cells #[.int .i64 2,.string t,.slice none 0 0,.int .i64 0,.slice none 0 0] 150)).cell? ⟨w.heap.size,0,none⟩=some (.int .i64 2):=alloc5 _ _ _ _ _ _ _ 0
      have f1:(w.alloc (.cells #[.int .i64 2,.string t,.slice none 0 0,.int .i64 0,.slice none 0 0] 150)).cell? ⟨w.heap.size,1,none⟩=some (.string t):=alloc5 _ _ _ _ _ _ _ 1
      have f2:(w.alloc (.cells #[.int .i64 2,.string t,.slice none 0 0,.int .i64 0,.slice none 0 0] 150)).cell? ⟨w.heap.size,2,none⟩=some (.slice none 0 0):=alloc5 _ _ _ _ _ _ _ 2
      have f3:(w.alloc (.cells #[.int .i64 2,.string t,.slice none 0 0,.int .i64 0,.slice none 0 0] 150)).cell? ⟨w.heap.size,3,none⟩=some (.int .i64 0):=alloc5 _ _ _ _ _ _ _ 3
      have f4:(w.alloc (.cells #[.int .i64 2,.string t,.slice none 0 0,.int .i64 0,.slice none 0 0] 150)).cell? ⟨w.heap.size,4,none⟩=some (.slice none 0 0):=alloc5 _ _ _ _ _ _ _ 4
      have lt2:w.heap.size<(w.alloc (.cells #[.int .i64 2,.string t,.slice none 0 0,.int .i64 0,.slice none 0 0] 150)).heap.size:=by simp
      have R2:Hid (RefOK (w.alloc (.cells #[.int .i64 2,.string t,.slice none 0 0,.int .i64 0,.slice none 0 0] 150)) r):=HH.out.since hb2
      have B2:Hid (RPost w (w.alloc (.cells #[.int .i64 2,.string t,.slice none 0 0,.int .i64 0,.slice none 0 0] 150)) r r):=RPost.of_below HH.out hb2
      have g2:(w.alloc (.cells #[.int .i64 2,.string t,.slice none 0 0,.int .i64 0,.slice none 0 0] 150)).cell? ⟨r.rb,0,none⟩=some (.slice (some ⟨r.rn,0,none⟩) L r.cap):=by rw [HLe.out];exact R2.out.c0
      clear hb2 hg
      generalize hw2:(w.alloc (.cells #[.int .i64 2,.string t,.slice none 0 0,.int .i64 0,.slice none 0 0] 150))=w2 at *
      clear hw2
      have ltb:r.rb<w2.heap.size:=R2.out.ltb
      have ltb':r.rb<w2.heap.size+1:=by omega
      have bne:r.rb≠w2.heap.size:=by omega
      have hfr2:∀ j,w2.frozen? ⟨r.rb,j,none⟩=false:=R2.out.gfree
      have HZ:Hid (w2.ownsRow 0 150 5 (.slice (some ⟨r.rn,0,none⟩) L r.cap) L (refCells (r.N+1) r.kn r.tag r.av r.par r.kv)):=by rw [HLe.out];exact R2.out.row
      generalize w.heap.size=xb at *
      go_region_law (first
       | (refine step_node_append (w:=w2) (n:=L) (icap:=r.cap) (iao:=some ⟨r.rn,0,none⟩) (k:=2) (t:=t) rfl (.tmp 47) (.tmp 49) rfl (by simp [Act.eval]) (by simp [Act.eval]) HZ.out (by omega) ?_
          intro g ic w3 hown3 hgrow3 hat3 hlt3
          have hal:Below w2.heap.size w2 (w2.alloc (.cells (newRow 2 t).toArray 150)).drew:=((Below.refl _ w2).alloc (Nat.le_refl _) _).drew
          have q0:w3.heap[r.rb]?=w2.heap[r.rb]?:=(hgrow3.block r.rb (by simp;omega) (by simp [Value.ownBlock];exact R2.out.ne)).trans (hal.block r.rb ltb)
          have q1:w3.cell? ⟨r.rb,0,none⟩=some (.slice (some ⟨r.rn,0,none⟩) L r.cap):=(cell_same' q0 0).trans g2
          have q2:w3.frozen? ⟨r.rb,0,none⟩=false:=(frozen_same' q0 0).trans (hfr2 0)
          have HO:Hid (w3.ownsRow 0 150 5 (.slice (some ⟨g,0,none⟩) (L+1) ic) (L+1) (refCells (r.N+1) r.kn r.tag r.av r.par r.kv++newRow 2 t)):=hown3
          have HG:Hid (World.grownBy (w2.alloc (.cells (newRow 2 t).toArray 150)).drew w3 (some r.rn)):=hgrow3
          have HA:Hid (r.rn=g∨g=w2.heap.size+1):=hat3.imp (fun e=>by simpa [Value.ownBlock] using e) id
          clear q0 hown3 hgrow3 hat3 hlt3 hal))
      all_goals
       go_wp2_with fail
       go_ret2
       have PP:=made_end (cap:=ic) R2.out (by omega) (by have:=HO.out;rw [HLe.out] at this;exact this) HG.out HA.out
       rw [HLe.out]
       exact .inr (.inr ⟨HE.out,by omega,by simp,2,g,ic,rfl,by rw [if_pos rfl];exact RPost.trans B2.out PP⟩)
   ·obtain ⟨k,rfl⟩:=Int.eq_ofNat_of_zero_le (show 0≤kind by omega)
    have c2':((k:Int) == 2)=false:=by simpa using c2
    have hk2:k≠2:=by omega
    have c2n:((k:Int) != 2)=true:=by simpa using c2
    by_cases h40:t.size≤40
    ·have HE:Hid (kindErr (k:Int) t=0):=by show kindErr (k:Int) t=0;rw [kindErr_oth c1 c4 c2,if_pos h40]
     have h40':¬ (40:Int)<(t.size:Int):=by omega
     by_cases h3:r.N=300
     ·have h3':(300:Int)<(L:Int):=by have:=HLe.out;omega
      clear c2
      go_enter Tryz.func90, Tryz.ntmps90
      go_wp2_with fail
      refine (refIsName t w HS.out).mono ?_
      rintro e w ⟨rfl,rfl⟩
      go_wp2_with fail
      go_ret2
      exact .inr (.inl ⟨HE.out,h3,rfl,rfl⟩)
     ·have h3':¬ (300:Int)<(L:Int):=by have:=HLe.out;omega
      clear c2
      go_enter Tryz.func90, Tryz.ntmps90
      go_wp2_with fail
      refine (refIsName t w HS.out).mono ?_
      rintro e w ⟨rfl,rfl⟩
      go_wp2_with fail
      have hb2:Below w.heap.size w (w.alloc (.cells #[.int .i64 (k:Int),.string ⟨#[]⟩,.slice none 0 0,.int .i64 0,.slice none 0 0] 150)):=(Below.refl _ _).alloc (Nat.le_refl _) _
      have f0:(w.alloc (.cells #[.int .i64 (k:Int),.string ⟨#[]⟩,.slice none 0 0,.int .i64 0,.slice none 0 0] 150)).cell? ⟨w.heap.size,0,none⟩=some (.int .i64 (k:Int)):=alloc5 _ _ _ _ _ _ _ 0
      have f1:(w.alloc (.cells #[.int .i64 (k:Int),.string ⟨#[]⟩,.slice none 0 0,.int .i64 0,.slice none 0 0] 150)).cell? ⟨w.heap.size,1,none⟩=some (.string ⟨#[]⟩):=alloc5 _ _ _ _ _ _ _ 1
      have f2:(w.alloc (.cells #[.int .i64 (k:Int),.string ⟨#[]⟩,.slice none 0 0,.int .i64 0,.slice none 0 0] 150)).cell? ⟨w.heap.size,2,none⟩=some (.slice none 0 0):=alloc5 _ _ _ _ _ _ _ 2
      have f3:(w.alloc (.cells #[.int .i64 (k:Int),.string ⟨#[]⟩,.slice none 0 0,.int .i64 0,.slice none 0 0] 150)).cell? ⟨w.heap.size,3,none⟩=some (.int .i64 0):=alloc5 _ _ _ _ _ _ _ 3
      have f4:(w.alloc (.cells #[.int .i64 (k:Int),.string ⟨#[]⟩,.slice none 0 0,.int .i64 0,.slice none 0 0] 150)).cell? ⟨w.heap.size,4,none⟩=some (.slice none 0 0):=alloc5 _ _ _ _ _ _ _ 4
      have lt2:w.heap.size<(w.alloc (.cells #[.int .i64 (k:Int),.string ⟨#[]⟩,.slice none 0 0,.int .i64 0,.slice none 0 0] 150)).heap.size:=by simp
      have R2:Hid (RefOK (w.alloc (.cells #[.int .i64 (k:Int),.string ⟨#[]⟩,.slice none 0 0,.int .i64 0,.slice none 0 0] 150)) r):=HH.out.since hb2
      have B2:Hid (RPost w (w.alloc (.cells #[.int .i64 (k:Int),.string ⟨#[]⟩,.slice none 0 0,.int .i64 0,.slice none 0 0] 150)) r r):=RPost.of_below HH.out hb2
      have g2:(w.alloc (.cells #[.int .i64 (k:Int),.string ⟨#[]⟩,.slice none 0 0,.int .i64 0,.slice none 0 0] 150)).cell? ⟨r.rb,0,none⟩=some (.slice (some ⟨r.rn,0,none⟩) L r.cap):=by rw [HLe.out];exact R2.out.c0
      clear hb2 hg
      generalize hw2:(w.alloc (.cells #[.int .i64 (k:Int),.string ⟨#[]⟩,.slice none 0 0,.int .i64 0,.slice none 0 0] 150))=w2 at *
      clear hw2
      have ltb:r.rb<w2.heap.size:=R2.out.ltb
      have ltb':r.rb<w2.heap.size+1:=by omega
      have bne:r.rb≠w2.heap.size:=by omega
      have hfr2:∀ j,w2.frozen? ⟨r.rb,j,none⟩=false:=R2.out.gfree
      have HZ:Hid (w2.ownsRow 0 150 5 (.slice (some ⟨r.rn,0,none⟩) L r.cap) L (refCells (r.N+1) r.kn r.tag r.av r.par r.kv)):=by rw [HLe.out];exact R2.out.row
      generalize w.heap.size=xb at *
      go_region_law (first
       | (refine step_node_append (w:=w2) (n:=L) (icap:=r.cap) (iao:=some ⟨r.rn,0,none⟩) (k:=k) (t:=⟨#[]⟩) rfl (.tmp 47) (.tmp 49) rfl (by simp [Act.eval]) (by simp [Act.eval]) HZ.out (by omega) ?_
          intro g ic w3 hown3 hgrow3 hat3 hlt3
          have hal:Below w2.heap.size w2 (w2.alloc (.cells (newRow k ⟨#[]⟩).toArray 150)).drew:=((Below.refl _ w2).alloc (Nat.le_refl _) _).drew
          have q0:w3.heap[r.rb]?=w2.heap[r.rb]?:=(hgrow3.block r.rb (by simp;omega) (by simp [Value.ownBlock];exact R2.out.ne)).trans (hal.block r.rb ltb)
          have q1:w3.cell? ⟨r.rb,0,none⟩=some (.slice (some ⟨r.rn,0,none⟩) L r.cap):=(cell_same' q0 0).trans g2
          have q2:w3.frozen? ⟨r.rb,0,none⟩=false:=(frozen_same' q0 0).trans (hfr2 0)
          have HO:Hid (w3.ownsRow 0 150 5 (.slice (some ⟨g,0,none⟩) (L+1) ic) (L+1) (refCells (r.N+1) r.kn r.tag r.av r.par r.kv++newRow k ⟨#[]⟩)):=hown3
          have HG:Hid (World.grownBy (w2.alloc (.cells (newRow k ⟨#[]⟩).toArray 150)).drew w3 (some r.rn)):=hgrow3
          have HA:Hid (r.rn=g∨g=w2.heap.size+1):=hat3.imp (fun e=>by simpa [Value.ownBlock] using e) id
          clear q0 hown3 hgrow3 hat3 hlt3 hal))
      all_goals
       go_wp2_with fail
       go_ret2
       have PP:=made_end (cap:=ic) R2.out (by omega) (by have:=HO.out;rw [HLe.out] at this;exact this) HG.out HA.out
       rw [HLe.out]
       exact .inr (.inr ⟨HE.out,by omega,by simp,k,g,ic,rfl,by rw [if_neg hk2];exact RPost.trans B2.out PP⟩)
    ·have HE:Hid (kindErr (k:Int) t=3):=by show kindErr (k:Int) t=3;rw [kindErr_oth c1 c4 c2,if_neg h40]
     have h40':(40:Int)<(t.size:Int):=by omega
     clear c2 h40
     go_enter Tryz.func90, Tryz.ntmps90
     go_wp2_with fail
     refine (refIsName t w HS.out).mono ?_
     rintro e w ⟨rfl,rfl⟩
     go_wp2_with fail
     go_ret2
     exact .inl ⟨by rw [HE.out];decide,rfl,by rw [HE.out];rfl⟩
  ·have c4':4<kind:=by omega
   have HE:Hid (kindErr kind t=1):=kindErr_bad (.inr c4')
   clear c4
   go_enter Tryz.func90, Tryz.ntmps90
   go_wp2_with fail
   go_ret2
   exact .inl ⟨by rw [HE.out];decide,rfl,by rw [HE.out];rfl⟩
 ·have c1':kind<1:=by omega
  have HE:Hid (kindErr kind t=1):=kindErr_bad (.inl c1')
  clear c1
  go_enter Tryz.func90, Tryz.ntmps90
  go_wp2_with fail
  go_ret2
  exact .inl ⟨by rw [HE.out];decide,rfl,by rw [HE.out];rfl⟩
end
open Go.RowKit Go.Shelf Gv
def Rx.first (rb rn cap:Nat):Rx :=
 { rb:=rb,rn:=rn,cap:=cap,N:=0,kn:=fun _=>0,tag:=fun _=>ByteArray.empty,av:=fun _=>.slice none 0 0,par:=fun _=>0,kv:=fun _=>.slice none 0 0,K:=fun _=>[],ats:=fun _=>[],top:=0,wv:=.slice none 0 0,wl:=[],iv:=.slice none 0 0,il:=[],qv:=.slice none 0 0,ql:=[] }
theorem Rx.first_own {rb rn cap b:Nat} (h:(Rx.first rb rn cap).own b):b=rb∨b=rn:=by
 rcases h with h | h | ⟨i,_,h⟩ | ⟨i,_,h⟩ | h | h | h | ⟨x,hx,h⟩ | ⟨x,hx,h⟩
 ·exact .inl h
 ·exact .inr h
 all_goals first | (simp [Rx.first,Value.ownBlock] at h;done) | (simp [Rx.first] at hx;done)
theorem first_ok {w:World} {rb rn cap:Nat} (hg:w.heap[rb]?=some (.cells #[.slice (some ⟨rn,0,none⟩) 1 cap,.slice none 0 0,.slice none 0 0,.slice none 0 0] 117 (0,0)))
  (hrow:w.ownsRow 0 150 5 (.slice (some ⟨rn,0,none⟩) 1 cap) 1 (newRow 0 ByteArray.empty)):RefOK w (Rx.first rb rn cap) :=
 ⟨hg,hrow,by show 0≤300;omega,fun _ _=>World.ownsRow_nil _ _ _ _,fun _ _=>by show 0≤300;omega,fun _ _=>World.ownsRow_nil _ _ _ _,fun _ _=>Nat.le_refl _,by show 0≤4000000;omega,fun _ _ _ _ _ b hb=>by simp [Rx.first,Value.ownBlock] at hb,World.ownsRow_nil _ _ _ _,by show 0≤50;omega,World.ownsRow_nil _ _ _ _,by show 0≤50;omega,fun x hx=>by simp [Rx.first] at hx,World.ownsRow_nil _ _ _ _,by show 0≤50;omega,fun x hx=>by simp [Rx.first] at hx⟩
theorem refNew (w:World):Calls Tryz.prog 58 #[] w fun e w'=>∃ rb rn cap,e=.returned (.pointer (some ⟨rb,0,none⟩))∧RefOK w' (Rx.first rb rn cap)∧Below w.heap.size w w'∧w.heap.size≤rb∧w.heap.size≤rn:=by
 obtain ⟨i0,hi,hz0,hz1,hz2⟩:=info_parts Tryz.info150
 go_enter Tryz.func58, Tryz.ntmps58
 go_wp2_with (at_builtin;refine wpList_append_lies _ rfl _ _ 112 rfl (w.heap.size+1) 150 i0 _ 5 80 Tryz.underlying112 hi hz0 hz1 hz2 rfl (by decide) (.slice none 0 0) 0 [] rfl (World.ownsRow_nil _ _ _ _) ⟨w.heap.size+1,0,none⟩ 1 1 (newRow 0 ByteArray.empty) rfl ?c0 ?c1 ?c2 ?cm ?c3 ?c4 ?c5 _ rfl ?_)
 case c0=>rfl
 case c1 =>
  intro j u hj
  rw [at_add,Nat.zero_add]
  have hb:=heap_alloc_new (w.alloc (.cells #[.slice none 0 0,.slice none 0 0,.slice none 0 0,.slice none 0 0] 117)) (.cells (newRow 0 ByteArray.empty).toArray 150)
  have hs:(w.alloc (.cells #[.slice none 0 0,.slice none 0 0,.slice none 0 0,.slice none 0 0] 117)).heap.size=w.heap.size+1:=by simp
  rw [hs] at hb
  refine (cells_of hb j).trans ?_
  simpa using hj
 case c2=>exact newRow_one 0 ByteArray.empty
 case cm=>omega
 case c3=>unfold maxLen;omega
 case c4=>omega
 case c5=>simp
 intro g cp w3 hown hgrow hat hlt
 have hb1:Below w.heap.size w (w.alloc (.cells #[.slice none 0 0,.slice none 0 0,.slice none 0 0,.slice none 0 0] 117)):=(Below.refl _ _).alloc (Nat.le_refl _) _
 have hg1:(w.alloc (.cells #[.slice none 0 0,.slice none 0 0,.slice none 0 0,.slice none 0 0] 117)).heap[w.heap.size]?=some (.cells #[.slice none 0 0,.slice none 0 0,.slice none 0 0,.slice none 0 0] 117 (0,0)):=heap_alloc_new w _
 have hs1:(w.alloc (.cells #[.slice none 0 0,.slice none 0 0,.slice none 0 0,.slice none 0 0] 117)).heap.size=w.heap.size+1:=by simp
 generalize w.alloc (.cells #[.slice none 0 0,.slice none 0 0,.slice none 0 0,.slice none 0 0] 117)=W1 at *
 have hk:∀ b,b<W1.heap.size→w3.heap[b]?=W1.heap[b]?:=fun b hb=>(hgrow.block b (by simp;omega) (by simp [Value.ownBlock])).trans (Below.heap_alloc _ _ _ hb)
 have hg3:w3.heap[w.heap.size]?=some (.cells #[.slice none 0 0,.slice none 0 0,.slice none 0 0,.slice none 0 0] 117 (0,0)):=(hk _ (by omega)).trans hg1
 have hsz:W1.heap.size≤w3.heap.size:=Nat.le_trans (by simp) hgrow.size
 have hge:w.heap.size+1≤g:=(hown.lt g rfl).1
 have c0:w3.cell? ⟨w.heap.size,0,none⟩=some (.slice none 0 0):=by simp [World.cell?,hg3]
 have fz:∀ j,w3.frozen? ⟨w.heap.size,j,none⟩=false:=fun j=>by simp [World.frozen?,hg3]
 have hb3:Below w.heap.size w (w3.setCell ⟨w.heap.size,0,none⟩ (.slice (some ⟨g,0,none⟩) (0+1) cp)) :=
  ⟨hgrow.os.trans hb1.os,hgrow.tape.trans hb1.tape,hgrow.output.trans hb1.output,by simp [World.setCell];omega,fun b hb=>by
   rw [heap_setCell_other _ _ _ _ (by show b≠w.heap.size;omega),hk b (by omega),hb1.block b hb]⟩
 have OK:=first_ok (w:=w3.setCell ⟨w.heap.size,0,none⟩ (.slice (some ⟨g,0,none⟩) (0+1) cp)) (rb:=w.heap.size) (rn:=g) (cap:=cp) (heap_setCell_same w3 w.heap.size 0 _ _ _ hg3)
  (ownsRow_setCell_other (row_base hown (Nat.zero_le _)) (by simp [Value.ownBlock];omega) _)
 have HOK:Hid _:=OK
 have HB:Hid _:=hb3
 clear OK hb3 hk hg3 hown hgrow hat hb1 hg1
 go_wp2_with fail
 go_ret
 exact ⟨w.heap.size,g,cp,rfl,HOK.out,HB.out,Nat.le_refl _,by omega⟩
open Go.RowKit Go.Shelf Gv
section
variable {w w':World} {r:Rx} {s:Fo} {K:Nat→List Nat}
theorem refPut5 (h:RefOK w r) (p c b:Int) (hno:¬ (hasB (r.N+1) p=true∧hasB (r.N+1) c=true∧(b=0∨hasB (r.N+1) b=true))) :
  Calls Tryz.prog 92 #[.pointer (some ⟨r.rb,0,none⟩),.int .i64 p,.int .i64 c,.int .i64 b] w fun e w'=>e=.returned (.int .i64 5)∧w'=w:=by
 have HH:Hid (RefOK w r):=h
 have HN:Hid (¬ (hasB (r.N+1) p=true∧hasB (r.N+1) c=true∧(b=0∨hasB (r.N+1) b=true))):=hno
 clear h hno
 go_enter Tryz.func92, Tryz.ntmps92
 go_wp2_with fail
 refine (refIs HH.out p).mono ?_
 rintro e w ⟨rfl,rfl⟩
 go_wp2_with fail
 refine (refIs HH.out c).mono ?_
 rintro e w ⟨rfl,rfl⟩
 go_wp2_with fail
 refine (refIs HH.out b).mono ?_
 rintro e w ⟨rfl,rfl⟩
 have hn:=HN.out
 cases hp:hasB (r.N+1) p with
 | false =>
  clear hn
  go_wp2_with fail
  go_ret
  exact ⟨rfl,rfl⟩
 | true =>
  cases hc:hasB (r.N+1) c with
  | false =>
   clear hn
   go_wp2_with fail
   go_ret
   exact ⟨rfl,rfl⟩
  | true =>
   cases hb:hasB (r.N+1) b with
   | true=>exact absurd ⟨hp,hc,.inr hb⟩ hn
   | false =>
    have hb0:(b != 0)=true:=by
     simp only [bne_iff_ne,ne_eq]
     exact fun e=>hn ⟨hp,hc,.inl e⟩
    clear hn
    go_wp2_with fail
    go_ret
    exact ⟨rfl,rfl⟩
def Rx.put (r:Rx) (s:Fo) (K:Nat→List Nat) (p c b:Nat) (kv:Nat→Value):Rx :=
 { r with par:=((Fo.out s c).insert p c (markOf s c b)).par,K:=chK K p c (markOf s c b),kv:=kv,il:=itsOut r.N s c r.il }
def PutPost (w:World) (r:Rx) (s:Fo) (K:Nat→List Nat) (p c b:Nat) (e:Ending) (w':World):Prop :=
 ∃ q:Int,e=.returned (.int .i64 q)∧((q=6∧w'=w∧(2<r.kn p∨r.kn c=1∨Desc s.par p c))∨(¬ (2<r.kn p∨r.kn c=1∨Desc s.par p c) ∧
  ((q=7∧w'=w∧b≠0∧s.par b≠p)∨((b=0∨s.par b=p)∧((q=6∧w'=w∧Full r.kn K p c)∨(q=0∧¬ Full r.kn K p c∧∃ kv,RPost w w' r (r.put s K p c b kv)))))))
theorem PutPost.bad {w:World} {r:Rx} {s:Fo} {K:Nat→List Nat} {p c b:Nat} (h:2<r.kn p∨r.kn c=1∨Desc s.par p c):PutPost w r s K p c b (.returned (.int .i64 6)) w:=⟨6,rfl,.inl ⟨rfl,rfl,h⟩⟩
theorem PutPost.ahead {w:World} {r:Rx} {s:Fo} {K:Nat→List Nat} {p c b:Nat} (h:¬ (2<r.kn p∨r.kn c=1∨Desc s.par p c)) (h1:b≠0) (h2:s.par b≠p):PutPost w r s K p c b (.returned (.int .i64 7)) w:=⟨7,rfl,.inr ⟨h,.inl ⟨rfl,rfl,h1,h2⟩⟩⟩
theorem PutPost.full {w:World} {r:Rx} {s:Fo} {K:Nat→List Nat} {p c b:Nat} (h:¬ (2<r.kn p∨r.kn c=1∨Desc s.par p c)) (h1:b=0∨s.par b=p) (h2:Full r.kn K p c):PutPost w r s K p c b (.returned (.int .i64 6)) w:=⟨6,rfl,.inr ⟨h,.inr ⟨h1,.inl ⟨rfl,rfl,h2⟩⟩⟩⟩
theorem PutPost.done {w w':World} {r:Rx} {s:Fo} {K:Nat→List Nat} {p c b:Nat} {kv:Nat→Value} (h:¬ (2<r.kn p∨r.kn c=1∨Desc s.par p c)) (h1:b=0∨s.par b=p) (h2:¬ Full r.kn K p c) (h3:RPost w w' r (r.put s K p c b kv)):PutPost w r s K p c b (.returned (.int .i64 0)) w':=⟨0,rfl,.inr ⟨h,.inr ⟨h1,.inr ⟨rfl,h2,kv,h3⟩⟩⟩⟩
def Outed (r:Rx) (s:Fo) (K:Nat→List Nat) (c:Nat) (r1:Rx):Prop:=∃ kv,r1={ r with par:=(Fo.out s c).par,K:=dropK K c,kv:=kv,il:=itsOut r.N s c r.il }
theorem outed_self (hp:r.par=s.par) (hK:r.K=K) (hwf:WF r.N s K) {c:Nat} (h0:s.par c=0):Outed r s K c r:=by
 refine ⟨r.kv,?_⟩
 have e1:(Fo.out s c).par=r.par:=by unfold Fo.out;rw [if_pos h0,hp]
 have e2:dropK K c=r.K:=by rw [drop_loose hwf h0,hK]
 have e3:itsOut r.N s c r.il=r.il:=by unfold itsOut;rw [if_pos h0]
 rw [e1,e2,e3]
theorem outed_took {c:Nat} {nv:Value} (h0:s.par c≠0):Outed r s K c (r.took s K c nv):=by
 refine ⟨up r.kv (s.par c) nv,?_⟩
 have e1:Fo.out s c=s.remove c:=by unfold Fo.out;rw [if_neg h0]
 have e3:itsOut r.N s c r.il=r.il.map (It.leave r.N s c):=by unfold itsOut;rw [if_neg h0]
 rw [e1,e3]
 rfl
theorem put_end {W w6:World} {r1:Rx} {p c b mk:Nat} {kv1:Nat→Value} {nv:Value} {us vs:List Nat} (hP1:RPost w W r r1) (hr1:r1={ r with par:=(Fo.out s c).par,K:=dropK K c,kv:=kv1,il:=itsOut r.N s c r.il }) (hwf:WF r.N s K)
  (hp1:1≤p) (hpN:p≤r.N) (hc1:1≤c) (hcN:c≤r.N) (hd:¬ Desc s.par p c) (hb:b=0∨b∈K p) (hmk:mk=markOf s c b) (hus:dropK K c p=us++vs) (hvs:vs.headD 0=mk) (hnd:(us++vs).Nodup) (hpos:∀ x,x∈us++vs→x≠0)
  (hbel:Below W.heap.size W w6) (hv:w6.ownsRow W.heap.size 3 1 nv (us++c :: vs).length (ints (us++c :: vs))) :
  RPost w ((w6.setCell ⟨r.rn,p*5+4,none⟩ nv).setCell ⟨r.rn,c*5+3,none⟩ (.int .i64 p)) r (r.put s K p c b (up kv1 p nv)):=by
 have o1:RefOK W { r with par:=(Fo.out s c).par,K:=dropK K c,kv:=kv1,il:=itsOut r.N s c r.il }:=by rw [← hr1];exact hP1.ok
 have eK:chK K p c mk=up (dropK K c) p (us++c :: vs):=by unfold chK;rw [hus,insK_eq hnd hpos hvs]
 have hl:(us++c :: vs).length≤300:=by
  have h1:=(put_chK hwf hc1 hcN hp1 hpN hd hb).few p
  rw [← hmk,eK,up_same] at h1
  have:=o1.hN
  have h2:r.N≤300:=this
  omega
 have h5:=(o1.since hbel).putKids (i:=p) hpN (row_base hv (Nat.zero_le _)) hl
 have h6:=h5.putPar (i:=c) p hcN
 have h7:RefOK ((w6.setCell ⟨r.rn,p*5+4,none⟩ nv).setCell ⟨r.rn,c*5+3,none⟩ (.int .i64 p)) (r.put s K p c b (up kv1 p nv)):=by
  have e3:r.put s K p c b (up kv1 p nv)={ r with par:=up (Fo.out s c).par c p,kv:=up kv1 p nv,K:=up (dropK K c) p (us++c :: vs),il:=itsOut r.N s c r.il }:=by
   unfold Rx.put
   rw [← hmk,eK]
   rfl
  rw [e3]
  exact h6
 have hown1:∀ i,(r.put s K p c b (up kv1 p nv)).own i→r1.own i∨W.heap.size≤i:=by
  intro i hi
  subst hr1
  rcases hi with h | h | ⟨j,hj,h⟩ | h | h | h | h | h | h
  ·exact .inl (.inl h)
  ·exact .inl (.inr (.inl h))
  ·have h':(up kv1 p nv j).ownBlock=some i:=h
   by_cases ej:j=p
   ·subst ej
    rw [up_same] at h'
    exact .inr (hv.lt i h').1
   ·rw [up_other _ _ _ ej] at h'
    exact .inl (.inr (.inr (.inl ⟨j,hj,h'⟩)))
  ·exact .inl (.inr (.inr (.inr (.inl h))))
  ·exact .inl (.inr (.inr (.inr (.inr (.inl h)))))
  ·exact .inl (.inr (.inr (.inr (.inr (.inr (.inl h))))))
  ·exact .inl (.inr (.inr (.inr (.inr (.inr (.inr (.inl h)))))))
  ·exact .inl (.inr (.inr (.inr (.inr (.inr (.inr (.inr (.inl h))))))))
  ·exact .inl (.inr (.inr (.inr (.inr (.inr (.inr (.inr (.inr h))))))))
 refine ⟨h7,?_,fun i hi=>?_,rfl⟩
 ·have f1:Fr r.own w w6:=hP1.fr.trans (Fr.of_below hbel)
  exact (f1.setCell (p:=⟨r.rn,p*5+4,none⟩) Rx.own_n _).setCell (p:=⟨r.rn,c*5+3,none⟩) Rx.own_n _
 ·rcases hown1 i hi with h | h
  ·exact hP1.own i h
  ·exact .inr (Nat.le_trans hP1.fr.size h)
end
end Go.Proofs.YtcedebpoihcbdaaGreatDoor
