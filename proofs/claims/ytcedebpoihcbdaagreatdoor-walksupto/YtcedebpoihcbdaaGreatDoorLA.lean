/-
  What the forest's Under goes through, as a range over a function sees it.
  slices.AppendSeq and slices.Collect over what the forest's Under goes through.
  slices.IndexFunc and slices.DeleteFunc, where the function handed in is that of the list's look, which may make new blocks.
  slices.DeleteFunc at the list's look.
-/
import Derived.RangeFuncNested
import Derived.RangeFuncBound
import Derived.RangeFuncCalls
import Derived.RangeFuncLeaves
import Derived.RangeFuncBox
import Derived.Shelf.Abstract
import Derived.Shelf.RegionOpen
import Derived.OwnWalkIn
import Derived.TacticsInMore
import Derived.LoopNIn
import Derived.LoopIn
import Derived.Sort.LoopGhostIn
import Derived.Maps.AppendAt
import Derived.Test.YtcedebpoihcbdaaGreatDoorWC
import Derived.Lib.SliceRun
import Derived.Laws.IdiomCopy
set_option maxHeartbeats 2000000
set_option maxRecDepth 100000
namespace Go.Proofs.YtcedebpoihcbdaaGreatDoor
open Go.RowKit Go.Shelf Gv
attribute [local go_sem] Oper.semAt_some
section
variable {B gb nb cap N:Nat} {s:Fo} {kd:Nat→Value} {K:Nat→List Nat} {r:Re}
theorem tail_head (hwf:WF N s K) (hN:1≤N) {t:Nat} (ht:1≤t) (htN:t≤N):nextF s (N+1) t t=(P N K t).tail.headD 0:=by
 obtain ⟨l,hl⟩:=P_head N K t
 have h:=(nb_fact hwf hN ht htN (k:=0) (p:=t) (by rw [hl];rfl)).2
 rw [h,hl]
 cases l <;> simp
theorem tail_next (hwf:WF N s K) (hN:1≤N) {t y:Nat} (ht:1≤t) (htN:t≤N) {pre ys:List Nat} (h:(P N K t).tail=pre++y :: ys):nextF s (N+1) y t=ys.headD 0:=by
 obtain ⟨l,hl⟩:=P_head N K t
 rw [hl] at h
 simp only [List.tail_cons] at h
 have h2:=(nb_fact hwf hN ht htN (k:=pre.length+1) (p:=y) (by rw [hl,h,List.getElem?_cons_succ,List.getElem?_append_right (Nat.le_refl _)];simp)).2
 rw [h2,hl,h,List.getD_eq_getElem?_getD,List.getElem?_cons_succ,List.getElem?_append_right (by omega),show pre.length+1-pre.length=1 by omega]
 cases ys <;> simp
theorem tail_in (hwf:WF N s K) {t y:Nat} (ht:1≤t) (htN:t≤N) (h:y∈(P N K t).tail):1≤y∧y≤N:=pre_le hwf N t y ht htN (List.mem_of_mem_tail h)
theorem under1 (n:Nat) (hn:1≤n) (l Bf Bt n₀ t:Nat) (hwf:WF N s K) (hN:1≤N) (ht:1≤t) (htN:t≤N) (J Jx:List Nat→World→Prop)
  (hY:∀ pre x W,J pre W→pre.length<(P N K t).tail.length→YieldAt Fence.wide (n-1) Tryz.prog l #[.int .i64 (x:Nat)] W fun e W' =>
    (e=.returned (.bool true)∧J (pre++[x]) W'∧Below n₀ W W')∨(e=.returned (.bool false)∧Jx (pre++[x]) W'))
  (W:World) (h:Held W B gb nb cap (N+1) s kd r) (hg:gb<n₀) (hnb:nb<n₀) (hf:Bf<n₀) (hb:Bt<n₀)
  (hcf:W.cell? ⟨Bf,0,none⟩=some (.pointer (some ⟨gb,0,none⟩))) (hct:W.cell? ⟨Bt,0,none⟩=some (.int .i64 t)) (h0:J [] W) :
  CallsIn Fence.wide n Tryz.prog 140 #[.func (.yield l) #[] #[],.pointer (some ⟨Bf,0,none⟩),.pointer (some ⟨Bt,0,none⟩)] W fun e W'=>(∃ v,e=.returned v) ∧
   ((∃ ys,ys=(P N K t).tail∧J ys W')∨(∃ pre,pre <+: (P N K t).tail∧Jx pre W')):=by
 have HH:Hid (∀ W',Below n₀ W W'→Held W' B gb nb cap (N+1) s kd r):=fun W' hb'=>h.below hb' hg hnb
 have HY:Hid (∀ pre x W,J pre W→pre.length<(P N K t).tail.length→YieldAt Fence.wide (n-1) Tryz.prog l #[.int .i64 (x:Nat)] W fun e W' =>
   (e=.returned (.bool true)∧J (pre++[x]) W'∧Below n₀ W W')∨(e=.returned (.bool false)∧Jx (pre++[x]) W')):=hY
 have HW:Hid (WF N s K):=hwf
 have HT:Hid (∀ pre y ys,(P N K t).tail=pre++y :: ys→nextF s (N+1) y t=ys.headD 0):=fun pre y ys e=>tail_next hwf hN ht htN e
 have HI:Hid (∀ y,y∈(P N K t).tail→1≤y∧y≤N):=fun y hy=>tail_in hwf ht htN hy
 have h1:=tail_head hwf hN ht htN
 have h2:Hid (Held W B gb nb cap (N+1) s kd r):=h
 clear h hY hwf
 generalize hl:(P N K t).tail=xs at *
 clear hl
 refine callsIn_of_wp Tryz.func140 rfl trivial ?_ rfl
 simp only [Tryz.ntmps140,List.size_toArray,List.length_cons,List.length_nil,Nat.reduceAdd,Nat.reduceSub,Array.replicate_succ,Array.replicate_zero,List.push_toArray,List.append_toArray,List.nil_append,List.cons_append]
 gi_wp2_with (refine ⟨trivial,?_⟩;gi_at_call 127;refine CallsIn.mono (callsIn_wide.2 (nextC h2.out HW.out t t htN htN)) ?_;rintro e W ⟨rfl,rfl⟩)
 gi_loopg [4] xs.length (fun m i wr=>∃ (pre rest:List Nat) (x:Nat),m=rest.length∧i=.int .i64 x∧x=rest.head?.getD 0∧xs=pre++rest∧J pre wr∧Below n₀ W wr)
 case atStart =>
  exact ⟨[],xs,_,rfl,rfl,by simp,rfl,h0,Below.refl _ _⟩
 case round =>
  obtain ⟨pre,rest,x,hm,rfl,hx0,hx,hJs,hB⟩:=hrel
  have HX:Hid (xs=pre++rest):=hx
  have HM:Hid (gk=rest.length):=hm
  clear hx hm h1
  cases rest with
  | nil =>
   have hx1:x=0:=hx0
   clear hx0
   subst hx1
   gi_wp2
   refine ⟨fun _ h=>(by cases h),?_⟩
   gi_wp2
   go_end0
   exact ⟨⟨_,rfl⟩,.inl ⟨pre,by simp [HX.out],hJs⟩⟩
  | cons y rest =>
   have hx1:x=y:=hx0
   clear hx0
   subst hx1
   have hx1:=HI.out x (by rw [HX.out];simp)
   have hne:((x:Int) != 0)=true:=by simp;omega
   obtain ⟨fn,tmps,assign,body,hy,hR⟩:=HY.out pre x wr hJs (by rw [HX.out];simp)
   gi_wp2
   refine hR.mono ?_
   rintro e W3 (⟨rfl,hJ3,hk3⟩ | ⟨rfl,hJx3⟩)
   ·have hcf3:W3.cell? ⟨Bf,0,none⟩=some (.pointer (some ⟨gb,0,none⟩)):=((hB.trans hk3).cell (p:=⟨Bf,0,none⟩) hf).trans hcf
    have hct3:W3.cell? ⟨Bt,0,none⟩=some (.int .i64 t):=((hB.trans hk3).cell (p:=⟨Bt,0,none⟩) hb).trans hct
    have H3:Hid (Held W3 B gb nb cap (N+1) s kd r):=HH.out W3 (hB.trans hk3)
    gi_wp2_with (refine ⟨trivial,?_⟩;gi_at_call 127;refine CallsIn.mono (callsIn_wide.2 (nextC H3.out HW.out x t hx1.2 htN)) ?_;rintro e W3 ⟨rfl,rfl⟩)
    gi_roundg rest.length
    case rel=>exact ⟨pre++[x],rest,_,rfl,rfl,by rw [HT.out pre x rest HX.out];simp,by simp [HX.out],hJ3,hB.trans hk3⟩
    case measure=>have hm:=HM.out;simp at hm;omega
   ·gi_wp2
    go_end0
    exact ⟨⟨_,rfl⟩,.inr ⟨pre++[x],⟨rest,by simp [HX.out]⟩,hJx3⟩⟩
theorem underF (gb t:Nat) (w:World) :
  Calls Tryz.prog 89 #[.pointer (some ⟨gb,0,none⟩),.int .i64 t] w fun e w'=>e=.returned (.func (.func 140) #[] #[.pointer (some ⟨w.heap.size,0,none⟩),.pointer (some ⟨w.heap.size+1,0,none⟩)])∧w'=(w.alloc (.cells #[.pointer (some ⟨gb,0,none⟩)] 93)).alloc (.cells #[.int .i64 t] 3):=by
 go_enter Tryz.func89, Tryz.ntmps89
 go_wp2_with fail
 go_ret
 exact ⟨rfl,rfl⟩
end
open Go.RowKit Go.Shelf Gv
attribute [local go_sem] Oper.semAt_some
section
variable {B gb nb cap N:Nat} {s:Fo} {kd:Nat→Value} {K:Nat→List Nat} {r:Re}
theorem ints_snoc (l:List Nat) (x:Nat):ints (l++[x])=ints l++[.int .i64 (x:Nat)]:=by simp [ints]
theorem appendIn (t:Nat) (hwf:WF N s K) (hN:1≤N) (ht:1≤t) (htN:t≤N) (w:World) (h:Held w B gb nb cap (N+1) s kd r) {Bf Bt:Nat} (hf:Bf<w.heap.size) (hb:Bt<w.heap.size)
  (hcf:w.cell? ⟨Bf,0,none⟩=some (.pointer (some ⟨gb,0,none⟩))) (hct:w.cell? ⟨Bt,0,none⟩=some (.int .i64 t)) :
  CallsIn Fence.wide 5 Tryz.prog 190 #[.slice none 0 0,.func (.func 140) #[] #[.pointer (some ⟨Bf,0,none⟩),.pointer (some ⟨Bt,0,none⟩)]] w fun e w'=>∃ v,e=.returned v∧w'.ownsRow w.heap.size 3 1 v (P N K t).tail.length (ints (P N K t).tail)∧Below w.heap.size w w':=by
 have HU:Hid (∀ w',Below w.heap.size w w'→SeqStopsK Fence.wide (5-1) Tryz.prog 140 #[.pointer (some ⟨Bf,0,none⟩),.pointer (some ⟨Bt,0,none⟩)] (fun x:Nat=>#[Value.int .i64 (x:Nat)]) (Below w.heap.size) (fun ys=>ys=(P N K t).tail) (fun pre=>pre <+: (P N K t).tail) (P N K t).tail.length w'):=by
  intro w' hw l J Jx W hW _ _ hY h0
  have hB:=hw.trans (hW.mono hw.size)
  exact under1 (5-1) (by omega) l Bf Bt w.heap.size t hwf hN ht htN J Jx hY W (h.below hB h.ltg h.ltn) h.ltg h.ltn hf hb ((hB.cell (p:=⟨Bf,0,none⟩) hf).trans hcf) ((hB.cell (p:=⟨Bt,0,none⟩) hb).trans hct) h0
 have hlen:(P N K t).tail.length≤300:=by
  have h1:=P_len hwf ht htN
  have h2:=h.hL
  rw [List.length_tail]
  omega
 clear hcf hct hf hb h hwf
 generalize (P N K t).tail=xs at *
 obtain ⟨i0,hi,hz0,hz1,hz2⟩:=info_parts Tryz.info3
 refine callsIn_of_wp_marks Tryz.func190 rfl trivial ?_ rfl
 simp only [Tryz.ntmps190,List.size_toArray,List.length_cons,List.length_nil,Nat.reduceAdd,Nat.reduceSub,Array.replicate_succ,Array.replicate_zero,List.push_toArray,List.append_toArray,List.nil_append,List.cons_append]
 gi_wp2
 have bO:=Boxed.new w 25 (.slice none 0 0)
 have hB0:Below w.heap.size w (w.alloc (.cells #[.slice none 0 0] 25)):=(Below.refl _ w).alloc (Nat.le_refl _) _
 refine wpIn_rangeFunc_ownG rfl (by omega) (gf:=140) (lb:=#[.pointer (some ⟨Bf,0,none⟩),.pointer (some ⟨Bt,0,none⟩)]) rfl trivial (enters_of Tryz.func140 (by kernel_rfl) rfl)
  (HU.out _ hB0) belowK_t (belowK_b (by simp)) (Below.refl _ _) (fun _=>rfl)
  (fun pre W=>(∃ v,Boxed W w.heap.size 25 v∧W.ownsRow w.heap.size 3 1 v pre.length (ints pre)∧True)∧Below w.heap.size w W)
  (fun _ _ _=>False)
  (OwnFrom.and (Own.from (holdsRow_own w.heap.size w.heap.size 25 3 1 (fun pre:List Nat=>pre.length) (fun pre=>ints pre) (fun _ _=>True)) _) (ownFrom_below (Nat.le_refl _) (by simp)))
  (fun _ _ _ _ _ hs _ _=>hs)
  ⟨⟨_,bO,World.ownsRow_nil _ _ _ _,trivial⟩,hB0⟩
  (fun x=>{ tmps:=#[.slice none 0 0,.func (.func 140) #[] #[.pointer (some ⟨Bf,0,none⟩),.pointer (some ⟨Bt,0,none⟩)],.pointer (some ⟨w.heap.size,0,none⟩),undef,.slice none 0 0,.int .i64 (x:Nat),.func (.func 140) #[] #[.pointer (some ⟨Bf,0,none⟩),.pointer (some ⟨Bt,0,none⟩)],.int .i64 (x:Nat),undef,undef,undef,undef,undef],defers:=[] }) ?assign ?body ?done ?stop
 case assign =>
  intro l x W K hK
  gi_wp2
  exact hK
 case body =>
  rintro l pre x W ⟨⟨v,hv,hrow,-⟩,hB⟩ hlt
  have hc:=hv.cell
  gi_wp2_with (gi_at_builtin;refine wpListIn_append_own _ rfl _ _ 25 rfl w.heap.size 3 i0 (.int .i64 0) 1 8 Tryz.underlying25 hi hz0 hz1 hz2 rfl (by decide) _ _ _ rfl (hrow.alloc _) ⟨W.heap.size,0,none⟩ 1 1 [.int .i64 (x:Nat)] rfl rfl (cell_one_new _ _ _) (by simp [Value.oneCell']) (by simp [maxLen];omega) (by omega) (by have:=hB.size;simp;omega) ?_;intro v' w1 hown' hgrow _;obtain ⟨g',cap',rfl⟩:=ownsRow_succ hown';obtain ⟨hv1,hv2,hr2,hk2,hb2⟩:=hv.appended (by decide) hrow hB.size (Nat.le_refl _) hown' hgrow;have hc1:=hv1.cell;have hf1:=hv1.frozen)
  exact ⟨hk2.from _,hb2,⟨_,hv2,by rw [ints_snoc,List.length_append];simpa using hr2,trivial⟩,hB.trans hb2⟩
 case done =>
  rintro D ys W hD rfl ⟨⟨v,hv,hrow,-⟩,hB⟩ hK
  have hc:=hv.cell
  gi_wp2
  refine ⟨by simp,.inl ⟨_,_,rfl,run_takeDeferred hK,?_⟩⟩
  exact ⟨_,results_tmp rfl _ _ _,v,rfl,ownsRow_putObj hrow _ hK rfl,hB.trans (belowK_b (w:=w) (Nat.le_refl _) W D _ _ (by simp at hD;omega) hK rfl rfl)⟩
 case stop =>
  rintro D c pre W _ _ h _
  exact h.elim
theorem collectF (t:Nat) (hwf:WF N s K) (hN:1≤N) (ht:1≤t) (htN:t≤N) (w:World) (h:Held w B gb nb cap (N+1) s kd r) {Bf Bt:Nat} (hf:Bf<w.heap.size) (hb:Bt<w.heap.size)
  (hcf:w.cell? ⟨Bf,0,none⟩=some (.pointer (some ⟨gb,0,none⟩))) (hct:w.cell? ⟨Bt,0,none⟩=some (.int .i64 t)) :
  Calls Tryz.prog 174 #[.func (.func 140) #[] #[.pointer (some ⟨Bf,0,none⟩),.pointer (some ⟨Bt,0,none⟩)]] w fun e w'=>∃ v,e=.returned v∧w'.ownsRow w.heap.size 3 1 v (P N K t).tail.length (ints (P N K t).tail)∧Below w.heap.size w w':=by
 have HA:Hid _:=callsIn_wide.1 (appendIn t hwf hN ht htN w h hf hb hcf hct)
 clear h hwf hcf hct
 go_enter Tryz.func174, Tryz.ntmps174
 go_wp2_with fail
 refine Calls.mono HA.out ?_
 rintro e w' ⟨v,rfl,hv,hbel⟩
 have HV:Hid _:=hv
 have HBl:Hid _:=hbel
 clear hv hbel
 go_wp2_with fail
 go_ret
 exact ⟨v,rfl,HV.out,HBl.out⟩
end
open Go.RowKit Gv
theorem cells_setCells {g:Nat} {t:TypeId} {fr:Nat × Nat}:∀ (vs:List Value) (o:Nat) (w:World) (cur:Array Value),w.heap[g]?=some (.cells cur t fr)→∃ cur',(w.setCells g o vs).heap[g]?=some (.cells cur' t fr)∧cur'.size=cur.size∧∀ k,k<o→cur'[k]?=cur[k]?
 | [],_,_,cur,h=>⟨cur,h,rfl,fun _ _=>rfl⟩
 | v :: vs,o,w,cur,h=>by
  obtain ⟨c',h1,h2,h3⟩:=cells_setCells vs (o+1) (w.setCell ⟨g,o,none⟩ v) (cur.setIfInBounds o v) (cells_setCell h)
  refine ⟨c',h1,by rw [h2];simp,fun k hk=>?_⟩
  rw [h3 k (by omega),Array.getElem?_setIfInBounds_ne (by omega)]
theorem fr_setCells {g:Nat} {S:Nat→Prop} (hg:S g):∀ (vs:List Value) (o:Nat) (a w:World),Fr S a w→Fr S a (w.setCells g o vs)
 | [],_,_,_,h=>h
 | v :: vs,o,a,_,h=>fr_setCells hg vs (o+1) a _ (h.setCell (p:=⟨g,o,none⟩) hg v)
def Tells (b1 b2:Nat) (S:Nat→Prop) (p:Nat→Bool) (l:List Nat) (w:World):Prop :=
 ∀ x,x∈l→∀ W,Fr S w W→Calls Tryz.prog 176 #[.int .i64 (x:Nat),.pointer (some ⟨b1,0,none⟩),.pointer (some ⟨b2,0,none⟩)] W fun e W'=>e=.returned (.bool (p x))∧Below W.heap.size W W'
theorem getD_mem {l:List Nat} {k:Nat} (h:k<l.length):l.getD k 0∈l:=by
 rw [List.getD_eq_getElem?_getD,List.getElem?_eq_getElem h];exact List.getElem_mem _
theorem indexF (b1 b2:Nat) (S:Nat→Prop) (p:Nat→Bool) (l:List Nat) (ao:Option Addr) (c:Nat) (w:World) (hl:l.length≤1000) (hn:Nums w ao l.length l) (hp:Tells b1 b2 S p l w) :
  Calls Tryz.prog 191 #[.slice ao l.length c,.func (.func 176) #[] #[.pointer (some ⟨b1,0,none⟩),.pointer (some ⟨b2,0,none⟩)]] w fun e w'=>Below w.heap.size w w' ∧
   ((e=.returned (.int .i64 (-1))∧∀ x,x∈l→p x=false)∨∃ k:Nat,k<l.length∧e=.returned (.int .i64 k)∧p (l.getD k 0)=true∧∀ j,j<k→p (l.getD j 0)=false):=by
 have HP:Hid (Tells b1 b2 S p l w):=hp
 have HN:Hid (Nums w ao l.length l):=hn
 clear hp hn
 go_enter Tryz.func191, Tryz.ntmps191
 go_wp2_with fail
 go_loopg [8] l.length (fun m i wr=>∃ k:Nat,i=.int .i64 k∧m+k=l.length∧Below w.heap.size w wr∧∀ j,j<k→p (l.getD j 0)=false)
 case atStart=>exact ⟨0,rfl,by omega,Below.refl _ _,fun j hj=>absurd hj (by omega)⟩
 case round =>
  obtain ⟨k,rfl,hk,hB,hno⟩:=hrel
  have HB:Hid (Below w.heap.size w wr):=hB
  have HNo:Hid (∀ j,j<k→p (l.getD j 0)=false):=hno
  clear hB hno
  by_cases hlt:k<l.length
  ·have hlt':(k:Int)<((l.length:Nat):Int):=by omega
   rcases HN.out with h0 | ⟨g,rfl,hg,hc⟩
   ·omega
   have hcell:wr.cell? ⟨g,k,none⟩=some (.int .i64 (l.getD k 0:Nat)):=(HB.out.cell (p:=⟨g,k,none⟩) hg).trans (hc k hlt)
   have HC:=HP.out (l.getD k 0) (getD_mem hlt) wr (Fr.of_below HB.out)
   have HCC:Hid _:=HC
   clear hc HC
   generalize hx:l.getD k 0=x at *
   have HX:Hid (l.getD k 0=x):=hx
   clear hx
   go_wp2_with fail
   refine Calls.mono HCC.out ?_
   rintro e w2 ⟨rfl,hB2⟩
   have HB2:Hid (Below w.heap.size w w2):=HB.out.trans (hB2.mono HB.out.size)
   clear hB2 HCC
   cases hpx:p x with
   | true =>
    go_wp2_with fail
    go_ret
    exact ⟨HB2.out,.inr ⟨k,hlt,rfl,by rw [HX.out];exact hpx,HNo.out⟩⟩
   | false =>
    go_wp2_with fail
    go_roundg (gk-1)
    case measure=>omega
    case rel =>
     refine ⟨k+1,by go_num,by omega,HB2.out,fun j hj=>?_⟩
     by_cases e:j=k
     ·subst e;rw [HX.out];exact hpx
     ·exact HNo.out j (by omega)
  ·have hlt':¬ (k:Int)<((l.length:Nat):Int):=by omega
   go_wp2_with fail
   go_ret
   refine ⟨HB.out,.inl ⟨rfl,fun x hx=>?_⟩⟩
   obtain ⟨j,hj,rfl⟩:=List.getElem_of_mem hx
   have:=HNo.out j (by omega)
   rwa [List.getD_eq_getElem?_getD,List.getElem?_eq_getElem hj] at this
open Go.RowKit Gv
theorem take_snocN {l:List Nat} {j:Nat} (h:j<l.length):l.take (j+1)=l.take j++[l.getD j 0]:=by
 rw [List.take_add_one,List.getElem?_eq_getElem h,List.getD_eq_getElem?_getD,List.getElem?_eq_getElem h];rfl
theorem filt_keep {l:List Nat} {p:Nat→Bool} {j:Nat} (h:j<l.length) (hp:p (l.getD j 0)=false):(l.take (j+1)).filter (fun x=>!p x)=(l.take j).filter (fun x=>!p x)++[l.getD j 0]:=by
 rw [take_snocN h,List.filter_append];generalize l.getD j 0=y at *;simp [hp]
theorem filt_skip {l:List Nat} {p:Nat→Bool} {j:Nat} (h:j<l.length) (hp:p (l.getD j 0)=true):(l.take (j+1)).filter (fun x=>!p x)=(l.take j).filter (fun x=>!p x):=by
 rw [take_snocN h,List.filter_append];generalize l.getD j 0=y at *;simp [hp]
theorem filt_first {l:List Nat} {p:Nat→Bool}:∀ k,k≤l.length→(∀ j,j<k→p (l.getD j 0)=false)→(l.take k).filter (fun x=>!p x)=l.take k
 | 0,_,_=>by simp
 | k+1,hk,h=>by
  rw [filt_keep (by omega) (h k (by omega)),filt_first k (by omega) (fun j hj=>h j (by omega)),take_snocN (by omega)]
structure Going (w:World) (g c:Nat) (l:List Nat) (p:Nat→Bool) (j:Nat) (W:World):Prop where
 fr:Fr (fun i=>i=g) w W
 row:∃ cur,W.heap[g]?=some (.cells cur 3 (0,0))∧cur.size=c∧(∀ k,k<((l.take j).filter (fun x=>!p x)).length→cur[k]?=some (.int .i64 (((l.take j).filter (fun x=>!p x)).getD k 0:Nat)))∧∀ k,j≤k→k<l.length→cur[k]?=some (.int .i64 (l.getD k 0:Nat))
theorem Going.below {w:World} {g c:Nat} {l:List Nat} {p:Nat→Bool} {j:Nat} {W W':World} (h:Going w g c l p j W) (hB:Below W.heap.size W W'):Going w g c l p j W':=by
 obtain ⟨hf,cur,h1,h2⟩:=h
 exact ⟨hf.trans (Fr.of_below hB),cur,by rw [hB.block g (lt_of_block h1)];exact h1,h2⟩
theorem Going.skip {w:World} {g c:Nat} {l:List Nat} {p:Nat→Bool} {j:Nat} {W:World} (h:Going w g c l p j W) (hj:j<l.length) (hp:p (l.getD j 0)=true):Going w g c l p (j+1) W:=by
 obtain ⟨hf,cur,h1,h2,h3,h4⟩:=h
 exact ⟨hf,cur,h1,h2,by rw [filt_skip hj hp];exact h3,fun k hk=>h4 k (by omega)⟩
theorem Going.keep {w:World} {g c:Nat} {l:List Nat} {p:Nat→Bool} {j:Nat} {W:World} (h:Going w g c l p j W) (hj:j<l.length) (hc:l.length≤c) (hp:p (l.getD j 0)=false):Going w g c l p (j+1) (W.setCell ⟨g,((l.take j).filter (fun x=>!p x)).length,none⟩ (.int .i64 (l.getD j 0:Nat))):=by
 obtain ⟨hf,cur,h1,h2,h3,h4⟩:=h
 have hle:((l.take j).filter (fun x=>!p x)).length≤j:=by have:=List.length_filter_le (fun x=>!p x) (l.take j);simp at this;omega
 refine ⟨hf.setCell (p:=⟨g,_,none⟩) rfl _,_,cells_setCell h1,by simp [h2],?_,fun k hk hk2=>?_⟩
 ·rw [filt_keep hj hp]
  intro k hk
  simp only [List.length_append,List.length_cons,List.length_nil] at hk
  by_cases e:k=((l.take j).filter (fun x=>!p x)).length
  ·subst e
   rw [Array.getElem?_setIfInBounds_self_of_lt (by omega)]
   generalize l.getD j 0=y
   simp
  ·rw [Array.getElem?_setIfInBounds_ne (by omega),h3 k (by omega),List.getD_eq_getElem?_getD,List.getD_eq_getElem?_getD,List.getElem?_append_left (by omega)]
 ·rw [Array.getElem?_setIfInBounds_ne (by omega)]
  exact h4 k (by omega) hk2
theorem ints_toList {cur:Array Value} {F:List Nat} (h:∀ k,k<F.length→cur[k]?=some (.int .i64 (F.getD k 0:Nat))):cur.toList.take (F.length*1)=ints F:=by
 apply List.ext_getElem?
 intro k
 rw [Nat.mul_one,List.getElem?_take]
 by_cases hk:k<F.length
 ·rw [if_pos hk]
  have:=h k hk
  rw [Array.getElem?_toList,this]
  simp [ints,hk]
 ·rw [if_neg hk]
  simp [ints,hk]
theorem Going.done {w:World} {g c:Nat} {l:List Nat} {p:Nat→Bool} {W:World} {D:Nat} (h:Going w g c l p l.length W) (hc:l.length≤c) (hm:c≤maxLen) (hD:D≤g) (vs:List Value) :
  (W.setCells g (l.filter (fun x=>!p x)).length vs).ownsRow D 3 1 (.slice (some ⟨g,0,none⟩) (l.filter (fun x=>!p x)).length c) (l.filter (fun x=>!p x)).length (ints (l.filter (fun x=>!p x)))∧Fr (fun i=>i=g) w (W.setCells g (l.filter (fun x=>!p x)).length vs):=by
 obtain ⟨hf,cur,h1,h2,h3,-⟩:=h
 rw [List.take_length] at h3
 have hle:=List.length_filter_le (fun x=>!p x) l
 obtain ⟨cur',e1,e2,e3⟩:=cells_setCells vs (l.filter (fun x=>!p x)).length W cur h1
 refine ⟨⟨by simp [ints],.inr ⟨g,c,cur',rfl,hD,e1,by omega,hm,by omega,?_⟩⟩,fr_setCells (S:=fun i=>i=g) rfl _ _ _ _ hf⟩
 exact ints_toList (fun k hk=>by rw [e3 k hk];exact h3 k hk)
theorem deleteF (b1 b2:Nat) (p:Nat→Bool) (l:List Nat) (D:Nat) (v:Value) (w:World) (hl:l.length≤1000) (hv:w.ownsRow D 3 1 v l.length (ints l)) (hp:Tells b1 b2 (fun i=>v.ownBlock=some i) p l w) :
  Calls Tryz.prog 175 #[v,.func (.func 176) #[] #[.pointer (some ⟨b1,0,none⟩),.pointer (some ⟨b2,0,none⟩)]] w fun e w'=>∃ v',e=.returned v'∧w'.ownsRow D 3 1 v' (l.filter (fun x=>!p x)).length (ints (l.filter (fun x=>!p x)))∧Fr (fun i=>v.ownBlock=some i) w w':=by
 obtain ⟨-,ao,c,rfl,hcap,hN⟩:=nums_of hv
 have HX:Hid _:=indexF b1 b2 (fun i=>(Value.slice ao l.length c).ownBlock=some i) p l ao c w hl hN hp
 have HV:Hid _:=hv
 have HP:Hid _:=hp
 clear hv hp hN
 go_enter Tryz.func175, Tryz.ntmps175
 go_wp2_with fail
 refine Calls.mono HX.out ?_
 clear HX
 rintro e w1 ⟨hB,⟨rfl,hall⟩ | ⟨k,hk,rfl,hpk,hno⟩⟩
 ·have HB:Hid _:=hB
  have HA:Hid (∀ x,x∈l→p x=false):=hall
  clear hB hall
  go_wp2_with fail
  go_ret
  have e:l.filter (fun x=>!p x)=l:=List.filter_eq_self.2 (fun x hx=>by simp [HA.out x hx])
  exact ⟨_,rfl,by rw [e];exact ownsRow_since HV.out HB.out,Fr.of_below HB.out⟩
 ·have hk1:(((k:Nat):Int) == -1)=false:=beq_eq_false_iff_ne.2 (by omega)
  obtain ⟨g,hao,hDg,hcm,hG⟩:∃ g,ao=some ⟨g,0,none⟩∧D≤g∧c≤maxLen∧Going w g c l p k w1:=by
   rcases HV.out.2 with ⟨h1,h2⟩ | ⟨g,cap,cur,h1,h2,h3,h4,h5,h6,h7⟩
   ·omega
   ·simp only [Value.slice.injEq,true_and] at h1
    obtain ⟨rfl,rfl⟩:=h1
    have hcell:∀ j,j<l.length→cur[j]?=some (.int .i64 (l.getD j 0:Nat)):=fun j hj=>by
     have:=congrArg (fun z=>z[j]?) h7
     simp only [Nat.mul_one,List.getElem?_take,if_pos hj,Array.getElem?_toList] at this
     rw [this]
     simp [ints,hj]
    refine ⟨g,rfl,h2,h5,Fr.of_below hB,cur,by rw [hB.block g (lt_of_block h3)];exact h3,by omega,?_,fun j _ hj=>hcell j hj⟩
    rw [filt_first k (by omega) hno]
    intro j hj
    simp only [List.length_take] at hj
    rw [hcell j (by omega),List.getD_eq_getElem?_getD,List.getD_eq_getElem?_getD,List.getElem?_take,if_pos (by omega)]
  subst hao
  have hfl:((l.take (k+1)).filter (fun x=>!p x)).length=k:=by rw [filt_skip hk hpk,filt_first k (by omega) hno];simp;omega
  have HG:Hid (Going w g c l p (k+1) w1):=hG.skip hk hpk
  have HFL:Hid (((l.take (k+1)).filter (fun x=>!p x)).length=k):=hfl
  clear hG hB hno hpk hfl
  go_wp2_with fail
  go_loopg [5,6] (l.length-(k+1)) (fun m a b wr=>∃ i j:Nat,a=.int .i64 i∧b=.int .i64 j∧m+j=l.length∧i<j∧Hid (i=((l.take j).filter (fun x=>!p x)).length)∧Hid (Going w g c l p j wr))
  case atStart=>exact ⟨k,k+1,rfl,by go_num,by omega,by omega,HFL.out.symm,HG.out⟩
  case round =>
   obtain ⟨i,j,rfl,rfl,hm,hij,HI,HGo⟩:=hrel
   obtain ⟨hFr,cur,hcur,hcs,hlow,hhigh⟩:=HGo.out
   by_cases hlt:j<l.length
   ·have hlt':(j:Int)<((l.length:Nat):Int):=by omega
    have hcell:wr.cell? ⟨g,j,none⟩=some (.int .i64 (l.getD j 0:Nat)):=(cells_of hcur j).trans (hhigh j (Nat.le_refl _) hlt)
    have HC:Hid _:=HP.out (l.getD j 0) (getD_mem hlt) wr (hFr.mono (fun i hi=>by rw [hi];rfl))
    clear hFr hcur hlow hhigh
    generalize hx:l.getD j 0=x at *
    have HX:Hid (l.getD j 0=x):=hx
    clear hx
    go_wp2_with fail
    refine Calls.mono HC.out ?_
    clear HC
    rintro e w2 ⟨rfl,hB2⟩
    have HG2:Hid (Going w g c l p j w2):=HGo.out.below hB2
    obtain ⟨-,cur2,hcur2,hcs2,-,-⟩:=HG2.out
    have hci:∃ old,w2.cell? ⟨g,i,none⟩=some old:=by rw [cells_of hcur2 i];exact ⟨_,Array.getElem?_eq_getElem (by omega)⟩
    obtain ⟨old,hci⟩:=hci
    have hfi:=frees_of hcur2 i
    clear hB2 hcur2 hcs2 HGo
    cases hpx:p x with
    | true =>
     go_wp2_with fail
     go_roundg (gk-1)
     case measure=>omega
     case rel=>exact ⟨i,j+1,rfl,by go_num,by omega,by omega,by rw [filt_skip hlt (by rw [HX.out];exact hpx)];exact HI.out,HG2.out.skip hlt (by rw [HX.out];exact hpx)⟩
    | false =>
     go_wp2_with fail
     go_roundg (gk-1)
     case measure=>omega
     case rel =>
      refine ⟨i+1,j+1,by go_num,by go_num,by omega,by omega,?_,?_⟩
      ·show i+1=_
       rw [filt_keep hlt (by rw [HX.out];exact hpx),List.length_append,← HI.out];rfl
      ·have:=HG2.out.keep hlt hcap (by rw [HX.out];exact hpx)
       rw [← HI.out,HX.out] at this
       exact this
   ·obtain rfl:j=l.length:=by omega
    have hltz:¬ ((l.length:Nat):Int)<((l.length:Nat):Int):=by omega
    have hcl:∀ ty,(Builtin.clear_ #[25] ty #[.slice (some ⟨g,0+i,none⟩) (l.length-i) (c-i)]).run Tryz.prog wr=.ok (.tuple #[]) (wr.setCells g (0+i) (List.replicate (l.length-i) (.int .i64 0))) :=
     fun ty=>Lib.run_clear_slice wr _ _ ty _ Tryz.underlying25 Tryz.zeroValue3 rfl rfl g (0+i) _ _ (by omega) (fun t ht=>by rw [cells_of hcur,Array.getElem?_eq_getElem (by omega)];rfl) (fun t ht=>frees_of hcur _)
    rw [Nat.zero_add] at hcl
    clear hFr hcur hlow hhigh
    go_wp2_with fail
    go_ret
    have hI:=HI.out
    rw [List.take_length] at hI
    have hd:=HGo.out.done hcap hcm hDg (List.replicate (l.length-i) (.int .i64 0))
    rw [← hI] at hd
    rw [← hI]
    exact ⟨_,rfl,hd.1,hd.2.mono (fun i hi=>by rw [hi];rfl)⟩
end Go.Proofs.YtcedebpoihcbdaaGreatDoor
