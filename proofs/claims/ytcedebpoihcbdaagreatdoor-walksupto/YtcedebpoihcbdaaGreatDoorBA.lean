/-
  An element's Is; the forest's ById.
  The forest's ById: the first element under a node with an id.
-/
import Derived.Test.YtcedebpoihcbdaaGreatDoorLF
set_option linter.unusedVariables false
set_option maxHeartbeats 2000000
set_option maxRecDepth 100000
namespace Go.Proofs.YtcedebpoihcbdaaGreatDoor
open Go.RowKit Go.Shelf Gv
attribute [local go_sem] Oper.semAt_some
def isB (o:Option ByteArray) (v:ByteArray):Bool :=
 match o with
 | none=>false
 | some u=>u.toList == v.toList
theorem isAtt (eb mb:Nat) (t:ByteArray) (A:ByteArray→Option ByteArray) (k v:ByteArray) (w:World) (he:w.heap[eb]?=some (.cells #[.string t,.map (some mb)] 189 (0,0))) (hA:Att w mb A) :
  Calls Tryz.prog 88 #[.pointer (some ⟨eb,0,none⟩),.string k,.string v] w fun e w'=>e=.returned (.bool (isB (A k) v))∧Below w.heap.size w w':=by
 have hcell:w.cell? ⟨eb,1,none⟩=some (.map (some mb)):=cells_of he 1
 have hlk:=(hA.lookup (P:=Tryz.prog) (mty:=187) Tryz.underlying187 Tryz.underlying9 Tryz.zeroValue193 k).2
 have HAk:Hid (∀ o,A k=o→isB (A k) v=isB o v):=fun o ho=>by rw [ho]
 clear hA he
 cases hk:A k with
 | none =>
  have HR:Hid (isB (A k) v=false):=by show isB (A k) v=false;rw [HAk.out _ hk];rfl
  rw [hk] at hlk
  simp only [Option.getD_none,Option.isSome_none] at hlk
  go_enter Tryz.func88, Tryz.ntmps88
  go_wp2_with fail
  go_ret
  exact ⟨by rw [← hk,HR.out];rfl,(Below.refl _ _).alloc (Nat.le_refl _) _⟩
 | some u =>
  have HR:Hid (isB (A k) v=(u.toList == v.toList)):=by show isB (A k) v=_;rw [HAk.out _ hk];rfl
  rw [hk] at hlk
  simp only [Option.getD_some,Option.isSome_some] at hlk
  go_enter Tryz.func88, Tryz.ntmps88
  go_wp2_with fail
  go_ret
  exact ⟨by rw [← hk,HR.out];rfl,(Below.refl _ _).alloc (Nat.le_refl _) _⟩
def strId:ByteArray:=⟨#[105,100]⟩
def idB (kk:Nat→Nat) (A:Nat→ByteArray→Option ByteArray) (id:ByteArray) (n:Nat):Bool:=decide (kk n=2) && isB (A n strId) id
def byIdF (N:Nat) (kk:Nat→Nat) (A:Nat→ByteArray→Option ByteArray) (K:Nat→List Nat) (top:Nat) (id:ByteArray):Nat:=if id.toList.isEmpty=true then 0 else ((P N K top).tail.find? (idB kk A id)).getD 0
theorem find_not {p:Nat→Bool} {l:List Nat} (h:∀ y,y∈l→p y=false):l.find? p=none:=by
 rw [List.find?_eq_none]
 intro x hx
 rw [h x hx];simp
theorem find_at {p:Nat→Bool} {pre l:List Nat} {x:Nat} (hp:pre++[x] <+: l) (h:∀ y,y∈pre→p y=false) (hx:p x=true):l.find? p=some x:=by
 obtain ⟨t,rfl⟩:=hp
 rw [List.append_assoc,List.find?_append,find_not h,List.singleton_append,List.find?_cons,hx];rfl
abbrev Num (N:Nat):={ x:Nat // 1≤x∧x≤N }
theorem map_snoc' {N:Nat} (l:List (Num N)) (x:Num N):(l++[x]).map Subtype.val=l.map Subtype.val++[x.val]:=by simp
section
variable {B gb nb cap N:Nat} {s:Fo} {kd:Nat→Value} {K:Nat→List Nat} {r:Re}
theorem under2 (n:Nat) (hn:1≤n) (l Bf Bt n₀ t:Nat) (hwf:WF N s K) (hN:1≤N) (ht:1≤t) (htN:t≤N) (J Jx:List Nat→World→Prop)
  (hY:∀ pre x W,J pre W→pre++[x] <+: (P N K t).tail→YieldAt Fence.wide (n-1) Tryz.prog l #[.int .i64 (x:Nat)] W fun e W' =>
    (e=.returned (.bool true)∧J (pre++[x]) W'∧Below n₀ W W')∨(e=.returned (.bool false)∧Jx (pre++[x]) W'))
  (W:World) (h:Held W B gb nb cap (N+1) s kd r) (hg:gb<n₀) (hnb:nb<n₀) (hf:Bf<n₀) (hb:Bt<n₀)
  (hcf:W.cell? ⟨Bf,0,none⟩=some (.pointer (some ⟨gb,0,none⟩))) (hct:W.cell? ⟨Bt,0,none⟩=some (.int .i64 t)) (h0:J [] W) :
  CallsIn Fence.wide n Tryz.prog 140 #[.func (.yield l) #[] #[],.pointer (some ⟨Bf,0,none⟩),.pointer (some ⟨Bt,0,none⟩)] W fun e W'=>(∃ v,e=.returned v) ∧
   ((∃ ys,ys=(P N K t).tail∧J ys W')∨(∃ pre,pre <+: (P N K t).tail∧Jx pre W')):=by
 have HH:Hid (∀ W',Below n₀ W W'→Held W' B gb nb cap (N+1) s kd r):=fun W' hb'=>h.below hb' hg hnb
 have HY:Hid (∀ pre x W,J pre W→pre++[x] <+: (P N K t).tail→YieldAt Fence.wide (n-1) Tryz.prog l #[.int .i64 (x:Nat)] W fun e W' =>
   (e=.returned (.bool true)∧J (pre++[x]) W'∧Below n₀ W W')∨(e=.returned (.bool false)∧Jx (pre++[x]) W')):=hY
 have HW:Hid (WF N s K):=hwf
 have HT:Hid (∀ pre y ys,(P N K t).tail=pre++y :: ys→nextF s (N+1) y t=ys.headD 0):=fun pre y ys e=>tail_next hwf hN ht htN e
 have HI:Hid (∀ y,y∈(P N K t).tail→1≤y∧y≤N):=fun y hy=>tail_in hwf ht htN hy
 have h1:=tail_head hwf hN ht htN
 have h2:Hid (Held W B gb nb cap (N+1) s kd r):=h
 clear h hY hwf
 generalize hl:(P N K t).tail=xs at *
 clear hl
 refine callsIn_of_wp Tryz.func140 rfl trivial ?_ rfl
 simp only [Tryz.ntmps140,List.size_toArray,List.length_cons,List.length_nil,Nat.reduceAdd,Nat.reduceSub,Array.replicate_succ,Array.replicate_zero,List.push_toArray,List.append_toArray,List.nil_append,List.cons_append]
 gi_wp2_with (refine ⟨trivial,?_⟩;gi_at_call 127;refine CallsIn.mono (callsIn_wide.2 (nextC h2.out HW.out t t htN htN)) ?_;rintro e W ⟨rfl,rfl⟩)
 gi_loopg [4] xs.length (fun m i wr=>∃ (pre rest:List Nat) (x:Nat),m=rest.length∧i=.int .i64 x∧x=rest.head?.getD 0∧xs=pre++rest∧J pre wr∧Below n₀ W wr)
 case atStart =>
  exact ⟨[],xs,_,rfl,rfl,by simp,rfl,h0,Below.refl _ _⟩
 case round =>
  obtain ⟨pre,rest,x,hm,rfl,hx0,hx,hJs,hB⟩:=hrel
  have HX:Hid (xs=pre++rest):=hx
  have HM:Hid (gk=rest.length):=hm
  clear hx hm h1
  cases rest with
  | nil =>
   have hx1:x=0:=hx0
   clear hx0
   subst hx1
   gi_wp2
   refine ⟨fun _ h=>(by cases h),?_⟩
   gi_wp2
   go_end0
   exact ⟨⟨_,rfl⟩,.inl ⟨pre,by simp [HX.out],hJs⟩⟩
  | cons y rest =>
   have hx1:x=y:=hx0
   clear hx0
   subst hx1
   have hx1:=HI.out x (by rw [HX.out];simp)
   have hne:((x:Int) != 0)=true:=by simp;omega
   obtain ⟨fn,tmps,assign,body,hy,hR⟩:=HY.out pre x wr hJs ⟨rest,by rw [HX.out];simp⟩
   gi_wp2
   refine hR.mono ?_
   rintro e W3 (⟨rfl,hJ3,hk3⟩ | ⟨rfl,hJx3⟩)
   ·have hcf3:W3.cell? ⟨Bf,0,none⟩=some (.pointer (some ⟨gb,0,none⟩)):=((hB.trans hk3).cell (p:=⟨Bf,0,none⟩) hf).trans hcf
    have hct3:W3.cell? ⟨Bt,0,none⟩=some (.int .i64 t):=((hB.trans hk3).cell (p:=⟨Bt,0,none⟩) hb).trans hct
    have H3:Hid (Held W3 B gb nb cap (N+1) s kd r):=HH.out W3 (hB.trans hk3)
    gi_wp2_with (refine ⟨trivial,?_⟩;gi_at_call 127;refine CallsIn.mono (callsIn_wide.2 (nextC H3.out HW.out x t hx1.2 htN)) ?_;rintro e W3 ⟨rfl,rfl⟩)
    gi_roundg rest.length
    case rel=>exact ⟨pre++[x],rest,_,rfl,rfl,by rw [HT.out pre x rest HX.out];simp,by simp [HX.out],hJ3,hB.trans hk3⟩
    case measure=>have hm:=HM.out;simp at hm;omega
   ·gi_wp2
    go_end0
    exact ⟨⟨_,rfl⟩,.inr ⟨pre++[x],⟨rest,by simp [HX.out]⟩,hJx3⟩⟩
theorem under_nums (n:Nat) (hn:1≤n) (t:Nat) (hwf:WF N s K) (hN:1≤N) (ht:1≤t) (htN:t≤N) (w:World) (h:Held w B gb nb cap (N+1) s kd r) {Bf Bt:Nat} (hf:Bf<w.heap.size) (hb:Bt<w.heap.size)
  (hcf:w.cell? ⟨Bf,0,none⟩=some (.pointer (some ⟨gb,0,none⟩))) (hct:w.cell? ⟨Bt,0,none⟩=some (.int .i64 t)) :
  SeqStopsK Fence.wide n Tryz.prog 140 #[.pointer (some ⟨Bf,0,none⟩),.pointer (some ⟨Bt,0,none⟩)] (fun x:Num N=>#[Value.int .i64 (x.val:Nat)]) (Below w.heap.size) (fun ys=>ys.map Subtype.val=(P N K t).tail) (fun pre=>pre.map Subtype.val <+: (P N K t).tail) (P N K t).tail.length w:=by
 intro l J Jx W hW _ _ hY h0
 refine CallsIn.mono (under2 n hn l Bf Bt w.heap.size t hwf hN ht htN (fun pre W=>∃ q:List (Num N),q.map Subtype.val=pre∧J q W) (fun pre W=>∃ q:List (Num N),q.map Subtype.val=pre∧Jx q W) ?_ W (h.since hW) h.ltg h.ltn hf hb ((hW.cell (p:=⟨Bf,0,none⟩) hf).trans hcf) ((hW.cell (p:=⟨Bt,0,none⟩) hb).trans hct) ⟨[],rfl,h0⟩) ?_
 ·rintro pre x W1 ⟨q,rfl,hJ⟩ hp
  have hx:=tail_in hwf ht htN (hp.subset (by simp):x∈(P N K t).tail)
  have hl:=hp.length_le
  simp only [List.length_append,List.length_map,List.length_singleton] at hl
  obtain ⟨fn,tmps,assign,body,hy,hR⟩:=hY q ⟨x,hx⟩ W1 hJ (by omega)
  refine ⟨fn,tmps,assign,body,hy,hR.mono ?_⟩
  rintro e W3 (⟨rfl,hJ3,hk3⟩ | ⟨rfl,hJx3⟩)
  ·exact .inl ⟨rfl,⟨_,by simp,hJ3⟩,hk3⟩
  ·exact .inr ⟨rfl,_,by simp,hJx3⟩
 ·rintro e W' ⟨hv,⟨ys,rfl,q,hq,hJ⟩ | ⟨pre,hp,q,rfl,hJ⟩⟩
  ·exact ⟨hv,.inl ⟨q,hq,hJ⟩⟩
  ·exact ⟨hv,.inr ⟨q,hp,hJ⟩⟩
end
section
variable {B:Nat} {w w':World} {gb nb cap N:Nat} {kk:Nat→Nat} {tg:Nat→ByteArray} {kd:Nat→Value} {mp:Nat→Nat} {σ:St} {r:Re} {A:Nat→ByteArray→Option ByteArray} {ls:List Ls}
theorem elemId (h:Gro B w gb nb cap N kk tg kd mp σ r) (hA:Ats w B N kk mp A) (n:Nat) (h1:1≤n) (hn:n≤N) (k v:ByteArray) {eb:Nat} (h2:kk n=2) (hk:kd n=.iface 143 (.pointer (some ⟨eb,0,none⟩))) :
  Calls Tryz.prog 88 #[.pointer (some ⟨eb,0,none⟩),.string k,.string v] w fun e w'=>e=.returned (.bool (isB (A n k) v))∧Below w.heap.size w w':=by
 obtain ⟨eb',e1,e2,_⟩:=h.els n h1 hn h2
 rw [e1] at hk
 simp only [Value.iface.injEq,Value.pointer.injEq,Option.some.injEq,Addr.mk.injEq,and_true,true_and] at hk
 subst hk
 exact isAtt eb' (mp n) (tg n) (A n) k v w e2 (hA.at_ n h1 hn h2)
end
open Go.RowKit Go.Shelf Gv
attribute [local go_sem] Oper.semAt_some
section
variable {B:Nat} {w w':World} {gb nb cap N:Nat} {kk:Nat→Nat} {tg:Nat→ByteArray} {kd:Nat→Value} {mp:Nat→Nat} {σ:St} {r:Re} {A:Nat→ByteArray→Option ByteArray} {ls:List Ls}
def idBoxes (w:World) (gb t:Nat) (id:ByteArray):World :=
 ((((w.alloc (.cells #[.pointer (some ⟨gb,0,none⟩)] 93)).alloc (.cells #[.string id] 9)).alloc (.cells #[.int .i64 0] 3)).alloc (.cells #[.pointer (some ⟨gb,0,none⟩)] 93)).alloc (.cells #[.int .i64 t] 3)
theorem idBoxes_ok (w:World) (gb t:Nat) (id:ByteArray):(idBoxes w gb t id).heap.size=w.heap.size+5∧Below w.heap.size w (idBoxes w gb t id) ∧
  (idBoxes w gb t id).heap[w.heap.size]?=some (.cells #[.pointer (some ⟨gb,0,none⟩)] 93 (0,0))∧(idBoxes w gb t id).heap[w.heap.size+1]?=some (.cells #[.string id] 9 (0,0))∧(idBoxes w gb t id).heap[w.heap.size+2]?=some (.cells #[.int .i64 0] 3 (0,0)) ∧
  (idBoxes w gb t id).heap[w.heap.size+3]?=some (.cells #[.pointer (some ⟨gb,0,none⟩)] 93 (0,0))∧(idBoxes w gb t id).heap[w.heap.size+4]?=some (.cells #[.int .i64 t] 3 (0,0)):=by
 unfold idBoxes
 refine ⟨by simp,(((((Below.refl _ _).alloc (Nat.le_refl _) _).alloc (by simp only [World.size_alloc];omega) _).alloc (by simp only [World.size_alloc];omega) _).alloc (by simp only [World.size_alloc];omega) _).alloc (by simp only [World.size_alloc];omega) _,?_,?_,?_,?_,?_⟩
 ·rw [Below.heap_alloc _ _ _ (by simp only [World.size_alloc];omega),Below.heap_alloc _ _ _ (by simp only [World.size_alloc];omega),Below.heap_alloc _ _ _ (by simp only [World.size_alloc];omega),Below.heap_alloc _ _ _ (by simp only [World.size_alloc];omega)]
  exact heap_alloc_new w _
 ·rw [Below.heap_alloc _ _ _ (by simp only [World.size_alloc];omega),Below.heap_alloc _ _ _ (by simp only [World.size_alloc];omega),Below.heap_alloc _ _ _ (by simp only [World.size_alloc];omega)]
  have:=heap_alloc_new (w.alloc (.cells #[.pointer (some ⟨gb,0,none⟩)] 93)) (.cells #[.string id] 9)
  rwa [World.size_alloc] at this
 ·rw [Below.heap_alloc _ _ _ (by simp only [World.size_alloc];omega),Below.heap_alloc _ _ _ (by simp only [World.size_alloc];omega)]
  have:=heap_alloc_new ((w.alloc (.cells #[.pointer (some ⟨gb,0,none⟩)] 93)).alloc (.cells #[.string id] 9)) (.cells #[.int .i64 0] 3)
  rwa [World.size_alloc,World.size_alloc] at this
 ·rw [Below.heap_alloc _ _ _ (by simp only [World.size_alloc];omega)]
  have:=heap_alloc_new (((w.alloc (.cells #[.pointer (some ⟨gb,0,none⟩)] 93)).alloc (.cells #[.string id] 9)).alloc (.cells #[.int .i64 0] 3)) (.cells #[.pointer (some ⟨gb,0,none⟩)] 93)
  rwa [World.size_alloc,World.size_alloc,World.size_alloc] at this
 ·have:=heap_alloc_new ((((w.alloc (.cells #[.pointer (some ⟨gb,0,none⟩)] 93)).alloc (.cells #[.string id] 9)).alloc (.cells #[.int .i64 0] 3)).alloc (.cells #[.pointer (some ⟨gb,0,none⟩)] 93)) (.cells #[.int .i64 t] 3)
  rwa [World.size_alloc,World.size_alloc,World.size_alloc,World.size_alloc] at this
def IdRound (B:Nat) (w:World) (gb nb cap N:Nat) (kk:Nat→Nat) (tg:Nat→ByteArray) (kd:Nat→Value) (mp:Nat→Nat) (σ:St) (r:Re) (A:Nat→ByteArray→Option ByteArray) (id:ByteArray) (t:Nat) (pre:List (Num N)) (W:World):Prop :=
 ((∀ y,y∈pre→idB kk A id y.val=false)∧W.cell? ⟨w.heap.size,0,none⟩=some (.pointer (some ⟨gb,0,none⟩))∧W.cell? ⟨w.heap.size+1,0,none⟩=some (.string id)∧W.cell? ⟨w.heap.size+1+1,0,none⟩=some (.int .i64 0)∧W.frozen? ⟨w.heap.size+1+1,0,none⟩=false∧W.cell? ⟨w.heap.size+4,0,none⟩=some (.int .i64 t))∧Below w.heap.size w W
theorem below_keeps {W W2:World} (h:Below W.heap.size W W2) (D:Nat):KeepsFrom D W W2:=⟨h.size,fun k o _ hk _=>(h.block k (lt_of_block hk)).trans hk⟩
theorem byIdIn (h:Gro B w gb nb cap N kk tg kd mp σ r) (hA:Ats w B N kk mp A) (hN:1≤N) (t:Nat) (ht:1≤t) (htN:t≤N) (id:ByteArray) (hid:id.toList.isEmpty=false) :
  CallsIn Fence.wide 5 Tryz.prog 55 #[.pointer (some ⟨gb,0,none⟩),.int .i64 t,.string id] w fun e w'=>e=.returned (.int .i64 (byIdF N kk A σ.K t id:Nat))∧Below w.heap.size w w':=by
 obtain ⟨hs0,hBW,b0,b1,b2,b3,b4⟩:=idBoxes_ok w gb t id
 have HU:Hid _:=under_nums (5-1) (by omega) t h.wf hN ht htN (idBoxes w gb t id) ((h.since hBW).held) (Bf:=w.heap.size+3) (Bt:=w.heap.size+4) (by omega) (by omega) (cells_of b3 0) (cells_of b4 0)
 have HEl:Hid (∀ (W:World) (x:Num N),Below w.heap.size w W→Calls Tryz.prog 87 #[.pointer (some ⟨gb,0,none⟩),.int .i64 (x.val:Nat)] W fun e w'=>w'=W∧((kk x.val=2∧∃ eb,kd x.val=.iface 143 (.pointer (some ⟨eb,0,none⟩))∧e=.returned (.pointer (some ⟨eb,0,none⟩)))∨(kk x.val≠2∧e=.returned (.pointer none)))):=fun W x hW=>elementF (h.since hW).held x.val x.property.2 (h.kinds x.val x.property.1 x.property.2)
 have HIs:Hid (∀ (W:World) (x:Num N) (eb:Nat),Below w.heap.size w W→kk x.val=2→kd x.val=.iface 143 (.pointer (some ⟨eb,0,none⟩))→Calls Tryz.prog 88 #[.pointer (some ⟨eb,0,none⟩),.string ⟨#[105,100]⟩,.string id] W fun e w'=>e=.returned (.bool (isB (A x.val strId) id))∧Below W.heap.size W w'):=fun W x eb hW h2 hk=>elemId (h.since hW) (hA.since hW) x.val x.property.1 x.property.2 strId id h2 hk
 have HKd:Hid (∀ x:Num N,kk x.val=2→∃ eb,kd x.val=.iface 143 (.pointer (some ⟨eb,0,none⟩))):=fun x h2=>by
  obtain ⟨eb,e1,_⟩:=h.els x.val x.property.1 x.property.2 h2
  exact ⟨eb,e1⟩
 have HR:Hid (byIdF N kk A σ.K t id=((P N σ.K t).tail.find? (idB kk A id)).getD 0):=by show byIdF N kk A σ.K t id=_;unfold byIdF;rw [if_neg (by rw [hid];simp)]
 have HB0:Hid (IdRound B w gb nb cap N kk tg kd mp σ r A id t [] (idBoxes w gb t id)):=⟨⟨by simp,cells_of b0 0,cells_of b1 0,cells_of b2 0,frees_of b2 0,cells_of b4 0⟩,hBW⟩
 clear h hA b0 b1 b2 b3 b4 hBW
 refine callsIn_of_wp_marks Tryz.func55 rfl trivial ?_ rfl
 simp only [Tryz.ntmps55,List.size_toArray,List.length_cons,List.length_nil,Nat.reduceAdd,Nat.reduceSub,Array.replicate_succ,Array.replicate_zero,List.push_toArray,List.append_toArray,List.nil_append,List.cons_append]
 gi_wp2_with (refine ⟨trivial,?_⟩;gi_at_call 89;refine CallsIn.mono (callsIn_wide.2 (underF gb t _)) ?_;rintro e w' ⟨rfl,rfl⟩)
 change (Code.wpIn _ _ _ _ _ _ (idBoxes w gb t id))
 refine wpIn_rangeFunc_ownG rfl (by omega) (gf:=140) (lb:=#[.pointer (some ⟨w.heap.size+3,0,none⟩),.pointer (some ⟨w.heap.size+4,0,none⟩)]) rfl trivial (enters_of Tryz.func140 (by kernel_rfl) rfl)
  HU.out belowK_t (belowK_b (Nat.le_refl _)) (Below.refl _ _) (fun _=>rfl)
  (IdRound B w gb nb cap N kk tg kd mp σ r A id t)
  (fun c pre W=>(c=.ret∧∃ pr x,pre=pr++[x]∧(∀ y,y∈pr→idB kk A id y.val=false)∧idB kk A id x.val=true∧W.cell? ⟨w.heap.size+1+1,0,none⟩=some (.int .i64 (x.val:Nat)))∧Below w.heap.size w W)
  (OwnFrom.and (Own.from (fun s A B row hs hg hr=>⟨hs.1,cell_kept hs.2.1 hg hr,cell_kept hs.2.2.1 hg hr,cell_kept hs.2.2.2.1 hg hr,(frozen_kept hs.2.2.2.1 hg hr).trans hs.2.2.2.2.1,cell_kept hs.2.2.2.2.2 hg hr⟩) _) (ownFrom_below (Nat.le_refl _) (by omega)))
  (fun c=>OwnFrom.and (Own.from (fun s A B row hs hg hr=>⟨hs.1,by obtain ⟨_,pr,x,e1,e2,e3,e4⟩:=hs;exact ⟨pr,x,e1,e2,e3,cell_kept e4 hg hr⟩⟩) _) (ownFrom_below (Nat.le_refl _) (by omega)))
  HB0.out
  (fun x=>{ tmps:=#[.pointer (some ⟨gb,0,none⟩),.int .i64 t,.string id,.pointer (some ⟨w.heap.size,0,none⟩),undef,.pointer (some ⟨w.heap.size+1,0,none⟩),.pointer (some ⟨w.heap.size+1+1,0,none⟩),.int .i64 (x.val:Nat),undef,.string id,.bool false,.pointer (some ⟨gb,0,none⟩),.int .i64 t,.func (.func 140) #[] #[.pointer (some ⟨w.heap.size+1+1+1,0,none⟩),.pointer (some ⟨w.heap.size+1+1+1+1,0,none⟩)],.int .i64 (x.val:Nat),undef,undef,undef,undef,undef,undef,undef,undef,undef,undef,undef],defers:=[] }) ?assign ?body ?done ?stop
 case assign =>
  intro l x W K hK
  gi_wp2
  exact hK
 case body =>
  rintro l pre x W ⟨⟨hp,hcf,hcw,hcr,hfr,h4⟩,hB⟩ _
  have HP:Hid (∀ y,y∈pre→idB kk A id y.val=false):=hp
  have HB:Hid (Below w.heap.size w W):=hB
  have hsz:=hB.size
  have hlt2:w.heap.size+1+1<W.heap.size:=World.block_lt_of_cell? W ⟨w.heap.size+1+1,0,none⟩ hcr
  have HCR:Hid (W.cell? ⟨w.heap.size,0,none⟩=some (.pointer (some ⟨gb,0,none⟩))∧W.cell? ⟨w.heap.size+1,0,none⟩=some (.string id)∧W.cell? ⟨w.heap.size+1+1,0,none⟩=some (.int .i64 0)∧W.frozen? ⟨w.heap.size+1+1,0,none⟩=false∧W.cell? ⟨w.heap.size+4,0,none⟩=some (.int .i64 t)):=⟨hcf,hcw,hcr,hfr,h4⟩
  have hlt5:w.heap.size+5≤W.heap.size:=World.block_lt_of_cell? W ⟨w.heap.size+4,0,none⟩ h4
  clear h4
  clear hp hB
  by_cases h2:kk x.val=2
  ·obtain ⟨eb,hk⟩:=HKd.out x h2
   have hE:Calls Tryz.prog 87 #[.pointer (some ⟨gb,0,none⟩),.int .i64 (x.val:Nat)] W fun e w'=>e=.returned (.pointer (some ⟨eb,0,none⟩))∧w'=W:=(HEl.out W x HB.out).mono (by
    rintro e w' ⟨rfl,⟨_,eb',hk',rfl⟩ | ⟨h,_⟩⟩
    ·rw [hk] at hk'
     simp only [Value.iface.injEq,Value.pointer.injEq,Option.some.injEq,Addr.mk.injEq,and_true,true_and] at hk'
     subst hk'
     exact ⟨rfl,rfl⟩
    ·exact absurd h2 h)
   have HE:Hid _:=(callsIn_wide (n:=5-1-1-1).2 hE).inRound l
   have HI:Hid _:=(callsIn_wide (n:=5-1-1-1).2 (HIs.out W x eb HB.out h2 hk)).inRound l
   have HID:Hid (idB kk A id x.val=isB (A x.val strId) id):=by show idB kk A id x.val=_;unfold idB;simp [h2]
   clear hE hk h2
   cases hq:isB (A x.val strId) id with
   | true =>
    have HQ:Hid (idB kk A id x.val=true):=by show idB kk A id x.val=true;rw [HID.out,hq]
    rw [hq] at HI
    gi_wp2_with (first | (refine ⟨trivial,?_⟩;gi_at_call 87;refine CallsIn.mono HE.out ?_;rintro e W ⟨rfl,rfl⟩) | (refine ⟨trivial,?_⟩;gi_at_call 88;refine CallsIn.mono HI.out ?_;rintro e W2 ⟨rfl,hb2⟩;have c2:W2.cell? ⟨w.heap.size+1+1,0,none⟩=some (.int .i64 0):=(hb2.cell (p:=⟨w.heap.size+1+1,0,none⟩) hlt2).trans hcr;have f2:W2.frozen? ⟨w.heap.size+1+1,0,none⟩=false:=(hb2.frozen (p:=⟨w.heap.size+1+1,0,none⟩) hlt2).trans hfr;have HB2:Hid (Below W.heap.size W W2):=hb2;clear hb2))
    refine ⟨?_,⟨rfl,pre,x,rfl,HP.out,HQ.out,?_⟩,?_⟩
    ·exact (below_keeps HB2.out _).trans ((KeepsOthers.setCell _ _ _).from _)
    ·exact World.cell?_setCell_same' _ _ _ (by rw [c2];rfl)
    ·exact (HB.out.trans (HB2.out.mono HB.out.size)).setCell (p:=⟨w.heap.size+1+1,0,none⟩) (by simp only;omega) _
   | false =>
    have HQ:Hid (idB kk A id x.val=false):=by show idB kk A id x.val=false;rw [HID.out,hq]
    rw [hq] at HI
    gi_wp2_with (first | (refine ⟨trivial,?_⟩;gi_at_call 87;refine CallsIn.mono HE.out ?_;rintro e W ⟨rfl,rfl⟩) | (refine ⟨trivial,?_⟩;gi_at_call 88;refine CallsIn.mono HI.out ?_;rintro e W2 ⟨rfl,hb2⟩;have c2:W2.cell? ⟨w.heap.size+1+1,0,none⟩=some (.int .i64 0):=(hb2.cell (p:=⟨w.heap.size+1+1,0,none⟩) hlt2).trans hcr;have f2:W2.frozen? ⟨w.heap.size+1+1,0,none⟩=false:=(hb2.frozen (p:=⟨w.heap.size+1+1,0,none⟩) hlt2).trans hfr;have HB2:Hid (Below W.heap.size W W2):=hb2;clear hb2))
    refine ⟨below_keeps HB2.out _,HB2.out.mono (by rw [hs0];exact hlt5),⟨fun y hy=>?_,?_⟩,HB.out.trans (HB2.out.mono HB.out.size)⟩
    ·rcases List.mem_append.1 hy with hy | hy
     ·exact HP.out y hy
     ·simp only [List.mem_singleton] at hy;subst hy;exact HQ.out
    ·obtain ⟨q1,q2,q3,q4,q5⟩:=HCR.out
     exact ⟨(HB2.out.cell (p:=⟨w.heap.size,0,none⟩) (by simp only;omega)).trans q1,(HB2.out.cell (p:=⟨w.heap.size+1,0,none⟩) (by simp only;omega)).trans q2,c2,f2,(HB2.out.cell (p:=⟨w.heap.size+4,0,none⟩) (by simp only;omega)).trans q5⟩
  ·have hE:Calls Tryz.prog 87 #[.pointer (some ⟨gb,0,none⟩),.int .i64 (x.val:Nat)] W fun e w'=>e=.returned (.pointer none)∧w'=W:=(HEl.out W x HB.out).mono (by
    rintro e w' ⟨rfl,⟨h,_⟩ | ⟨_,rfl⟩⟩
    ·exact absurd h h2
    ·exact ⟨rfl,rfl⟩)
   have HE:Hid _:=(callsIn_wide (n:=5-1-1-1).2 hE).inRound l
   have HQ:Hid (idB kk A id x.val=false):=by show idB kk A id x.val=false;unfold idB;simp [h2]
   clear hE h2
   gi_wp2_with (refine ⟨trivial,?_⟩;gi_at_call 87;refine CallsIn.mono HE.out ?_;rintro e W ⟨rfl,rfl⟩)
   refine ⟨trivial,?_⟩
   gi_wp2
   refine ⟨KeepsFrom.refl _ _,Below.refl _ _,⟨fun y hy=>?_,HCR.out⟩,HB.out⟩
   rcases List.mem_append.1 hy with hy | hy
   ·exact HP.out y hy
   ·simp only [List.mem_singleton] at hy;subst hy;exact HQ.out
 case done =>
  rintro D ys W hD hS ⟨⟨hp,_,_,hcr,hfr,_⟩,hB⟩ hK
  have HV:Hid (byIdF N kk A σ.K t id=0):=by
   show byIdF N kk A σ.K t id=0
   rw [HR.out,find_not (fun y hy=>?_)]
   ·rfl
   ·rw [← hS] at hy
    obtain ⟨z,hz,rfl⟩:=List.mem_map.1 hy
    exact hp z hz
  gi_wp2
  have hK':=(KeepsOthers.setCell W ⟨w.heap.size+1+1,0,none⟩ (.int .i64 0)).same D _ hK rfl
  refine ⟨by simp,.inl ⟨_,_,rfl,run_takeDeferred hK',?_⟩⟩
  have hc5:=cell_kept (World.cell?_setCell_same' W ⟨w.heap.size+1+1,0,none⟩ (.int .i64 0) (by rw [hcr];rfl)) (grownBy_putObj' _ D (.deferred none)) (fun r e=>by cases e;exact ⟨_,hK',rfl⟩)
  refine ⟨.int .i64 0,?_,ret_int (by rw [HV.out];rfl),(hB.setCell (p:=⟨w.heap.size+1+1,0,none⟩) (by simp only;omega) _).trans (belowK_b (w:=w) (Nat.le_refl _) _ D _ _ (by omega) hK' rfl rfl)⟩
  simp [results,Tryz.f55,go_sem,hc5]
 case stop =>
  rintro D c pre W hD hSp ⟨⟨rfl,pr,x,rfl,hno,hx,hcr⟩,hB⟩ hK
  have HV:Hid (byIdF N kk A σ.K t id=x.val):=by
   show byIdF N kk A σ.K t id=x.val
   rw [map_snoc'] at hSp
   rw [HR.out,find_at hSp (fun y hy=>?_) hx]
   ·rfl
   ·obtain ⟨z,hz,rfl⟩:=List.mem_map.1 hy
    exact hno z hz
  gi_wp2
  refine ⟨by simp,.inl ⟨_,_,rfl,run_takeDeferred hK,?_⟩⟩
  have hc5:=cell_kept hcr (grownBy_putObj' _ D (.deferred none)) (fun r e=>by cases e;exact ⟨_,hK,rfl⟩)
  refine ⟨.int .i64 (x.val:Nat),?_,ret_int (by rw [HV.out]),hB.trans (belowK_b (w:=w) (Nat.le_refl _) W D _ _ (by omega) hK rfl rfl)⟩
  simp [results,Tryz.f55,go_sem,hc5]
end
end Go.Proofs.YtcedebpoihcbdaaGreatDoor
