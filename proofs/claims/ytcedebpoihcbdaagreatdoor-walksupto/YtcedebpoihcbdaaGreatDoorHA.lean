/-
  The lists that a law holds: how they lie in memory; what 'markInts' does.
  The lists that a law holds: what 'dry' and 'waits' answer: true.
  The lists that a law holds: what holds of them between two steps; what 'ints' does.
  The lists that a law holds: what 'settles' and 'looks' do.
-/
import Derived.Test.YtcedebpoihcbdaaGreatDoorWA
import Derived.WalkKit
import Derived.Deep.AppendLies
import Derived.Deep.LoopGhost
import Derived.Deep.QuietTactic
import Derived.BigQuiet
import Derived.Laws.AppendOwnNone
set_option maxHeartbeats 1000000
set_option maxRecDepth 100000
namespace Go.Proofs.YtcedebpoihcbdaaGreatDoor
open Go.RowKit
theorem Tryz.infoI:(Tryz.prog.info? 3).map (fun i=>(i.zero,i.size,i.bytes))=some (some (.int .i64 0),1,8):=by kernel_rfl
theorem Tryz.infoH:(Tryz.prog.info? 172).map (fun i=>(i.zero,i.size,i.bytes))=some (some (.agg #[.slice none 0 0,.int .i64 0]),2,32):=by kernel_rfl
theorem Tryz.infoS:(Tryz.prog.info? 25).map (fun i=>(i.zero,i.size,i.bytes))=some (some (.slice none 0 0),1,24):=by kernel_rfl
def Marked (W:World) (v:Value) (n:Nat) (m:Int):Prop :=
 ∃ ao cap,v=.slice ao n cap∧(n=0∨∃ g,ao=some ⟨g,0,none⟩∧(∃ cs,W.heap[g]?=some (.cells cs 3 (0,0)))∧∀ i,i<n→W.cell? ⟨g,i,none⟩=some (.int .i64 m))
theorem Marked.keep {W W':World} {v:Value} {n:Nat} {m:Int} (h:Marked W v n m) (hk:∀ b cs,v.ownBlock=some b→W.heap[b]?=some (.cells cs 3 (0,0))→W'.heap[b]?=W.heap[b]?):Marked W' v n m:=by
 obtain ⟨ao,cap,rfl,h⟩:=h
 refine ⟨ao,cap,rfl,?_⟩
 rcases h with h | ⟨g,rfl,⟨cs,hg⟩,hc⟩
 ·exact .inl h
 ·have e:=hk g cs rfl hg
  exact .inr ⟨g,rfl,⟨cs,by rw [e];exact hg⟩,fun i hi=>(World.cell?_of_block (w:=W) e).trans (hc i hi)⟩
theorem marked_of {W:World} {D n:Nat} {v:Value} {m:Int} (h:W.ownsRow D 3 1 v n (List.replicate n (.int .i64 m))):Marked W v n m:=by
 rcases h.2 with ⟨rfl,rfl⟩ | ⟨g,cap,cur,rfl,hb,hg,hr⟩
 ·exact ⟨none,0,rfl,.inl rfl⟩
 ·refine ⟨some ⟨g,0,none⟩,cap,rfl,.inr ⟨g,rfl,⟨cur,hg⟩,fun i hi=>?_⟩⟩
  rw [h.cellAt i (by omega),List.getElem?_replicate,if_pos hi]
structure Kept (W W':World) (P:Nat→Prop):Prop where
 os:W'.os=W.os
 tape:W'.tape=W.tape
 output:W'.output=W.output
 size:W.heap.size≤W'.heap.size
 block:∀ b,b<W.heap.size→P b→W'.heap[b]?=W.heap[b]?
theorem Kept.refl (W:World) (P:Nat→Prop):Kept W W P:=⟨rfl,rfl,rfl,Nat.le_refl _,fun _ _ _=>rfl⟩
theorem Kept.trans {a b c:World} {P:Nat→Prop} (h:Kept a b P) (k:Kept b c P):Kept a c P :=
 ⟨k.os.trans h.os,k.tape.trans h.tape,k.output.trans h.output,Nat.le_trans h.size k.size,fun i hi hp=>(k.block i (Nat.lt_of_lt_of_le hi h.size) hp).trans (h.block i hi hp)⟩
theorem Kept.trans' {a b c:World} {P Q:Nat→Prop} (h:Kept a b P) (k:Kept b c Q) (hq:∀ x,x<a.heap.size→P x→Q x):Kept a c P :=
 ⟨k.os.trans h.os,k.tape.trans h.tape,k.output.trans h.output,Nat.le_trans h.size k.size,fun i hi hp=>(k.block i (Nat.lt_of_lt_of_le hi h.size) (hq i hi hp)).trans (h.block i hi hp)⟩
theorem Kept.weaken {a b:World} {P Q:Nat→Prop} (h:Kept a b P) (hq:∀ x,x<a.heap.size→Q x→P x):Kept a b Q :=
 ⟨h.os,h.tape,h.output,h.size,fun i hi hp=>h.block i hi (hq i hi hp)⟩
theorem Kept.of_grown {a b:World} {r:Option Nat} (h:a.grownBy b r) {P:Nat→Prop} (hp:∀ x,x<a.heap.size→P x→some x≠r):Kept a b P :=
 ⟨h.os,h.tape,h.output,h.size,fun i hi hpi=>h.block i hi (hp i hi hpi)⟩
theorem Kept.of_below {a b:World} (h:Below a.heap.size a b) (P:Nat→Prop):Kept a b P:=⟨h.os,h.tape,h.output,h.size,fun i hi _=>h.block i hi⟩
theorem Kept.setCell {a:World} {P:Nat→Prop} (p:Addr) (u:Value) (hp:¬ P p.block):Kept a (a.setCell p u) P :=
 ⟨rfl,rfl,rfl,by simp [World.setCell],fun i _ hpi=>Below.heap_setCell _ _ _ _ (fun e=>hp (e ▸ hpi))⟩
def lawCells (gsv:Value × Value) (rsv:Value) (n:Nat) (iv wv ev:Value):Array Value:=#[gsv.1,rsv,.int .i64 n,iv,gsv.2,wv,ev]
theorem law_cell {W:World} {wb:Nat} {gsv:Value × Value} {rsv iv wv ev:Value} {n:Nat} (h:W.heap[wb]?=some (.cells (lawCells gsv rsv n iv wv ev) 55 (0,0))) (i:Nat):W.cell? ⟨wb,i,none⟩=(lawCells gsv rsv n iv wv ev)[i]?:=by
 simp [World.cell?,h]
theorem law_free {W:World} {wb:Nat} {cs:Array Value} (h:W.heap[wb]?=some (.cells cs 55 (0,0))) (i:Nat):W.frozen? ⟨wb,i,none⟩=false:=by
 simp [World.frozen?,h]
theorem row_block {W:World} {D e size n:Nat} {v:Value} {xs:List Value} (h:W.ownsRow D e size v n xs) {g:Nat} (hg:v.ownBlock=some g):∃ cs,W.heap[g]?=some (.cells cs e (0,0)):=by
 rcases h.2 with ⟨rfl,_⟩ | ⟨g',cap,cur,rfl,hb,hh,_⟩
 ·simp [Value.ownBlock] at hg
 ·simp only [Value.ownBlock,Option.some.injEq] at hg
  subst hg
  exact ⟨cur,hh⟩
theorem row_ne {W:World} {D e size n:Nat} {v:Value} {xs:List Value} (h:W.ownsRow D e size v n xs) {b t:Nat} {cs:Array Value} (hb:W.heap[b]?=some (.cells cs t (0,0))) (hne:t≠e):v.ownBlock≠some b:=by
 intro e'
 obtain ⟨cs',h'⟩:=row_block h e'
 rw [hb] at h'
 simp only [Option.some.injEq,Obj.cells.injEq] at h'
 exact hne h'.2.1
theorem row_keep {W W':World} {D e size n:Nat} {v:Value} {xs:List Value} (h:W.ownsRow D e size v n xs) (hk:∀ b,v.ownBlock=some b→W'.heap[b]?=W.heap[b]?):W'.ownsRow D e size v n xs:=by
 refine ⟨h.1,?_⟩
 rcases h.2 with h' | ⟨g,cap,cur,rfl,hb,hh,r⟩
 ·exact .inl h'
 ·exact .inr ⟨g,cap,cur,rfl,hb,by rw [hk g rfl];exact hh,r⟩
theorem ent_step {W w1 w3:World} {D wb k n g c:Nat} {gsv:Value × Value} {rsv iv wv ev:Value} {ecs:List Value} {es:List Value}
  (hW:W.heap[wb]?=some (.cells (lawCells gsv rsv n iv wv ev) 55 (0,0))) (hI:W.ownsRow D 172 2 iv k ecs) (hb1:Below W.heap.size W w1)
  (hown:w3.ownsRow D 172 2 (.slice (some ⟨g,0,none⟩) (k+1) c) (k+1) (ecs++es)) (hgrow:w1.grownBy w3 iv.ownBlock) (hat:iv.ownBlock=some g∨g=w1.heap.size) :
  (w3.setCell ⟨wb,3,none⟩ (.slice (some ⟨g,0,none⟩) (k+1) c)).heap[wb]?=some (.cells (lawCells gsv rsv n (.slice (some ⟨g,0,none⟩) (k+1) c) wv ev) 55 (0,0)) ∧
  (w3.setCell ⟨wb,3,none⟩ (.slice (some ⟨g,0,none⟩) (k+1) c)).ownsRow D 172 2 (.slice (some ⟨g,0,none⟩) (k+1) c) (k+1) (ecs++es) ∧
  Kept W (w3.setCell ⟨wb,3,none⟩ (.slice (some ⟨g,0,none⟩) (k+1) c)) (fun b=>b≠wb∧iv.ownBlock≠some b)∧(iv.ownBlock=some g∨W.heap.size≤g):=by
 have hlt:=lt_of_block hW
 have hne:=row_ne hI hW (by decide)
 have hw3:w3.heap[wb]?=some (.cells (lawCells gsv rsv n iv wv ev) 55 (0,0)):=by
  rw [hgrow.block wb (Nat.lt_of_lt_of_le hlt hb1.size) (fun e=>hne e.symm),hb1.block wb hlt];exact hW
 have hgb:g≠wb:=by
  rintro rfl
  exact row_ne hown hw3 (by decide) rfl
 refine ⟨?_,?_,?_,?_⟩
 ·exact heap_setCell_same w3 wb 3 _ 55 _ hw3
 ·exact ownsRow_setCell_other hown (by simp [Value.ownBlock];exact hgb) _
 ·refine ((Kept.of_below hb1 _).trans (Kept.of_grown hgrow (fun x _ hx e=>hx.2 e.symm))).trans ?_
  exact Kept.setCell _ _ (fun h=>h.1 rfl)
 ·rcases hat with h | h
  ·exact .inl h
  ·exact .inr (by rw [h];exact hb1.size)
theorem rep_set (k:Nat) (xs:List Value) (m:Value) (h:k<xs.length):(List.replicate k m++xs.drop k).set k m=List.replicate (k+1) m++xs.drop (k+1):=by
 have e:=List.drop_eq_getElem_cons h
 rw [List.set_append_right _ _ (by simp),e]
 simp only [List.length_replicate,Nat.sub_self,List.set_cons_zero,List.replicate_succ',List.append_assoc,List.singleton_append]
theorem marked_room {W W':World} {D g cap n nx:Nat} {x:Value} {m:Int} (h:Marked W x nx m) (hx:nx≤n) (hg:W.grownBy W' (some g)) (ho:W'.ownsRow D 3 1 (.slice (some ⟨g,0,none⟩) n cap) n (List.replicate n (.int .i64 m))):Marked W' x nx m:=by
 obtain ⟨ao,c,rfl,h⟩:=h
 refine ⟨ao,c,rfl,?_⟩
 rcases h with h | ⟨b,rfl,⟨cs,hb⟩,hc⟩
 ·exact .inl h
 ·right
  by_cases e:b=g
  ·subst e
   obtain ⟨cs',hcs'⟩:=row_block ho rfl
   refine ⟨b,rfl,⟨cs',hcs'⟩,fun i hi=>?_⟩
   rw [ho.cellAt i (by omega),List.getElem?_replicate,if_pos (by omega)]
  ·have hk:=hg.block b (lt_of_block hb) (by simpa using e)
   exact ⟨b,rfl,⟨cs,by rw [hk];exact hb⟩,fun i hi=>(World.cell?_of_block (w:=W) hk).trans (hc i hi)⟩
theorem row_some {W:World} {D e n gcap:Nat} {gao:Option Addr} {xs:List Value} (h:W.ownsRow D e 1 (.slice gao n gcap) n xs) (hc:0<gcap):∃ g,gao=some ⟨g,0,none⟩∧D≤g∧g<W.heap.size:=by
 rcases h.2 with ⟨h',_⟩ | ⟨g,cap,cur,h',hb,hg,_⟩
 ·simp at h';omega
 ·simp only [Value.slice.injEq,true_and] at h'
  exact ⟨g,h'.1,hb,lt_of_block hg⟩
theorem row_none {W:World} {D e n gcap:Nat} {gao:Option Addr} {xs:List Value} (h:W.ownsRow D e 1 (.slice gao n gcap) n xs) (hc:gao=none):n=0∧gcap=0:=by
 subst hc
 rcases h.2 with ⟨h',_⟩ | ⟨g,cap,cur,h',hb,hg,_⟩
 ·simp at h';exact h'
 ·simp at h'
theorem row_at {W:World} {D e n gcap:Nat} {gao:Option Addr} {xs:List Value} (h:W.ownsRow D e 1 (.slice gao n gcap) n xs):∀ b,gao=some b→∀ j u,xs[j]?=some u→W.cell? (b.add j)=some u:=by
 intro b hb j u hj
 subst hb
 rcases h.2 with ⟨h',_⟩ | ⟨g,cap,cur,h',_⟩
 ·simp at h'
 ·simp only [Value.slice.injEq,Option.some.injEq,true_and] at h'
  obtain ⟨rfl,rfl⟩:=h'
  exact h.cells (g:=g) rfl j u hj
theorem row_base {W:World} {D D' e size n:Nat} {v:Value} {xs:List Value} (h:W.ownsRow D' e size v n xs) (hD:D≤D'):W.ownsRow D e size v n xs:=by
 refine ⟨h.1,?_⟩
 rcases h.2 with h' | ⟨g,cap,cur,a,hb,r⟩
 ·exact .inl h'
 ·exact .inr ⟨g,cap,cur,a,by omega,r⟩
theorem two_cells (W:World) (a b:Value) (e:TypeId):∀ j u,[a,b][j]?=some u→(W.alloc (.cells #[a,b] e)).cell? ((⟨W.heap.size,0,none⟩:Addr).add j)=some u:=by
 intro j u hj
 match j,hj with
 | 0,hj=>simp at hj;subst hj;simp [Addr.add]
 | 1,hj=>simp at hj;subst hj;simp [Addr.add]
theorem one_cell (W:World) (a:Value) (e:TypeId):∀ j u,[a][j]?=some u→(W.alloc (.cells #[a] e)).cell? ((⟨W.heap.size,0,none⟩:Addr).add j)=some u:=by
 intro j u hj
 match j,hj with
 | 0,hj=>simp at hj;subst hj;simp [Addr.add]
theorem two_one (ao:Option Addr) (n c:Nat) (m:Int):∀ u∈[Value.slice ao n c,.int .i64 m],u.oneCell'=true:=by
 intro u hu
 simp only [List.mem_cons,List.not_mem_nil,or_false] at hu
 rcases hu with rfl | rfl <;> rfl
theorem int_one (m:Int):∀ u∈[Value.int .i64 m],u.oneCell'=true:=by
 intro u hu
 simp only [List.mem_cons,List.not_mem_nil,or_false] at hu
 subst hu;rfl
theorem rep_snoc (n:Nat) (m:Value):List.replicate n m++[m]=List.replicate (n+1) m:=List.replicate_succ'.symm
theorem marked_alloc {W:World} {v:Value} {n:Nat} {m:Int} (h:Marked W v n m) (o:Obj):Marked (W.alloc o) v n m:=by
 obtain ⟨ao,cap,rfl,h⟩:=h
 refine ⟨ao,cap,rfl,?_⟩
 rcases h with h | ⟨g,rfl,⟨cs,hg⟩,hc⟩
 ·exact .inl h
 ·have e:=Below.heap_alloc W o g (lt_of_block hg)
  exact .inr ⟨g,rfl,⟨cs,by rw [e];exact hg⟩,fun i hi=>(World.cell?_of_block (w:=W) e).trans (hc i hi)⟩
theorem marked_grown {W W':World} {v:Value} {n:Nat} {m:Int} (h:Marked W v n m) (hg:W.grownBy W' none):Marked W' v n m:=by
 obtain ⟨ao,cap,rfl,h⟩:=h
 refine ⟨ao,cap,rfl,?_⟩
 rcases h with h | ⟨g,rfl,⟨cs,hb⟩,hc⟩
 ·exact .inl h
 ·have e:=hg.block g (lt_of_block hb) (by simp)
  exact .inr ⟨g,rfl,⟨cs,by rw [e];exact hb⟩,fun i hi=>(World.cell?_of_block (w:=W) e).trans (hc i hi)⟩
theorem getD_snoc {vs:List Value} {x d:Value} {i:Nat} (hi:i<vs.length+1):(vs++[x]).getD i d=if i<vs.length then vs.getD i d else x:=by
 rw [List.getD_eq_getElem?_getD]
 by_cases h:i<vs.length
 ·rw [if_pos h,List.getElem?_append_left h,List.getD_eq_getElem?_getD]
 ·obtain rfl:i=vs.length:=by omega
  rw [if_neg h,List.getElem?_append_right (Nat.le_refl _)];simp
def entCells (vs:List Value) (m:Int):List Value:=vs.flatMap (fun x=>[x,.int .i64 m])
theorem entCells_snoc (vs:List Value) (x:Value) (m:Int):entCells (vs++[x]) m=entCells vs m++[x,.int .i64 m]:=by simp [entCells]
structure Mid (W wr:World) (D wb k n len cap:Nat) (gsv:Value × Value) (rsv iv wv ev:Value) (ao:Option Addr) (ecs:List Value) (m:Int) (j gcap:Nat) (gao:Option Addr) (iv':Value) (vs:List Value):Prop where
 vl:vs.length=j
 w:wr.heap[wb]?=some (.cells (lawCells gsv rsv (n+1) iv' wv ev) 55 (0,0))
 i:wr.ownsRow D 172 2 iv' (k+j) (ecs++entCells vs m)
 g:wr.ownsRow D 3 1 (.slice gao (len+j) gcap) (len+j) (List.replicate (len+j) (.int .i64 m))
 m:∀ i,i<j→Marked wr (vs.getD i (.slice none 0 0)) (len+i) m
 b:∀ x,x∈vs∨x=.slice gao (len+j) gcap→∀ b,x.ownBlock=some b→((Value.slice ao len cap).ownBlock=some b∨W.heap.size≤b)∧b<wr.heap.size
 ib:∀ b,iv'.ownBlock=some b→iv.ownBlock=some b∨W.heap.size≤b
 kept:Kept W wr (fun b=>b≠wb∧iv.ownBlock≠some b∧(Value.slice ao len cap).ownBlock≠some b)
section
variable {W w2 w4 w5:World} {D wb k n len cap:Nat} {gsv:Value × Value} {rsv iv wv ev:Value} {ao:Option Addr} {ecs:List Value} {m:Int} {j gcap:Nat} {gao:Option Addr} {iv':Value} {vs:List Value}
structure Half (W w4:World) (D wb k n len cap:Nat) (gsv:Value × Value) (rsv iv wv ev:Value) (ao:Option Addr) (ecs:List Value) (m:Int) (j gcap:Nat) (gao:Option Addr) (iv':Value) (vs:List Value):Prop where
 vl:vs.length=j
 w:w4.heap[wb]?=some (.cells (lawCells gsv rsv (n+1) iv' wv ev) 55 (0,0))
 i:w4.ownsRow D 172 2 iv' (k+j+1) (ecs++entCells (vs++[.slice gao (len+j) gcap]) m)
 g:w4.ownsRow D 3 1 (.slice gao (len+j) gcap) (len+j) (List.replicate (len+j) (.int .i64 m))
 m:∀ i,i<j→Marked w4 (vs.getD i (.slice none 0 0)) (len+i) m
 b:∀ x,x∈vs∨x=.slice gao (len+j) gcap→∀ b,x.ownBlock=some b→((Value.slice ao len cap).ownBlock=some b∨W.heap.size≤b)∧b<w4.heap.size
 ib:∀ b,iv'.ownBlock=some b→iv.ownBlock=some b∨W.heap.size≤b
 kept:Kept W w4 (fun b=>b≠wb∧iv.ownBlock≠some b∧(Value.slice ao len cap).ownBlock≠some b)
theorem Mid.half {w1 w3:World} {g c:Nat} (X:Mid W w2 D wb k n len cap gsv rsv iv wv ev ao ecs m j gcap gao iv' vs) (hb1:Below w2.heap.size w2 w1)
  (hown:w3.ownsRow D 172 2 (.slice (some ⟨g,0,none⟩) (k+j+1) c) (k+j+1) (ecs++entCells vs m++[.slice gao (len+j) gcap,.int .i64 m])) (hgrow:w1.grownBy w3 iv'.ownBlock) (hat:iv'.ownBlock=some g∨g=w1.heap.size) :
  Half W (w3.setCell ⟨wb,3,none⟩ (.slice (some ⟨g,0,none⟩) (k+j+1) c)) D wb k n len cap gsv rsv iv wv ev ao ecs m j gcap gao (.slice (some ⟨g,0,none⟩) (k+j+1) c) vs∧w3.heap[wb]?=some (.cells (lawCells gsv rsv (n+1) iv' wv ev) 55 (0,0)):=by
 have R:=ent_step X.w X.i hb1 hown hgrow hat
 have hlt:=lt_of_block X.w
 refine ⟨⟨X.vl,R.1,?_,?_,?_,fun x hx b hb=>⟨(X.b x hx b hb).1,Nat.lt_of_lt_of_le (X.b x hx b hb).2 R.2.2.1.size⟩,?_,?_⟩,?_⟩
 ·rw [entCells_snoc,← List.append_assoc];exact R.2.1
 ·refine row_keep X.g (fun b hb=>R.2.2.1.block b (X.g.lt b hb).2 ⟨fun e=>row_ne X.g X.w (by decide) (e ▸ hb),fun e=>?_⟩)
  obtain ⟨cs1,h1⟩:=row_block X.g hb
  exact row_ne X.i h1 (by decide) e
 ·intro i hi
  refine (X.m i hi).keep (fun b cs hb hcs=>R.2.2.1.block b (lt_of_block hcs) ⟨fun e=>?_,fun e=>row_ne X.i hcs (by decide) e⟩)
  subst e;have h:=X.w;rw [hcs] at h;simp at h
 ·intro b hb
  simp only [Value.ownBlock,Option.some.injEq] at hb
  subst hb
  rcases R.2.2.2 with h | h
  ·exact X.ib g h
  ·exact .inr (Nat.le_trans X.kept.size h)
 ·refine X.kept.trans' R.2.2.1 (fun x hx hp=>⟨hp.1,fun e=>?_⟩)
  rcases X.ib x e with h | h
  ·exact hp.2.1 h
  ·omega
 ·rw [hgrow.block wb (Nat.lt_of_lt_of_le hlt hb1.size) (fun e=>row_ne X.i X.w (by decide) e.symm),hb1.block wb hlt];exact X.w
theorem Half.room {gg:Nat} (X:Half W w4 D wb k n len cap gsv rsv iv wv ev ao ecs m j gcap (some ⟨gg,0,none⟩) iv' vs) (o:Obj)
  (hown:w5.ownsRow D 3 1 (.slice (some ⟨gg,0,none⟩) (len+j+1) gcap) (len+j+1) (List.replicate (len+j) (.int .i64 m)++[.int .i64 m])) (hgrow:(w4.alloc o).grownBy w5 (some gg)) :
  Mid W w5 D wb k n len cap gsv rsv iv wv ev ao ecs m (j+1) gcap (some ⟨gg,0,none⟩) iv' (vs++[.slice (some ⟨gg,0,none⟩) (len+j) gcap]):=by
 have hk:∀ b,b<w4.heap.size→b≠gg→w5.heap[b]?=w4.heap[b]?:=fun b hb hne=>by
  rw [hgrow.block b (by simp;omega) (by simpa using hne)];exact Below.heap_alloc _ _ _ hb
 have hgw:gg≠wb:=fun e=>row_ne X.g X.w (by decide) (by rw [← e];rfl)
 rw [rep_snoc] at hown
 refine ⟨by simp [X.vl],?_,?_,hown,?_,?_,X.ib,?_⟩
 ·rw [hk wb (lt_of_block X.w) (fun e=>hgw e.symm)];exact X.w
 ·refine row_keep X.i (fun b hb=>hk b (X.i.lt b hb).2 (fun e=>?_))
  obtain ⟨cs1,h1⟩:=row_block X.i hb
  exact row_ne X.g h1 (by decide) (by rw [e];rfl)
 ·intro i hi
  rw [getD_snoc (by rw [X.vl];exact hi)]
  split
  ·rename_i h
   rw [X.vl] at h
   exact marked_room (marked_alloc (X.m i h) o) (by omega) hgrow hown
  ·rename_i h
   rw [X.vl] at h
   obtain rfl:i=j:=by omega
   exact marked_room (marked_alloc (marked_of X.g) o) (by omega) hgrow hown
 ·have hs5:w4.heap.size≤w5.heap.size:=Nat.le_trans (by simp) hgrow.size
  rintro x (hx | rfl) b hb
  ·rcases List.mem_append.1 hx with h | h
   ·exact ⟨(X.b x (.inl h) b hb).1,Nat.lt_of_lt_of_le (X.b x (.inl h) b hb).2 hs5⟩
   ·simp only [List.mem_singleton] at h
    exact ⟨(X.b x (.inr h) b hb).1,Nat.lt_of_lt_of_le (X.b x (.inr h) b hb).2 hs5⟩
  ·have h:=X.b (.slice (some ⟨gg,0,none⟩) (len+j) gcap) (.inr rfl) b hb
   exact ⟨h.1,Nat.lt_of_lt_of_le h.2 hs5⟩
 ·refine X.kept.trans' (Q:=fun b=>b≠gg) ⟨hgrow.os,hgrow.tape,hgrow.output,Nat.le_trans (by simp) hgrow.size,hk⟩ (fun x hx hp e=>?_)
  subst e
  rcases (X.b (.slice (some ⟨x,0,none⟩) (len+j) gcap) (.inr rfl) x rfl).1 with h | h
  ·exact hp.2.2 h
  ·omega
theorem Half.grow {v':Value} {g' c' H:Nat} (X:Half W w4 D wb k n len cap gsv rsv iv wv ev ao ecs m j gcap gao iv' vs) (o:Obj) (hD:D≤w4.heap.size) (hv':v'=.slice (some ⟨g',0,none⟩) (len+j+1) c')
  (hH:H=(w4.alloc o).heap.size) (hown:w5.ownsRow H 3 1 v' (len+j+1) (List.replicate (len+j) (.int .i64 m)++[.int .i64 m])) (hgrow:(w4.alloc o).grownBy w5 none) :
  Mid W w5 D wb k n len cap gsv rsv iv wv ev ao ecs m (j+1) c' (some ⟨g',0,none⟩) iv' (vs++[.slice gao (len+j) gcap]):=by
 subst hv'
 subst hH
 have hk:∀ b,b<w4.heap.size→w5.heap[b]?=w4.heap[b]?:=fun b hb=>by
  rw [hgrow.block b (by simp;omega) (by simp)];exact Below.heap_alloc _ _ _ hb
 rw [rep_snoc] at hown
 have hge:=(hown.lt g' rfl).1
 refine ⟨by simp [X.vl],?_,?_,row_base hown (by simp;omega),?_,?_,X.ib,?_⟩
 ·rw [hk wb (lt_of_block X.w)];exact X.w
 ·exact row_keep X.i (fun b hb=>hk b (X.i.lt b hb).2)
 ·intro i hi
  rw [getD_snoc (by rw [X.vl];exact hi)]
  split
  ·rename_i h
   rw [X.vl] at h
   exact marked_grown (marked_alloc (X.m i h) o) hgrow
  ·rename_i h
   rw [X.vl] at h
   obtain rfl:i=j:=by omega
   exact marked_grown (marked_alloc (marked_of X.g) o) hgrow
 ·have hs5:w4.heap.size≤w5.heap.size:=Nat.le_trans (by simp) hgrow.size
  rintro x (hx | rfl) b hb
  ·rcases List.mem_append.1 hx with h | h
   ·exact ⟨(X.b x (.inl h) b hb).1,Nat.lt_of_lt_of_le (X.b x (.inl h) b hb).2 hs5⟩
   ·simp only [List.mem_singleton] at h
    exact ⟨(X.b x (.inr h) b hb).1,Nat.lt_of_lt_of_le (X.b x (.inr h) b hb).2 hs5⟩
  ·simp only [Value.ownBlock,Option.some.injEq] at hb
   subst hb
   have hl5:=(hown.lt g' rfl).2
   have:=X.kept.size
   simp at hge
   exact ⟨.inr (by omega),hl5⟩
 ·exact X.kept.trans' (Q:=fun _=>True) ⟨hgrow.os,hgrow.tape,hgrow.output,Nat.le_trans (by simp) hgrow.size,fun b hb _=>hk b hb⟩ (fun _ _ _=>trivial)
end
def markOfN (n:Nat):Int:=-1000-((n:Int)+1)
structure MarkPost (W W':World) (D wb k n:Nat) (gsv:Value × Value) (rsv iv wv ev v:Value) (len:Nat) (ecs:List Value):Prop where
 ex:∃ (iv':Value) (v0 v1 v2 v3:Value),W'.heap[wb]?=some (.cells (lawCells gsv rsv (n+1) iv' wv ev) 55 (0,0)) ∧
  W'.ownsRow D 172 2 iv' (k+4) (ecs++[v0,.int .i64 (markOfN n)]++[v1,.int .i64 (markOfN n)]++[v2,.int .i64 (markOfN n)]++[v3,.int .i64 (markOfN n)]) ∧
  Marked W' v0 len (markOfN n)∧Marked W' v1 (len+1) (markOfN n)∧Marked W' v2 (len+2) (markOfN n)∧Marked W' v3 (len+3) (markOfN n) ∧
  (∀ x,x=v0∨x=v1∨x=v2∨x=v3→∀ b,x.ownBlock=some b→(v.ownBlock=some b∨W.heap.size≤b)∧b<W'.heap.size)∧(∀ b,iv'.ownBlock=some b→iv.ownBlock=some b∨W.heap.size≤b)
 kept:Kept W W' (fun b=>b≠wb∧iv.ownBlock≠some b∧v.ownBlock≠some b)
theorem mark_end {W w4:World} {D wb k n len cap:Nat} {gsv:Value × Value} {rsv iv wv ev:Value} {ao:Option Addr} {ecs:List Value} {m:Int} {gcap:Nat} {gao:Option Addr} {iv':Value} {vs:List Value} (hm:markOfN n=m)
  (X:Half W w4 D wb k n len cap gsv rsv iv wv ev ao ecs m 3 gcap gao iv' vs):MarkPost W w4 D wb k n gsv rsv iv wv ev (.slice ao len cap) len ecs:=by
 subst hm
 have hl:=X.vl
 match vs,hl with
 | [v0,v1,v2],_ =>
  refine ⟨⟨iv',v0,v1,v2,.slice gao (len+3) gcap,X.w,?_,X.m 0 (by omega),X.m 1 (by omega),X.m 2 (by omega),marked_of X.g,?_,X.ib⟩,X.kept⟩
  ·simpa [entCells] using X.i
  ·rintro x (rfl | rfl | rfl | rfl) b hb
   ·exact X.b _ (.inl (by simp)) b hb
   ·exact X.b _ (.inl (by simp)) b hb
   ·exact X.b _ (.inl (by simp)) b hb
   ·exact X.b _ (.inr rfl) b hb
theorem markInts {W:World} {D wb k n len:Nat} {gsv:Value × Value} {rsv iv wv ev v:Value} {ecs xs:List Value} (hW:W.heap[wb]?=some (.cells (lawCells gsv rsv n iv wv ev) 55 (0,0))) (hI:W.ownsRow D 172 2 iv k ecs) (hv:W.ownsRow D 3 1 v len xs)
  (hD:D≤wb) (hk:k≤1000000000000) (hn:n≤1000000000000) (hlen:len≤100000) :
  Calls Tryz.prog 66 #[.pointer (some ⟨wb,2,none⟩),v] W fun e W'=>e=.returned (.tuple #[])∧MarkPost W W' D wb k n gsv rsv iv wv ev v len ecs:=by
 have HW:Hid _:=hW
 have HI:Hid (W.ownsRow D 172 2 iv k ecs):=hI
 have HV:Hid (W.ownsRow D 3 1 v len xs):=hv
 have hwb:=lt_of_block hW
 have c2:W.cell? ⟨wb,2,none⟩=some (.int .i64 n):=law_cell hW 2
 have f2:∀ i,W.frozen? ⟨wb,i,none⟩=false:=law_free hW
 have hne1:Hid (v.ownBlock≠some wb):=row_ne hv hW (by decide)
 obtain ⟨i0,hi,hz0,hz1,hz2⟩:=info_parts Tryz.infoI
 obtain ⟨j0,gi,gz0,gz1,gz2⟩:=info_parts Tryz.infoH
 have hsh:∃ ao cap,v=.slice ao len cap∧len≤cap∧cap≤maxLen∧(0<len→∃ g,ao=some ⟨g,0,none⟩):=by
  rcases hv.2 with ⟨rfl,rfl⟩ | ⟨g,cap,cur,rfl,_,_,h1,h2,_⟩
  ·exact ⟨none,0,rfl,Nat.le_refl _,Nat.zero_le _,fun h=>absurd h (by omega)⟩
  ·exact ⟨_,cap,rfl,h1,h2,fun _=>⟨g,rfl⟩⟩
 obtain ⟨ao,cap,rfl,hlc,hcm,hao⟩:=hsh
 have HAO:Hid (0<len→∃ g,ao=some ⟨g,0,none⟩):=hao
 unfold maxLen at hcm
 have hxl:Hid (xs.length=len):=by have h:=hv.1;rw [Nat.mul_one] at h;exact h
 clear hW hI hv hao
 go_enter Tryz.func66, Tryz.ntmps66
 go_wp2_with fail
 have HM:Hid (markOfN n=-1000-((n:Int)+1)):=rfl
 generalize hmm:(-1000-((n:Int)+1))=m at *
 clear hmm
 have HS:Hid ((W.setCell ⟨wb,2,none⟩ (.int .i64 ((n:Int)+1))).heap[wb]?=some (.cells (lawCells gsv rsv (n+1) iv wv ev) 55 (0,0))):=heap_setCell_same W wb 2 _ 55 _ HW.out
 go_loopw [5] (fun i wr=>∃ j:Nat,j≤len∧i=.int .i64 j∧wr.heap[wb]?=some (.cells (lawCells gsv rsv (n+1) iv wv ev) 55 (0,0))∧wr.ownsRow D 3 1 (.slice ao len cap) len (List.replicate j (.int .i64 m)++xs.drop j)∧Kept W wr (fun b=>b≠wb∧(Value.slice ao len cap).ownBlock≠some b)) (fun i _=>len-(intOf i).toNat)
 case atStart =>
  refine ⟨0,Nat.zero_le _,rfl,HS.out,?_,Kept.setCell _ _ (fun h=>h.1 rfl)⟩
  exact ownsRow_setCell_other HV.out hne1.out _
 case round =>
  obtain ⟨j,hj,rfl,hwr,hown,hkept⟩:=hrel
  by_cases hjl:j<len
  ·obtain ⟨g,rfl⟩:=HAO.out (by omega)
   have cj:∃ u,wr.cell? ⟨g,j,none⟩=some u:=by
    rw [hown.cellAt j (by omega)]
    exact ⟨_,List.getElem?_eq_getElem (by simp [hxl.out];omega)⟩
   obtain ⟨u,cj⟩:=cj
   have fj:=hown.frozenAt j
   have R:=hown.stored j (.int .i64 m)
   have hgw:g≠wb:=fun e=>hne1.out (by rw [← e];rfl)
   have RR:Hid _:=R.1
   have RW:Hid ((wr.setCell ⟨g,j,none⟩ (.int .i64 m)).heap[wb]?=some (.cells (lawCells gsv rsv (n+1) iv wv ev) 55 (0,0))):=by
    show (wr.setCell ⟨g,j,none⟩ (.int .i64 m)).heap[wb]?=_
    rw [heap_setCell_other _ _ _ _ (fun e=>hgw e.symm)];exact hwr
   have RK:Hid (Kept W (wr.setCell ⟨g,j,none⟩ (.int .i64 m)) (fun b=>b≠wb∧(Value.slice (some ⟨g,0,none⟩) len cap).ownBlock≠some b)):=hkept.trans (Kept.setCell _ _ (fun h=>h.2 rfl))
   clear hown hwr hkept R hgw
   go_wp2_with fail
   go_roundw
   case rel=>exact ⟨j+1,hjl,by go_num,RW.out,by rw [← rep_set j xs _ (by rw [hxl.out];exact hjl)];exact RR.out,RK.out⟩
   case measure=>simp [intOf];omega
  ·have ej:len=j:=by omega
   subst ej
   have hown':wr.ownsRow D 3 1 (.slice ao len cap) len (List.replicate len (.int .i64 m)):=by
    have e:xs.drop len=[]:=List.drop_eq_nil_of_le (by rw [hxl.out];omega)
    rw [e,List.append_nil] at hown;exact hown
   have HO:Hid (wr.ownsRow D 3 1 (.slice ao len cap) len (List.replicate len (.int .i64 m))):=hown'
   have HWr:Hid (wr.heap[wb]?=some (.cells (lawCells gsv rsv (n+1) iv wv ev) 55 (0,0))):=hwr
   have HK:Hid (Kept W wr (fun b=>b≠wb∧(Value.slice ao len cap).ownBlock≠some b)):=hkept
   have HIr:Hid (wr.ownsRow D 172 2 iv k ecs):=row_keep HI.out (fun b hb=>hkept.block b (HI.out.lt b hb).2 ⟨fun e=>row_ne HI.out HW.out (by decide) (e ▸ hb),fun e=>by
    obtain ⟨cs1,h1⟩:=row_block HI.out hb
    exact row_ne HV.out h1 (by decide) e⟩)
   clear hown hown' hwr hkept HS
   obtain ⟨w1,rfl⟩:∃ w1:World,w1=wr:=⟨_,rfl⟩
   go_wp2_with fail
   go_loopw [6,7] (fun gv i wr=>∃ (j gcap:Nat) (gao:Option Addr) (iv':Value) (vs:List Value),j≤3∧i=.int .i64 j∧gv=.slice gao (len+j) gcap∧Mid W wr D wb k n len cap gsv rsv iv wv ev ao ecs m j gcap gao iv' vs) (fun _ i _=>3-(intOf i).toNat)
   case atStart =>
    refine ⟨0,cap,ao,iv,[],by omega,rfl,rfl,⟨rfl,HWr.out,by simpa [entCells] using HIr.out,HO.out,fun i hi=>by omega,?_,fun b hb=>.inl hb,HK.out.weaken (fun x _ hx=>⟨hx.1,hx.2.2⟩)⟩⟩
    rintro x (hx | rfl) b hb
    ·simp at hx
    ·exact ⟨.inl hb,(HO.out.lt b hb).2⟩
   case round =>
    obtain ⟨j,gcap,gao,iv',vs,hj,rfl,rfl,hX⟩:=hrel
    clear HO HWr HK HIr
    obtain ⟨w2,rfl⟩:∃ w2:World,w2=wr:=⟨_,rfl⟩
    have c3:w2.cell? ⟨wb,3,none⟩=some iv':=law_cell hX.w 3
    have hlt2:=lt_of_block hX.w
    have hDs:D≤w2.heap.size:=by omega
    have X:Hid (Mid W w2 D wb k n len cap gsv rsv iv wv ev ao ecs m j gcap gao iv' vs):=hX
    have X8:Hid ((w2.alloc (.cells #[.slice gao (len+j) gcap,.int .i64 m] 172)).ownsRow D 172 2 iv' (k+j) (ecs++entCells vs m)):=hX.i.alloc _
    have hb1:Hid (Below w2.heap.size w2 (w2.alloc (.cells #[.slice gao (len+j) gcap,.int .i64 m] 172))):=(Below.refl _ _).alloc (Nat.le_refl _) _
    clear hX
    by_cases hj3:j<3
    ·go_wp2_with (at_builtin;refine wpList_append_lies _ rfl _ _ 49 rfl D 172 j0 (.agg #[.slice none 0 0,.int .i64 0]) 2 32 Tryz.underlying49 gi gz0 gz1 gz2 rfl (by decide) _ _ _ rfl X8.out ⟨w2.heap.size,0,none⟩ 1 1 [.slice gao (len+j) gcap,.int .i64 m] rfl ?c0 ?c1 ?c2 ?cm ?c3 ?c4 ?c5 _ rfl ?_)
     case c0=>rfl
     case c1=>exact two_cells _ _ _ _
     case c2=>exact two_one _ _ _ _
     case cm=>omega
     case c3=>unfold maxLen;omega
     case c4=>omega
     case c5=>simp;omega
     intro g3 cp3 w3 hown3 hgrow3 hat3 hlt3
     rw [← List.append_assoc] at hown3
     have R:=X.out.half hb1.out hown3 hgrow3 (hat3.imp id (fun e=>by rw [World.size_alloc];exact e))
     have c33:w3.cell? ⟨wb,3,none⟩=some iv':=law_cell R.2 3
     have f33:∀ i,w3.frozen? ⟨wb,i,none⟩=false:=law_free R.2
     have RR:Hid (Half W (w3.setCell ⟨wb,3,none⟩ (.slice (some ⟨g3,0,none⟩) (k+j+1) cp3)) D wb k n len cap gsv rsv iv wv ev ao ecs m j gcap gao (.slice (some ⟨g3,0,none⟩) (k+j+1) cp3) vs):=R.1
     have hD4:Hid (D≤(w3.setCell ⟨wb,3,none⟩ (.slice (some ⟨g3,0,none⟩) (k+j+1) cp3)).heap.size):=by have:=lt_of_block R.1.w;show D≤_;omega
     have C1:Hid (∀ i u,[Value.int .i64 m][i]?=some u→((w3.setCell ⟨wb,3,none⟩ (.slice (some ⟨g3,0,none⟩) (k+j+1) cp3)).alloc (.cells #[.int .i64 m] 3)).cell? ((⟨w3.heap.size,0,none⟩:Addr).add i)=some u):=by
      have h:=one_cell (w3.setCell ⟨wb,3,none⟩ (.slice (some ⟨g3,0,none⟩) (k+j+1) cp3)) (.int .i64 m) 3
      have e:(w3.setCell ⟨wb,3,none⟩ (.slice (some ⟨g3,0,none⟩) (k+j+1) cp3)).heap.size=w3.heap.size:=by simp [World.setCell]
      rw [e] at h;exact h
     clear R hb1 hown3 hgrow3 hat3 hlt3 X8 c3 X
     by_cases hroom:len+j+1≤gcap
     ·obtain ⟨gg,hgg,hgD,_⟩:=row_some RR.out.g (by omega)
      subst hgg
      have Y8:Hid _:=RR.out.g.alloc (.cells #[.int .i64 m] 3)
      go_wp2_with (at_builtin;refine wpList_append_fits _ rfl _ _ 25 rfl D 3 i0 1 Tryz.underlying25 hi hz1 gg (len+j) gcap _ rfl Y8.out ⟨w3.heap.size,0,none⟩ 1 1 [.int .i64 m] rfl rfl C1.out (int_one m) hroom ?_)
      intro w5 hown5 hgrow5
      have Z:Hid _:=RR.out.room _ hown5 hgrow5
      clear hown5 hgrow5 RR Y8 C1
      go_wp2_with fail
      go_roundw
      case rel=>exact ⟨j+1,gcap,_,_,_,by omega,by go_num,rfl,Z.out⟩
      case measure=>simp [intOf];omega
     ·have Y8:Hid _:=RR.out.g.alloc (.cells #[.int .i64 m] 3)
      go_wp2_with (at_builtin;refine wpList_append_grows _ rfl _ _ 25 rfl 3 i0 (.int .i64 0) 1 8 Tryz.underlying25 hi hz0 hz1 hz2 rfl (by decide) gao (len+j) gcap (List.replicate (len+j) (.int .i64 m)) rfl (row_none RR.out.g) (by simp) (row_at Y8.out) ⟨w3.heap.size,0,none⟩ 1 1 [.int .i64 m] rfl rfl C1.out (int_one m) ?e1 ?e2 ?e3 ?_)
      case e1=>omega
      case e2=>unfold maxLen;omega
      case e3=>omega
      intro v5 w5 hown5 hgrow5
      obtain ⟨g5,c5,hv5,_,_⟩:=hown5.form (by omega)
      have Z:Hid _:=RR.out.grow _ hD4.out hv5 (by simp [World.setCell]) hown5 hgrow5
      rw [hv5]
      clear hown5 hgrow5 RR Y8 C1 hv5
      go_wp2_with fail
      go_roundw
      case rel=>exact ⟨j+1,c5,_,_,_,by omega,by go_num,rfl,Z.out⟩
      case measure=>simp [intOf];omega
    ·obtain rfl:j=3:=by omega
     go_wp2_with (at_builtin;refine wpList_append_lies _ rfl _ _ 49 rfl D 172 j0 (.agg #[.slice none 0 0,.int .i64 0]) 2 32 Tryz.underlying49 gi gz0 gz1 gz2 rfl (by decide) _ _ _ rfl X8.out ⟨w2.heap.size,0,none⟩ 1 1 [.slice gao (len+3) gcap,.int .i64 m] rfl ?c0 ?c1 ?c2 ?cm ?c3 ?c4 ?c5 _ rfl ?_)
     case c0=>rfl
     case c1=>exact two_cells _ _ _ _
     case c2=>exact two_one _ _ _ _
     case cm=>omega
     case c3=>unfold maxLen;omega
     case c4=>omega
     case c5=>simp;omega
     intro g3 cp3 w3 hown3 hgrow3 hat3 hlt3
     rw [← List.append_assoc] at hown3
     have R:=X.out.half hb1.out hown3 hgrow3 (hat3.imp id (fun e=>by rw [World.size_alloc];exact e))
     have c33:w3.cell? ⟨wb,3,none⟩=some iv':=law_cell R.2 3
     have f33:∀ i,w3.frozen? ⟨wb,i,none⟩=false:=law_free R.2
     have RR:Hid (Half W (w3.setCell ⟨wb,3,none⟩ (.slice (some ⟨g3,0,none⟩) (k+3+1) cp3)) D wb k n len cap gsv rsv iv wv ev ao ecs m 3 gcap gao (.slice (some ⟨g3,0,none⟩) (k+3+1) cp3) vs):=R.1
     clear R hb1 hown3 hgrow3 hat3 hlt3 X8 c3 X
     go_wp2_with fail
     go_end0
     refine ⟨rfl,mark_end HM.out RR.out⟩
open Go.RowKit Gv
abbrev Ent:=Value × Nat × Int
def entsCells (es:List Ent):List Value:=es.flatMap (fun x=>[x.1,.int .i64 x.2.2])
theorem ents_at {es:List Ent} {k:Nat} {x:Ent} (h:es[k]?=some x):(entsCells es)[k*2]?=some x.1∧(entsCells es)[k*2+1]?=some (.int .i64 x.2.2):=by
 induction es generalizing k with
 | nil=>simp at h
 | cons y ys ih =>
  have e:entsCells (y :: ys)=y.1 :: .int .i64 y.2.2 :: entsCells ys:=by simp [entsCells]
  cases k with
  | zero=>simp at h;subst h;rw [e];simp
  | succ k =>
   have h':=ih (k:=k) (by simpa using h)
   rw [e,show (k+1)*2=k*2+2 from by omega]
   simpa using h'
theorem rowForm {W:World} {D e size n:Nat} {v:Value} {xs:List Value} (h:W.ownsRow D e size v n xs):∃ ao cap,v=.slice ao n cap∧n≤cap∧(n=0∨∃ g,ao=some ⟨g,0,none⟩∧g<W.heap.size∧∀ j,j<n*size→W.cell? ⟨g,j,none⟩=xs[j]?):=by
 rcases h.2 with ⟨rfl,rfl⟩ | ⟨g,cap,cur,rfl,hb,hg,h1,_⟩
 ·exact ⟨none,0,rfl,Nat.le_refl _,.inl rfl⟩
 ·exact ⟨_,cap,rfl,h1,.inr ⟨g,rfl,lt_of_block hg,fun j hj=>h.cellAt j hj⟩⟩
theorem below_drewN' {D:Nat} {a b:World} (h:Below D a b) (m:Nat):Below D a (b.drewN m):=⟨h.os,h.tape,h.output,h.size,h.block⟩
def markS:ByteArray:=⟨#[109,97,114,107]⟩
def MarkedR (W:World) (v:Value) (n:Nat) (m:Int):Prop :=
 ∃ ao cap,v=.slice ao n cap∧(n=0∨∃ g,ao=some ⟨g,0,none⟩∧g<W.heap.size∧∀ i,i<n→W.cell? ⟨g,i*2,none⟩=some (.string markS)∧W.cell? ⟨g,i*2+1,none⟩=some (.int .i64 m))
theorem MarkedR.keep {W W':World} {v:Value} {n:Nat} {m:Int} (h:MarkedR W v n m) (hk:∀ b,v.ownBlock=some b→b<W.heap.size→W'.heap[b]?=W.heap[b]?) (hs:W.heap.size≤W'.heap.size):MarkedR W' v n m:=by
 obtain ⟨ao,cap,rfl,h⟩:=h
 refine ⟨ao,cap,rfl,?_⟩
 rcases h with h | ⟨g,rfl,hg,hc⟩
 ·exact .inl h
 ·have e:=hk g rfl hg
  exact .inr ⟨g,rfl,Nat.lt_of_lt_of_le hg hs,fun i hi=>⟨(World.cell?_of_block (w:=W) e).trans (hc i hi).1,(World.cell?_of_block (w:=W) e).trans (hc i hi).2⟩⟩
def QOwn (qv:Value) (qs:List Ent) (b:Nat):Prop:=qv.ownBlock=some b∨∃ x,x∈qs∧x.1.ownBlock=some b
structure QInv (W:World) (D:Nat) (qv:Value) (qs:List Ent):Prop where
 row:W.ownsRow D 174 2 qv qs.length (entsCells qs)
 ent:∀ x,x∈qs→MarkedR W x.1 x.2.1 x.2.2∧x.2.1≤10000000
 few:qs.length≤1000000000000
 blk:∀ b,QOwn qv qs b→∃ cs t,W.heap[b]?=some (.cells cs t (0,0))∧(t=174∨t=32)
theorem QInv.keep {W W':World} {D:Nat} {qv:Value} {qs:List Ent} (h:QInv W D qv qs) (hk:∀ b,QOwn qv qs b→b<W.heap.size→W'.heap[b]?=W.heap[b]?) (hs:W.heap.size≤W'.heap.size):QInv W' D qv qs :=
 ⟨row_keep h.row (fun b hb=>hk b (.inl hb) (h.row.lt b hb).2),fun x hx=>⟨(h.ent x hx).1.keep (fun b hb hl=>hk b (.inr ⟨x,hx,hb⟩) hl) hs,(h.ent x hx).2⟩,h.few,fun b hb=>by
  obtain ⟨cs,t,hc,ht⟩:=h.blk b hb
  exact ⟨cs,t,by rw [hk b hb (lt_of_block hc)];exact hc,ht⟩⟩
theorem QInv.nil (W:World) (D:Nat):QInv W D (.slice none 0 0) [] :=
 ⟨World.ownsRow_nil _ _ _ _,fun x hx=>by simp at hx,by simp,fun b hb=>by
  rcases hb with hb | ⟨x,hx,_⟩
  ·simp [Value.ownBlock] at hb
  ·simp at hx⟩
theorem dry {W:World} {D wb n:Nat} {gsv:Value × Value} {rsv iv wv ev:Value} {es qs:List Ent} (hQ:QInv W D gsv.2 qs) (hW:W.heap[wb]?=some (.cells (lawCells gsv rsv n iv wv ev) 55 (0,0))) (hI:W.ownsRow D 172 2 iv es.length (entsCells es)) (hE:∀ x,x∈es→Marked W x.1 x.2.1 x.2.2) (hk:es.length≤1000000000000) (hl:∀ x,x∈es→x.2.1≤100000) :
  Calls Tryz.prog 64 #[.pointer (some ⟨wb,2,none⟩)] W fun e W'=>e=.returned (.bool true)∧Below W.heap.size W W':=by
 have hwb:=lt_of_block hW
 have HW:Hid (W.heap[wb]?=some (.cells (lawCells gsv rsv n iv wv ev) 55 (0,0))):=hW
 obtain ⟨iao,icap,rfl,hic,hIc⟩:=rowForm hI
 have HIc:Hid _:=hIc
 have HE:Hid (∀ x,x∈es→Marked W x.1 x.2.1 x.2.2):=hE
 have HL:Hid (∀ x,x∈es→x.2.1≤100000):=hl
 have HQ:Hid (QInv W D gsv.2 qs):=hQ
 have hqn:=hQ.few
 obtain ⟨qao,qcap,hqv,hqc,hQc⟩:=rowForm hQ.row
 have HQc:Hid _:=hQc
 clear hW hI hIc hE hl hQ hQc
 go_enter Tryz.func64, Tryz.ntmps64
 go_wp2_with fail
 go_loopw [3] (fun i wr=>∃ k:Nat,k≤es.length∧i=.int .i64 k∧Below W.heap.size W wr) (fun i _=>es.length-(intOf i).toNat)
 case atStart=>exact ⟨0,Nat.zero_le _,rfl,Below.refl _ _⟩
 case round =>
  obtain ⟨k,hkl,rfl,hbel⟩:=hrel
  obtain ⟨w1,rfl⟩:∃ w1:World,w1=wr:=⟨_,rfl⟩
  have hW1:w1.heap[wb]?=some (.cells (lawCells gsv rsv n (.slice iao es.length icap) wv ev) 55 (0,0)):=(hbel.block wb hwb).trans HW.out
  have c3:w1.cell? ⟨wb,3,none⟩=some (.slice iao es.length icap):=law_cell hW1 3
  have c4:w1.cell? ⟨wb,4,none⟩=some (.slice qao qs.length qcap):=by rw [← hqv];exact law_cell hW1 4
  have HB:Hid (Below W.heap.size W w1):=hbel
  clear hW1 hbel
  by_cases hlt:k<es.length
  ·rcases HIc.out with h0 | ⟨ig,rfl,higs,hic'⟩
   ·omega
   obtain ⟨x,hx⟩:∃ x,es[k]?=some x:=⟨_,List.getElem?_eq_getElem hlt⟩
   have hxa:=ents_at hx
   have hmem:x∈es:=List.mem_of_getElem? hx
   have hM:=HE.out x hmem
   have hL:=HL.out x hmem
   obtain ⟨xv,xn,xm⟩:=x
   obtain ⟨xao,xcap,hxv,hxc⟩:=hM
   simp only at hxv hxc hL hxa
   subst hxv
   have d0:w1.cell? ⟨ig,k*2,none⟩=some (.slice xao xn xcap):=(HB.out.cell (p:=⟨ig,k*2,none⟩) higs).trans ((hic' _ (by omega)).trans hxa.1)
   have d1:w1.cell? ⟨ig,k*2+1,none⟩=some (.int .i64 xm):=(HB.out.cell (p:=⟨ig,k*2+1,none⟩) higs).trans ((hic' _ (by omega)).trans hxa.2)
   have HX:Hid _:=hxc
   clear hxc hxa hmem hx hic'
   have hs1:=HB.out.size
   go_wp2_with fail
   go_loopw [5] (fun i wr=>∃ j:Nat,j≤xn∧i=.int .i64 j∧Below w1.heap.size w1 wr∧wr.cell? ⟨w1.heap.size,0,none⟩=some (.slice xao xn xcap)∧wr.cell? ⟨w1.heap.size,1,none⟩=some (.int .i64 xm)) (fun i _=>xn-(intOf i).toNat)
   case atStart=>exact ⟨0,Nat.zero_le _,rfl,(Below.refl _ _).alloc (Nat.le_refl _) _,by simp,by simp⟩
   case round =>
    obtain ⟨j,hj,rfl,hb2,q0,q1⟩:=hrel
    obtain ⟨w2,rfl⟩:∃ w2:World,w2=wr:=⟨_,rfl⟩
    have HB2:Hid (Below w1.heap.size w1 w2):=hb2
    clear hb2
    by_cases hjl:j<xn
    ·rcases HX.out with h0 | ⟨g,rfl,⟨cs,hg⟩,hc⟩
     ·omega
     have hgs:g<W.heap.size:=lt_of_block hg
     have cj:w2.cell? ⟨g,j,none⟩=some (.int .i64 xm):=(HB2.out.cell (p:=⟨g,j,none⟩) (by exact Nat.lt_of_lt_of_le hgs hs1)).trans ((HB.out.cell (p:=⟨g,j,none⟩) hgs).trans (hc j hjl))
     have ib:(j:Int)<(xn:Int):=by omega
     clear hc hg
     have Q0:Hid (w2.cell? ⟨w1.heap.size,0,none⟩=some (.slice (some ⟨g,0,none⟩) xn xcap)):=q0
     have Q1:Hid (w2.cell? ⟨w1.heap.size,1,none⟩=some (.int .i64 xm)):=q1
     go_wp2_with fail
     go_quiet (fail)
     go_wp2_with fail
     go_roundw
     case rel=>exact ⟨j+1,hjl,by go_num,below_drewN' HB2.out nq,Q0.out,Q1.out⟩
     case measure=>simp [intOf];omega
    ·have hB3:Hid (Below W.heap.size W w2):=HB.out.trans (HB2.out.mono HB.out.size)
     go_wp2_with fail
     go_roundw
     case rel=>exact ⟨k+1,hlt,by go_num,hB3.out⟩
     case measure=>simp [intOf];omega
  ·have hkk:¬ (k:Int)<(es.length:Int):=by omega
   go_wp2_with fail
   clear c3 c4
   go_loopw [6] (fun i wr=>∃ k:Nat,k≤qs.length∧i=.int .i64 k∧Below W.heap.size W wr) (fun i _=>qs.length-(intOf i).toNat)
   case atStart=>exact ⟨0,Nat.zero_le _,rfl,HB.out⟩
   case round =>
    clear HB
    obtain ⟨k,hkl,rfl,hbel⟩:=hrel
    obtain ⟨w1,rfl⟩:∃ w1:World,w1=wr:=⟨_,rfl⟩
    have hW1:w1.heap[wb]?=some (.cells (lawCells gsv rsv n (.slice iao es.length icap) wv ev) 55 (0,0)):=(hbel.block wb hwb).trans HW.out
    have c4:w1.cell? ⟨wb,4,none⟩=some (.slice qao qs.length qcap):=by rw [← hqv];exact law_cell hW1 4
    have HB:Hid (Below W.heap.size W w1):=hbel
    clear hW1 hbel
    by_cases hlt:k<qs.length
    ·rcases HQc.out with h0 | ⟨ig,rfl,higs,hic'⟩
     ·omega
     obtain ⟨x,hx⟩:∃ x,qs[k]?=some x:=⟨_,List.getElem?_eq_getElem hlt⟩
     have hxa:=ents_at hx
     have hmem:x∈qs:=List.mem_of_getElem? hx
     have hM:=(HQ.out.ent x hmem).1
     have hL:=(HQ.out.ent x hmem).2
     obtain ⟨xv,xn,xm⟩:=x
     obtain ⟨xao,xcap,hxv,hxc⟩:=hM
     simp only at hxv hxc hL hxa
     subst hxv
     have d0:w1.cell? ⟨ig,k*2,none⟩=some (.slice xao xn xcap):=(HB.out.cell (p:=⟨ig,k*2,none⟩) higs).trans ((hic' _ (by omega)).trans hxa.1)
     have d1:w1.cell? ⟨ig,k*2+1,none⟩=some (.int .i64 xm):=(HB.out.cell (p:=⟨ig,k*2+1,none⟩) higs).trans ((hic' _ (by omega)).trans hxa.2)
     have HX:Hid _:=hxc
     clear hxc hxa hmem hx hic'
     have hs1:=HB.out.size
     go_wp2_with fail
     go_loopw [8] (fun i wr=>∃ j:Nat,j≤xn∧i=.int .i64 j∧Below w1.heap.size w1 wr∧wr.cell? ⟨w1.heap.size,0,none⟩=some (.slice xao xn xcap)∧wr.cell? ⟨w1.heap.size,1,none⟩=some (.int .i64 xm)) (fun i _=>xn-(intOf i).toNat)
     case atStart=>exact ⟨0,Nat.zero_le _,rfl,(Below.refl _ _).alloc (Nat.le_refl _) _,by simp,by simp⟩
     case round =>
      obtain ⟨j,hj,rfl,hb2,q0,q1⟩:=hrel
      obtain ⟨w2,rfl⟩:∃ w2:World,w2=wr:=⟨_,rfl⟩
      have HB2:Hid (Below w1.heap.size w1 w2):=hb2
      clear hb2
      by_cases hjl:j<xn
      ·rcases HX.out with h0 | ⟨g,rfl,hgs,hc⟩
       ·omega
       have cj:w2.cell? ⟨g,j*2,none⟩=some (.string markS):=(HB2.out.cell (p:=⟨g,j*2,none⟩) (by exact Nat.lt_of_lt_of_le hgs hs1)).trans ((HB.out.cell (p:=⟨g,j*2,none⟩) hgs).trans (hc j hjl).1)
       have cj1:w2.cell? ⟨g,j*2+1,none⟩=some (.int .i64 xm):=(HB2.out.cell (p:=⟨g,j*2+1,none⟩) (by exact Nat.lt_of_lt_of_le hgs hs1)).trans ((HB.out.cell (p:=⟨g,j*2+1,none⟩) hgs).trans (hc j hjl).2)
       have ib:(j:Int)<(xn:Int):=by omega
       clear hc
       unfold markS at cj
       have Q0:Hid (w2.cell? ⟨w1.heap.size,0,none⟩=some (.slice (some ⟨g,0,none⟩) xn xcap)):=q0
       have Q1:Hid (w2.cell? ⟨w1.heap.size,1,none⟩=some (.int .i64 xm)):=q1
       go_wp2_with fail
       go_quiet (fail)
       go_wp2_with fail
       go_roundw
       case rel=>exact ⟨j+1,hjl,by go_num,below_drewN' HB2.out nq,Q0.out,Q1.out⟩
       case measure=>simp [intOf];omega
      ·have hB3:Hid (Below W.heap.size W w2):=HB.out.trans (HB2.out.mono HB.out.size)
       go_wp2_with fail
       go_roundw
       case rel=>exact ⟨k+1,hlt,by go_num,hB3.out⟩
       case measure=>simp [intOf];omega
    ·have hkk:¬ (k:Int)<(qs.length:Int):=by omega
     go_wp2_with fail
     go_ret
     exact ⟨rfl,HB.out⟩
abbrev Wait:=Value × Value × List Nat
theorem nums_form {W:World} {D n:Nat} {v:Value} {l:List Nat} (h:W.ownsRow D 3 1 v n (ints l)) (hn:n=l.length):∃ ao cap,v=.slice ao n cap∧(n=0∨∃ g,ao=some ⟨g,0,none⟩∧g<W.heap.size∧∀ j,j<n→W.cell? ⟨g,j,none⟩=some (.int .i64 (l.getD j 0:Nat))):=by
 obtain ⟨ao,cap,hv,_,hc⟩:=rowForm h
 refine ⟨ao,cap,hv,?_⟩
 rcases hc with hc | ⟨g,e,hg,hc⟩
 ·exact .inl hc
 ·refine .inr ⟨g,e,hg,fun j hj=>?_⟩
  rw [hc j (by omega)]
  simp only [ints,List.getElem?_map]
  rw [List.getElem?_eq_getElem (by omega),List.getD_eq_getElem?_getD,List.getElem?_eq_getElem (by omega)]
  rfl
theorem waitsL {W:World} {D wb n:Nat} {gsv:Value × Value} {rsv iv wv ev:Value} {ws:List Wait} (hW:W.heap[wb]?=some (.cells (lawCells gsv rsv n iv wv ev) 55 (0,0))) (hT:W.ownsRow D 25 1 wv ws.length (ws.map (·.1))) (hE:W.ownsRow D 25 1 ev ws.length (ws.map (·.2.1)))
  (hL:∀ x,x∈ws→W.ownsRow D 3 1 x.1 x.2.2.length (ints x.2.2)∧W.ownsRow D 3 1 x.2.1 x.2.2.length (ints x.2.2)∧x.2.2.length≤100000) (hk:ws.length≤1000000000000) :
  Calls Tryz.prog 63 #[.pointer (some ⟨wb,2,none⟩)] W fun e W'=>e=.returned (.bool true)∧Below W.heap.size W W':=by
 have hwb:=lt_of_block hW
 have HW:Hid (W.heap[wb]?=some (.cells (lawCells gsv rsv n iv wv ev) 55 (0,0))):=hW
 obtain ⟨tao,tcap,rfl,_,hTc⟩:=rowForm hT
 obtain ⟨eao,ecap,rfl,_,hEc⟩:=rowForm hE
 have HTc:Hid _:=hTc
 have HEc:Hid _:=hEc
 have HL:Hid (∀ x,x∈ws→W.ownsRow D 3 1 x.1 x.2.2.length (ints x.2.2)∧W.ownsRow D 3 1 x.2.1 x.2.2.length (ints x.2.2)∧x.2.2.length≤100000):=hL
 clear hW hT hE hTc hEc hL
 go_enter Tryz.func63, Tryz.ntmps63
 go_wp2_with fail
 go_loopw [3,4] (fun o i wr=>∃ k:Nat,k≤ws.length∧o=.bool true∧i=.int .i64 k∧Below W.heap.size W wr) (fun _ i _=>ws.length-(intOf i).toNat)
 case atStart=>exact ⟨0,Nat.zero_le _,rfl,rfl,Below.refl _ _⟩
 case round =>
  obtain ⟨k,hkl,rfl,rfl,hbel⟩:=hrel
  obtain ⟨w1,rfl⟩:∃ w1:World,w1=wr:=⟨_,rfl⟩
  have hW1:w1.heap[wb]?=some (.cells (lawCells gsv rsv n iv (.slice tao ws.length tcap) (.slice eao ws.length ecap)) 55 (0,0)):=(hbel.block wb hwb).trans HW.out
  have c5:w1.cell? ⟨wb,5,none⟩=some (.slice tao ws.length tcap):=law_cell hW1 5
  have HB:Hid (Below W.heap.size W w1):=hbel
  clear hW1 hbel
  by_cases hlt:k<ws.length
  ·rcases HTc.out with h0 | ⟨tg,rfl,htgs,htc⟩
   ·omega
   rcases HEc.out with h0 | ⟨eg,rfl,hegs,hec⟩
   ·omega
   obtain ⟨x,hx⟩:∃ x,ws[k]?=some x:=⟨_,List.getElem?_eq_getElem hlt⟩
   have hmem:x∈ws:=List.mem_of_getElem? hx
   have hxl:=HL.out x hmem
   obtain ⟨xv,yv,l⟩:=x
   simp only at hxl
   obtain ⟨xao,xcap,hxv,hxc⟩:=nums_form hxl.1 rfl
   obtain ⟨yao,ycap,hyv,hyc⟩:=nums_form hxl.2.1 rfl
   have hll:=hxl.2.2
   subst hxv
   subst hyv
   have D0:Hid (W.cell? ⟨tg,k,none⟩=some (.slice xao l.length xcap)):=by
    show W.cell? ⟨tg,k,none⟩=_
    rw [htc k (by omega),List.getElem?_map,hx];rfl
   have D1:Hid (W.cell? ⟨eg,k,none⟩=some (.slice yao l.length ycap)):=by
    show W.cell? ⟨eg,k,none⟩=_
    rw [hec k (by omega),List.getElem?_map,hx];rfl
   have HX:Hid _:=hxc
   have HY:Hid _:=hyc
   clear hxl hxc hyc hmem hx htc hec
   have ibk:(k:Int)<(ws.length:Int):=by omega
   go_wp2_with fail
   go_loopw [3,5] (fun o i wr=>∃ j:Nat,j≤l.length∧o=.bool true∧i=.int .i64 j∧Below W.heap.size W wr) (fun _ i _=>l.length-(intOf i).toNat)
   case atStart=>exact ⟨0,Nat.zero_le _,rfl,rfl,HB.out⟩
   case round =>
    obtain ⟨j,hj,rfl,rfl,hb2⟩:=hrel
    obtain ⟨w2,rfl⟩:∃ w2:World,w2=wr:=⟨_,rfl⟩
    have hW2:w2.heap[wb]?=some (.cells (lawCells gsv rsv n iv (.slice (some ⟨tg,0,none⟩) ws.length tcap) (.slice (some ⟨eg,0,none⟩) ws.length ecap)) 55 (0,0)):=(hb2.block wb hwb).trans HW.out
    have c5':w2.cell? ⟨wb,5,none⟩=some (.slice (some ⟨tg,0,none⟩) ws.length tcap):=law_cell hW2 5
    have c6':w2.cell? ⟨wb,6,none⟩=some (.slice (some ⟨eg,0,none⟩) ws.length ecap):=law_cell hW2 6
    have d0:w2.cell? ⟨tg,k,none⟩=some (.slice xao l.length xcap):=(hb2.cell (p:=⟨tg,k,none⟩) htgs).trans D0.out
    have d1:w2.cell? ⟨eg,k,none⟩=some (.slice yao l.length ycap):=(hb2.cell (p:=⟨eg,k,none⟩) hegs).trans D1.out
    have HB2:Hid (Below W.heap.size W w2):=hb2
    clear hb2 hW2
    by_cases hjl:j<l.length
    ·rcases HX.out with h0 | ⟨g,rfl,hgs,hc⟩
     ·omega
     rcases HY.out with h0 | ⟨g',rfl,hgs',hc'⟩
     ·omega
     have x1:w2.cell? ⟨g,j,none⟩=some (.int .i64 (l.getD j 0:Nat)):=(HB2.out.cell (p:=⟨g,j,none⟩) hgs).trans (hc j hjl)
     have x2:w2.cell? ⟨g',j,none⟩=some (.int .i64 (l.getD j 0:Nat)):=(HB2.out.cell (p:=⟨g',j,none⟩) hgs').trans (hc' j hjl)
     generalize l.getD j 0=y at *
     have ib:(j:Int)<(l.length:Int):=by omega
     clear hc hc'
     go_wp2_with fail
     go_quiet (fail)
     go_wp2_with fail
     go_roundw
     case rel=>exact ⟨j+1,hjl,by simp,by go_num,below_drewN' HB2.out nq⟩
     case measure=>simp [intOf];omega
    ·have hjj:¬ (j:Int)<(l.length:Int):=by omega
     go_wp2_with fail
     go_roundw
     case rel=>exact ⟨k+1,hlt,rfl,by go_num,HB2.out⟩
     case measure=>simp [intOf];omega
  ·have hkk:¬ (k:Int)<(ws.length:Int):=by omega
   go_wp2_with fail
   go_ret
   exact ⟨rfl,HB.out⟩
open Go.RowKit Gv
structure HInv (W:World) (D wb:Nat) (gsv:Value × Value) (rsv:Value) (n:Nat) (iv wv ev:Value) (es:List Ent) (ws:List Wait):Prop where
 w:W.heap[wb]?=some (.cells (lawCells gsv rsv n iv wv ev) 55 (0,0))
 hD:D≤wb
 i:W.ownsRow D 172 2 iv es.length (entsCells es)
 t:W.ownsRow D 25 1 wv ws.length (ws.map (·.1))
 e:W.ownsRow D 25 1 ev ws.length (ws.map (·.2.1))
 te:∀ b,wv.ownBlock=some b→ev.ownBlock≠some b
 ent:∀ x,x∈es→Marked W x.1 x.2.1 x.2.2∧x.2.1≤100000∧∀ b,x.1.ownBlock=some b→b<W.heap.size
 wl:∀ x,x∈ws→W.ownsRow D 3 1 x.1 x.2.2.length (ints x.2.2)∧W.ownsRow D 3 1 x.2.1 x.2.2.length (ints x.2.2)∧x.2.2.length≤300
 nd:∀ (i j:Nat) (x y:Wait),i<j→ws[i]?=some x→ws[j]?=some y→∀ b,x.1.ownBlock=some b→y.1.ownBlock≠some b
 ef:∀ x,x∈es→∀ b,x.1.ownBlock=some b→∀ y,y∈ws→y.1.ownBlock≠some b
 wf:∀ x,x∈ws→∀ b,x.2.1.ownBlock=some b→∀ y,y∈ws→y.1.ownBlock≠some b
 cnt:es.length≤4*n
def LW (wb:Nat) (iv wv ev:Value) (ws:List Wait) (b:Nat):Prop:=b=wb∨iv.ownBlock=some b∨wv.ownBlock=some b∨ev.ownBlock=some b∨∃ x,x∈ws∧x.1.ownBlock=some b
def LOwn (wb:Nat) (iv wv ev:Value) (es:List Ent) (ws:List Wait) (b:Nat):Prop:=LW wb iv wv ev ws b∨(∃ x,x∈es∧x.1.ownBlock=some b)∨∃ x,x∈ws∧x.2.1.ownBlock=some b
section
variable {W W':World} {D wb n:Nat} {gsv:Value × Value} {rsv iv wv ev:Value} {es:List Ent} {ws:List Wait}
theorem LOwn.self:LOwn wb iv wv ev es ws wb:=.inl (.inl rfl)
theorem LOwn.i {b:Nat} (h:iv.ownBlock=some b):LOwn wb iv wv ev es ws b:=.inl (.inr (.inl h))
theorem LOwn.t {b:Nat} (h:wv.ownBlock=some b):LOwn wb iv wv ev es ws b:=.inl (.inr (.inr (.inl h)))
theorem LOwn.e {b:Nat} (h:ev.ownBlock=some b):LOwn wb iv wv ev es ws b:=.inl (.inr (.inr (.inr (.inl h))))
theorem LOwn.x1 {b:Nat} {x:Wait} (hx:x∈ws) (h:x.1.ownBlock=some b):LOwn wb iv wv ev es ws b:=.inl (.inr (.inr (.inr (.inr ⟨x,hx,h⟩))))
theorem LOwn.x2 {b:Nat} {x:Wait} (hx:x∈ws) (h:x.2.1.ownBlock=some b):LOwn wb iv wv ev es ws b:=.inr (.inr ⟨x,hx,h⟩)
theorem LOwn.en {b:Nat} {x:Ent} (hx:x∈es) (h:x.1.ownBlock=some b):LOwn wb iv wv ev es ws b:=.inr (.inl ⟨x,hx,h⟩)
theorem HInv.bounds (h:HInv W D wb gsv rsv n iv wv ev es ws) {b:Nat} (hb:LOwn wb iv wv ev es ws b):b<W.heap.size:=by
 rcases hb with (rfl | hb | hb | hb | ⟨x,hx,hb⟩) | ⟨x,hx,hb⟩ | ⟨x,hx,hb⟩
 ·exact lt_of_block h.w
 ·exact (h.i.lt b hb).2
 ·exact (h.t.lt b hb).2
 ·exact (h.e.lt b hb).2
 ·exact ((h.wl x hx).1.lt b hb).2
 ·exact (h.ent x hx).2.2 b hb
 ·exact ((h.wl x hx).2.1.lt b hb).2
theorem HInv.low (h:HInv W D wb gsv rsv n iv wv ev es ws) {b:Nat} (hb:LW wb iv wv ev ws b):D≤b:=by
 rcases hb with rfl | hb | hb | hb | ⟨x,hx,hb⟩
 ·exact h.hD
 ·exact (h.i.lt b hb).1
 ·exact (h.t.lt b hb).1
 ·exact (h.e.lt b hb).1
 ·exact ((h.wl x hx).1.lt b hb).1
theorem HInv.stays (h:HInv W D wb gsv rsv n iv wv ev es ws) (hk:∀ b,LOwn wb iv wv ev es ws b→W'.heap[b]?=W.heap[b]?) (hs:W.heap.size≤W'.heap.size):HInv W' D wb gsv rsv n iv wv ev es ws:=by
 refine ⟨(hk wb LOwn.self).trans h.w,h.hD,row_keep h.i (fun b hb=>hk b (LOwn.i hb)),row_keep h.t (fun b hb=>hk b (LOwn.t hb)),row_keep h.e (fun b hb=>hk b (LOwn.e hb)),h.te,fun x hx=>?_,fun x hx=>?_,h.nd,h.ef,h.wf,h.cnt⟩
 ·exact ⟨(h.ent x hx).1.keep (fun b cs hb _=>hk b (LOwn.en hx hb)),(h.ent x hx).2.1,fun b hb=>Nat.lt_of_lt_of_le ((h.ent x hx).2.2 b hb) hs⟩
 ·exact ⟨row_keep (h.wl x hx).1 (fun b hb=>hk b (LOwn.x1 hx hb)),row_keep (h.wl x hx).2.1 (fun b hb=>hk b (LOwn.x2 hx hb)),(h.wl x hx).2.2⟩
end
theorem HInv.keep {W W':World} {D wb n:Nat} {gsv:Value × Value} {rsv iv wv ev:Value} {es:List Ent} {ws:List Wait} (h:HInv W D wb gsv rsv n iv wv ev es ws)
  (hk:∀ (b:Nat) (cs:Array Value) (t:TypeId),W.heap[b]?=some (.cells cs t (0,0))→(t=55∨t=172∨t=25∨t=3)→W'.heap[b]?=W.heap[b]?) (hs:W.heap.size≤W'.heap.size):HInv W' D wb gsv rsv n iv wv ev es ws:=by
 have hr:∀ {e size n:Nat} {v:Value} {xs:List Value},W.ownsRow D e size v n xs→(e=55∨e=172∨e=25∨e=3)→W'.ownsRow D e size v n xs:=fun h he=>row_keep h (fun b hb=>by
  obtain ⟨cs,hcs⟩:=row_block h hb
  exact hk b cs _ hcs he)
 refine ⟨?_,h.hD,hr h.i (by simp),hr h.t (by simp),hr h.e (by simp),h.te,?_,?_,h.nd,h.ef,h.wf,h.cnt⟩
 ·rw [hk wb _ _ h.w (by simp)];exact h.w
 ·intro x hx
  exact ⟨(h.ent x hx).1.keep (fun b cs _ hcs=>hk b cs 3 hcs (by simp)),(h.ent x hx).2.1,fun b hb=>Nat.lt_of_lt_of_le ((h.ent x hx).2.2 b hb) hs⟩
 ·intro x hx
  exact ⟨hr (h.wl x hx).1 (by simp),hr (h.wl x hx).2.1 (by simp),(h.wl x hx).2.2⟩
theorem row_step {W w1 w3:World} {D wb e size k g c f:Nat} {cs:Array Value} {rv:Value} {xs es:List Value}
  (hW:W.heap[wb]?=some (.cells cs 55 (0,0))) (hI:W.ownsRow D e size rv k xs) (he:55≠e) (hb1:Below W.heap.size W w1)
  (hown:w3.ownsRow D e size (.slice (some ⟨g,0,none⟩) (k+1) c) (k+1) (xs++es)) (hgrow:w1.grownBy w3 rv.ownBlock) (hat:rv.ownBlock=some g∨g=w1.heap.size) :
  (w3.setCell ⟨wb,f,none⟩ (.slice (some ⟨g,0,none⟩) (k+1) c)).heap[wb]?=some (.cells (cs.setIfInBounds f (.slice (some ⟨g,0,none⟩) (k+1) c)) 55 (0,0)) ∧
  (w3.setCell ⟨wb,f,none⟩ (.slice (some ⟨g,0,none⟩) (k+1) c)).ownsRow D e size (.slice (some ⟨g,0,none⟩) (k+1) c) (k+1) (xs++es) ∧
  Kept W (w3.setCell ⟨wb,f,none⟩ (.slice (some ⟨g,0,none⟩) (k+1) c)) (fun b=>b≠wb∧rv.ownBlock≠some b)∧(rv.ownBlock=some g∨W.heap.size≤g)∧w3.heap[wb]?=some (.cells cs 55 (0,0)):=by
 have hlt:=lt_of_block hW
 have hne:=row_ne hI hW he
 have hw3:w3.heap[wb]?=some (.cells cs 55 (0,0)):=by
  rw [hgrow.block wb (Nat.lt_of_lt_of_le hlt hb1.size) (fun e=>hne e.symm),hb1.block wb hlt];exact hW
 have hgb:g≠wb:=by
  rintro rfl
  exact row_ne hown hw3 he rfl
 refine ⟨?_,?_,?_,?_,hw3⟩
 ·exact heap_setCell_same w3 wb f _ 55 _ hw3
 ·exact ownsRow_setCell_other hown (by simp [Value.ownBlock];exact hgb) _
 ·refine ((Kept.of_below hb1 _).trans (Kept.of_grown hgrow (fun x _ hx e=>hx.2 e.symm))).trans ?_
  exact Kept.setCell _ _ (fun h=>h.1 rfl)
 ·rcases hat with h | h
  ·exact .inl h
  ·exact .inr (by rw [h];exact hb1.size)
theorem rows_apart {W:World} {D e size n e' size' n':Nat} {v v':Value} {xs xs':List Value} (h:W.ownsRow D e size v n xs) (h':W.ownsRow D e' size' v' n' xs') (hne:e≠e') {b:Nat} (hb:v.ownBlock=some b):v'.ownBlock≠some b:=by
 obtain ⟨cs,hcs⟩:=row_block h hb
 exact row_ne h' hcs hne
theorem map_snoc {α β:Type} (f:α→β) (l:List α) (x:α):(l++[x]).map f=l.map f++[f x]:=by simp
section
variable {W W1 W2 W4:World} {D wb n:Nat} {gsv:Value × Value} {rsv iv wv ev:Value} {es:List Ent} {ws:List Wait} {v uv:Value} {l:List Nat}
theorem mem_snoc {α:Type} {x y:α} {l:List α} (h:x∈l++[y]):x∈l∨x=y:=by
 rcases List.mem_append.1 h with h | h
 ·exact .inl h
 ·exact .inr (by simpa using h)
theorem ints_end {g5 c5 g6 c6:Nat} (h:HInv W D wb gsv rsv n iv wv ev es ws) (hv:W.ownsRow D 3 1 v l.length (ints l)) (hl:l.length≤300)
  (hf:∀ b,v.ownBlock=some b→(∀ x,x∈es→x.1.ownBlock≠some b)∧∀ x,x∈ws→x.1.ownBlock≠some b∧x.2.1.ownBlock≠some b)
  (hB1:Below W.heap.size W W1) (hu:W1.ownsRow W.heap.size 3 1 uv l.length (ints l))
  (w2:W2.heap[wb]?=some (.cells (lawCells gsv rsv n iv (.slice (some ⟨g5,0,none⟩) (ws.length+1) c5) ev) 55 (0,0))) (t2:W2.ownsRow D 25 1 (.slice (some ⟨g5,0,none⟩) (ws.length+1) c5) (ws.length+1) (ws.map (·.1)++[v]))
  (k2:Kept W1 W2 (fun b=>b≠wb∧wv.ownBlock≠some b)) (a2:wv.ownBlock=some g5∨W1.heap.size≤g5)
  (w4:W4.heap[wb]?=some (.cells (lawCells gsv rsv n iv (.slice (some ⟨g5,0,none⟩) (ws.length+1) c5) (.slice (some ⟨g6,0,none⟩) (ws.length+1) c6)) 55 (0,0))) (t4:W4.ownsRow D 25 1 (.slice (some ⟨g6,0,none⟩) (ws.length+1) c6) (ws.length+1) (ws.map (·.2.1)++[uv]))
  (k4:Kept W2 W4 (fun b=>b≠wb∧ev.ownBlock≠some b)) (a4:ev.ownBlock=some g6∨W2.heap.size≤g6) :
  HInv W4 D wb gsv rsv n iv (.slice (some ⟨g5,0,none⟩) (ws.length+1) c5) (.slice (some ⟨g6,0,none⟩) (ws.length+1) c6) es (ws++[(v,uv,l)])∧Fr (LW wb iv wv ev ws) W W4∧∀ b,LOwn wb iv (.slice (some ⟨g5,0,none⟩) (ws.length+1) c5) (.slice (some ⟨g6,0,none⟩) (ws.length+1) c6) es (ws++[(v,uv,l)]) b→LOwn wb iv wv ev es ws b∨v.ownBlock=some b∨W.heap.size≤b:=by
 have hDW:D≤W.heap.size:=by have:=h.hD;have:=lt_of_block h.w;omega
 have far:∀ (b:Nat) (cs:Array Value) (t:TypeId),W.heap[b]?=some (.cells cs t (0,0))→t≠55→t≠25→W4.heap[b]?=W.heap[b]?:=by
  intro b cs t hb ht1 ht2
  have hlt:=lt_of_block hb
  have e1:W1.heap[b]?=W.heap[b]?:=hB1.block b hlt
  have hwb:b≠wb:=by rintro rfl;rw [h.w] at hb;simp at hb;exact ht1 hb.2.symm
  have e2:W2.heap[b]?=W1.heap[b]?:=k2.block b (Nat.lt_of_lt_of_le hlt hB1.size) ⟨hwb,row_ne h.t hb ht2⟩
  have e4:W4.heap[b]?=W2.heap[b]?:=k4.block b (Nat.lt_of_lt_of_le hlt (Nat.le_trans hB1.size k2.size)) ⟨hwb,row_ne h.e hb ht2⟩
  rw [e4,e2,e1]
 have hsz:W.heap.size≤W4.heap.size:=Nat.le_trans hB1.size (Nat.le_trans k2.size k4.size)
 have hr:∀ {e size n:Nat} {v:Value} {xs:List Value},W.ownsRow D e size v n xs→e≠55→e≠25→W4.ownsRow D e size v n xs:=fun h h1 h2=>row_keep h (fun b hb=>by
  obtain ⟨cs,hcs⟩:=row_block h hb
  exact far b cs _ hcs h1 h2)
 have hu4:W4.ownsRow D 3 1 uv l.length (ints l):=by
  refine row_base (row_keep hu (fun b hb=>?_)) hDW
  obtain ⟨cs,hcs⟩:=row_block hu hb
  have hlt:=lt_of_block hcs
  have hge:=(hu.lt b hb).1
  have hwb:b≠wb:=by have:=lt_of_block h.w;omega
  have n1:wv.ownBlock≠some b:=fun e=>by have:=(h.t.lt b e).2;omega
  have n2:ev.ownBlock≠some b:=fun e=>by have:=(h.e.lt b e).2;omega
  rw [k4.block b (Nat.lt_of_lt_of_le hlt k2.size) ⟨hwb,n2⟩,k2.block b hlt ⟨hwb,n1⟩]
 have g5e:ev.ownBlock≠some g5:=by
  intro e
  rcases a2 with h' | h'
  ·exact h.te g5 h' e
  ·have:=(h.e.lt g5 e).2;have:=hB1.size;omega
 have hwb5:g5≠wb:=fun e=>row_ne t2 w2 (by decide) (by rw [← e];rfl)
 have lt5:g5<W2.heap.size:=(t2.lt g5 rfl).2
 have ufresh:∀ b,uv.ownBlock=some b→W.heap.size≤b:=fun b hb=>(hu.lt b hb).1
 refine ⟨⟨w4,h.hD,hr h.i (by decide) (by decide),?_,?_,?_,?_,?_,?_,?_,?_,h.cnt⟩,⟨k4.os.trans (k2.os.trans hB1.os),k4.tape.trans (k2.tape.trans hB1.tape),k4.output.trans (k2.output.trans hB1.output),hsz,fun b hb hn=>?_⟩,fun b hb=>?_⟩
 ·rw [List.length_append,map_snoc]
  refine row_keep t2 (fun b hb=>?_)
  simp only [Value.ownBlock,Option.some.injEq] at hb
  subst hb
  exact k4.block g5 lt5 ⟨hwb5,g5e⟩
 ·rw [List.length_append,map_snoc];exact t4
 ·intro b hb
  simp only [Value.ownBlock,Option.some.injEq] at hb
  subst hb
  intro e
  simp only [Value.ownBlock,Option.some.injEq] at e
  subst e
  rcases a4 with h' | h'
  ·exact g5e h'
  ·omega
 ·intro x hx
  have hx':=h.ent x hx
  exact ⟨hx'.1.keep (fun b cs _ hcs=>far b cs 3 hcs (by decide) (by decide)),hx'.2.1,fun b hb=>Nat.lt_of_lt_of_le (hx'.2.2 b hb) hsz⟩
 ·intro x hx
  rcases mem_snoc hx with hx | rfl
  ·exact ⟨hr (h.wl x hx).1 (by decide) (by decide),hr (h.wl x hx).2.1 (by decide) (by decide),(h.wl x hx).2.2⟩
  ·exact ⟨hr hv (by decide) (by decide),hu4,hl⟩
 ·intro i j x y hij hx hy b hb
  have hjl:j<ws.length+1:=by have:=(List.getElem?_eq_some_iff.1 hy).1;simpa using this
  have hil:i<ws.length:=by omega
  rw [List.getElem?_append_left hil] at hx
  by_cases hj:j<ws.length
  ·rw [List.getElem?_append_left hj] at hy
   exact h.nd i j x y hij hx hy b hb
  ·obtain rfl:j=ws.length:=by omega
   rw [List.getElem?_append_right (Nat.le_refl _)] at hy
   simp at hy
   subst hy
   intro e
   exact ((hf b e).2 x (List.mem_of_getElem? hx)).1 hb
 ·intro x hx b hb y hy
  rcases mem_snoc hy with hy | rfl
  ·exact h.ef x hx b hb y hy
  ·intro e
   exact (hf b e).1 x hx hb
 ·intro x hx b hb y hy
  rcases mem_snoc hx with hx | rfl
  ·rcases mem_snoc hy with hy | rfl
   ·exact h.wf x hx b hb y hy
   ·intro e
    exact ((hf b e).2 x hx).2 hb
  ·have hge:=ufresh b hb
   rcases mem_snoc hy with hy | rfl
   ·intro e
    have:=((h.wl y hy).1.lt b e).2
    omega
   ·intro e
    have:=(hv.lt b e).2
    omega
 ·have n1:b≠wb:=fun e=>hn (.inl e)
  have n2:wv.ownBlock≠some b:=fun e=>hn (.inr (.inr (.inl e)))
  have n3:ev.ownBlock≠some b:=fun e=>hn (.inr (.inr (.inr (.inl e))))
  rw [k4.block b (Nat.lt_of_lt_of_le hb (Nat.le_trans hB1.size k2.size)) ⟨n1,n3⟩,k2.block b (Nat.lt_of_lt_of_le hb hB1.size) ⟨n1,n2⟩,hB1.block b hb]
 ·rcases hb with (rfl | hb | hb | hb | ⟨x,hx,hb⟩) | ⟨x,hx,hb⟩ | ⟨x,hx,hb⟩
  ·exact .inl LOwn.self
  ·exact .inl (LOwn.i hb)
  ·simp only [Value.ownBlock,Option.some.injEq] at hb
   subst hb
   rcases a2 with h' | h'
   ·exact .inl (LOwn.t h')
   ·exact .inr (.inr (Nat.le_trans hB1.size h'))
  ·simp only [Value.ownBlock,Option.some.injEq] at hb
   subst hb
   rcases a4 with h' | h'
   ·exact .inl (LOwn.e h')
   ·exact .inr (.inr (Nat.le_trans hB1.size (Nat.le_trans k2.size h')))
  ·rcases mem_snoc hx with hx | rfl
   ·exact .inl (LOwn.x1 hx hb)
   ·exact .inr (.inl hb)
  ·exact .inl (LOwn.en hx hb)
  ·rcases mem_snoc hx with hx | rfl
   ·exact .inl (LOwn.x2 hx hb)
   ·exact .inr (.inr (ufresh b hb))
theorem nums_one (l:List Nat):∀ u∈ints l,u.oneCell'=true:=by
 intro u hu
 simp only [ints,List.mem_map] at hu
 obtain ⟨k,_,rfl⟩:=hu
 rfl
theorem slice_one (ao:Option Addr) (n c:Nat):∀ u∈[Value.slice ao n c],u.oneCell'=true:=by
 intro u hu
 simp only [List.mem_cons,List.not_mem_nil,or_false] at hu
 subst hu;rfl
theorem intsL (h:HInv W D wb gsv rsv n iv wv ev es ws) (hv:W.ownsRow D 3 1 v l.length (ints l)) (hl:l.length≤300)
  (hf:∀ b,v.ownBlock=some b→(∀ x,x∈es→x.1.ownBlock≠some b)∧∀ x,x∈ws→x.1.ownBlock≠some b∧x.2.1.ownBlock≠some b) (hws:ws.length≤1000000000000) :
  Calls Tryz.prog 95 #[.pointer (some ⟨wb,2,none⟩),v] W fun e W'=>e=.returned (.tuple #[])∧∃ wv' ev' uv,HInv W' D wb gsv rsv n iv wv' ev' es (ws++[(v,uv,l)])∧Fr (LW wb iv wv ev ws) W W'∧∀ b,LOwn wb iv wv' ev' es (ws++[(v,uv,l)]) b→LOwn wb iv wv ev es ws b∨v.ownBlock=some b∨W.heap.size≤b:=by
 have HH:Hid (HInv W D wb gsv rsv n iv wv ev es ws):=h
 have HV:Hid (W.ownsRow D 3 1 v l.length (ints l)):=hv
 have HF:Hid (∀ b,v.ownBlock=some b→(∀ x,x∈es→x.1.ownBlock≠some b)∧∀ x,x∈ws→x.1.ownBlock≠some b∧x.2.1.ownBlock≠some b):=hf
 have hwb:=lt_of_block h.w
 have hDb:=h.hD
 obtain ⟨i0,hi,hz0,hz1,hz2⟩:=info_parts Tryz.infoI
 obtain ⟨j0,gi,gz0,gz1,gz2⟩:=info_parts Tryz.infoS
 clear h hf
 have STEP1:∃ ao cap,v=.slice ao l.length cap∧(ao=none→v=.slice none 0 0):=by
  rcases hv.2 with ⟨h1,h2⟩ | ⟨g,cap,cur,h1,_⟩
  ·exact ⟨none,0,by rw [h1,h2],fun _=>h1⟩
  ·exact ⟨_,cap,h1,fun h=>by cases h⟩
 obtain ⟨ao,cap,hv1,hv2⟩:=STEP1
 subst hv1
 clear hv
 cases ao with
 | none =>
  have e0:=hv2 rfl
  simp only [Value.slice.injEq,true_and] at e0
  have el:l=[]:=List.eq_nil_of_length_eq_zero e0.1
  obtain ⟨_,rfl⟩:=e0
  subst el
  clear hv2
  have HB1:Hid (Below W.heap.size W W):=Below.refl _ _
  have HU:Hid (W.ownsRow W.heap.size 3 1 (.slice none 0 0) ([]:List Nat).length (ints [])):=World.ownsRow_nil _ _ _ _
  go_enter Tryz.func95, Tryz.ntmps95
  have hs1:=HB1.out.size
  have hw1:W.heap[wb]?=some (.cells (lawCells gsv rsv n iv wv ev) 55 (0,0)):=(HB1.out.block wb hwb).trans HH.out.w
  have T1:Hid (W.ownsRow D 25 1 wv ws.length (ws.map (·.1))):=row_keep HH.out.t (fun b hb=>HB1.out.block b (HH.out.t.lt b hb).2)
  have E1:Hid (W.ownsRow D 25 1 ev ws.length (ws.map (·.2.1))):=row_keep HH.out.e (fun b hb=>HB1.out.block b (HH.out.e.lt b hb).2)
  have c5:W.cell? ⟨wb,5,none⟩=some wv:=law_cell hw1 5
  have W1':Hid (W.heap[wb]?=some (.cells (lawCells gsv rsv n iv wv ev) 55 (0,0))):=hw1
  clear hw1
  have T1a:Hid _:=T1.out.alloc (.cells #[.slice none 0 0] 25)
  go_wp2_with (at_builtin;refine wpList_append_lies _ rfl _ _ 51 rfl D 25 j0 (.slice none 0 0) 1 24 Tryz.underlying51 gi gz0 gz1 gz2 rfl (by decide) _ _ _ rfl T1a.out ⟨W.heap.size,0,none⟩ 1 1 [.slice none 0 0] rfl ?c0 ?c1 ?c2 ?cm ?c3 ?c4 ?c5 _ rfl ?_)
  case c0=>rfl
  case c1=>exact one_cell _ _ _
  case c2=>exact slice_one _ _ _
  case cm=>omega
  case c3=>unfold maxLen;omega
  case c4=>omega
  case c5=>simp;omega
  intro g5 cp5 w3 hown3 hgrow3 hat3 hlt3
  have R:=row_step (f:=5) W1'.out T1.out (by decide) ((Below.refl _ _).alloc (Nat.le_refl _) (.cells #[.slice none 0 0] 25)) hown3 hgrow3 (hat3.imp id (fun e=>by rw [World.size_alloc];exact e))
  have f33:∀ i,w3.frozen? ⟨wb,i,none⟩=false:=law_free R.2.2.2.2
  have c35:w3.cell? ⟨wb,5,none⟩=some wv:=law_cell R.2.2.2.2 5
  have c36:w3.cell? ⟨wb,6,none⟩=some ev:=law_cell R.2.2.2.2 6
  have W2':Hid ((w3.setCell ⟨wb,5,none⟩ (.slice (some ⟨g5,0,none⟩) (ws.length+1) cp5)).heap[wb]?=some (.cells (lawCells gsv rsv n iv (.slice (some ⟨g5,0,none⟩) (ws.length+1) cp5) ev) 55 (0,0))):=R.1
  have T2:Hid ((w3.setCell ⟨wb,5,none⟩ (.slice (some ⟨g5,0,none⟩) (ws.length+1) cp5)).ownsRow D 25 1 (.slice (some ⟨g5,0,none⟩) (ws.length+1) cp5) (ws.length+1) (ws.map (·.1)++[.slice none 0 0])):=R.2.1
  have K2:Hid (Kept W (w3.setCell ⟨wb,5,none⟩ (.slice (some ⟨g5,0,none⟩) (ws.length+1) cp5)) (fun b=>b≠wb∧wv.ownBlock≠some b)):=R.2.2.1
  have A2:Hid (wv.ownBlock=some g5∨W.heap.size≤g5):=R.2.2.2.1
  have E2:Hid ((w3.setCell ⟨wb,5,none⟩ (.slice (some ⟨g5,0,none⟩) (ws.length+1) cp5)).ownsRow D 25 1 ev ws.length (ws.map (·.2.1))):=row_keep E1.out (fun b hb=>K2.out.block b (E1.out.lt b hb).2 ⟨fun e=>row_ne E1.out W1'.out (by decide) (e ▸ hb),fun e=>HH.out.te b e hb⟩)
  have hsz2:Hid ((w3.setCell ⟨wb,5,none⟩ (.slice (some ⟨g5,0,none⟩) (ws.length+1) cp5)).heap.size=w3.heap.size):=by show (w3.setCell ⟨wb,5,none⟩ (.slice (some ⟨g5,0,none⟩) (ws.length+1) cp5)).heap.size=_;simp [World.setCell]
  have hwb3:wb<w3.heap.size:=by have h1:=lt_of_block W2'.out;rw [hsz2.out] at h1;exact h1
  have E2a:Hid _:=E2.out.alloc (.cells #[.slice none 0 0] 25)
  have C6:Hid (∀ i u,[Value.slice none 0 0][i]?=some u→((w3.setCell ⟨wb,5,none⟩ (.slice (some ⟨g5,0,none⟩) (ws.length+1) cp5)).alloc (.cells #[.slice none 0 0] 25)).cell? ((⟨w3.heap.size,0,none⟩:Addr).add i)=some u):=by
   have h:=one_cell (w3.setCell ⟨wb,5,none⟩ (.slice (some ⟨g5,0,none⟩) (ws.length+1) cp5)) (.slice none 0 0) 25
   rw [hsz2.out] at h;exact h
  clear R hown3 hgrow3 hat3 hlt3 c5 T1a
  go_wp2_with (at_builtin;refine wpList_append_lies _ rfl _ _ 51 rfl D 25 j0 (.slice none 0 0) 1 24 Tryz.underlying51 gi gz0 gz1 gz2 rfl (by decide) _ _ _ rfl E2a.out ⟨w3.heap.size,0,none⟩ 1 1 [.slice none 0 0] rfl ?d0 C6.out ?d2 ?dm ?d3 ?d4 ?d5 _ rfl ?_)
  case d0=>rfl
  case d2=>exact slice_one _ _ _
  case dm=>omega
  case d3=>unfold maxLen;omega
  case d4=>omega
  case d5=>simp [World.setCell];omega
  intro g6 cp6 w5 hown5 hgrow5 hat5 hlt5
  have R:=row_step (f:=6) W2'.out E2.out (by decide) ((Below.refl _ _).alloc (Nat.le_refl _) (.cells #[.slice none 0 0] 25)) hown5 hgrow5 (hat5.imp id (fun e=>by rw [World.size_alloc,hsz2.out];exact e))
  have f55:∀ i,w5.frozen? ⟨wb,i,none⟩=false:=law_free R.2.2.2.2
  have c56:w5.cell? ⟨wb,6,none⟩=some ev:=law_cell R.2.2.2.2 6
  have END:Hid _:=ints_end HH.out HV.out hl HF.out HB1.out HU.out W2'.out T2.out K2.out A2.out R.1 R.2.1 R.2.2.1 R.2.2.2.1
  clear R hown5 hgrow5 hat5 hlt5 E2a C6 W2' T2 K2 A2 E2 E1 T1 W1'
  go_wp2_with fail
  go_end0
  exact ⟨rfl,_,_,_,END.out⟩
 | some ad =>
  clear hv2
  have hc:∀ j u,(ints l)[j]?=some u→W.cell? (ad.add j)=some u:=row_at HV.out ad rfl
  have HC:Hid _:=hc
  clear hc
  go_enter Tryz.func95, Tryz.ntmps95
  go_wp2_with (at_builtin;refine wpList_append_own _ rfl _ _ 25 rfl W.heap.size 3 i0 (.int .i64 0) 1 8 Tryz.underlying25 hi hz0 hz1 hz2 rfl (by decide) (.slice none 0 0) 0 [] rfl (World.ownsRow_nil _ _ _ _) ad l.length cap (ints l) rfl ?a0 HC.out ?a2 ?a3 ?a4 (Nat.le_refl _) ?_)
  case a0=>simp [ints]
  case a2=>exact nums_one l
  case a3=>unfold maxLen;omega
  case a4=>omega
  intro uv W1 hu hgrow1 _
  have HB1:Hid (Below W.heap.size W W1):=⟨hgrow1.os,hgrow1.tape,hgrow1.output,hgrow1.size,fun k hk=>hgrow1.block k hk (by simp [Value.ownBlock])⟩
  obtain ⟨uao,ucap,huv,_,_⟩:=rowForm hu
  subst huv
  have HU:Hid (W1.ownsRow W.heap.size 3 1 (.slice uao l.length ucap) l.length (ints l)):=hu
  clear hu hgrow1
  have hs1:=HB1.out.size
  have hw1:W1.heap[wb]?=some (.cells (lawCells gsv rsv n iv wv ev) 55 (0,0)):=(HB1.out.block wb hwb).trans HH.out.w
  have T1:Hid (W1.ownsRow D 25 1 wv ws.length (ws.map (·.1))):=row_keep HH.out.t (fun b hb=>HB1.out.block b (HH.out.t.lt b hb).2)
  have E1:Hid (W1.ownsRow D 25 1 ev ws.length (ws.map (·.2.1))):=row_keep HH.out.e (fun b hb=>HB1.out.block b (HH.out.e.lt b hb).2)
  have c5:W1.cell? ⟨wb,5,none⟩=some wv:=law_cell hw1 5
  have W1':Hid (W1.heap[wb]?=some (.cells (lawCells gsv rsv n iv wv ev) 55 (0,0))):=hw1
  clear hw1
  have T1a:Hid _:=T1.out.alloc (.cells #[.slice (some ad) l.length cap] 25)
  go_wp2_with (at_builtin;refine wpList_append_lies _ rfl _ _ 51 rfl D 25 j0 (.slice none 0 0) 1 24 Tryz.underlying51 gi gz0 gz1 gz2 rfl (by decide) _ _ _ rfl T1a.out ⟨W1.heap.size,0,none⟩ 1 1 [.slice (some ad) l.length cap] rfl ?c0 ?c1 ?c2 ?cm ?c3 ?c4 ?c5 _ rfl ?_)
  case c0=>rfl
  case c1=>exact one_cell _ _ _
  case c2=>exact slice_one _ _ _
  case cm=>omega
  case c3=>unfold maxLen;omega
  case c4=>omega
  case c5=>simp;omega
  intro g5 cp5 w3 hown3 hgrow3 hat3 hlt3
  have R:=row_step (f:=5) W1'.out T1.out (by decide) ((Below.refl _ _).alloc (Nat.le_refl _) (.cells #[.slice (some ad) l.length cap] 25)) hown3 hgrow3 (hat3.imp id (fun e=>by rw [World.size_alloc];exact e))
  have f33:∀ i,w3.frozen? ⟨wb,i,none⟩=false:=law_free R.2.2.2.2
  have c35:w3.cell? ⟨wb,5,none⟩=some wv:=law_cell R.2.2.2.2 5
  have c36:w3.cell? ⟨wb,6,none⟩=some ev:=law_cell R.2.2.2.2 6
  have W2':Hid ((w3.setCell ⟨wb,5,none⟩ (.slice (some ⟨g5,0,none⟩) (ws.length+1) cp5)).heap[wb]?=some (.cells (lawCells gsv rsv n iv (.slice (some ⟨g5,0,none⟩) (ws.length+1) cp5) ev) 55 (0,0))):=R.1
  have T2:Hid ((w3.setCell ⟨wb,5,none⟩ (.slice (some ⟨g5,0,none⟩) (ws.length+1) cp5)).ownsRow D 25 1 (.slice (some ⟨g5,0,none⟩) (ws.length+1) cp5) (ws.length+1) (ws.map (·.1)++[.slice (some ad) l.length cap])):=R.2.1
  have K2:Hid (Kept W1 (w3.setCell ⟨wb,5,none⟩ (.slice (some ⟨g5,0,none⟩) (ws.length+1) cp5)) (fun b=>b≠wb∧wv.ownBlock≠some b)):=R.2.2.1
  have A2:Hid (wv.ownBlock=some g5∨W1.heap.size≤g5):=R.2.2.2.1
  have E2:Hid ((w3.setCell ⟨wb,5,none⟩ (.slice (some ⟨g5,0,none⟩) (ws.length+1) cp5)).ownsRow D 25 1 ev ws.length (ws.map (·.2.1))):=row_keep E1.out (fun b hb=>K2.out.block b (E1.out.lt b hb).2 ⟨fun e=>row_ne E1.out W1'.out (by decide) (e ▸ hb),fun e=>HH.out.te b e hb⟩)
  have hsz2:Hid ((w3.setCell ⟨wb,5,none⟩ (.slice (some ⟨g5,0,none⟩) (ws.length+1) cp5)).heap.size=w3.heap.size):=by show (w3.setCell ⟨wb,5,none⟩ (.slice (some ⟨g5,0,none⟩) (ws.length+1) cp5)).heap.size=_;simp [World.setCell]
  have hwb3:wb<w3.heap.size:=by have h1:=lt_of_block W2'.out;rw [hsz2.out] at h1;exact h1
  have E2a:Hid _:=E2.out.alloc (.cells #[.slice uao l.length ucap] 25)
  have C6:Hid (∀ i u,[Value.slice uao l.length ucap][i]?=some u→((w3.setCell ⟨wb,5,none⟩ (.slice (some ⟨g5,0,none⟩) (ws.length+1) cp5)).alloc (.cells #[.slice uao l.length ucap] 25)).cell? ((⟨w3.heap.size,0,none⟩:Addr).add i)=some u):=by
   have h:=one_cell (w3.setCell ⟨wb,5,none⟩ (.slice (some ⟨g5,0,none⟩) (ws.length+1) cp5)) (.slice uao l.length ucap) 25
   rw [hsz2.out] at h;exact h
  clear R hown3 hgrow3 hat3 hlt3 c5 T1a
  go_wp2_with (at_builtin;refine wpList_append_lies _ rfl _ _ 51 rfl D 25 j0 (.slice none 0 0) 1 24 Tryz.underlying51 gi gz0 gz1 gz2 rfl (by decide) _ _ _ rfl E2a.out ⟨w3.heap.size,0,none⟩ 1 1 [.slice uao l.length ucap] rfl ?d0 C6.out ?d2 ?dm ?d3 ?d4 ?d5 _ rfl ?_)
  case d0=>rfl
  case d2=>exact slice_one _ _ _
  case dm=>omega
  case d3=>unfold maxLen;omega
  case d4=>omega
  case d5=>simp [World.setCell];omega
  intro g6 cp6 w5 hown5 hgrow5 hat5 hlt5
  have R:=row_step (f:=6) W2'.out E2.out (by decide) ((Below.refl _ _).alloc (Nat.le_refl _) (.cells #[.slice uao l.length ucap] 25)) hown5 hgrow5 (hat5.imp id (fun e=>by rw [World.size_alloc,hsz2.out];exact e))
  have f55:∀ i,w5.frozen? ⟨wb,i,none⟩=false:=law_free R.2.2.2.2
  have c56:w5.cell? ⟨wb,6,none⟩=some ev:=law_cell R.2.2.2.2 6
  have END:Hid _:=ints_end HH.out HV.out hl HF.out HB1.out HU.out W2'.out T2.out K2.out A2.out R.1 R.2.1 R.2.2.1 R.2.2.2.1
  clear R hown5 hgrow5 hat5 hlt5 E2a C6 W2' T2 K2 A2 E2 E1 T1 W1'
  go_wp2_with fail
  go_end0
  exact ⟨rfl,_,_,_,END.out⟩
end
open Go.RowKit Gv
structure SInv (W0 W:World) (D wb:Nat) (gsv:Value × Value) (rsv:Value) (n:Nat) (iv wv ev:Value) (es:List Ent) (ws:List Wait) (i:Nat) (O O2:Nat→Prop):Prop where
 w:W.heap[wb]?=some (.cells (lawCells gsv rsv n iv wv ev) 55 (0,0))
 hD:D≤wb
 r:W.ownsRow D 172 2 iv es.length (entsCells es)
 t:W.ownsRow D 25 1 wv ws.length (ws.map (·.1))
 ent:∀ x,x∈es→Marked W x.1 x.2.1 x.2.2∧x.2.1≤100000∧∀ b,x.1.ownBlock=some b→b<W.heap.size
 wl:∀ (j:Nat) (x:Wait),i≤j→ws[j]?=some x→W.ownsRow D 3 1 x.1 x.2.2.length (ints x.2.2)∧x.2.2.length≤300
 ef:∀ x,x∈es→∀ b,x.1.ownBlock=some b→∀ (j:Nat) (y:Wait),i≤j→ws[j]?=some y→y.1.ownBlock≠some b
 nd:∀ (i j:Nat) (x y:Wait),i<j→ws[i]?=some x→ws[j]?=some y→∀ b,x.1.ownBlock=some b→y.1.ownBlock≠some b
 cnt:es.length≤4*n
 ib:∀ b,iv.ownBlock=some b→O b∨W0.heap.size≤b
 oW:O wb
 oS:∀ x,x∈ws→∀ b,x.1.ownBlock=some b→O b
 o2:∀ b,O b→O2 b
 eb:∀ x,x∈es→∀ b,x.1.ownBlock=some b→O2 b∨W0.heap.size≤b
 kept:Fr O W0 W
theorem ents_append (es:List Ent) (a b c d:Ent):entsCells (es++[a,b,c,d])=entsCells es++[a.1,.int .i64 a.2.2]++[b.1,.int .i64 b.2.2]++[c.1,.int .i64 c.2.2]++[d.1,.int .i64 d.2.2]:=by simp [entsCells]
section
variable {W0 W W':World} {D wb n:Nat} {gsv:Value × Value} {rsv iv wv ev:Value} {es:List Ent} {ws:List Wait} {O O2:Nat→Prop}
theorem SInv.step {i:Nat} {x:Wait} (h:SInv W0 W D wb gsv rsv n iv wv ev es ws i O O2) (hx:ws[i]?=some x) (hp:MarkPost W W' D wb es.length n gsv rsv iv wv ev x.1 x.2.2.length (entsCells es)) :
  ∃ iv' es',SInv W0 W' D wb gsv rsv (n+1) iv' wv ev es' ws (i+1) O O2:=by
 obtain ⟨⟨iv',v0,v1,v2,v3,hw,hr,m0,m1,m2,m3,hb,hib⟩,hk⟩:=hp
 have hxl:=h.wl i x (Nat.le_refl _) hx
 have hsz:=hk.size
 -- what is neither the law's block, nor its row, nor the list in hand
 have far:∀ (b:Nat) (cs:Array Value) (t:TypeId),W.heap[b]?=some (.cells cs t (0,0))→t≠55→t≠172→x.1.ownBlock≠some b→W'.heap[b]?=W.heap[b]?:=by
  intro b cs t hb h1 h2 h3
  refine hk.block b (lt_of_block hb) ⟨?_,row_ne h.r hb h2,h3⟩
  rintro rfl;rw [h.w] at hb;simp at hb;exact h1 hb.2.symm
 have hxb:∀ b,x.1.ownBlock=some b→b<W.heap.size:=fun b hb=>(hxl.1.lt b hb).2
 refine ⟨iv',es++[(v0,x.2.2.length,markOfN n),(v1,x.2.2.length+1,markOfN n),(v2,x.2.2.length+2,markOfN n),(v3,x.2.2.length+3,markOfN n)],⟨hw,h.hD,?_,?_,?_,?_,?_,h.nd,?_,?_,h.oW,h.oS,h.o2,?_,?_⟩⟩
 ·rw [ents_append,List.length_append];exact hr
 ·refine row_keep h.t (fun b hb=>?_)
  obtain ⟨cs,hcs⟩:=row_block h.t hb
  exact far b cs _ hcs (by decide) (by decide) (row_ne hxl.1 hcs (by decide))
 ·intro y hy
  rcases List.mem_append.1 hy with hy | hy
  ·have hy':=h.ent y hy
   refine ⟨hy'.1.keep (fun b cs hb hcs=>far b cs 3 hcs (by decide) (by decide) (h.ef y hy b hb i x (Nat.le_refl _) hx)),hy'.2.1,fun b hb=>Nat.lt_of_lt_of_le (hy'.2.2 b hb) hsz⟩
  ·have key:∀ (v:Value) (k:Nat),Marked W' v k (markOfN n)→(v=v0∨v=v1∨v=v2∨v=v3)→k≤100000→Marked W' v k (markOfN n)∧k≤100000∧∀ b,v.ownBlock=some b→b<W'.heap.size:=fun v k hm hv hk0=>⟨hm,hk0,fun b hbb=>(hb v hv b hbb).2⟩
   have hl3:=hxl.2
   simp only [List.mem_cons,List.not_mem_nil,or_false] at hy
   rcases hy with rfl | rfl | rfl | rfl
   ·exact key v0 (x.2.2.length) m0 (by simp) (by omega)
   ·exact key v1 (x.2.2.length+1) m1 (by simp) (by omega)
   ·exact key v2 (x.2.2.length+2) m2 (by simp) (by omega)
   ·exact key v3 (x.2.2.length+3) m3 (by simp) (by omega)
 ·intro j y hj hy
  have hyl:=h.wl j y (by omega) hy
  refine ⟨row_keep hyl.1 (fun b hbb=>?_),hyl.2⟩
  obtain ⟨cs,hcs⟩:=row_block hyl.1 hbb
  exact far b cs _ hcs (by decide) (by decide) (fun e=>h.nd i j x y (by omega) hx hy b e hbb)
 ·intro y hy b hbb j z hj hz
  rcases List.mem_append.1 hy with hy | hy
  ·exact h.ef y hy b hbb j z (by omega) hz
  ·have hv:y.1=v0∨y.1=v1∨y.1=v2∨y.1=v3:=by
    simp only [List.mem_cons,List.not_mem_nil,or_false] at hy
    rcases hy with rfl | rfl | rfl | rfl <;> simp
   rcases (hb y.1 hv b hbb).1 with h' | h'
   ·exact h.nd i j x z (by omega) hx hz b h'
   ·intro e
    have:=((h.wl j z (by omega) hz).1.lt b e).2
    omega
 ·have:=h.cnt;rw [List.length_append];simp;omega
 ·intro b hbb
  rcases hib b hbb with h' | h'
  ·exact h.ib b h'
  ·exact .inr (Nat.le_trans h.kept.size h')
 ·intro y hy b hbb
  rcases List.mem_append.1 hy with hy | hy
  ·exact h.eb y hy b hbb
  ·have hv:y.1=v0∨y.1=v1∨y.1=v2∨y.1=v3:=by
    simp only [List.mem_cons,List.not_mem_nil,or_false] at hy
    rcases hy with rfl | rfl | rfl | rfl <;> simp
   rcases (hb y.1 hv b hbb).1 with h' | h'
   ·exact .inl (h.o2 b (h.oS x (List.mem_of_getElem? hx) b h'))
   ·exact .inr (Nat.le_trans h.kept.size h')
 ·refine ⟨hk.os.trans h.kept.os,hk.tape.trans h.kept.tape,hk.output.trans h.kept.output,Nat.le_trans h.kept.size hk.size,fun b hb0 hn=>?_⟩
  rw [hk.block b (Nat.lt_of_lt_of_le hb0 h.kept.size) ⟨fun e=>hn (e ▸ h.oW),fun e=>?_,fun e=>hn (h.oS x (List.mem_of_getElem? hx) b e)⟩,h.kept.block b hb0 hn]
  rcases h.ib b e with h' | h'
  ·exact hn h'
  ·omega
theorem HInv.start {W1:World} (h:HInv W D wb gsv rsv n iv wv ev es ws) (hb:Below W.heap.size W W1):SInv W W1 D wb gsv rsv n iv wv ev es ws 0 (LW wb iv wv ev ws) (LOwn wb iv wv ev es ws):=by
 have hr:∀ {e size n:Nat} {v:Value} {xs:List Value},W.ownsRow D e size v n xs→W1.ownsRow D e size v n xs:=fun h=>row_keep h (fun b hbb=>hb.block b (h.lt b hbb).2)
 refine ⟨(hb.block wb (lt_of_block h.w)).trans h.w,h.hD,hr h.i,hr h.t,?_,?_,?_,h.nd,h.cnt,fun b hbb=>.inl (.inr (.inl hbb)),.inl rfl,fun x hx b hbb=>.inr (.inr (.inr (.inr ⟨x,hx,hbb⟩))),fun b hbb=>.inl hbb,fun x hx b hbb=>.inl (LOwn.en hx hbb),Fr.of_below hb⟩
 ·intro x hx
  have hx':=h.ent x hx
  exact ⟨hx'.1.keep (fun b cs _ hcs=>hb.block b (lt_of_block hcs)),hx'.2.1,fun b hbb=>Nat.lt_of_lt_of_le (hx'.2.2 b hbb) hb.size⟩
 ·intro j x _ hx
  have hx':=h.wl x (List.mem_of_getElem? hx)
  exact ⟨hr hx'.1,hx'.2.2⟩
 ·intro x hx b hbb j y _ hy
  exact h.ef x hx b hbb y (List.mem_of_getElem? hy)
theorem SInv.finish (h:SInv W0 W D wb gsv rsv n iv wv ev es ws ws.length O O2) :
  HInv ((W.setCell ⟨wb,5,none⟩ (.slice none 0 0)).setCell ⟨wb,6,none⟩ (.slice none 0 0)) D wb gsv rsv n iv (.slice none 0 0) (.slice none 0 0) es []∧Fr O W0 ((W.setCell ⟨wb,5,none⟩ (.slice none 0 0)).setCell ⟨wb,6,none⟩ (.slice none 0 0))∧∀ b,LOwn wb iv (.slice none 0 0) (.slice none 0 0) es [] b→O2 b∨W0.heap.size≤b:=by
 have h5:(W.setCell ⟨wb,5,none⟩ (.slice none 0 0)).heap[wb]?=some (.cells (lawCells gsv rsv n iv (.slice none 0 0) ev) 55 (0,0)):=heap_setCell_same W wb 5 _ 55 _ h.w
 have h6:((W.setCell ⟨wb,5,none⟩ (.slice none 0 0)).setCell ⟨wb,6,none⟩ (.slice none 0 0)).heap[wb]?=some (.cells (lawCells gsv rsv n iv (.slice none 0 0) (.slice none 0 0)) 55 (0,0)):=heap_setCell_same _ wb 6 _ 55 _ h5
 have ho:∀ b,b≠wb→((W.setCell ⟨wb,5,none⟩ (.slice none 0 0)).setCell ⟨wb,6,none⟩ (.slice none 0 0)).heap[b]?=W.heap[b]?:=fun b hb=>by
  rw [heap_setCell_other _ _ _ _ hb,heap_setCell_other _ _ _ _ hb]
 have hs:((W.setCell ⟨wb,5,none⟩ (.slice none 0 0)).setCell ⟨wb,6,none⟩ (.slice none 0 0)).heap.size=W.heap.size:=by simp [World.setCell]
 refine ⟨⟨h6,h.hD,row_keep h.r (fun b hb=>ho b (fun e=>row_ne h.r h.w (by decide) (e ▸ hb))),World.ownsRow_nil _ _ _ _,World.ownsRow_nil _ _ _ _,fun b hb=>by simp [Value.ownBlock] at hb,?_,?_,?_,?_,?_,h.cnt⟩,?_,?_⟩
 ·intro x hx
  have hx':=h.ent x hx
  refine ⟨hx'.1.keep (fun b cs _ hcs=>ho b ?_),hx'.2.1,fun b hb=>by rw [hs];exact hx'.2.2 b hb⟩
  rintro rfl;rw [h.w] at hcs;simp at hcs
 ·intro x hx;simp at hx
 ·intro i j x y _ hx;simp at hx
 ·intro x _ b _ y hy;simp at hy
 ·intro x hx;simp at hx
 ·exact (h.kept.setCell (p:=⟨wb,5,none⟩) h.oW _).setCell (p:=⟨wb,6,none⟩) h.oW _
 ·intro b hb
  rcases hb with (rfl | hb | hb | hb | ⟨x,hx,hb⟩) | ⟨x,hx,hb⟩ | ⟨x,hx,hb⟩
  ·exact .inl (h.o2 _ h.oW)
  ·exact (h.ib b hb).imp (h.o2 b) id
  ·simp [Value.ownBlock] at hb
  ·simp [Value.ownBlock] at hb
  ·simp at hx
  ·exact h.eb x hx b hb
  ·simp at hx
theorem QInv.apart {qs:List Ent} (hq:QInv W D gsv.2 qs) (h:HInv W D wb gsv rsv n iv wv ev es ws) (b:Nat) (hb:QOwn gsv.2 qs b):¬ LW wb iv wv ev ws b:=by
 obtain ⟨cs,t,hc,ht⟩:=hq.blk b hb
 rintro (rfl | e | e | e | ⟨x,hx,e⟩)
 ·rw [h.w] at hc
  simp only [Option.some.injEq,Obj.cells.injEq] at hc
  rcases ht with rfl | rfl <;> exact absurd hc.2.1 (by decide)
 ·exact row_ne h.i hc (by rcases ht with rfl | rfl <;> decide) e
 ·exact row_ne h.t hc (by rcases ht with rfl | rfl <;> decide) e
 ·exact row_ne h.e hc (by rcases ht with rfl | rfl <;> decide) e
 ·exact row_ne (h.wl x hx).1 hc (by rcases ht with rfl | rfl <;> decide) e
theorem settlesL {qs:List Ent} (hq:QInv W D gsv.2 qs) (h:HInv W D wb gsv rsv n iv wv ev es ws) (hws:n+ws.length≤100000000000) :
  Calls Tryz.prog 31 #[.pointer (some ⟨wb,2,none⟩)] W fun e W'=>e=.returned (.bool true)∧∃ iv' es',HInv W' D wb gsv rsv (n+ws.length) iv' (.slice none 0 0) (.slice none 0 0) es' []∧QInv W' D gsv.2 qs∧Fr (LW wb iv wv ev ws) W W'∧∀ b,LOwn wb iv' (.slice none 0 0) (.slice none 0 0) es' [] b→LOwn wb iv wv ev es ws b∨W.heap.size≤b:=by
 have HQ:Hid (QInv W D gsv.2 qs):=hq
 have HH:Hid (HInv W D wb gsv rsv n iv wv ev es ws):=h
 obtain ⟨tao,tcap,hwv,_,htc⟩:=rowForm h.t
 subst hwv
 have HTC:Hid _:=htc
 clear h htc hq
 go_enter Tryz.func31, Tryz.ntmps31
 go_wp2_with fail
 refine (waitsL HH.out.w HH.out.t HH.out.e (fun x hx=>⟨(HH.out.wl x hx).1,(HH.out.wl x hx).2.1,by have:=(HH.out.wl x hx).2.2;omega⟩) (by omega)).mono ?_
 rintro e W1 ⟨rfl,hb1⟩
 have ST:Hid (SInv W W1 D wb gsv rsv n iv (.slice tao ws.length tcap) ev es ws 0 (LW wb iv (.slice tao ws.length tcap) ev ws) (LOwn wb iv (.slice tao ws.length tcap) ev es ws)):=HH.out.start hb1
 clear hb1
 go_wp2_with fail
 go_loopw [4] (fun i wr=>∃ (k:Nat) (iv':Value) (es':List Ent),k≤ws.length∧i=.int .i64 k∧SInv W wr D wb gsv rsv (n+k) iv' (.slice tao ws.length tcap) ev es' ws k (LW wb iv (.slice tao ws.length tcap) ev ws) (LOwn wb iv (.slice tao ws.length tcap) ev es ws)) (fun i _=>ws.length-(intOf i).toNat)
 case atStart=>exact ⟨0,iv,es,Nat.zero_le _,rfl,ST.out⟩
 case round =>
  obtain ⟨k,iv',es',hk,rfl,hS⟩:=hrel
  clear ST
  obtain ⟨w2,rfl⟩:∃ w2:World,w2=wr:=⟨_,rfl⟩
  have c5:w2.cell? ⟨wb,5,none⟩=some (.slice tao ws.length tcap):=law_cell hS.w 5
  have c6:w2.cell? ⟨wb,6,none⟩=some ev:=law_cell hS.w 6
  have f5:∀ i,w2.frozen? ⟨wb,i,none⟩=false:=law_free hS.w
  have S:Hid (SInv W w2 D wb gsv rsv (n+k) iv' (.slice tao ws.length tcap) ev es' ws k (LW wb iv (.slice tao ws.length tcap) ev ws) (LOwn wb iv (.slice tao ws.length tcap) ev es ws)):=hS
  clear hS
  by_cases hkl:k<ws.length
  ·obtain ⟨x,hx⟩:∃ x,ws[k]?=some x:=⟨_,List.getElem?_eq_getElem hkl⟩
   have HX:Hid (ws[k]?=some x):=hx
   have hxl:=S.out.wl k x (Nat.le_refl _) hx
   obtain ⟨tao',tcap',htv,_,htc2⟩:=rowForm S.out.t
   simp only [Value.slice.injEq,true_and] at htv
   obtain ⟨rfl,rfl⟩:=htv
   rcases htc2 with h0 | ⟨tg,rfl,htgs,htc2⟩
   ·omega
   have ct:w2.cell? ⟨tg,k,none⟩=some x.1:=by rw [htc2 k (by omega),List.getElem?_map,hx];rfl
   obtain ⟨xao,xcap,hxv,_,_⟩:=rowForm hxl.1
   rw [hxv] at ct
   have HXL:Hid (w2.ownsRow D 3 1 (.slice xao x.2.2.length xcap) x.2.2.length (ints x.2.2)):=by rw [← hxv];exact hxl.1
   have HXV:Hid (x.1=.slice xao x.2.2.length xcap):=hxv
   have h300:=hxl.2
   have hcnt:=S.out.cnt
   have HCN:Hid (es'.length≤4*(n+k)):=hcnt
   clear hx hxl htc2 hxv hcnt
   have ib:(k:Int)<(ws.length:Int):=by omega
   go_wp2_with fail
   refine (markInts S.out.w S.out.r HXL.out S.out.hD (by have:=HCN.out;omega) (by omega) (by omega)).mono ?_
   rintro e w3 ⟨rfl,hp⟩
   rw [← HXV.out] at hp
   obtain ⟨iv3,es3,hS3⟩:=S.out.step HX.out hp
   have S3:Hid (SInv W w3 D wb gsv rsv (n+k+1) iv3 (.slice (some ⟨tg,0,none⟩) ws.length tcap) ev es3 ws (k+1) (LW wb iv (.slice (some ⟨tg,0,none⟩) ws.length tcap) ev ws) (LOwn wb iv (.slice (some ⟨tg,0,none⟩) ws.length tcap) ev es ws)):=hS3
   clear hp hS3
   go_wp2_with fail
   go_roundw
   case rel=>exact ⟨k+1,iv3,es3,hkl,by go_num,S3.out⟩
   case measure=>simp [intOf];omega
  ·have ek:ws.length=k:=by omega
   subst ek
   have FIN:=S.out.finish
   have hne:∀ x,x∈es'→x.2.1≤100000:=fun x hx=>(FIN.1.ent x hx).2.1
   have HF:Hid _:=FIN
   have HN:Hid (∀ x,x∈es'→x.2.1≤100000):=hne
   have HCN:Hid (es'.length≤4*(n+ws.length)):=S.out.cnt
   clear FIN hne
   go_wp2_with fail
   have HQ6:Hid (QInv _ D gsv.2 qs):=HQ.out.keep (fun b hb hl=>HF.out.2.1.block b hl (HQ.out.apart HH.out b hb)) HF.out.2.1.size
   refine (dry HQ6.out HF.out.1.w HF.out.1.i (fun x hx=>(HF.out.1.ent x hx).1) (by have:=HCN.out;omega) HN.out).mono ?_
   rintro e w4 ⟨rfl,hb4⟩
   have END:Hid (HInv w4 D wb gsv rsv (n+ws.length) iv' (.slice none 0 0) (.slice none 0 0) es' []∧QInv w4 D gsv.2 qs∧Fr (LW wb iv (.slice tao ws.length tcap) ev ws) W w4∧∀ b,LOwn wb iv' (.slice none 0 0) (.slice none 0 0) es' [] b→LOwn wb iv (.slice tao ws.length tcap) ev es ws b∨W.heap.size≤b):=⟨HF.out.1.keep (fun b cs t hb _=>hb4.block b (lt_of_block hb)) hb4.size,HQ6.out.keep (fun b _ hl=>hb4.block b hl) hb4.size,HF.out.2.1.trans (Fr.of_below hb4),HF.out.2.2⟩
   clear hb4
   go_wp2_with fail
   go_ret
   exact ⟨rfl,iv',es',END.out⟩
theorem looksL {qs:List Ent} (hq:QInv W D gsv.2 qs) (h:HInv W D wb gsv rsv n iv wv ev es ws) (hws:n+ws.length≤100000000000) :
  Calls Tryz.prog 29 #[.pointer (some ⟨wb,2,none⟩)] W fun e W'=>e=.returned (.bool true)∧∃ n' iv' wv' ev' es' ws',HInv W' D wb gsv rsv n' iv' wv' ev' es' ws'∧n'+ws'.length=n+ws.length∧(∀ x,x∈ws'→x∈ws)∧QInv W' D gsv.2 qs∧Fr (LW wb iv wv ev ws) W W'∧∀ b,LOwn wb iv' wv' ev' es' ws' b→LOwn wb iv wv ev es ws b∨W.heap.size≤b:=by
 have HQ:Hid (QInv W D gsv.2 qs):=hq
 have HH:Hid (HInv W D wb gsv rsv n iv wv ev es ws):=h
 obtain ⟨tao,tcap,hwv,_,_⟩:=rowForm h.t
 subst hwv
 have c5:W.cell? ⟨wb,5,none⟩=some (.slice tao ws.length tcap):=law_cell h.w 5
 have HCN:Hid (es.length≤4*n):=h.cnt
 clear h hq
 by_cases h5:5<ws.length
 ·have t5:(5:Int)<(ws.length:Int):=by omega
  go_enter Tryz.func29, Tryz.ntmps29
  go_wp2_with fail
  refine (settlesL HQ.out HH.out hws).mono ?_
  rintro e W' ⟨rfl,iv',es',hH,hQ',hK,hO⟩
  have END:Hid (HInv W' D wb gsv rsv (n+ws.length) iv' (.slice none 0 0) (.slice none 0 0) es' []∧QInv W' D gsv.2 qs∧Fr (LW wb iv (.slice tao ws.length tcap) ev ws) W W'∧∀ b,LOwn wb iv' (.slice none 0 0) (.slice none 0 0) es' [] b→LOwn wb iv (.slice tao ws.length tcap) ev es ws b∨W.heap.size≤b):=⟨hH,hQ',hK,hO⟩
  clear hH hK hQ' hO
  go_wp2_with fail
  go_ret
  exact ⟨rfl,_,iv',_,_,es',[],END.out.1,rfl,fun x hx=>by simp at hx,END.out.2⟩
 ·have t5:¬ (5:Int)<(ws.length:Int):=by omega
  go_enter Tryz.func29, Tryz.ntmps29
  go_wp2_with fail
  refine (waitsL HH.out.w HH.out.t HH.out.e (fun x hx=>⟨(HH.out.wl x hx).1,(HH.out.wl x hx).2.1,by have:=(HH.out.wl x hx).2.2;omega⟩) (by omega)).mono ?_
  rintro e W1 ⟨rfl,hb1⟩
  have H1:Hid (HInv W1 D wb gsv rsv n iv (.slice tao ws.length tcap) ev es ws):=HH.out.keep (fun b cs t hb _=>hb1.block b (lt_of_block hb)) hb1.size
  have HB1:Hid (Below W.heap.size W W1):=hb1
  clear hb1
  go_wp2_with fail
  have HQ1:Hid (QInv W1 D gsv.2 qs):=HQ.out.keep (fun b _ hl=>HB1.out.block b hl) HB1.out.size
  refine (dry HQ1.out H1.out.w H1.out.i (fun x hx=>(H1.out.ent x hx).1) (by have:=HCN.out;omega) (fun x hx=>(H1.out.ent x hx).2.1)).mono ?_
  rintro e W2 ⟨rfl,hb2⟩
  have END:Hid (HInv W2 D wb gsv rsv n iv (.slice tao ws.length tcap) ev es ws∧QInv W2 D gsv.2 qs∧Fr (LW wb iv (.slice tao ws.length tcap) ev ws) W W2∧∀ b,LOwn wb iv (.slice tao ws.length tcap) ev es ws b→LOwn wb iv (.slice tao ws.length tcap) ev es ws b∨W.heap.size≤b):=⟨H1.out.keep (fun b cs t hb _=>hb2.block b (lt_of_block hb)) hb2.size,HQ1.out.keep (fun b _ hl=>hb2.block b hl) hb2.size,Fr.of_below (HB1.out.trans (hb2.mono HB1.out.size)),fun _ h=>.inl h⟩
  clear hb2
  go_wp2_with fail
  go_ret
  exact ⟨rfl,n,iv,_,ev,es,ws,END.out.1,rfl,fun x hx=>hx,END.out.2⟩
end
end Go.Proofs.YtcedebpoihcbdaaGreatDoor
