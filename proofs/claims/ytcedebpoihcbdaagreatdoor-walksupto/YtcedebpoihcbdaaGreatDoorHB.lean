/-
  The rules that a law holds: what 'rules' does.
  Rules as a law hands them in: lent, still, taken.
  Rules as a law hands them in: still, taken.
-/
import Derived.Test.YtcedebpoihcbdaaGreatDoorRI
import Derived.Laws.CopyRow
import Derived.OwnWalk
import Derived.Lib.LazyBuf
set_option linter.unusedVariables false
set_option maxHeartbeats 1000000
set_option maxRecDepth 100000
namespace Go.Proofs.YtcedebpoihcbdaaGreatDoor
open Go.RowKit Gv
theorem Tryz.infoHR:(Tryz.prog.info? 174).map (fun i=>(i.zero,i.size,i.bytes))=some (some (.agg #[.slice none 0 0,.int .i64 0]),2,32):=by kernel_rfl
def mkR (n:Nat) (m:Int):List Value:=(List.replicate n ((markS,m):Rule)).flatMap rrow
theorem mkR_len (n:Nat) (m:Int):(mkR n m).length=n*2:=by
 unfold mkR
 induction n with
 | zero=>rfl
 | succ n ih=>rw [List.replicate_succ,List.flatMap_cons,List.length_append,ih,rrow_len];omega
theorem mkR_snoc (n:Nat) (m:Int):mkR n m++rrow (markS,m)=mkR (n+1) m:=by
 unfold mkR
 rw [List.replicate_succ',List.flatMap_append];simp
theorem mkR_at {n i:Nat} {m:Int} (h:i<n):(mkR n m)[i*2]?=some (.string markS)∧(mkR n m)[i*2+1]?=some (.int .i64 m):=by
 have hg:(List.replicate n ((markS,m):Rule))[i]?=some (markS,m):=by rw [List.getElem?_replicate,if_pos h]
 exact ⟨flat_at rrow_len (j:=0) hg (by omega),flat_at rrow_len (j:=1) hg (by omega)⟩
def MarkR (W:World) (v:Value) (n:Nat) (m:Int):Prop :=
 ∃ ao cap,v=.slice ao n cap∧(n=0∨∃ g,ao=some ⟨g,0,none⟩∧(∃ cs,W.heap[g]?=some (.cells cs 32 (0,0)))∧∀ i,i<n→W.cell? ⟨g,i*2,none⟩=some (.string markS)∧W.cell? ⟨g,i*2+1,none⟩=some (.int .i64 m))
theorem MarkR.marked {W:World} {v:Value} {n:Nat} {m:Int} (h:MarkR W v n m):MarkedR W v n m:=by
 obtain ⟨ao,cap,rfl,h⟩:=h
 refine ⟨ao,cap,rfl,?_⟩
 rcases h with h | ⟨g,rfl,⟨cs,hg⟩,hc⟩
 ·exact .inl h
 ·exact .inr ⟨g,rfl,lt_of_block hg,hc⟩
theorem MarkR.keep {W W':World} {v:Value} {n:Nat} {m:Int} (h:MarkR W v n m) (hk:∀ b cs,v.ownBlock=some b→W.heap[b]?=some (.cells cs 32 (0,0))→W'.heap[b]?=W.heap[b]?):MarkR W' v n m:=by
 obtain ⟨ao,cap,rfl,h⟩:=h
 refine ⟨ao,cap,rfl,?_⟩
 rcases h with h | ⟨g,rfl,⟨cs,hg⟩,hc⟩
 ·exact .inl h
 ·have e:=hk g cs rfl hg
  exact .inr ⟨g,rfl,⟨cs,by rw [e];exact hg⟩,fun i hi=>⟨(World.cell?_of_block (w:=W) e).trans (hc i hi).1,(World.cell?_of_block (w:=W) e).trans (hc i hi).2⟩⟩
theorem markR_of {W:World} {D n:Nat} {v:Value} {m:Int} (h:W.ownsRow D 32 2 v n (mkR n m)):MarkR W v n m:=by
 rcases h.2 with ⟨rfl,rfl⟩ | ⟨g,cap,cur,rfl,hb,hg,hr⟩
 ·exact ⟨none,0,rfl,.inl rfl⟩
 ·refine ⟨some ⟨g,0,none⟩,cap,rfl,.inr ⟨g,rfl,⟨cur,hg⟩,fun i hi=>?_⟩⟩
  rw [h.cellAt (i*2) (by omega),h.cellAt (i*2+1) (by omega)]
  exact mkR_at hi
theorem flat_set2 {ys:List Rule} {j:Nat} {x:Rule} (h:j<ys.length):((ys.flatMap rrow).set (j*2) (.string x.1)).set (j*2+1) (.int .i64 x.2)=(ys.set j x).flatMap rrow:=by
 induction ys generalizing j with
 | nil=>simp at h
 | cons y ys ih =>
  cases j with
  | zero=>simp [rrow]
  | succ j =>
   have hj:j<ys.length:=by simpa using h
   rw [List.set_cons_succ,List.flatMap_cons,List.flatMap_cons,← ih hj]
   rw [show (j+1)*2=j*2+2 by omega,show j*2+2+1=j*2+1+2 by omega]
   simp [rrow]
theorem rep_setR (k:Nat) (xs:List Rule) (m:Rule) (h:k<xs.length):(List.replicate k m++xs.drop k).set k m=List.replicate (k+1) m++xs.drop (k+1):=by
 have e:=List.drop_eq_getElem_cons h
 rw [List.set_append_right _ _ (by simp),e]
 simp only [List.length_replicate,Nat.sub_self,List.set_cons_zero,List.replicate_succ',List.append_assoc,List.singleton_append]
theorem entR_step {W w1 w3:World} {D wb k n g c:Nat} {g1 rsv iv ii wv ev:Value} {ecs:List Value} {es:List Value}
  (hW:W.heap[wb]?=some (.cells (lawCells (g1,iv) rsv n ii wv ev) 55 (0,0))) (hI:W.ownsRow D 174 2 iv k ecs) (hb1:Below W.heap.size W w1)
  (hown:w3.ownsRow D 174 2 (.slice (some ⟨g,0,none⟩) (k+1) c) (k+1) (ecs++es)) (hgrow:w1.grownBy w3 iv.ownBlock) (hat:iv.ownBlock=some g∨g=w1.heap.size) :
  (w3.setCell ⟨wb,4,none⟩ (.slice (some ⟨g,0,none⟩) (k+1) c)).heap[wb]?=some (.cells (lawCells (g1,.slice (some ⟨g,0,none⟩) (k+1) c) rsv n ii wv ev) 55 (0,0)) ∧
  (w3.setCell ⟨wb,4,none⟩ (.slice (some ⟨g,0,none⟩) (k+1) c)).ownsRow D 174 2 (.slice (some ⟨g,0,none⟩) (k+1) c) (k+1) (ecs++es) ∧
  Kept W (w3.setCell ⟨wb,4,none⟩ (.slice (some ⟨g,0,none⟩) (k+1) c)) (fun b=>b≠wb∧iv.ownBlock≠some b)∧(iv.ownBlock=some g∨W.heap.size≤g):=by
 have hlt:=lt_of_block hW
 have hne:=row_ne hI hW (by decide)
 have hw3:w3.heap[wb]?=some (.cells (lawCells (g1,iv) rsv n ii wv ev) 55 (0,0)):=by
  rw [hgrow.block wb (Nat.lt_of_lt_of_le hlt hb1.size) (fun e=>hne e.symm),hb1.block wb hlt];exact hW
 have hgb:g≠wb:=by
  rintro rfl
  exact row_ne hown hw3 (by decide) rfl
 refine ⟨?_,?_,?_,?_⟩
 ·exact heap_setCell_same w3 wb 4 _ 55 _ hw3
 ·exact ownsRow_setCell_other hown (by simp [Value.ownBlock];exact hgb) _
 ·refine ((Kept.of_below hb1 _).trans (Kept.of_grown hgrow (fun x _ hx e=>hx.2 e.symm))).trans ?_
  exact Kept.setCell _ _ (fun h=>h.1 rfl)
 ·rcases hat with h | h
  ·exact .inl h
  ·exact .inr (by rw [h];exact hb1.size)
theorem markR_room {W W':World} {D g cap n nx:Nat} {x:Value} {m:Int} (h:MarkR W x nx m) (hx:nx≤n) (hg:W.grownBy W' (some g)) (ho:W'.ownsRow D 32 2 (.slice (some ⟨g,0,none⟩) n cap) n (mkR n m)):MarkR W' x nx m:=by
 obtain ⟨ao,c,rfl,h⟩:=h
 refine ⟨ao,c,rfl,?_⟩
 rcases h with h | ⟨b,rfl,⟨cs,hb⟩,hc⟩
 ·exact .inl h
 ·right
  by_cases e:b=g
  ·subst e
   obtain ⟨cs',hcs'⟩:=row_block ho rfl
   refine ⟨b,rfl,⟨cs',hcs'⟩,fun i hi=>?_⟩
   rw [ho.cellAt (i*2) (by omega),ho.cellAt (i*2+1) (by omega)]
   exact mkR_at (by omega)
  ·have hk:=hg.block b (lt_of_block hb) (by simpa using e)
   exact ⟨b,rfl,⟨cs,by rw [hk];exact hb⟩,fun i hi=>⟨(World.cell?_of_block (w:=W) hk).trans (hc i hi).1,(World.cell?_of_block (w:=W) hk).trans (hc i hi).2⟩⟩
theorem markR_alloc {W:World} {v:Value} {n:Nat} {m:Int} (h:MarkR W v n m) (o:Obj):MarkR (W.alloc o) v n m:=by
 obtain ⟨ao,cap,rfl,h⟩:=h
 refine ⟨ao,cap,rfl,?_⟩
 rcases h with h | ⟨g,rfl,⟨cs,hg⟩,hc⟩
 ·exact .inl h
 ·have e:=Below.heap_alloc W o g (lt_of_block hg)
  exact .inr ⟨g,rfl,⟨cs,by rw [e];exact hg⟩,fun i hi=>⟨(World.cell?_of_block (w:=W) e).trans (hc i hi).1,(World.cell?_of_block (w:=W) e).trans (hc i hi).2⟩⟩
theorem markR_grown {W W':World} {v:Value} {n:Nat} {m:Int} (h:MarkR W v n m) (hg:W.grownBy W' none):MarkR W' v n m:=by
 obtain ⟨ao,cap,rfl,h⟩:=h
 refine ⟨ao,cap,rfl,?_⟩
 rcases h with h | ⟨g,rfl,⟨cs,hb⟩,hc⟩
 ·exact .inl h
 ·have e:=hg.block g (lt_of_block hb) (by simp)
  exact .inr ⟨g,rfl,⟨cs,by rw [e];exact hb⟩,fun i hi=>⟨(World.cell?_of_block (w:=W) e).trans (hc i hi).1,(World.cell?_of_block (w:=W) e).trans (hc i hi).2⟩⟩
structure MidR (W wr:World) (D wb k n len cap:Nat) (g1 rsv iv ii wv ev:Value) (ao:Option Addr) (ecs:List Value) (m:Int) (j gcap:Nat) (gao:Option Addr) (iv':Value) (vs:List Value):Prop where
 vl:vs.length=j
 w:wr.heap[wb]?=some (.cells (lawCells (g1,iv') rsv (n+1) ii wv ev) 55 (0,0))
 i:wr.ownsRow D 174 2 iv' (k+j) (ecs++entCells vs m)
 g:wr.ownsRow D 32 2 (.slice gao (len+j) gcap) (len+j) (mkR (len+j) m)
 m:∀ i,i<j→MarkR wr (vs.getD i (.slice none 0 0)) (len+i) m
 b:∀ x,x∈vs∨x=.slice gao (len+j) gcap→∀ b,x.ownBlock=some b→((Value.slice ao len cap).ownBlock=some b∨W.heap.size≤b)∧∃ cs,wr.heap[b]?=some (.cells cs 32 (0,0))
 ib:∀ b,iv'.ownBlock=some b→iv.ownBlock=some b∨W.heap.size≤b
 kept:Kept W wr (fun b=>b≠wb∧iv.ownBlock≠some b∧(Value.slice ao len cap).ownBlock≠some b)
section
variable {W w2 w4 w5:World} {D wb k n len cap:Nat} {g1 rsv iv ii wv ev:Value} {ao:Option Addr} {ecs:List Value} {m:Int} {j gcap:Nat} {gao:Option Addr} {iv':Value} {vs:List Value}
structure HalfR (W w4:World) (D wb k n len cap:Nat) (g1 rsv iv ii wv ev:Value) (ao:Option Addr) (ecs:List Value) (m:Int) (j gcap:Nat) (gao:Option Addr) (iv':Value) (vs:List Value):Prop where
 vl:vs.length=j
 w:w4.heap[wb]?=some (.cells (lawCells (g1,iv') rsv (n+1) ii wv ev) 55 (0,0))
 i:w4.ownsRow D 174 2 iv' (k+j+1) (ecs++entCells (vs++[.slice gao (len+j) gcap]) m)
 g:w4.ownsRow D 32 2 (.slice gao (len+j) gcap) (len+j) (mkR (len+j) m)
 m:∀ i,i<j→MarkR w4 (vs.getD i (.slice none 0 0)) (len+i) m
 b:∀ x,x∈vs∨x=.slice gao (len+j) gcap→∀ b,x.ownBlock=some b→((Value.slice ao len cap).ownBlock=some b∨W.heap.size≤b)∧∃ cs,w4.heap[b]?=some (.cells cs 32 (0,0))
 ib:∀ b,iv'.ownBlock=some b→iv.ownBlock=some b∨W.heap.size≤b
 kept:Kept W w4 (fun b=>b≠wb∧iv.ownBlock≠some b∧(Value.slice ao len cap).ownBlock≠some b)
theorem MidR.half {w1 w3:World} {g c:Nat} (X:MidR W w2 D wb k n len cap g1 rsv iv ii wv ev ao ecs m j gcap gao iv' vs) (hb1:Below w2.heap.size w2 w1)
  (hown:w3.ownsRow D 174 2 (.slice (some ⟨g,0,none⟩) (k+j+1) c) (k+j+1) (ecs++entCells vs m++[.slice gao (len+j) gcap,.int .i64 m])) (hgrow:w1.grownBy w3 iv'.ownBlock) (hat:iv'.ownBlock=some g∨g=w1.heap.size) :
  HalfR W (w3.setCell ⟨wb,4,none⟩ (.slice (some ⟨g,0,none⟩) (k+j+1) c)) D wb k n len cap g1 rsv iv ii wv ev ao ecs m j gcap gao (.slice (some ⟨g,0,none⟩) (k+j+1) c) vs∧w3.heap[wb]?=some (.cells (lawCells (g1,iv') rsv (n+1) ii wv ev) 55 (0,0)):=by
 have R:=entR_step X.w X.i hb1 hown hgrow hat
 have hlt:=lt_of_block X.w
 have TY:∀ b:Nat,(∃ cs:Array Value,w2.heap[b]?=some (.cells cs 32 (0,0)))→∃ cs:Array Value,(w3.setCell ⟨wb,4,none⟩ (.slice (some ⟨g,0,none⟩) (k+j+1) c)).heap[b]?=some (.cells cs 32 (0,0)):=fun b ⟨cs,hcs⟩=>⟨cs,by
  rw [R.2.2.1.block b (lt_of_block hcs) ⟨fun e=>by subst e;have h:=X.w;rw [hcs] at h;simp at h,fun e=>row_ne X.i hcs (by decide) e⟩];exact hcs⟩
 refine ⟨⟨X.vl,R.1,?_,?_,?_,fun x hx b hb=>⟨(X.b x hx b hb).1,TY b (X.b x hx b hb).2⟩,?_,?_⟩,?_⟩
 ·rw [entCells_snoc,← List.append_assoc];exact R.2.1
 ·refine row_keep X.g (fun b hb=>R.2.2.1.block b (X.g.lt b hb).2 ⟨fun e=>row_ne X.g X.w (by decide) (e ▸ hb),fun e=>?_⟩)
  obtain ⟨cs1,h1⟩:=row_block X.g hb
  exact row_ne X.i h1 (by decide) e
 ·intro i hi
  refine (X.m i hi).keep (fun b cs hb hcs=>R.2.2.1.block b (lt_of_block hcs) ⟨fun e=>?_,fun e=>row_ne X.i hcs (by decide) e⟩)
  subst e;have h:=X.w;rw [hcs] at h;simp at h
 ·intro b hb
  simp only [Value.ownBlock,Option.some.injEq] at hb
  subst hb
  rcases R.2.2.2 with h | h
  ·exact X.ib g h
  ·exact .inr (Nat.le_trans X.kept.size h)
 ·refine X.kept.trans' R.2.2.1 (fun x hx hp=>⟨hp.1,fun e=>?_⟩)
  rcases X.ib x e with h | h
  ·exact hp.2.1 h
  ·omega
 ·rw [hgrow.block wb (Nat.lt_of_lt_of_le hlt hb1.size) (fun e=>row_ne X.i X.w (by decide) e.symm),hb1.block wb hlt];exact X.w
theorem HalfR.room {gg:Nat} (X:HalfR W w4 D wb k n len cap g1 rsv iv ii wv ev ao ecs m j gcap (some ⟨gg,0,none⟩) iv' vs) (o:Obj)
  (hown:w5.ownsRow D 32 2 (.slice (some ⟨gg,0,none⟩) (len+j+1) gcap) (len+j+1) (mkR (len+j) m++rrow (markS,m))) (hgrow:(w4.alloc o).grownBy w5 (some gg)) :
  MidR W w5 D wb k n len cap g1 rsv iv ii wv ev ao ecs m (j+1) gcap (some ⟨gg,0,none⟩) iv' (vs++[.slice (some ⟨gg,0,none⟩) (len+j) gcap]):=by
 have hk:∀ b,b<w4.heap.size→b≠gg→w5.heap[b]?=w4.heap[b]?:=fun b hb hne=>by
  rw [hgrow.block b (by simp;omega) (by simpa using hne)];exact Below.heap_alloc _ _ _ hb
 have hgw:gg≠wb:=fun e=>row_ne X.g X.w (by decide) (by rw [← e];rfl)
 rw [mkR_snoc] at hown
 refine ⟨by simp [X.vl],?_,?_,hown,?_,?_,X.ib,?_⟩
 ·rw [hk wb (lt_of_block X.w) (fun e=>hgw e.symm)];exact X.w
 ·refine row_keep X.i (fun b hb=>hk b (X.i.lt b hb).2 (fun e=>?_))
  obtain ⟨cs1,h1⟩:=row_block X.i hb
  exact row_ne X.g h1 (by decide) (by rw [e];rfl)
 ·intro i hi
  rw [getD_snoc (by rw [X.vl];exact hi)]
  split
  ·rename_i h
   rw [X.vl] at h
   exact markR_room (markR_alloc (X.m i h) o) (by omega) hgrow hown
  ·rename_i h
   rw [X.vl] at h
   obtain rfl:i=j:=by omega
   exact markR_room (markR_alloc (markR_of X.g) o) (by omega) hgrow hown
 ·have TY:∀ b:Nat,(∃ cs:Array Value,w4.heap[b]?=some (.cells cs 32 (0,0)))→∃ cs:Array Value,w5.heap[b]?=some (.cells cs 32 (0,0)):=fun b ⟨cs,hcs⟩=>by
   by_cases e:b=gg
   ·subst e;exact row_block hown rfl
   ·exact ⟨cs,(hk b (lt_of_block hcs) e).trans hcs⟩
  rintro x (hx | rfl) b hb
  ·rcases List.mem_append.1 hx with h | h
   ·exact ⟨(X.b x (.inl h) b hb).1,TY b (X.b x (.inl h) b hb).2⟩
   ·simp only [List.mem_singleton] at h
    exact ⟨(X.b x (.inr h) b hb).1,TY b (X.b x (.inr h) b hb).2⟩
  ·have h:=X.b (.slice (some ⟨gg,0,none⟩) (len+j) gcap) (.inr rfl) b hb
   exact ⟨h.1,TY b h.2⟩
 ·refine X.kept.trans' (Q:=fun b=>b≠gg) ⟨hgrow.os,hgrow.tape,hgrow.output,Nat.le_trans (by simp) hgrow.size,hk⟩ (fun x hx hp e=>?_)
  subst e
  rcases (X.b (.slice (some ⟨x,0,none⟩) (len+j) gcap) (.inr rfl) x rfl).1 with h | h
  ·exact hp.2.2 h
  ·omega
theorem HalfR.grow {v':Value} {g' c' H:Nat} (X:HalfR W w4 D wb k n len cap g1 rsv iv ii wv ev ao ecs m j gcap gao iv' vs) (o:Obj) (hD:D≤w4.heap.size) (hv':v'=.slice (some ⟨g',0,none⟩) (len+j+1) c')
  (hH:H=(w4.alloc o).heap.size) (hown:w5.ownsRow H 32 2 v' (len+j+1) (mkR (len+j) m++rrow (markS,m))) (hgrow:(w4.alloc o).grownBy w5 none) :
  MidR W w5 D wb k n len cap g1 rsv iv ii wv ev ao ecs m (j+1) c' (some ⟨g',0,none⟩) iv' (vs++[.slice gao (len+j) gcap]):=by
 subst hv'
 subst hH
 have hk:∀ b,b<w4.heap.size→w5.heap[b]?=w4.heap[b]?:=fun b hb=>by
  rw [hgrow.block b (by simp;omega) (by simp)];exact Below.heap_alloc _ _ _ hb
 rw [mkR_snoc] at hown
 have hge:=(hown.lt g' rfl).1
 refine ⟨by simp [X.vl],?_,?_,row_base hown (by simp;omega),?_,?_,X.ib,?_⟩
 ·rw [hk wb (lt_of_block X.w)];exact X.w
 ·exact row_keep X.i (fun b hb=>hk b (X.i.lt b hb).2)
 ·intro i hi
  rw [getD_snoc (by rw [X.vl];exact hi)]
  split
  ·rename_i h
   rw [X.vl] at h
   exact markR_grown (markR_alloc (X.m i h) o) hgrow
  ·rename_i h
   rw [X.vl] at h
   obtain rfl:i=j:=by omega
   exact markR_grown (markR_alloc (markR_of X.g) o) hgrow
 ·have TY:∀ b:Nat,(∃ cs:Array Value,w4.heap[b]?=some (.cells cs 32 (0,0)))→∃ cs:Array Value,w5.heap[b]?=some (.cells cs 32 (0,0)):=fun b ⟨cs,hcs⟩=>⟨cs,(hk b (lt_of_block hcs)).trans hcs⟩
  rintro x (hx | rfl) b hb
  ·rcases List.mem_append.1 hx with h | h
   ·exact ⟨(X.b x (.inl h) b hb).1,TY b (X.b x (.inl h) b hb).2⟩
   ·simp only [List.mem_singleton] at h
    exact ⟨(X.b x (.inr h) b hb).1,TY b (X.b x (.inr h) b hb).2⟩
  ·simp only [Value.ownBlock,Option.some.injEq] at hb
   subst hb
   have:=X.kept.size
   simp at hge
   exact ⟨.inr (by omega),row_block hown rfl⟩
 ·exact X.kept.trans' (Q:=fun _=>True) ⟨hgrow.os,hgrow.tape,hgrow.output,Nat.le_trans (by simp) hgrow.size,fun b hb _=>hk b hb⟩ (fun _ _ _=>trivial)
end
structure MarkRPost (W W':World) (D wb k n:Nat) (g1 rsv iv ii wv ev v:Value) (len:Nat) (ecs:List Value):Prop where
 ex:∃ (iv':Value) (v0 v1 v2 v3:Value),W'.heap[wb]?=some (.cells (lawCells (g1,iv') rsv (n+1) ii wv ev) 55 (0,0)) ∧
  W'.ownsRow D 174 2 iv' (k+4) (ecs++[v0,.int .i64 (markOfN n)]++[v1,.int .i64 (markOfN n)]++[v2,.int .i64 (markOfN n)]++[v3,.int .i64 (markOfN n)]) ∧
  MarkR W' v0 len (markOfN n)∧MarkR W' v1 (len+1) (markOfN n)∧MarkR W' v2 (len+2) (markOfN n)∧MarkR W' v3 (len+3) (markOfN n) ∧
  (∀ x,x=v0∨x=v1∨x=v2∨x=v3→∀ b,x.ownBlock=some b→(v.ownBlock=some b∨W.heap.size≤b)∧∃ cs,W'.heap[b]?=some (.cells cs 32 (0,0)))∧(∀ b,iv'.ownBlock=some b→iv.ownBlock=some b∨W.heap.size≤b)
 kept:Kept W W' (fun b=>b≠wb∧iv.ownBlock≠some b∧v.ownBlock≠some b)
theorem markR_end {W w4:World} {D wb k n len cap:Nat} {g1 rsv iv ii wv ev:Value} {ao:Option Addr} {ecs:List Value} {m:Int} {gcap:Nat} {gao:Option Addr} {iv':Value} {vs:List Value} (hm:markOfN n=m)
  (X:HalfR W w4 D wb k n len cap g1 rsv iv ii wv ev ao ecs m 3 gcap gao iv' vs):MarkRPost W w4 D wb k n g1 rsv iv ii wv ev (.slice ao len cap) len ecs:=by
 subst hm
 have hl:=X.vl
 match vs,hl with
 | [v0,v1,v2],_ =>
  refine ⟨⟨iv',v0,v1,v2,.slice gao (len+3) gcap,X.w,?_,X.m 0 (by omega),X.m 1 (by omega),X.m 2 (by omega),markR_of X.g,?_,X.ib⟩,X.kept⟩
  ·simpa [entCells] using X.i
  ·rintro x (rfl | rfl | rfl | rfl) b hb
   ·exact X.b _ (.inl (by simp)) b hb
   ·exact X.b _ (.inl (by simp)) b hb
   ·exact X.b _ (.inl (by simp)) b hb
   ·exact X.b _ (.inr rfl) b hb
theorem rrow_one1 (x:Rule):∀ u∈rrow x,u.oneCell'=true:=by
 intro u hu
 simp only [rrow,List.mem_cons,List.not_mem_nil,or_false] at hu
 rcases hu with rfl | rfl <;> rfl
theorem row_some2 {W:World} {D e size n gcap:Nat} {gao:Option Addr} {xs:List Value} (h:W.ownsRow D e size (.slice gao n gcap) n xs) (hc:0<gcap):∃ g,gao=some ⟨g,0,none⟩∧D≤g∧g<W.heap.size:=by
 rcases h.2 with ⟨h',_⟩ | ⟨g,cap,cur,h',hb,hg,_⟩
 ·simp at h';omega
 ·simp only [Value.slice.injEq,true_and] at h'
  exact ⟨g,h'.1,hb,lt_of_block hg⟩
theorem row_none2 {W:World} {D e size n gcap:Nat} {gao:Option Addr} {xs:List Value} (h:W.ownsRow D e size (.slice gao n gcap) n xs) (hc:gao=none):n=0∧gcap=0:=by
 subst hc
 rcases h.2 with ⟨h',_⟩ | ⟨g,cap,cur,h',hb,hg,_⟩
 ·simp at h';exact h'
 ·simp at h'
theorem row_at2 {W:World} {D e size n gcap:Nat} {gao:Option Addr} {xs:List Value} (h:W.ownsRow D e size (.slice gao n gcap) n xs):∀ b,gao=some b→∀ j u,xs[j]?=some u→W.cell? (b.add j)=some u:=by
 intro b hb j u hj
 subst hb
 rcases h.2 with ⟨h',_⟩ | ⟨g,cap,cur,h',_⟩
 ·simp at h'
 ·simp only [Value.slice.injEq,Option.some.injEq,true_and] at h'
  obtain ⟨rfl,rfl⟩:=h'
  exact h.cells (g:=g) rfl j u hj
theorem markRules {W:World} {D wb k n len:Nat} {g1 rsv iv ii wv ev v:Value} {ecs:List Value} {ys:List Rule} (hW:W.heap[wb]?=some (.cells (lawCells (g1,iv) rsv n ii wv ev) 55 (0,0))) (hI:W.ownsRow D 174 2 iv k ecs) (hv:W.ownsRow D 32 2 v len (ys.flatMap rrow))
  (hD:D≤wb) (hk:k≤1000000000000) (hn:n≤1000000000000) (hlen:len≤9000000) (hyl:ys.length=len) :
  Calls Tryz.prog 109 #[.pointer (some ⟨wb,2,none⟩),v] W fun e W'=>e=.returned (.tuple #[])∧MarkRPost W W' D wb k n g1 rsv iv ii wv ev v len ecs:=by
 have HW:Hid _:=hW
 have HI:Hid (W.ownsRow D 174 2 iv k ecs):=hI
 have HV:Hid (W.ownsRow D 32 2 v len (ys.flatMap rrow)):=hv
 have hwb:=lt_of_block hW
 have c2:W.cell? ⟨wb,2,none⟩=some (.int .i64 n):=law_cell hW 2
 have f2:∀ i,W.frozen? ⟨wb,i,none⟩=false:=law_free hW
 have hne1:Hid (v.ownBlock≠some wb):=row_ne hv hW (by decide)
 obtain ⟨i0,hi,hz0,hz1,hz2⟩:=info_parts Tryz.info32
 obtain ⟨j0,gi,gz0,gz1,gz2⟩:=info_parts Tryz.infoHR
 have hsh:∃ ao cap,v=.slice ao len cap∧len≤cap∧cap≤maxLen∧(0<len→∃ g,ao=some ⟨g,0,none⟩):=by
  rcases hv.2 with ⟨rfl,rfl⟩ | ⟨g,cap,cur,rfl,_,_,h1,h2,_⟩
  ·exact ⟨none,0,rfl,Nat.le_refl _,Nat.zero_le _,fun h=>absurd h (by omega)⟩
  ·exact ⟨_,cap,rfl,h1,h2,fun _=>⟨g,rfl⟩⟩
 obtain ⟨ao,cap,rfl,hlc,hcm,hao⟩:=hsh
 have HAO:Hid (0<len→∃ g,ao=some ⟨g,0,none⟩):=hao
 unfold maxLen at hcm
 have hxl:Hid (ys.length=len):=hyl
 clear hW hI hv hao hyl
 go_enter Tryz.func109, Tryz.ntmps109
 go_wp2_with fail
 have HM:Hid (markOfN n=-1000-((n:Int)+1)):=rfl
 generalize hmm:(-1000-((n:Int)+1))=m at *
 clear hmm
 have HS:Hid ((W.setCell ⟨wb,2,none⟩ (.int .i64 ((n:Int)+1))).heap[wb]?=some (.cells (lawCells (g1,iv) rsv (n+1) ii wv ev) 55 (0,0))):=heap_setCell_same W wb 2 _ 55 _ HW.out
 go_loopw [5] (fun i wr=>∃ j:Nat,j≤len∧i=.int .i64 j∧wr.heap[wb]?=some (.cells (lawCells (g1,iv) rsv (n+1) ii wv ev) 55 (0,0))∧wr.ownsRow D 32 2 (.slice ao len cap) len ((List.replicate j ((markS,m):Rule)++ys.drop j).flatMap rrow)∧Kept W wr (fun b=>b≠wb∧(Value.slice ao len cap).ownBlock≠some b)) (fun i _=>len-(intOf i).toNat)
 case atStart =>
  refine ⟨0,Nat.zero_le _,rfl,HS.out,?_,Kept.setCell _ _ (fun h=>h.1 rfl)⟩
  exact ownsRow_setCell_other HV.out hne1.out _
 case round =>
  obtain ⟨j,hj,rfl,hwr,hown,hkept⟩:=hrel
  by_cases hjl:j<len
  ·obtain ⟨g,rfl⟩:=HAO.out (by omega)
   have hlj:j<(List.replicate j ((markS,m):Rule)++ys.drop j).length:=by simp [hxl.out];omega
   have hcj:∃ x:Rule,wr.cell? ⟨g,j*2,none⟩=some (.string x.1)∧wr.cell? ⟨g,j*2+1,none⟩=some (.int .i64 x.2):=by
    have hget:=List.getElem?_eq_getElem hlj
    exact ⟨_,by rw [hown.cellAt (j*2) (by omega)];exact flat_at rrow_len (j:=0) hget (by omega),by rw [hown.cellAt (j*2+1) (by omega)];exact flat_at rrow_len (j:=1) hget (by omega)⟩
   obtain ⟨u,cj,cj1⟩:=hcj
   have fj:∀ i,wr.frozen? ⟨g,i,none⟩=false:=fun i=>hown.frozenAt i
   have R:=(hown.stored (j*2) (.string markS)).1.stored (j*2+1) (.int .i64 m)
   have hgw:g≠wb:=fun e=>hne1.out (by rw [← e];rfl)
   have RR:Hid (((wr.setCell ⟨g,j*2,none⟩ (.string markS)).setCell ⟨g,j*2+1,none⟩ (.int .i64 m)).ownsRow D 32 2 (.slice (some ⟨g,0,none⟩) len cap) len ((List.replicate (j+1) ((markS,m):Rule)++ys.drop (j+1)).flatMap rrow)):=by
    have h:=R.1
    rw [flat_set2 (x:=(markS,m)) hlj,rep_setR j ys _ (by rw [hxl.out];exact hjl)] at h
    exact h
   have RW:Hid (((wr.setCell ⟨g,j*2,none⟩ (.string markS)).setCell ⟨g,j*2+1,none⟩ (.int .i64 m)).heap[wb]?=some (.cells (lawCells (g1,iv) rsv (n+1) ii wv ev) 55 (0,0))):=by
    show ((wr.setCell ⟨g,j*2,none⟩ (.string markS)).setCell ⟨g,j*2+1,none⟩ (.int .i64 m)).heap[wb]?=_
    rw [heap_setCell_other _ _ _ _ (fun e=>hgw e.symm),heap_setCell_other _ _ _ _ (fun e=>hgw e.symm)];exact hwr
   have RK:Hid (Kept W ((wr.setCell ⟨g,j*2,none⟩ (.string markS)).setCell ⟨g,j*2+1,none⟩ (.int .i64 m)) (fun b=>b≠wb∧(Value.slice (some ⟨g,0,none⟩) len cap).ownBlock≠some b)):=(hkept.trans (Kept.setCell ⟨g,j*2,none⟩ _ (fun h=>h.2 rfl))).trans (Kept.setCell _ _ (fun h=>h.2 rfl))
   unfold markS at RR RW RK
   clear hown hwr hkept R hgw
   go_wp2_with fail
   go_roundw
   case rel=>exact ⟨j+1,hjl,by go_num,RW.out,RR.out,RK.out⟩
   case measure=>simp [intOf];omega
  ·have ej:len=j:=by omega
   subst ej
   have hown':wr.ownsRow D 32 2 (.slice ao len cap) len (mkR len m):=by
    have e:ys.drop len=[]:=List.drop_eq_nil_of_le (by rw [hxl.out];omega)
    rw [e,List.append_nil] at hown;exact hown
   have HO:Hid (wr.ownsRow D 32 2 (.slice ao len cap) len (mkR len m)):=hown'
   have HWr:Hid (wr.heap[wb]?=some (.cells (lawCells (g1,iv) rsv (n+1) ii wv ev) 55 (0,0))):=hwr
   have HK:Hid (Kept W wr (fun b=>b≠wb∧(Value.slice ao len cap).ownBlock≠some b)):=hkept
   have HIr:Hid (wr.ownsRow D 174 2 iv k ecs):=row_keep HI.out (fun b hb=>hkept.block b (HI.out.lt b hb).2 ⟨fun e=>row_ne HI.out HW.out (by decide) (e ▸ hb),fun e=>by
    obtain ⟨cs1,h1⟩:=row_block HI.out hb
    exact row_ne HV.out h1 (by decide) e⟩)
   clear hown hown' hwr hkept HS
   obtain ⟨w1,rfl⟩:∃ w1:World,w1=wr:=⟨_,rfl⟩
   go_wp2_with fail
   go_loopw [6,7] (fun gv i wr=>∃ (j gcap:Nat) (gao:Option Addr) (iv':Value) (vs:List Value),j≤3∧i=.int .i64 j∧gv=.slice gao (len+j) gcap∧MidR W wr D wb k n len cap g1 rsv iv ii wv ev ao ecs m j gcap gao iv' vs) (fun _ i _=>3-(intOf i).toNat)
   case atStart =>
    refine ⟨0,cap,ao,iv,[],by omega,rfl,rfl,⟨rfl,HWr.out,by simpa [entCells] using HIr.out,HO.out,fun i hi=>by omega,?_,fun b hb=>.inl hb,HK.out.weaken (fun x _ hx=>⟨hx.1,hx.2.2⟩)⟩⟩
    rintro x (hx | rfl) b hb
    ·simp at hx
    ·exact ⟨.inl hb,row_block HO.out hb⟩
   case round =>
    obtain ⟨j,gcap,gao,iv',vs,hj,rfl,rfl,hX⟩:=hrel
    clear HO HWr HK HIr
    obtain ⟨w2,rfl⟩:∃ w2:World,w2=wr:=⟨_,rfl⟩
    have c3:w2.cell? ⟨wb,4,none⟩=some iv':=law_cell hX.w 4
    have hlt2:=lt_of_block hX.w
    have hDs:D≤w2.heap.size:=by omega
    have X:Hid (MidR W w2 D wb k n len cap g1 rsv iv ii wv ev ao ecs m j gcap gao iv' vs):=hX
    have X8:Hid ((w2.alloc (.cells #[.slice gao (len+j) gcap,.int .i64 m] 174)).ownsRow D 174 2 iv' (k+j) (ecs++entCells vs m)):=hX.i.alloc _
    have hb1:Hid (Below w2.heap.size w2 (w2.alloc (.cells #[.slice gao (len+j) gcap,.int .i64 m] 174))):=(Below.refl _ _).alloc (Nat.le_refl _) _
    clear hX
    by_cases hj3:j<3
    ·go_wp2_with (at_builtin;refine wpList_append_lies _ rfl _ _ 50 rfl D 174 j0 (.agg #[.slice none 0 0,.int .i64 0]) 2 32 Tryz.underlying50 gi gz0 gz1 gz2 rfl (by decide) _ _ _ rfl X8.out ⟨w2.heap.size,0,none⟩ 1 1 [.slice gao (len+j) gcap,.int .i64 m] rfl ?c0 ?c1 ?c2 ?cm ?c3 ?c4 ?c5 _ rfl ?_)
     case c0=>rfl
     case c1=>exact two_cells _ _ _ _
     case c2=>exact two_one _ _ _ _
     case cm=>omega
     case c3=>unfold maxLen;omega
     case c4=>omega
     case c5=>simp;omega
     intro g3 cp3 w3 hown3 hgrow3 hat3 hlt3
     rw [← List.append_assoc] at hown3
     have R:=X.out.half hb1.out hown3 hgrow3 (hat3.imp id (fun e=>by rw [World.size_alloc];exact e))
     have c33:w3.cell? ⟨wb,4,none⟩=some iv':=law_cell R.2 4
     have f33:∀ i,w3.frozen? ⟨wb,i,none⟩=false:=law_free R.2
     have RR:Hid (HalfR W (w3.setCell ⟨wb,4,none⟩ (.slice (some ⟨g3,0,none⟩) (k+j+1) cp3)) D wb k n len cap g1 rsv iv ii wv ev ao ecs m j gcap gao (.slice (some ⟨g3,0,none⟩) (k+j+1) cp3) vs):=R.1
     have hD4:Hid (D≤(w3.setCell ⟨wb,4,none⟩ (.slice (some ⟨g3,0,none⟩) (k+j+1) cp3)).heap.size):=by have:=lt_of_block R.1.w;show D≤_;omega
     have C1:Hid (∀ i u,(rrow (markS,m))[i]?=some u→((w3.setCell ⟨wb,4,none⟩ (.slice (some ⟨g3,0,none⟩) (k+j+1) cp3)).alloc (.cells #[.string markS,.int .i64 m] 32)).cell? ((⟨w3.heap.size,0,none⟩:Addr).add i)=some u):=by
      have h:=two_cells (w3.setCell ⟨wb,4,none⟩ (.slice (some ⟨g3,0,none⟩) (k+j+1) cp3)) (.string markS) (.int .i64 m) 32
      have e:(w3.setCell ⟨wb,4,none⟩ (.slice (some ⟨g3,0,none⟩) (k+j+1) cp3)).heap.size=w3.heap.size:=by simp [World.setCell]
      rw [e] at h;exact h
     clear R hb1 hown3 hgrow3 hat3 hlt3 X8 c3 X
     by_cases hroom:len+j+1≤gcap
     ·obtain ⟨gg,hgg,hgD,_⟩:=row_some2 RR.out.g (by omega)
      subst hgg
      have Y8:Hid _:=RR.out.g.alloc (.cells #[.string markS,.int .i64 m] 32)
      go_wp2_with (at_builtin;refine wpList_append_fits _ rfl _ _ 33 rfl D 32 i0 2 Tryz.underlying33 hi hz1 gg (len+j) gcap _ rfl Y8.out ⟨w3.heap.size,0,none⟩ 1 1 (rrow (markS,m)) rfl rfl C1.out (rrow_one1 _) hroom ?_)
      intro w5 hown5 hgrow5
      have Z:Hid _:=RR.out.room _ hown5 hgrow5
      clear hown5 hgrow5 RR Y8 C1
      go_wp2_with fail
      go_roundw
      case rel=>exact ⟨j+1,gcap,_,_,_,by omega,by go_num,rfl,Z.out⟩
      case measure=>simp [intOf];omega
     ·have Y8:Hid _:=RR.out.g.alloc (.cells #[.string markS,.int .i64 m] 32)
      go_wp2_with (at_builtin;refine wpList_append_grows _ rfl _ _ 33 rfl 32 i0 (.agg #[.string ByteArray.empty,.int .i64 0]) 2 24 Tryz.underlying33 hi hz0 hz1 hz2 rfl (by decide) gao (len+j) gcap (mkR (len+j) m) rfl (row_none2 RR.out.g) (by rw [mkR_len]) (row_at2 Y8.out) ⟨w3.heap.size,0,none⟩ 1 1 (rrow (markS,m)) rfl rfl C1.out (rrow_one1 _) ?e1 ?e2 ?e3 ?_)
      case e1=>omega
      case e2=>unfold maxLen;omega
      case e3=>omega
      intro v5 w5 hown5 hgrow5
      obtain ⟨g5,c5,hv5,_,_⟩:=hown5.form (by omega)
      have Z:Hid _:=RR.out.grow _ hD4.out hv5 (by simp [World.setCell]) hown5 hgrow5
      rw [hv5]
      clear hown5 hgrow5 RR Y8 C1 hv5
      go_wp2_with fail
      go_roundw
      case rel=>exact ⟨j+1,c5,_,_,_,by omega,by go_num,rfl,Z.out⟩
      case measure=>simp [intOf];omega
    ·obtain rfl:j=3:=by omega
     go_wp2_with (at_builtin;refine wpList_append_lies _ rfl _ _ 50 rfl D 174 j0 (.agg #[.slice none 0 0,.int .i64 0]) 2 32 Tryz.underlying50 gi gz0 gz1 gz2 rfl (by decide) _ _ _ rfl X8.out ⟨w2.heap.size,0,none⟩ 1 1 [.slice gao (len+3) gcap,.int .i64 m] rfl ?c0 ?c1 ?c2 ?cm ?c3 ?c4 ?c5 _ rfl ?_)
     case c0=>rfl
     case c1=>exact two_cells _ _ _ _
     case c2=>exact two_one _ _ _ _
     case cm=>omega
     case c3=>unfold maxLen;omega
     case c4=>omega
     case c5=>simp;omega
     intro g3 cp3 w3 hown3 hgrow3 hat3 hlt3
     rw [← List.append_assoc] at hown3
     have R:=X.out.half hb1.out hown3 hgrow3 (hat3.imp id (fun e=>by rw [World.size_alloc];exact e))
     have c33:w3.cell? ⟨wb,4,none⟩=some iv':=law_cell R.2 4
     have f33:∀ i,w3.frozen? ⟨wb,i,none⟩=false:=law_free R.2
     have RR:Hid (HalfR W (w3.setCell ⟨wb,4,none⟩ (.slice (some ⟨g3,0,none⟩) (k+3+1) cp3)) D wb k n len cap g1 rsv iv ii wv ev ao ecs m 3 gcap gao (.slice (some ⟨g3,0,none⟩) (k+3+1) cp3) vs):=R.1
     clear R hb1 hown3 hgrow3 hat3 hlt3 X8 c3 X
     go_wp2_with fail
     go_end0
     refine ⟨rfl,markR_end HM.out RR.out⟩
open Go.RowKit Gv
def moreR:Rule:=(⟨#[109,111,114,101]⟩,99)
def zeroR:Rule:=(ByteArray.empty,0)
theorem made_rules (n:Nat):(madeCells #[.string ByteArray.empty,.int .i64 0] (n*2)).toList=(List.replicate n zeroR).flatMap rrow:=by
 refine List.ext_getElem? (fun i=>?_)
 by_cases h:i<n*2
 ·have h2:i / 2<n:=by omega
  have hg:(List.replicate n zeroR)[i / 2]?=some zeroR:=by rw [List.getElem?_replicate,if_pos h2]
  have hi:i=i / 2*2+i % 2:=by omega
  have hr:=flat_at (f:=rrow) rrow_len (j:=i % 2) hg (by omega)
  rw [← hi] at hr
  rw [hr]
  have hm:i % 2=0∨i % 2=1:=by omega
  simp only [madeCells,Array.toList_map,List.getElem?_map,Array.toList_range]
  rw [List.getElem?_range h]
  rcases hm with hm | hm <;> simp [hm,zeroR,rrow]
 ·rw [List.getElem?_eq_none (by simp [madeCells];omega),List.getElem?_eq_none]
  have:((List.replicate n zeroR).flatMap rrow).length=n*2:=by
   clear h
   induction n with
   | zero=>rfl
   | succ n ih=>rw [List.replicate_succ,List.flatMap_cons,List.length_append,ih,rrow_len];omega
  omega
theorem flat_len (rs:List Rule):(rs.flatMap rrow).length=rs.length*2:=by
 induction rs with
 | nil=>rfl
 | cons x rs ih=>rw [List.flatMap_cons,List.length_append,ih,rrow_len,List.length_cons];omega
section
variable {P:Program}
theorem run_copy_pairs (w:World) (dT sT ty elem:TypeId) (g dLen dCap:Nat) (a:Addr) (sLen sCap:Nat) (cur:Array Value) (t:TypeId) (cs:List Value)
  (hu:P.underlying dT=some (.slice elem)) (hs:(P.info? elem).map (·.size)=some 2)
  (hg:w.heap[g]?=some (.cells cur t (0,0))) (hm:Nat.min sLen dLen=sLen) (hn:cs.length=sLen*2)
  (hsrc:∀ j v,cs[j]?=some v→w.cell? (a.add j)=some v) (hfit:0+cs.length≤cur.size) (h1:∀ v∈cs,v.oneCell'=true) :
  (Builtin.copy_ #[dT,sT] ty #[.slice (some ⟨g,0,none⟩) dLen dCap,.slice (some a) sLen sCap]).run P w =
    .ok (goInt sLen) (w.setRow g (cur.toList.take 0++cs++cur.toList.drop (0+cs.length)).toArray):=by
 have hl:=run_loadCells_list (P:=P) w a cs hsrc
 have hst:=run_storeCells_at P g 0 t cs 0 cur w hg (by simpa using hfit) h1
 cases hq:P.info? elem with
 | none=>simp [hq] at hs
 | some i =>
  have hi:i.size=2:=by simpa [hq] using hs
  simp [Builtin.copy_,run_underlying hu,Builtin.lenOf,Builtin.firstCells,sizeOf,typeInfo,hq,hi,hm,← hn,hl,hst]
theorem run_copy_zero (w:World) (dT sT ty elem:TypeId) (d a:Option Addr) (dLen dCap sCap:Nat) (hu:P.underlying dT=some (.slice elem)) (hs:(P.info? elem).map (·.size)=some 2) :
  (Builtin.copy_ #[dT,sT] ty #[.slice d dLen dCap,.slice a 0 sCap]).run P w=.ok (goInt 0) w:=by
 cases hq:P.info? elem with
 | none=>simp [hq] at hs
 | some i =>
  have hl:∀ (x:Addr),(loadCells x 0).run P w=.ok #[] w:=fun x=>by simpa using run_loadCells_list (P:=P) w x [] (by simp)
  cases d <;> cases a <;> simp [Builtin.copy_,run_underlying hu,Builtin.lenOf,Builtin.firstCells,sizeOf,typeInfo,hq,storeCells,hl]
theorem wpList_copy_zero {w:World} {ops:Array Oper} {rest:List Oper} {o:Oper} {a:Act} {Q:Exit→Act→World→Prop} (hgd:o.guard=none) (d s:Operand) (dT sT:TypeId)
  (ho:o.op=.call { callee:=.builtin .copy,args:=#[d,s],argTypes:=#[dT,sT] }) (elem:TypeId) (hu:P.underlying dT=some (.slice elem)) (hsz:(P.info? elem).map (·.size)=some 2)
  (dp sp:Option Addr) (dLen dCap sCap:Nat) (hd:a.eval d=.slice dp dLen dCap) (hs:a.eval s=.slice sp 0 sCap)
  (h:wpList P ops Q rest (a.put o.dst (goInt 0)) w):wpList P ops Q (o :: rest) a w:=by
 refine wpList_plain hgd fun K hK=>?_
 have hrun:=run_copy_zero (P:=P) w dT sT o.type elem dp sp dLen dCap sCap hu hsz
 unfold Oper.wp
 simp [execOp,ho,resolve,invoke,builtin,hd,hs,hrun,Result.andThen]
 exact hK _ _ h
theorem wpList_copy_pairs {w:World} {ops:Array Oper} {rest:List Oper} {o:Oper} {a:Act} {Q:Exit→Act→World→Prop} (hgd:o.guard=none) (d s:Operand) (dT sT:TypeId)
  (ho:o.op=.call { callee:=.builtin .copy,args:=#[d,s],argTypes:=#[dT,sT] }) (elem:TypeId) (hu:P.underlying dT=some (.slice elem)) (hsz:(P.info? elem).map (·.size)=some 2)
  (D g dLen dCap:Nat) (ad:Addr) (sLen sCap:Nat) (hd:a.eval d=.slice (some ⟨g,0,none⟩) dLen dCap) (hs:a.eval s=.slice (some ad) sLen sCap)
  (xs ys:List Value) (hown:w.ownsRow D elem 2 (.slice (some ⟨g,0,none⟩) dLen dCap) dLen (xs++ys)) (cs:List Value) (hcx:cs.length=xs.length) (hle:sLen≤dLen) (hn:cs.length=sLen*2)
  (hsrc':sLen≠0→∀ j v,cs[j]?=some v→w.cell? (ad.add j)=some v) (h1:∀ v∈cs,v.oneCell'=true)
  (h:∀ w',w'.ownsRow D elem 2 (.slice (some ⟨g,0,none⟩) dLen dCap) dLen (cs++ys)→Below D w w'→(∀ b,b≠g→w'.heap[b]?=w.heap[b]?)→wpList P ops Q rest (a.put o.dst (goInt sLen)) w'):wpList P ops Q (o :: rest) a w:=by
 by_cases hz:sLen=0
 ·subst hz
  have e1:cs=[]:=List.eq_nil_of_length_eq_zero (by omega)
  have e2:xs=[]:=List.eq_nil_of_length_eq_zero (by rw [← hcx,e1];rfl)
  subst e1
  subst e2
  exact wpList_copy_zero hgd d s dT sT ho elem hu hsz _ _ dLen dCap sCap hd hs (h w hown (Below.refl _ _) (fun _ _=>rfl))
 have hsrc:=hsrc' hz
 obtain ⟨hl0,h0⟩:=hown
 rcases h0 with ⟨h0,_⟩ | ⟨g',cap,cur,e,hb,hg,k1,k2,k3,k4⟩
 ·simp at h0
 simp only [Value.slice.injEq,Option.some.injEq,Addr.mk.injEq,true_and,and_true] at e
 obtain ⟨rfl,rfl⟩:=e
 have hcl:cs.length≤dLen*2:=by omega
 have hcs:dLen*2≤cur.size:=by rw [k3];omega
 have hrun:=run_copy_pairs (P:=P) w dT sT o.type elem g dLen dCap ad sLen sCap cur elem cs hu hsz hg (Nat.min_eq_left hle) hn hsrc (by omega) h1
 have hdr:(cur.toList.drop cs.length).take (dLen*2-cs.length)=ys:=by
  rw [← List.drop_take,k4,hcx,List.drop_left]
 have hW:=h (w.setRow g (cur.toList.take 0++cs++cur.toList.drop (0+cs.length)).toArray) ⟨by rw [List.length_append] at hl0 ⊢;omega,.inr ⟨g,dCap,_,rfl,hb,setRow_heap w g _ _ elem _ hg,k1,k2,?_,?_⟩⟩ ⟨rfl,rfl,rfl,by simp [World.setRow],fun b hbb=>setRow_other w g b _ (by omega)⟩ (fun b hbb=>setRow_other w g b _ hbb)
 ·refine wpList_plain hgd fun K hK=>?_
  unfold Oper.wp
  simp only [List.take_zero,List.nil_append,Nat.zero_add] at hrun hW
  simp [execOp,ho,resolve,invoke,builtin,hd,hs,hrun,Result.andThen]
  exact hK _ _ hW
 ·simp;omega
 ·simp only [List.take_zero,List.nil_append,Nat.zero_add]
  rw [List.take_append]
  rw [List.take_of_length_le hcl,hdr]
end
def fillT:Nat→List Rule
 | 0=>List.replicate 8 zeroR
 | d+1=>(fillT d).set d moreR
theorem fillT_len (d:Nat):(fillT d).length=8:=by
 induction d with
 | zero=>rfl
 | succ d ih=>show ((fillT d).set d moreR).length=8;rw [List.length_set,ih]
theorem RulesIn.cells {w:World} {ao:Option Addr} {rs:List Rule} (h:RulesIn w ao rs) {k:Nat} {x:Rule} (hx:rs[k]?=some x):∃ b off,ao=some ⟨b,off,none⟩∧b<w.heap.size∧w.cell? ⟨b,off+k*2,none⟩=some (.string x.1)∧w.cell? ⟨b,off+k*2+1,none⟩=some (.int .i64 x.2):=by
 rcases h.at_ with h0 | ⟨b,off,e,hb,hc⟩
 ·have:=(List.getElem?_eq_some_iff.1 hx).1;omega
 ·exact ⟨b,off,e,hb,(hc k x hx).1,(hc k x hx).2⟩
theorem RulesIn.flat {w:World} {ao:Option Addr} {rs:List Rule} (h:RulesIn w ao rs) {ad:Addr} (ha:ao=some ad) (h0:rs.length≠0):∀ j v,(rs.flatMap rrow)[j]?=some v→w.cell? (ad.add j)=some v:=by
 intro j v hj
 obtain ⟨k,x,hx,hjk⟩:=flat_get hj
 obtain ⟨b,off,e,_,c1,c2⟩:=h.cells hx
 rw [e] at ha
 obtain rfl:=Option.some.inj ha
 have e2:∀ i,(⟨b,off,none⟩:Addr).add i=⟨b,off+i,none⟩:=fun i=>by unfold Addr.add;split <;> simp_all
 rcases hjk with ⟨rfl,rfl⟩ | ⟨rfl,rfl⟩
 ·rw [e2];exact c1
 ·rw [e2];exact c2
def LentOut (W:World) (ra:Option Addr) (rs:List Rule) (v:Value) (W':World):Prop :=
 (ra=none∧v=.slice none 0 0∧W'=W)∨(ra≠none∧∃ g,v=.slice (some ⟨g,0,none⟩) (rs.length+8) (rs.length+8)∧W'.ownsRow W.heap.size 32 2 (.slice (some ⟨g,0,none⟩) (rs.length+8) (rs.length+8)) (rs.length+8) ((rs++List.replicate 8 moreR).flatMap rrow)∧Below W.heap.size W W')
theorem lentL {W:World} (ra:Option Addr) (rc:Nat) (rs:List Rule) (hn:RulesIn W ra rs) (hl:rs.length≤1048576) (hz:ra=none→rs=[]∧rc=0) :
  Calls Tryz.prog 105 #[.slice ra rs.length rc] W fun e W'=>∃ v,e=.returned v∧LentOut W ra rs v W':=by
 cases ra with
 | none =>
  obtain ⟨rfl,rfl⟩:=hz rfl
  clear hn hz
  show Calls Tryz.prog 105 #[.slice none 0 0] W _
  have hq:=Go.run_eql_slice_nil (P:=Tryz.prog) W 33 32 none 0 0 Tryz.underlying33
  go_enter Tryz.func105, Tryz.ntmps105
  go_wp2_with fail
  go_ret
  exact ⟨_,rfl,.inl ⟨rfl,rfl,rfl⟩⟩
 | some ad =>
  have HN:Hid (RulesIn W (some ad) rs):=hn
  obtain ⟨i0,hi,hz0,hz1,hz2⟩:=info_parts Tryz.info32
  have HI2:Hid ((Tryz.prog.info? 32).map (·.size)=some 2):=by show (Tryz.prog.info? 32).map (·.size)=some 2;rw [hi];simp [hz1]
  have hq:=Go.run_eql_slice_nil (P:=Tryz.prog) W 33 32 (some ad) rs.length rc Tryz.underlying33
  clear hn hz
  go_enter Tryz.func105, Tryz.ntmps105
  go_wp2_with (first | (refine wpList_make_full _ rfl (.tmp 11) (.tmp 11) 33 rfl W.heap.size 32 i0 (.agg #[.string ByteArray.empty,.int .i64 0]) 2 Tryz.underlying33 hi hz0 hz1 .i64 .i64 _ _ (rs.length+8) rfl rfl ?m1 ?m4 ?m2 ?m3 (Nat.le_refl _) ?_) | fail)
  case m1=>simp
  case m4=>simp
  case m2=>rw [hz2];omega
  case m3=>unfold maxLen;omega
  intro w1 hown1 hgrow1
  rw [made_rules] at hown1
  have hb1:Below W.heap.size W w1:=⟨hgrow1.os,hgrow1.tape,hgrow1.output,hgrow1.size,fun b hb=>hgrow1.block b hb (by simp)⟩
  have e8:List.replicate (rs.length+8) zeroR=List.replicate rs.length zeroR++List.replicate 8 zeroR:=by rw [List.replicate_append_replicate]
  rw [e8,List.flatMap_append] at hown1
  have HB1:Hid (Below W.heap.size W w1):=hb1
  have HO1:Hid (w1.ownsRow W.heap.size 32 2 (.slice (some ⟨W.heap.size,0,none⟩) (rs.length+8) (rs.length+8)) (rs.length+8) ((List.replicate rs.length zeroR).flatMap rrow++(List.replicate 8 zeroR).flatMap rrow)):=hown1
  clear hown1 hgrow1 hb1 e8
  have HSRC:Hid (rs.length≠0→∀ j v,(rs.flatMap rrow)[j]?=some v→w1.cell? (ad.add j)=some v):=fun h0=>(HN.out.since HB1.out).flat rfl h0
  go_wp2_with (first | (refine wpList_copy_pairs rfl (.tmp 13) (.tmp 14) 33 33 rfl 32 Tryz.underlying33 HI2.out W.heap.size W.heap.size (rs.length+8) (rs.length+8) ad rs.length rc rfl rfl _ _ HO1.out (rs.flatMap rrow) ?n1 ?n2 ?n3 HSRC.out (rrow_one rs) ?_) | fail)
  case n1=>rw [flat_len,flat_len,List.length_replicate]
  case n2=>omega
  case n3=>rw [flat_len]
  intro w2 hown2 hb2 hk2
  have HB2:Hid (Below W.heap.size W w2):=HB1.out.trans hb2
  have HO2:Hid (w2.ownsRow W.heap.size 32 2 (.slice (some ⟨W.heap.size,0,none⟩) (rs.length+8) (rs.length+8)) (rs.length+8) ((rs++fillT 0).flatMap rrow)):=by
   show World.ownsRow _ _ _ _ _ _ _
   rw [List.flatMap_append]
   exact hown2
  clear hown2 hb2 hk2 HO1 HB1 HSRC
  go_wp2_with fail
  go_loopw [5] (fun t wr=>∃ d:Nat,d≤8∧t=.int .i64 (rs.length+d:Nat)∧wr.ownsRow W.heap.size 32 2 (.slice (some ⟨W.heap.size,0,none⟩) (rs.length+8) (rs.length+8)) (rs.length+8) ((rs++fillT d).flatMap rrow)∧Below W.heap.size W wr) (fun t _=>rs.length+8-(intOf t).toNat)
  case atStart=>exact ⟨0,by omega,rfl,HO2.out,HB2.out⟩
  case round =>
   obtain ⟨d,hd,rfl,hown,hb⟩:=hrel
   by_cases hd8:d<8
   ·have hlj:rs.length+d<(rs++fillT d).length:=by rw [List.length_append,fillT_len];omega
    have hcj:∃ x:Rule,wr.cell? ⟨W.heap.size,(rs.length+d)*2,none⟩=some (.string x.1)∧wr.cell? ⟨W.heap.size,(rs.length+d)*2+1,none⟩=some (.int .i64 x.2):=by
     have hget:=List.getElem?_eq_getElem hlj
     exact ⟨_,by rw [hown.cellAt ((rs.length+d)*2) (by omega)];exact flat_at rrow_len (j:=0) hget (by omega),by rw [hown.cellAt ((rs.length+d)*2+1) (by omega)];exact flat_at rrow_len (j:=1) hget (by omega)⟩
    obtain ⟨u,cj,cj1⟩:=hcj
    have fj:∀ i,wr.frozen? ⟨W.heap.size,i,none⟩=false:=fun i=>hown.frozenAt i
    have R:=(hown.stored ((rs.length+d)*2) (.string moreR.1)).1.stored ((rs.length+d)*2+1) (.int .i64 moreR.2)
    have RR:Hid (((wr.setCell ⟨W.heap.size,(rs.length+d)*2,none⟩ (.string moreR.1)).setCell ⟨W.heap.size,(rs.length+d)*2+1,none⟩ (.int .i64 moreR.2)).ownsRow W.heap.size 32 2 (.slice (some ⟨W.heap.size,0,none⟩) (rs.length+8) (rs.length+8)) (rs.length+8) ((rs++fillT (d+1)).flatMap rrow)):=by
     have h:=R.1
     rw [flat_set2 (x:=moreR) hlj,List.set_append_right _ _ (by omega),Nat.add_sub_cancel_left] at h
     exact h
    have RB:Hid (Below W.heap.size W ((wr.setCell ⟨W.heap.size,(rs.length+d)*2,none⟩ (.string moreR.1)).setCell ⟨W.heap.size,(rs.length+d)*2+1,none⟩ (.int .i64 moreR.2))):=(hb.setCell (Nat.le_refl _) _).setCell (Nat.le_refl _) _
    unfold moreR at RR RB
    have ib:((rs.length+d:Nat):Int)<((rs.length+8:Nat):Int):=by omega
    have ib2:((rs.length:Nat):Int)+(d:Int)<((rs.length:Nat):Int)+8:=by omega
    clear hown hb R HO2 HB2
    generalize hjj:rs.length+d=jj at *
    go_wp2_with fail
    go_roundw
    case rel=>exact ⟨d+1,hd8,by rw [← Nat.add_assoc,hjj];go_num,RR.out,RB.out⟩
    case measure=>simp [intOf];omega
   ·obtain rfl:d=8:=by omega
    have HF:Hid (wr.ownsRow W.heap.size 32 2 (.slice (some ⟨W.heap.size,0,none⟩) (rs.length+8) (rs.length+8)) (rs.length+8) ((rs++List.replicate 8 moreR).flatMap rrow)):=hown
    have HBF:Hid (Below W.heap.size W wr):=hb
    clear hown hb HO2 HB2
    go_wp2_with fail
    go_ret
    exact ⟨_,rfl,.inr ⟨by simp,_,rfl,HF.out,HBF.out⟩⟩
open Go.RowKit Gv
theorem stillL {W:World} {D:Nat} (v:Value) (zs rs:List Rule) (ra:Option Addr) (rc:Nat) (hv:W.ownsRow D 32 2 v zs.length (zs.flatMap rrow)) (hn:RulesIn W ra rs) (hl:zs.length≤9000000) (hl2:rs.length≤9000000) (hz:∀ k x,zs[k]?=some x→rs[k]?=some x∨(rs.length≤k∧x=moreR)) :
  Calls Tryz.prog 108 #[v,.slice ra rs.length rc] W fun e W'=>e=.returned (.bool true)∧Below W.heap.size W W':=by
 obtain ⟨va,vc,rfl,_,hvc⟩:=rowForm hv
 have HVC:Hid (zs.length=0∨∃ g,va=some ⟨g,0,none⟩∧g<W.heap.size∧∀ j,j<zs.length*2→W.cell? ⟨g,j,none⟩=(zs.flatMap rrow)[j]?):=hvc
 have HN:Hid (RulesIn W ra rs):=hn
 have HZ:Hid (∀ k x,zs[k]?=some x→rs[k]?=some x∨(rs.length≤k∧x=moreR)):=hz
 clear hv hvc hn hz
 go_enter Tryz.func108, Tryz.ntmps108
 go_wp2_with fail
 go_loopw [5] (fun t wr=>∃ k:Nat,k≤zs.length∧t=.int .i64 k∧Below W.heap.size W wr) (fun t _=>zs.length-(intOf t).toNat)
 case atStart=>exact ⟨0,Nat.zero_le _,rfl,Below.refl _ _⟩
 case round =>
  obtain ⟨k,hk,rfl,hb⟩:=hrel
  obtain ⟨w1,rfl⟩:∃ w1:World,w1=wr:=⟨_,rfl⟩
  have HB:Hid (Below W.heap.size W w1):=hb
  clear hb
  by_cases hlt:k<zs.length
  ·rcases HVC.out with h0 | ⟨g,rfl,hgs,hc⟩
   ·omega
   have hget:zs[k]?=some zs[k]:=List.getElem?_eq_getElem hlt
   have q0:w1.cell? ⟨g,k*2,none⟩=some (.string zs[k].1):=by
    rw [HB.out.cell (p:=⟨g,k*2,none⟩) hgs,hc (k*2) (by omega)]
    exact flat_at rrow_len (j:=0) hget (by omega)
   have q1:w1.cell? ⟨g,k*2+1,none⟩=some (.int .i64 zs[k].2):=by
    rw [HB.out.cell (p:=⟨g,k*2+1,none⟩) hgs,hc (k*2+1) (by omega)]
    exact flat_at rrow_len (j:=1) hget (by omega)
   have hcase:=HZ.out k _ hget
   have ib:(k:Int)<(zs.length:Int):=by omega
   have hs1:=HB.out.size
   have hgl:g<w1.heap.size:=by omega
   have hgn:g≠w1.heap.size:=by omega
   clear hc hget
   generalize zs[k]=x at *
   obtain ⟨xs,xv⟩:=x
   simp only at q0 q1
   have hss:(xs.toList == xs.toList)=true:=by simp
   have hvv:(xv == xv)=true:=by simp
   by_cases hkr:k<rs.length
   ·have hx:rs[k]?=some (xs,xv):=by
     rcases hcase with h | ⟨h,_⟩
     ·exact h
     ·omega
    obtain ⟨b,off,rfl,hbs,c1,c2⟩:=HN.out.cells hx
    have d1:w1.cell? ⟨b,off+k*2,none⟩=some (.string xs):=(HB.out.cell (p:=⟨b,off+k*2,none⟩) hbs).trans c1
    have d2:w1.cell? ⟨b,off+k*2+1,none⟩=some (.int .i64 xv):=(HB.out.cell (p:=⟨b,off+k*2+1,none⟩) hbs).trans c2
    have ibr:(k:Int)<(rs.length:Int):=by omega
    have HB2:Hid (∀ o,Below W.heap.size W (w1.alloc o)):=fun o=>HB.out.alloc hs1 o
    have hbl:b<w1.heap.size:=by omega
    have hbn:b≠w1.heap.size:=by omega
    clear c1 c2 hcase hx
    go_wp2_with fail
    go_quiet (fail)
    go_wp2_with fail
    go_roundw
    case rel=>exact ⟨k+1,hlt,by go_num,below_drewN' (HB2.out _) nq⟩
    case measure=>simp [intOf];omega
   ·have hx:(xs,xv)=moreR:=by
     rcases hcase with h | ⟨_,h⟩
     ·have:=(List.getElem?_eq_some_iff.1 h).1;omega
     ·exact h
    unfold moreR at hx
    simp only [Prod.mk.injEq] at hx
    obtain ⟨rfl,rfl⟩:=hx
    have ibr:¬ (k:Int)<(rs.length:Int):=by omega
    have HB2:Hid (∀ o,Below W.heap.size W (w1.alloc o)):=fun o=>HB.out.alloc hs1 o
    clear hcase
    go_wp2_with fail
    go_quiet (fail)
    go_wp2_with fail
    go_roundw
    case rel=>exact ⟨k+1,hlt,by go_num,below_drewN' (HB2.out _) nq⟩
    case measure=>simp [intOf];omega
  ·have ib:¬ (k:Int)<(zs.length:Int):=by omega
   go_wp2_with fail
   go_ret
   exact ⟨rfl,HB.out⟩
theorem takenL {W:World} (rs:List Rule) (ra:Option Addr) (rc:Nat) (hn:RulesIn W ra rs) (hl:rs.length≤1048576) :
  Calls Tryz.prog 107 #[.slice ra rs.length rc] W fun e W'=>∃ ao c,e=.returned (.slice ao rs.length c)∧W'.ownsRow W.heap.size 207 2 (.slice ao rs.length c) rs.length (rs.flatMap rrow)∧Below W.heap.size W W':=by
 have HN:Hid (RulesIn W ra rs):=hn
 clear hn
 go_enter Tryz.func107, Tryz.ntmps107
 go_wp2_with fail
 go_loopw [3,4] (fun o t wr=>∃ (k:Nat) (ao:Option Addr) (c:Nat),k≤rs.length∧t=.int .i64 k∧o=.slice ao k c∧wr.ownsRow W.heap.size 207 2 (.slice ao k c) k ((rs.take k).flatMap rrow)∧Below W.heap.size W wr) (fun _ t _=>rs.length-(intOf t).toNat)
 case atStart=>exact ⟨0,none,0,Nat.zero_le _,rfl,rfl,World.ownsRow_nil _ _ _ _,Below.refl _ _⟩
 case round =>
  obtain ⟨k,ao,c,hk,rfl,rfl,hown,hb⟩:=hrel
  obtain ⟨w2,rfl⟩:∃ w2:World,w2=wr:=⟨_,rfl⟩
  have HZ:Hid (w2.ownsRow W.heap.size 207 2 (.slice ao k c) k ((rs.take k).flatMap rrow)):=hown
  have HB:Hid (Below W.heap.size W w2):=hb
  clear hown hb
  by_cases hlt:k<rs.length
  ·have hget:rs[k]?=some rs[k]:=List.getElem?_eq_getElem hlt
   have HTK:Hid (rs.take (k+1)=rs.take k++[rs[k]]):=List.take_succ_eq_append_getElem hlt
   obtain ⟨b,off,rfl,hbs,c1,c2⟩:=HN.out.cells hget
   have hs1:=HB.out.size
   have d1:w2.cell? ⟨b,off+k*2,none⟩=some (.string rs[k].1):=(HB.out.cell (p:=⟨b,off+k*2,none⟩) hbs).trans c1
   have d2:w2.cell? ⟨b,off+k*2+1,none⟩=some (.int .i64 rs[k].2):=(HB.out.cell (p:=⟨b,off+k*2+1,none⟩) hbs).trans c2
   have hgl:b<w2.heap.size:=by omega
   have hgl':b<w2.heap.size+1:=by omega
   have hgn:b≠w2.heap.size:=by omega
   have ib:(k:Int)<(rs.length:Int):=by omega
   have hk5:k≤4000001:=by omega
   clear c1 c2 hget
   generalize rs[k]=x at *
   obtain ⟨xs,xv⟩:=x
   simp only at d1 d2
   go_wp2_with fail
   go_region_law (first
    | (refine step_rule_append (w:=w2) (D:=W.heap.size) (n:=k) (icap:=c) (iao:=ao) (x:=(xs,xv)) rfl (.tmp 11) (.tmp 23) rfl (by simp [Act.eval]) (by simp [Act.eval]) HZ.out hk5 hs1 ?_
       intro gg ic w3 hown3 hgrow3 hat3 hlt3
       have hal:Below w2.heap.size w2 (w2.alloc (.cells (rrow (xs,xv)).toArray 207)).drew:=((Below.refl _ w2).alloc (Nat.le_refl _) _).drew
       have HB3:Hid (Below W.heap.size W w3):=HB.out.trans ⟨hgrow3.os.trans hal.os,hgrow3.tape.trans hal.tape,hgrow3.output.trans hal.output,Nat.le_trans hal.size hgrow3.size,fun i hi=>(hgrow3.block i (Nat.lt_of_lt_of_le (Nat.lt_of_lt_of_le hi hs1) hal.size) (fun e=>by have:=(HZ.out.lt i e.symm).1;omega)).trans (hal.block i (Nat.lt_of_lt_of_le hi hs1))⟩
       have HO3:Hid (w3.ownsRow W.heap.size 207 2 (.slice (some ⟨gg,0,none⟩) (k+1) ic) (k+1) ((rs.take (k+1)).flatMap rrow)):=by
        show World.ownsRow _ _ _ _ _ _ _
        rw [HTK.out,List.flatMap_append]
        simpa using hown3
       clear hown3 hgrow3 hat3 hlt3 hal))
   all_goals
    go_wp2_with fail
    go_roundw
    case rel=>exact ⟨k+1,_,_,hlt,by go_num,rfl,HO3.out,HB3.out⟩
    case measure=>simp [intOf];omega
  ·have ib:¬ (k:Int)<(rs.length:Int):=by omega
   have hkk:k=rs.length:=by omega
   have HE:Hid (w2.ownsRow W.heap.size 207 2 (.slice ao rs.length c) rs.length (rs.flatMap rrow)):=by
    have h:=HZ.out
    rw [hkk,List.take_of_length_le (Nat.le_refl _)] at h
    exact h
   clear HZ
   subst hkk
   go_wp2_with fail
   go_ret
   exact ⟨_,_,rfl,HE.out,HB.out⟩
end Go.Proofs.YtcedebpoihcbdaaGreatDoor
