/-
  How a grove lies in memory: a block with the slice of its nodes, a row of six cells a node; what a store into one of these cells does.
  How a grove's iterators, walkers and lists lie in memory: rows of structs, so many cells each.
-/
import Derived.Test.YtcedebpoihcbdaaGreatDoorMaths
import Derived.WalkKit
namespace Go.Proofs.YtcedebpoihcbdaaGreatDoor
open Go.RowKit Gv
theorem ret_int {k:IntKind} {a b:Int} (h:a=b):Ending.returned (.int k a)=.returned (.int k b):=by rw [h]
def rowOf (s:Fo) (kd:Nat→Value) (i:Nat):List Value :=
 [.int .i64 (s.par i),.int .i64 (s.ahd i),.int .i64 (s.bhd i),.int .i64 (s.fst i),.int .i64 (s.lst i),kd i]
def cellsF (L:Nat) (s:Fo) (kd:Nat→Value):List Value:=(List.range L).flatMap (rowOf s kd)
theorem cellsF_succ (L:Nat) (s:Fo) (kd:Nat→Value):cellsF (L+1) s kd=cellsF L s kd++rowOf s kd L:=by
 simp [cellsF,List.range_succ]
theorem cellsF_length (L:Nat) (s:Fo) (kd:Nat→Value):(cellsF L s kd).length=L*6:=by
 induction L with
 | zero=>rfl
 | succ L ih=>rw [cellsF_succ,List.length_append,ih];simp [rowOf];omega
theorem cellsF_at {L i j:Nat} (s:Fo) (kd:Nat→Value) (hi:i<L) (hj:j<6):(cellsF L s kd)[i*6+j]?=(rowOf s kd i)[j]?:=by
 induction L with
 | zero=>omega
 | succ L ih =>
  rw [cellsF_succ]
  by_cases e:i=L
  ·subst e
   rw [List.getElem?_append_right (by rw [cellsF_length];omega),cellsF_length]
   congr 1
   omega
  ·rw [List.getElem?_append_left (by rw [cellsF_length];omega)]
   exact ih (by omega)
theorem cellsF_congr {L:Nat} {s s':Fo} {kd kd':Nat→Value} (h:∀ i,i<L→rowOf s' kd' i=rowOf s kd i):cellsF L s' kd'=cellsF L s kd:=by
 induction L with
 | zero=>rfl
 | succ L ih=>rw [cellsF_succ,cellsF_succ,ih (fun i hi=>h i (by omega)),h L (by omega)]
theorem cellsF_set {L i j:Nat} {s s':Fo} {kd kd':Nat→Value} {v:Value} (hi:i<L) (hj:j<6) (ho:∀ x,x≠i→rowOf s' kd' x=rowOf s kd x) (hs:rowOf s' kd' i=(rowOf s kd i).set j v) :
  (cellsF L s kd).set (i*6+j) v=cellsF L s' kd':=by
 induction L with
 | zero=>omega
 | succ L ih =>
  rw [cellsF_succ,cellsF_succ,List.set_append,cellsF_length]
  by_cases e:i=L
  ·subst e
   rw [if_neg (by omega),hs,cellsF_congr (s:=s) (kd:=kd) (s':=s') (kd':=kd') (fun x hx=>ho x (by omega))]
   congr 2
   omega
  ·rw [if_pos (by omega),ih (by omega),ho L (fun e'=>e e'.symm)]
structure Re where
 pl:Int
 cl:Int
 lv:Value
 iv:Value
 wv:Value
def Re.more (r:Re):Re:={ r with pl:=r.pl+1 }
structure Fr (S:Nat→Prop) (a b:World):Prop where
 os:b.os=a.os
 tape:b.tape=a.tape
 output:b.output=a.output
 size:a.heap.size≤b.heap.size
 block:∀ i,i<a.heap.size→¬ S i→b.heap[i]?=a.heap[i]?
section
variable {S T:Nat→Prop} {a b c:World}
theorem Fr.refl (S:Nat→Prop) (a:World):Fr S a a:=⟨rfl,rfl,rfl,Nat.le_refl _,fun _ _ _=>rfl⟩
theorem Fr.trans (h:Fr S a b) (k:Fr S b c):Fr S a c :=
 ⟨k.os.trans h.os,k.tape.trans h.tape,k.output.trans h.output,Nat.le_trans h.size k.size,fun i hi hr=>(k.block i (Nat.lt_of_lt_of_le hi h.size) hr).trans (h.block i hi hr)⟩
theorem Fr.mono (h:Fr S a b) (hS:∀ i,S i→T i):Fr T a b:=⟨h.os,h.tape,h.output,h.size,fun i hi hr=>h.block i hi (fun e=>hr (hS i e))⟩
theorem Fr.drew (h:Fr S a b):Fr S a b.drew:=⟨h.os,h.tape,h.output,h.size,h.block⟩
theorem Fr.alloc (h:Fr S a b) (o:Obj):Fr S a (b.alloc o) :=
 h.trans ⟨rfl,rfl,rfl,by simp,fun k hk _=>Below.heap_alloc _ _ _ hk⟩
theorem Fr.setCell (h:Fr S a b) {p:Addr} (hp:S p.block) (u:Value):Fr S a (b.setCell p u) :=
 h.trans ⟨rfl,rfl,rfl,by simp [World.setCell],fun k _ hk=>Below.heap_setCell _ _ _ _ (fun e=>hk (e ▸ hp))⟩
theorem Fr.of_below (h:Below a.heap.size a b):Fr S a b:=⟨h.os,h.tape,h.output,h.size,fun i hi _=>h.block i hi⟩
theorem Fr.of_grown {r:Option Nat} (h:a.grownBy b r) (hr:∀ k,r=some k→S k):Fr S a b:=⟨h.os,h.tape,h.output,h.size,fun i hi hs=>h.block i hi (fun e=>hs (hr i e.symm))⟩
theorem Fr.below {D:Nat} (h:Fr S a b) (hD:D≤a.heap.size) (hS:∀ i,S i→D≤i):Below D a b :=
 ⟨h.os,h.tape,h.output,h.size,fun k hk=>h.block k (by omega) (fun e=>by have:=hS k e;omega)⟩
theorem Fr.cell (h:Fr S a b) {p:Addr} {v:Value} (hc:a.cell? p=some v) (hn:¬ S p.block):b.cell? p=some v :=
 (World.cell?_of_block (h.block p.block (World.block_lt_of_cell? a p hc) hn)).trans hc
end
theorem below_grownBy {w w':World} (h:Below w.heap.size w w') (r:Option Nat):w.grownBy w' r:=⟨h.os,h.tape,h.output,h.size,fun k hk _=>h.block k hk⟩
theorem ownsRow_same {w w':World} {base:Nat} {e:TypeId} {size:Nat} {v:Value} {n:Nat} {xs:List Value} (h:w.ownsRow base e size v n xs) (hb:∀ g,v.ownBlock=some g→w'.heap[g]?=w.heap[g]?):w'.ownsRow base e size v n xs:=by
 obtain ⟨h1,h2⟩:=h
 refine ⟨h1,?_⟩
 rcases h2 with h2 | ⟨g,cap,cur,hv,hg,hh,r⟩
 ·exact .inl h2
 ·subst hv
  exact .inr ⟨g,cap,cur,rfl,hg,by rw [hb g (by simp [Value.ownBlock])];exact hh,r⟩
theorem ownsRow_fr {S:Nat→Prop} {w w':World} {base:Nat} {e:TypeId} {size:Nat} {v:Value} {n:Nat} {xs:List Value} (h:w.ownsRow base e size v n xs) (hf:Fr S w w') (hn:∀ g,v.ownBlock=some g→¬ S g):w'.ownsRow base e size v n xs :=
 ownsRow_same h (fun g hg=>hf.block g (h.lt g hg).2 (hn g hg))
theorem ownsRow_since {w w':World} {base:Nat} {e:TypeId} {size:Nat} {v:Value} {n:Nat} {xs:List Value} (h:w.ownsRow base e size v n xs) (hf:Below w.heap.size w w'):w'.ownsRow base e size v n xs :=
 ownsRow_same h (fun g hg=>hf.block g (h.lt g hg).2)
theorem cells_of {w:World} {g:Nat} {cs:Array Value} {t:TypeId} {fr:Nat × Nat} (h:w.heap[g]?=some (.cells cs t fr)) (i:Nat):w.cell? ⟨g,i,none⟩=cs[i]?:=by simp [World.cell?,h]
theorem frees_of {w:World} {g:Nat} {cs:Array Value} {t:TypeId} (h:w.heap[g]?=some (.cells cs t (0,0))) (i:Nat):w.frozen? ⟨g,i,none⟩=false:=by simp [World.frozen?,h]
theorem cells_setCell {w:World} {b i:Nat} {cs:Array Value} {u:Value} {t:TypeId} {fr:Nat × Nat} (h:w.heap[b]?=some (.cells cs t fr)):(w.setCell ⟨b,i,none⟩ u).heap[b]?=some (.cells (cs.setIfInBounds i u) t fr):=by
 have hlt:=lt_of_block h
 have h':w.heap[b]=.cells cs t fr:=by simpa [Array.getElem?_eq_getElem hlt] using h
 show (w.heap.modify b _)[b]?=_
 rw [Array.getElem?_eq_getElem (by simpa using hlt),Array.getElem_modify_self,h']
 rfl
structure Held (w:World) (B gb nb cap L:Nat) (s:Fo) (kd:Nat→Value) (r:Re):Prop where
 g:w.heap[gb]?=some (.cells #[.slice (some ⟨nb,0,none⟩) L cap,.int .i64 r.pl,.int .i64 r.cl,r.lv,r.iv,r.wv] 72 (0,0))
 row:w.ownsRow B 133 6 (.slice (some ⟨nb,0,none⟩) L cap) L (cellsF L s kd)
 hB:B≤gb
 hL:L≤301
def gn (gb nb:Nat):Nat→Prop:=fun i=>i=gb∨i=nb
section
variable {w w':World} {B gb nb cap L:Nat} {s s':Fo} {kd kd':Nat→Value} {r:Re}
theorem Held.block (h:Held w B gb nb cap L s kd r):∃ cur,w.heap[nb]?=some (.cells cur 133 (0,0))∧B≤nb:=by
 rcases h.row.2 with ⟨h',_⟩ | ⟨g',cap',cur,h',hb,hg,_⟩
 ·simp at h'
 ·simp only [Value.slice.injEq,Option.some.injEq,Addr.mk.injEq,and_true,true_and] at h'
  obtain ⟨rfl,rfl⟩:=h'
  exact ⟨cur,hg,hb⟩
theorem Held.ne (h:Held w B gb nb cap L s kd r):gb≠nb:=by
 obtain ⟨cur,hn,_⟩:=h.block
 rintro rfl
 have:=h.g
 rw [hn] at this
 simp at this
theorem Held.ltg (h:Held w B gb nb cap L s kd r):gb<w.heap.size:=lt_of_block h.g
theorem Held.ltn (h:Held w B gb nb cap L s kd r):nb<w.heap.size:=by obtain ⟨cur,hn,_⟩:=h.block;exact lt_of_block hn
theorem Held.Bn (h:Held w B gb nb cap L s kd r):B≤nb:=by obtain ⟨cur,_,hb⟩:=h.block;exact hb
theorem Held.gcell (h:Held w B gb nb cap L s kd r):w.cell? ⟨gb,0,none⟩=some (.slice (some ⟨nb,0,none⟩) L cap):=cells_of h.g 0
theorem Held.gpl (h:Held w B gb nb cap L s kd r):w.cell? ⟨gb,1,none⟩=some (.int .i64 r.pl):=cells_of h.g 1
theorem Held.gcl (h:Held w B gb nb cap L s kd r):w.cell? ⟨gb,2,none⟩=some (.int .i64 r.cl):=cells_of h.g 2
theorem Held.glv (h:Held w B gb nb cap L s kd r):w.cell? ⟨gb,3,none⟩=some r.lv:=cells_of h.g 3
theorem Held.giv (h:Held w B gb nb cap L s kd r):w.cell? ⟨gb,4,none⟩=some r.iv:=cells_of h.g 4
theorem Held.gwv (h:Held w B gb nb cap L s kd r):w.cell? ⟨gb,5,none⟩=some r.wv:=cells_of h.g 5
theorem Held.gfree (h:Held w B gb nb cap L s kd r) (j:Nat):w.frozen? ⟨gb,j,none⟩=false:=frees_of h.g j
theorem Held.free (h:Held w B gb nb cap L s kd r) (j:Nat):w.frozen? ⟨nb,j,none⟩=false:=h.row.frozenAt j
theorem Held.cellAt (h:Held w B gb nb cap L s kd r) {i j:Nat} (hi:i<L) (hj:j<6):w.cell? ⟨nb,i*6+j,none⟩=(rowOf s kd i)[j]?:=by
 rw [h.row.cellAt (i*6+j) (by omega),cellsF_at s kd hi hj]
theorem Held.cpar (h:Held w B gb nb cap L s kd r) {i:Nat} (hi:i<L):w.cell? ⟨nb,i*6,none⟩=some (.int .i64 (s.par i)):=h.cellAt (j:=0) hi (by omega)
theorem Held.cahd (h:Held w B gb nb cap L s kd r) {i:Nat} (hi:i<L):w.cell? ⟨nb,i*6+1,none⟩=some (.int .i64 (s.ahd i)):=h.cellAt (j:=1) hi (by omega)
theorem Held.cbhd (h:Held w B gb nb cap L s kd r) {i:Nat} (hi:i<L):w.cell? ⟨nb,i*6+2,none⟩=some (.int .i64 (s.bhd i)):=h.cellAt (j:=2) hi (by omega)
theorem Held.cfst (h:Held w B gb nb cap L s kd r) {i:Nat} (hi:i<L):w.cell? ⟨nb,i*6+3,none⟩=some (.int .i64 (s.fst i)):=h.cellAt (j:=3) hi (by omega)
theorem Held.clst (h:Held w B gb nb cap L s kd r) {i:Nat} (hi:i<L):w.cell? ⟨nb,i*6+4,none⟩=some (.int .i64 (s.lst i)):=h.cellAt (j:=4) hi (by omega)
theorem Held.ckd (h:Held w B gb nb cap L s kd r) {i:Nat} (hi:i<L):w.cell? ⟨nb,i*6+5,none⟩=some (kd i):=h.cellAt (j:=5) hi (by omega)
theorem Held.same (h:Held w B gb nb cap L s kd r) (hg:w'.heap[gb]?=w.heap[gb]?) (hn:w'.heap[nb]?=w.heap[nb]?):Held w' B gb nb cap L s kd r :=
 ⟨by rw [hg];exact h.g,ownsRow_same h.row (fun g e=>by simp [Value.ownBlock] at e;subst e;exact hn),h.hB,h.hL⟩
theorem Held.below {D:Nat} (h:Held w B gb nb cap L s kd r) (hb:Below D w w') (hg:gb<D) (hn:nb<D):Held w' B gb nb cap L s kd r :=
 h.same (hb.block gb hg) (hb.block nb hn)
theorem Held.since (h:Held w B gb nb cap L s kd r) (hb:Below w.heap.size w w'):Held w' B gb nb cap L s kd r:=h.below hb h.ltg h.ltn
theorem Held.fr {S:Nat→Prop} (h:Held w B gb nb cap L s kd r) (hf:Fr S w w') (hg:¬ S gb) (hn:¬ S nb):Held w' B gb nb cap L s kd r :=
 h.same (hf.block gb h.ltg hg) (hf.block nb h.ltn hn)
theorem Held.alloc (h:Held w B gb nb cap L s kd r) (o:Obj):Held (w.alloc o) B gb nb cap L s kd r :=
 h.since ((Below.refl _ _).alloc (Nat.le_refl _) o)
theorem Held.congr (h:Held w B gb nb cap L s kd r) (hr:∀ i,i<L→rowOf s' kd' i=rowOf s kd i):Held w B gb nb cap L s' kd' r :=
 ⟨h.g,by rw [cellsF_congr hr];exact h.row,h.hB,h.hL⟩
theorem Held.store (h:Held w B gb nb cap L s kd r) {i j:Nat} {v:Value} (hi:i<L) (hj:j<6) (ho:∀ x,x≠i→rowOf s' kd' x=rowOf s kd x) (hs:rowOf s' kd' i=(rowOf s kd i).set j v) :
  Held (w.setCell ⟨nb,i*6+j,none⟩ v) B gb nb cap L s' kd' r∧Fr (gn gb nb) w (w.setCell ⟨nb,i*6+j,none⟩ v):=by
 have hst:=h.row.stored (i*6+j) v
 refine ⟨⟨?_,?_,h.hB,h.hL⟩,(Fr.refl _ _).setCell (.inr rfl) _⟩
 ·rw [heap_setCell_other w _ gb v h.ne];exact h.g
 ·rw [cellsF_set hi hj ho hs] at hst;exact hst.1
def Fo.setA (s:Fo) (i v:Nat):Fo:={ s with ahd:=up s.ahd i v }
def Fo.setB (s:Fo) (i v:Nat):Fo:={ s with bhd:=up s.bhd i v }
def Fo.setF (s:Fo) (i v:Nat):Fo:={ s with fst:=up s.fst i v }
def Fo.setL (s:Fo) (i v:Nat):Fo:={ s with lst:=up s.lst i v }
theorem Held.putP (h:Held w B gb nb cap L s kd r) {i:Nat} (v:Nat) (hi:i<L):Held (w.setCell ⟨nb,i*6,none⟩ (.int .i64 v)) B gb nb cap L (Fo.setPar s i v) kd r∧Fr (gn gb nb) w (w.setCell ⟨nb,i*6,none⟩ (.int .i64 v)) :=
 h.store (j:=0) hi (by omega) (fun x hx=>by simp [rowOf,Fo.setPar,up_other _ _ _ hx]) (by simp [rowOf,Fo.setPar,up_same])
theorem Held.putA (h:Held w B gb nb cap L s kd r) {i:Nat} (v:Nat) (hi:i<L):Held (w.setCell ⟨nb,i*6+1,none⟩ (.int .i64 v)) B gb nb cap L (Fo.setA s i v) kd r∧Fr (gn gb nb) w (w.setCell ⟨nb,i*6+1,none⟩ (.int .i64 v)) :=
 h.store (j:=1) hi (by omega) (fun x hx=>by simp [rowOf,Fo.setA,up_other _ _ _ hx]) (by simp [rowOf,Fo.setA,up_same])
theorem Held.putB (h:Held w B gb nb cap L s kd r) {i:Nat} (v:Nat) (hi:i<L):Held (w.setCell ⟨nb,i*6+2,none⟩ (.int .i64 v)) B gb nb cap L (Fo.setB s i v) kd r∧Fr (gn gb nb) w (w.setCell ⟨nb,i*6+2,none⟩ (.int .i64 v)) :=
 h.store (j:=2) hi (by omega) (fun x hx=>by simp [rowOf,Fo.setB,up_other _ _ _ hx]) (by simp [rowOf,Fo.setB,up_same])
theorem Held.putF (h:Held w B gb nb cap L s kd r) {i:Nat} (v:Nat) (hi:i<L):Held (w.setCell ⟨nb,i*6+3,none⟩ (.int .i64 v)) B gb nb cap L (Fo.setF s i v) kd r∧Fr (gn gb nb) w (w.setCell ⟨nb,i*6+3,none⟩ (.int .i64 v)) :=
 h.store (j:=3) hi (by omega) (fun x hx=>by simp [rowOf,Fo.setF,up_other _ _ _ hx]) (by simp [rowOf,Fo.setF,up_same])
theorem Held.putL (h:Held w B gb nb cap L s kd r) {i:Nat} (v:Nat) (hi:i<L):Held (w.setCell ⟨nb,i*6+4,none⟩ (.int .i64 v)) B gb nb cap L (Fo.setL s i v) kd r∧Fr (gn gb nb) w (w.setCell ⟨nb,i*6+4,none⟩ (.int .i64 v)) :=
 h.store (j:=4) hi (by omega) (fun x hx=>by simp [rowOf,Fo.setL,up_other _ _ _ hx]) (by simp [rowOf,Fo.setL,up_same])
theorem Held.count (h:Held w B gb nb cap L s kd r):Held (w.setCell ⟨gb,1,none⟩ (.int .i64 (r.pl+1))) B gb nb cap L s kd r.more∧Fr (gn gb nb) w (w.setCell ⟨gb,1,none⟩ (.int .i64 (r.pl+1))):=by
 refine ⟨⟨cells_setCell h.g,?_,h.hB,h.hL⟩,(Fr.refl _ _).setCell (.inl rfl) _⟩
 exact ownsRow_setCell_other h.row (by simp [Value.ownBlock];exact fun e=>h.ne e.symm) _
theorem Held.drew (h:Held w B gb nb cap L s kd r):Held w.drew B gb nb cap L s kd r:=⟨h.g,h.row.drew,h.hB,h.hL⟩
theorem Held.gnB (h:Held w B gb nb cap L s kd r):∀ i,gn gb nb i→B≤i:=by
 rintro i (rfl | rfl)
 ·exact h.hB
 ·exact h.Bn
theorem join_eq (s:Fo) (p a b:Nat):s.join p a b =
  (if b=0 then Fo.setL (if a=0 then Fo.setF s p b else Fo.setB s a b) p a else Fo.setA (if a=0 then Fo.setF s p b else Fo.setB s a b) b a):=by
 by_cases ha:a=0 <;> by_cases hb:b=0 <;> simp [Fo.join,Fo.setA,Fo.setB,Fo.setF,Fo.setL,ha,hb]
end
open Go.RowKit Gv
section
variable {α:Type} {f:α→List Value} {k:Nat}
theorem flat_length (hf:∀ a,(f a).length=k) (l:List α):(l.flatMap f).length=l.length*k:=by
 induction l with
 | nil=>simp
 | cons a l ih=>rw [List.flatMap_cons,List.length_append,hf,ih,List.length_cons,Nat.add_mul];omega
theorem flat_at (hf:∀ a,(f a).length=k) {l:List α} {i j:Nat} {a:α} (ha:l[i]?=some a) (hj:j<k):(l.flatMap f)[i*k+j]?=(f a)[j]?:=by
 induction l generalizing i with
 | nil=>simp at ha
 | cons b l ih =>
  rw [List.flatMap_cons]
  cases i with
  | zero =>
   simp only [List.getElem?_cons_zero,Option.some.injEq] at ha
   subst ha
   rw [List.getElem?_append_left (by rw [hf];omega)]
   congr 1
   omega
  | succ i =>
   have e:(i+1)*k+j=k+(i*k+j):=by rw [Nat.add_mul];omega
   rw [List.getElem?_append_right (by rw [hf,e];omega),hf,e,Nat.add_sub_cancel_left]
   exact ih (by simpa using ha)
theorem flat_set (hf:∀ a,(f a).length=k) {l:List α} {i j:Nat} {a a':α} {v:Value} (ha:l[i]?=some a) (hj:j<k) (hs:f a'=(f a).set j v):(l.flatMap f).set (i*k+j) v=(l.set i a').flatMap f:=by
 induction l generalizing i with
 | nil=>simp at ha
 | cons b l ih =>
  rw [List.flatMap_cons]
  cases i with
  | zero =>
   simp only [List.getElem?_cons_zero,Option.some.injEq] at ha
   subst ha
   rw [List.set_append,if_pos (by rw [hf];omega),List.set_cons_zero,List.flatMap_cons,hs]
   congr 2
   omega
  | succ i =>
   have e:(i+1)*k+j=k+(i*k+j):=by rw [Nat.add_mul];omega
   rw [List.set_append,if_neg (by rw [hf,e];omega),hf,e,Nat.add_sub_cancel_left,ih (by simpa using ha),List.set_cons_succ,List.flatMap_cons]
end
structure It where
 spot:Spot
 see:Int
 rules:Value
 rl:List (ByteArray × Int):=[]
def It.row (i:It):List Value:=[.int .i64 i.spot.root,.int .i64 i.see,i.rules,.int .i64 i.spot.place,.bool i.spot.ahead]
theorem It.row_len (i:It):i.row.length=5:=rfl
def It.leave (N:Nat) (s:Fo) (c:Nat) (i:It):It:={ i with spot:=i.spot.leave N s c }
structure Its (w:World) (B:Nat) (v:Value) (its:List It):Prop where
 row:w.ownsRow B 85 5 v its.length (its.flatMap It.row)
 few:its.length≤50
theorem Its.same {w w':World} {B:Nat} {v:Value} {its:List It} (h:Its w B v its) (hb:∀ g,v.ownBlock=some g→w'.heap[g]?=w.heap[g]?):Its w' B v its:=⟨ownsRow_same h.row hb,h.few⟩
theorem Its.since {w w':World} {B:Nat} {v:Value} {its:List It} (h:Its w B v its) (hb:Below w.heap.size w w'):Its w' B v its:=⟨ownsRow_since h.row hb,h.few⟩
theorem Its.fr {S:Nat→Prop} {w w':World} {B:Nat} {v:Value} {its:List It} (h:Its w B v its) (hf:Fr S w w') (hn:∀ g,v.ownBlock=some g→¬ S g):Its w' B v its:=⟨ownsRow_fr h.row hf hn,h.few⟩
theorem row_form {w:World} {base:Nat} {e:TypeId} {size:Nat} {v:Value} {n:Nat} {xs:List Value} (h:w.ownsRow base e size v n xs) :
  (v=.slice none 0 0∧n=0)∨∃ g cap,v=.slice (some ⟨g,0,none⟩) n cap∧base≤g∧g<w.heap.size∧(∃ cur,w.heap[g]?=some (.cells cur e (0,0)))∧n≤cap:=by
 rcases h.2 with ⟨h',h''⟩ | ⟨g,cap,cur,h',hb,hg,hn,_⟩
 ·exact .inl ⟨h',h''⟩
 ·exact .inr ⟨g,cap,h',hb,lt_of_block hg,⟨cur,hg⟩,hn⟩
theorem row_apart {w:World} {base:Nat} {e e':TypeId} {size n:Nat} {v:Value} {xs:List Value} {g:Nat} {cur:Array Value} {fr:Nat × Nat} (h:w.ownsRow base e size v n xs) (hg:w.heap[g]?=some (.cells cur e' fr)) (hne:e≠e'):v.ownBlock≠some g:=by
 intro hv
 rcases h.2 with ⟨rfl,_⟩ | ⟨g',cap,cur',rfl,_,hg',_⟩
 ·simp [Value.ownBlock] at hv
 ·simp only [Value.ownBlock,Option.some.injEq] at hv
  subst hv
  rw [hg'] at hg
  simp at hg
  exact hne hg.2.1
theorem row_n {w:World} {base:Nat} {e:TypeId} {size n m cap g:Nat} {xs:List Value} (h:w.ownsRow base e size (.slice (some ⟨g,0,none⟩) n cap) m xs):n=m:=by
 rcases row_form h with ⟨h',_⟩ | ⟨g',cap',h',_⟩
 ·simp at h'
 ·simp at h';exact h'.2.1
theorem Its.cellAt {w:World} {B g cap n:Nat} {its:List It} (h:Its w B (.slice (some ⟨g,0,none⟩) n cap) its) {i j:Nat} {it:It} (hi:its[i]?=some it) (hj:j<5):w.cell? ⟨g,i*5+j,none⟩=it.row[j]?:=by
 have hl:i<its.length:=(List.getElem?_eq_some_iff.1 hi).1
 obtain rfl:=row_n h.row
 rw [h.row.cellAt (i*5+j) (by omega),flat_at It.row_len hi hj]
theorem Its.free {w:World} {B g cap n:Nat} {its:List It} (h:Its w B (.slice (some ⟨g,0,none⟩) n cap) its) (j:Nat):w.frozen? ⟨g,j,none⟩=false:=by
 obtain rfl:=row_n h.row
 exact h.row.frozenAt j
theorem Its.store {w:World} {B g cap n:Nat} {its:List It} (h:Its w B (.slice (some ⟨g,0,none⟩) n cap) its) {i j:Nat} {it it':It} {v:Value} (hi:its[i]?=some it) (hj:j<5) (hs:it'.row=it.row.set j v) :
  Its (w.setCell ⟨g,i*5+j,none⟩ v) B (.slice (some ⟨g,0,none⟩) n cap) (its.set i it'):=by
 obtain rfl:=row_n h.row
 have hst:=(h.row.stored (i*5+j) v).1
 rw [flat_set It.row_len hi hj hs] at hst
 exact ⟨by rw [List.length_set];exact hst,by rw [List.length_set];exact h.few⟩
def It.Sound (N:Nat) (s:Fo) (i:It):Prop:=1≤i.spot.root∧i.spot.root≤N∧1≤i.spot.place∧i.spot.place≤N∧Desc s.par i.spot.place i.spot.root
structure Wk where
 root:Nat
 see:Int
 rules:Value
 here:Nat
 rl:List (ByteArray × Int):=[]
def Wk.row (i:Wk):List Value:=[.int .i64 i.root,.int .i64 i.see,i.rules,.int .i64 i.here]
theorem Wk.row_len (i:Wk):i.row.length=4:=rfl
structure Wks (w:World) (B:Nat) (v:Value) (ws:List Wk):Prop where
 row:w.ownsRow B 88 4 v ws.length (ws.flatMap Wk.row)
 few:ws.length≤50
theorem Wks.same {w w':World} {B:Nat} {v:Value} {ws:List Wk} (h:Wks w B v ws) (hb:∀ g,v.ownBlock=some g→w'.heap[g]?=w.heap[g]?):Wks w' B v ws:=⟨ownsRow_same h.row hb,h.few⟩
theorem Wks.since {w w':World} {B:Nat} {v:Value} {ws:List Wk} (h:Wks w B v ws) (hb:Below w.heap.size w w'):Wks w' B v ws:=⟨ownsRow_since h.row hb,h.few⟩
theorem Wks.fr {S:Nat→Prop} {w w':World} {B:Nat} {v:Value} {ws:List Wk} (h:Wks w B v ws) (hf:Fr S w w') (hn:∀ g,v.ownBlock=some g→¬ S g):Wks w' B v ws:=⟨ownsRow_fr h.row hf hn,h.few⟩
theorem Wks.cellAt {w:World} {B g cap n:Nat} {ws:List Wk} (h:Wks w B (.slice (some ⟨g,0,none⟩) n cap) ws) {i j:Nat} {wk:Wk} (hi:ws[i]?=some wk) (hj:j<4):w.cell? ⟨g,i*4+j,none⟩=wk.row[j]?:=by
 have hl:i<ws.length:=(List.getElem?_eq_some_iff.1 hi).1
 obtain rfl:=row_n h.row
 rw [h.row.cellAt (i*4+j) (by omega),flat_at Wk.row_len hi hj]
theorem Wks.free {w:World} {B g cap n:Nat} {ws:List Wk} (h:Wks w B (.slice (some ⟨g,0,none⟩) n cap) ws) (j:Nat):w.frozen? ⟨g,j,none⟩=false:=by
 obtain rfl:=row_n h.row
 exact h.row.frozenAt j
theorem Wks.store {w:World} {B g cap n:Nat} {ws:List Wk} (h:Wks w B (.slice (some ⟨g,0,none⟩) n cap) ws) {i j:Nat} {wk wk':Wk} {v:Value} (hi:ws[i]?=some wk) (hj:j<4) (hs:wk'.row=wk.row.set j v) :
  Wks (w.setCell ⟨g,i*4+j,none⟩ v) B (.slice (some ⟨g,0,none⟩) n cap) (ws.set i wk'):=by
 obtain rfl:=row_n h.row
 have hst:=(h.row.stored (i*4+j) v).1
 rw [flat_set Wk.row_len hi hj hs] at hst
 exact ⟨by rw [List.length_set];exact hst,by rw [List.length_set];exact h.few⟩
end Go.Proofs.YtcedebpoihcbdaaGreatDoor
