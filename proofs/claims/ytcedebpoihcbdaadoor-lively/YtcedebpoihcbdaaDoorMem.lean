/-
  How a grove lies in memory: a block with the slice of its nodes, a row of six cells a node; what a store into one of these cells does.
-/
import Derived.Test.YtcedebpoihcbdaaDoorMath2
import Derived.WalkKit
namespace Go.Proofs.YtcedebpoihcbdaaDoor
open Go.RowKit Gv

theorem ret_int {k : IntKind} {a b : Int} (h : a = b) : Ending.returned (.int k a) = .returned (.int k b) := by rw [h]

def rowOf (s : Fo) (kd : Nat → Value) (i : Nat) : List Value :=
  [.int .i64 (s.par i), .int .i64 (s.ahd i), .int .i64 (s.bhd i), .int .i64 (s.fst i), .int .i64 (s.lst i), kd i]

def cellsF (L : Nat) (s : Fo) (kd : Nat → Value) : List Value := (List.range L).flatMap (rowOf s kd)

theorem cellsF_succ (L : Nat) (s : Fo) (kd : Nat → Value) : cellsF (L + 1) s kd = cellsF L s kd ++ rowOf s kd L := by
  simp [cellsF, List.range_succ]

theorem cellsF_length (L : Nat) (s : Fo) (kd : Nat → Value) : (cellsF L s kd).length = L * 6 := by
  induction L with
  | zero => rfl
  | succ L ih => rw [cellsF_succ, List.length_append, ih]; simp [rowOf]; omega

theorem cellsF_at {L i j : Nat} (s : Fo) (kd : Nat → Value) (hi : i < L) (hj : j < 6) : (cellsF L s kd)[i * 6 + j]? = (rowOf s kd i)[j]? := by
  induction L with
  | zero => omega
  | succ L ih =>
    rw [cellsF_succ]
    by_cases e : i = L
    · subst e
      rw [List.getElem?_append_right (by rw [cellsF_length]; omega), cellsF_length]
      congr 1
      omega
    · rw [List.getElem?_append_left (by rw [cellsF_length]; omega)]
      exact ih (by omega)

theorem cellsF_congr {L : Nat} {s s' : Fo} {kd kd' : Nat → Value} (h : ∀ i, i < L → rowOf s' kd' i = rowOf s kd i) : cellsF L s' kd' = cellsF L s kd := by
  induction L with
  | zero => rfl
  | succ L ih => rw [cellsF_succ, cellsF_succ, ih (fun i hi => h i (by omega)), h L (by omega)]

theorem cellsF_set {L i j : Nat} {s s' : Fo} {kd kd' : Nat → Value} {v : Value} (hi : i < L) (hj : j < 6) (ho : ∀ x, x ≠ i → rowOf s' kd' x = rowOf s kd x) (hs : rowOf s' kd' i = (rowOf s kd i).set j v) :
    (cellsF L s kd).set (i * 6 + j) v = cellsF L s' kd' := by
  induction L with
  | zero => omega
  | succ L ih =>
    rw [cellsF_succ, cellsF_succ, List.set_append, cellsF_length]
    by_cases e : i = L
    · subst e
      rw [if_neg (by omega), hs, cellsF_congr (s := s) (kd := kd) (s' := s') (kd' := kd') (fun x hx => ho x (by omega))]
      congr 2
      omega
    · rw [if_pos (by omega), ih (by omega), ho L (fun e' => e e'.symm)]

/-- What of a grove is not its nodes: the two counts of its stamp, and the values of its rows of lists, iterators and walkers. -/
structure Re where
  pl : Int
  cl : Int
  lv : Value
  iv : Value
  wv : Value

def Re.more (r : Re) : Re := { r with pl := r.pl + 1 }

/-- Of all blocks that there were, only those of S may have turned. -/
structure Fr (S : Nat → Prop) (a b : World) : Prop where
  os : b.os = a.os
  tape : b.tape = a.tape
  output : b.output = a.output
  size : a.heap.size ≤ b.heap.size
  block : ∀ i, i < a.heap.size → ¬ S i → b.heap[i]? = a.heap[i]?

section
variable {S T : Nat → Prop} {a b c : World}
theorem Fr.refl (S : Nat → Prop) (a : World) : Fr S a a := ⟨rfl, rfl, rfl, Nat.le_refl _, fun _ _ _ => rfl⟩
theorem Fr.trans (h : Fr S a b) (k : Fr S b c) : Fr S a c :=
  ⟨k.os.trans h.os, k.tape.trans h.tape, k.output.trans h.output, Nat.le_trans h.size k.size, fun i hi hr => (k.block i (Nat.lt_of_lt_of_le hi h.size) hr).trans (h.block i hi hr)⟩
theorem Fr.mono (h : Fr S a b) (hS : ∀ i, S i → T i) : Fr T a b := ⟨h.os, h.tape, h.output, h.size, fun i hi hr => h.block i hi (fun e => hr (hS i e))⟩
theorem Fr.drew (h : Fr S a b) : Fr S a b.drew := ⟨h.os, h.tape, h.output, h.size, h.block⟩
theorem Fr.alloc (h : Fr S a b) (o : Obj) : Fr S a (b.alloc o) :=
  h.trans ⟨rfl, rfl, rfl, by simp, fun k hk _ => Below.heap_alloc _ _ _ hk⟩
theorem Fr.setCell (h : Fr S a b) {p : Addr} (hp : S p.block) (u : Value) : Fr S a (b.setCell p u) :=
  h.trans ⟨rfl, rfl, rfl, by simp [World.setCell], fun k _ hk => Below.heap_setCell _ _ _ _ (fun e => hk (e ▸ hp))⟩
theorem Fr.of_below (h : Below a.heap.size a b) : Fr S a b := ⟨h.os, h.tape, h.output, h.size, fun i hi _ => h.block i hi⟩
theorem Fr.of_grown {r : Option Nat} (h : a.grownBy b r) (hr : ∀ k, r = some k → S k) : Fr S a b := ⟨h.os, h.tape, h.output, h.size, fun i hi hs => h.block i hi (fun e => hs (hr i e.symm))⟩
theorem Fr.below {D : Nat} (h : Fr S a b) (hD : D ≤ a.heap.size) (hS : ∀ i, S i → D ≤ i) : Below D a b :=
  ⟨h.os, h.tape, h.output, h.size, fun k hk => h.block k (by omega) (fun e => by have := hS k e; omega)⟩
theorem Fr.cell (h : Fr S a b) {p : Addr} {v : Value} (hc : a.cell? p = some v) (hn : ¬ S p.block) : b.cell? p = some v :=
  (World.cell?_of_block (h.block p.block (World.block_lt_of_cell? a p hc) hn)).trans hc
end

theorem below_grownBy {w w' : World} (h : Below w.heap.size w w') (r : Option Nat) : w.grownBy w' r := ⟨h.os, h.tape, h.output, h.size, fun k hk _ => h.block k hk⟩

/-- A row stays owned where its block stays. -/
theorem ownsRow_same {w w' : World} {base : Nat} {e : TypeId} {size : Nat} {v : Value} {n : Nat} {xs : List Value} (h : w.ownsRow base e size v n xs) (hb : ∀ g, v.ownBlock = some g → w'.heap[g]? = w.heap[g]?) : w'.ownsRow base e size v n xs := by
  obtain ⟨h1, h2⟩ := h
  refine ⟨h1, ?_⟩
  rcases h2 with h2 | ⟨g, cap, cur, hv, hg, hh, r⟩
  · exact .inl h2
  · subst hv
    exact .inr ⟨g, cap, cur, rfl, hg, by rw [hb g (by simp [Value.ownBlock])]; exact hh, r⟩

theorem ownsRow_fr {S : Nat → Prop} {w w' : World} {base : Nat} {e : TypeId} {size : Nat} {v : Value} {n : Nat} {xs : List Value} (h : w.ownsRow base e size v n xs) (hf : Fr S w w') (hn : ∀ g, v.ownBlock = some g → ¬ S g) : w'.ownsRow base e size v n xs :=
  ownsRow_same h (fun g hg => hf.block g (h.lt g hg).2 (hn g hg))

theorem ownsRow_since {w w' : World} {base : Nat} {e : TypeId} {size : Nat} {v : Value} {n : Nat} {xs : List Value} (h : w.ownsRow base e size v n xs) (hf : Below w.heap.size w w') : w'.ownsRow base e size v n xs :=
  ownsRow_same h (fun g hg => hf.block g (h.lt g hg).2)

theorem cells_of {w : World} {g : Nat} {cs : Array Value} {t : TypeId} {fr : Nat × Nat} (h : w.heap[g]? = some (.cells cs t fr)) (i : Nat) : w.cell? ⟨g, i, none⟩ = cs[i]? := by simp [World.cell?, h]
theorem frees_of {w : World} {g : Nat} {cs : Array Value} {t : TypeId} (h : w.heap[g]? = some (.cells cs t (0, 0))) (i : Nat) : w.frozen? ⟨g, i, none⟩ = false := by simp [World.frozen?, h]
theorem cells_setCell {w : World} {b i : Nat} {cs : Array Value} {u : Value} {t : TypeId} {fr : Nat × Nat} (h : w.heap[b]? = some (.cells cs t fr)) : (w.setCell ⟨b, i, none⟩ u).heap[b]? = some (.cells (cs.setIfInBounds i u) t fr) := by
  have hlt := lt_of_block h
  have h' : w.heap[b] = .cells cs t fr := by simpa [Array.getElem?_eq_getElem hlt] using h
  show (w.heap.modify b _)[b]? = _
  rw [Array.getElem?_eq_getElem (by simpa using hlt), Array.getElem_modify_self, h']
  rfl

structure Held (w : World) (B gb nb cap L : Nat) (s : Fo) (kd : Nat → Value) (r : Re) : Prop where
  g : w.heap[gb]? = some (.cells #[.slice (some ⟨nb, 0, none⟩) L cap, .int .i64 r.pl, .int .i64 r.cl, r.lv, r.iv, r.wv] 48 (0, 0))
  row : w.ownsRow B 86 6 (.slice (some ⟨nb, 0, none⟩) L cap) L (cellsF L s kd)
  hB : B ≤ gb
  hL : L ≤ 301

/-- The two blocks of a grove that changes of its nodes turn. -/
def gn (gb nb : Nat) : Nat → Prop := fun i => i = gb ∨ i = nb

section
variable {w w' : World} {B gb nb cap L : Nat} {s s' : Fo} {kd kd' : Nat → Value} {r : Re}

theorem Held.block (h : Held w B gb nb cap L s kd r) : ∃ cur, w.heap[nb]? = some (.cells cur 86 (0, 0)) ∧ B ≤ nb := by
  rcases h.row.2 with ⟨h', _⟩ | ⟨g', cap', cur, h', hb, hg, _⟩
  · simp at h'
  · simp only [Value.slice.injEq, Option.some.injEq, Addr.mk.injEq, and_true, true_and] at h'
    obtain ⟨rfl, rfl⟩ := h'
    exact ⟨cur, hg, hb⟩

theorem Held.ne (h : Held w B gb nb cap L s kd r) : gb ≠ nb := by
  obtain ⟨cur, hn, _⟩ := h.block
  rintro rfl
  have := h.g
  rw [hn] at this
  simp at this

theorem Held.ltg (h : Held w B gb nb cap L s kd r) : gb < w.heap.size := lt_of_block h.g
theorem Held.ltn (h : Held w B gb nb cap L s kd r) : nb < w.heap.size := by obtain ⟨cur, hn, _⟩ := h.block; exact lt_of_block hn
theorem Held.Bn (h : Held w B gb nb cap L s kd r) : B ≤ nb := by obtain ⟨cur, _, hb⟩ := h.block; exact hb
theorem Held.gcell (h : Held w B gb nb cap L s kd r) : w.cell? ⟨gb, 0, none⟩ = some (.slice (some ⟨nb, 0, none⟩) L cap) := cells_of h.g 0
theorem Held.gpl (h : Held w B gb nb cap L s kd r) : w.cell? ⟨gb, 1, none⟩ = some (.int .i64 r.pl) := cells_of h.g 1
theorem Held.gcl (h : Held w B gb nb cap L s kd r) : w.cell? ⟨gb, 2, none⟩ = some (.int .i64 r.cl) := cells_of h.g 2
theorem Held.glv (h : Held w B gb nb cap L s kd r) : w.cell? ⟨gb, 3, none⟩ = some r.lv := cells_of h.g 3
theorem Held.giv (h : Held w B gb nb cap L s kd r) : w.cell? ⟨gb, 4, none⟩ = some r.iv := cells_of h.g 4
theorem Held.gwv (h : Held w B gb nb cap L s kd r) : w.cell? ⟨gb, 5, none⟩ = some r.wv := cells_of h.g 5
theorem Held.gfree (h : Held w B gb nb cap L s kd r) (j : Nat) : w.frozen? ⟨gb, j, none⟩ = false := frees_of h.g j
theorem Held.free (h : Held w B gb nb cap L s kd r) (j : Nat) : w.frozen? ⟨nb, j, none⟩ = false := h.row.frozenAt j

theorem Held.cellAt (h : Held w B gb nb cap L s kd r) {i j : Nat} (hi : i < L) (hj : j < 6) : w.cell? ⟨nb, i * 6 + j, none⟩ = (rowOf s kd i)[j]? := by
  rw [h.row.cellAt (i * 6 + j) (by omega), cellsF_at s kd hi hj]

theorem Held.cpar (h : Held w B gb nb cap L s kd r) {i : Nat} (hi : i < L) : w.cell? ⟨nb, i * 6, none⟩ = some (.int .i64 (s.par i)) := h.cellAt (j := 0) hi (by omega)
theorem Held.cahd (h : Held w B gb nb cap L s kd r) {i : Nat} (hi : i < L) : w.cell? ⟨nb, i * 6 + 1, none⟩ = some (.int .i64 (s.ahd i)) := h.cellAt (j := 1) hi (by omega)
theorem Held.cbhd (h : Held w B gb nb cap L s kd r) {i : Nat} (hi : i < L) : w.cell? ⟨nb, i * 6 + 2, none⟩ = some (.int .i64 (s.bhd i)) := h.cellAt (j := 2) hi (by omega)
theorem Held.cfst (h : Held w B gb nb cap L s kd r) {i : Nat} (hi : i < L) : w.cell? ⟨nb, i * 6 + 3, none⟩ = some (.int .i64 (s.fst i)) := h.cellAt (j := 3) hi (by omega)
theorem Held.clst (h : Held w B gb nb cap L s kd r) {i : Nat} (hi : i < L) : w.cell? ⟨nb, i * 6 + 4, none⟩ = some (.int .i64 (s.lst i)) := h.cellAt (j := 4) hi (by omega)
theorem Held.ckd (h : Held w B gb nb cap L s kd r) {i : Nat} (hi : i < L) : w.cell? ⟨nb, i * 6 + 5, none⟩ = some (kd i) := h.cellAt (j := 5) hi (by omega)

/-- What lies in other blocks counts for nothing. -/
theorem Held.same (h : Held w B gb nb cap L s kd r) (hg : w'.heap[gb]? = w.heap[gb]?) (hn : w'.heap[nb]? = w.heap[nb]?) : Held w' B gb nb cap L s kd r :=
  ⟨by rw [hg]; exact h.g, ownsRow_same h.row (fun g e => by simp [Value.ownBlock] at e; subst e; exact hn), h.hB, h.hL⟩

theorem Held.below {D : Nat} (h : Held w B gb nb cap L s kd r) (hb : Below D w w') (hg : gb < D) (hn : nb < D) : Held w' B gb nb cap L s kd r :=
  h.same (hb.block gb hg) (hb.block nb hn)

/-- Of blocks made since, and of draws, a grove knows nothing. -/
theorem Held.since (h : Held w B gb nb cap L s kd r) (hb : Below w.heap.size w w') : Held w' B gb nb cap L s kd r := h.below hb h.ltg h.ltn

theorem Held.fr {S : Nat → Prop} (h : Held w B gb nb cap L s kd r) (hf : Fr S w w') (hg : ¬ S gb) (hn : ¬ S nb) : Held w' B gb nb cap L s kd r :=
  h.same (hf.block gb h.ltg hg) (hf.block nb h.ltn hn)

theorem Held.alloc (h : Held w B gb nb cap L s kd r) (o : Obj) : Held (w.alloc o) B gb nb cap L s kd r :=
  h.since ((Below.refl _ _).alloc (Nat.le_refl _) o)

theorem Held.congr (h : Held w B gb nb cap L s kd r) (hr : ∀ i, i < L → rowOf s' kd' i = rowOf s kd i) : Held w B gb nb cap L s' kd' r :=
  ⟨h.g, by rw [cellsF_congr hr]; exact h.row, h.hB, h.hL⟩

/-- A store into a node's cell. -/
theorem Held.store (h : Held w B gb nb cap L s kd r) {i j : Nat} {v : Value} (hi : i < L) (hj : j < 6) (ho : ∀ x, x ≠ i → rowOf s' kd' x = rowOf s kd x) (hs : rowOf s' kd' i = (rowOf s kd i).set j v) :
    Held (w.setCell ⟨nb, i * 6 + j, none⟩ v) B gb nb cap L s' kd' r ∧ Fr (gn gb nb) w (w.setCell ⟨nb, i * 6 + j, none⟩ v) := by
  have hst := h.row.stored (i * 6 + j) v
  refine ⟨⟨?_, ?_, h.hB, h.hL⟩, (Fr.refl _ _).setCell (.inr rfl) _⟩
  · rw [heap_setCell_other w _ gb v h.ne]; exact h.g
  · rw [cellsF_set hi hj ho hs] at hst; exact hst.1

def Fo.setA (s : Fo) (i v : Nat) : Fo := { s with ahd := up s.ahd i v }
def Fo.setB (s : Fo) (i v : Nat) : Fo := { s with bhd := up s.bhd i v }
def Fo.setF (s : Fo) (i v : Nat) : Fo := { s with fst := up s.fst i v }
def Fo.setL (s : Fo) (i v : Nat) : Fo := { s with lst := up s.lst i v }

theorem Held.putP (h : Held w B gb nb cap L s kd r) {i : Nat} (v : Nat) (hi : i < L) : Held (w.setCell ⟨nb, i * 6, none⟩ (.int .i64 v)) B gb nb cap L (Fo.setPar s i v) kd r ∧ Fr (gn gb nb) w (w.setCell ⟨nb, i * 6, none⟩ (.int .i64 v)) :=
  h.store (j := 0) hi (by omega) (fun x hx => by simp [rowOf, Fo.setPar, up_other _ _ _ hx]) (by simp [rowOf, Fo.setPar, up_same])
theorem Held.putA (h : Held w B gb nb cap L s kd r) {i : Nat} (v : Nat) (hi : i < L) : Held (w.setCell ⟨nb, i * 6 + 1, none⟩ (.int .i64 v)) B gb nb cap L (Fo.setA s i v) kd r ∧ Fr (gn gb nb) w (w.setCell ⟨nb, i * 6 + 1, none⟩ (.int .i64 v)) :=
  h.store (j := 1) hi (by omega) (fun x hx => by simp [rowOf, Fo.setA, up_other _ _ _ hx]) (by simp [rowOf, Fo.setA, up_same])
theorem Held.putB (h : Held w B gb nb cap L s kd r) {i : Nat} (v : Nat) (hi : i < L) : Held (w.setCell ⟨nb, i * 6 + 2, none⟩ (.int .i64 v)) B gb nb cap L (Fo.setB s i v) kd r ∧ Fr (gn gb nb) w (w.setCell ⟨nb, i * 6 + 2, none⟩ (.int .i64 v)) :=
  h.store (j := 2) hi (by omega) (fun x hx => by simp [rowOf, Fo.setB, up_other _ _ _ hx]) (by simp [rowOf, Fo.setB, up_same])
theorem Held.putF (h : Held w B gb nb cap L s kd r) {i : Nat} (v : Nat) (hi : i < L) : Held (w.setCell ⟨nb, i * 6 + 3, none⟩ (.int .i64 v)) B gb nb cap L (Fo.setF s i v) kd r ∧ Fr (gn gb nb) w (w.setCell ⟨nb, i * 6 + 3, none⟩ (.int .i64 v)) :=
  h.store (j := 3) hi (by omega) (fun x hx => by simp [rowOf, Fo.setF, up_other _ _ _ hx]) (by simp [rowOf, Fo.setF, up_same])
theorem Held.putL (h : Held w B gb nb cap L s kd r) {i : Nat} (v : Nat) (hi : i < L) : Held (w.setCell ⟨nb, i * 6 + 4, none⟩ (.int .i64 v)) B gb nb cap L (Fo.setL s i v) kd r ∧ Fr (gn gb nb) w (w.setCell ⟨nb, i * 6 + 4, none⟩ (.int .i64 v)) :=
  h.store (j := 4) hi (by omega) (fun x hx => by simp [rowOf, Fo.setL, up_other _ _ _ hx]) (by simp [rowOf, Fo.setL, up_same])

/-- One more is counted. -/
theorem Held.count (h : Held w B gb nb cap L s kd r) : Held (w.setCell ⟨gb, 1, none⟩ (.int .i64 (r.pl + 1))) B gb nb cap L s kd r.more ∧ Fr (gn gb nb) w (w.setCell ⟨gb, 1, none⟩ (.int .i64 (r.pl + 1))) := by
  refine ⟨⟨cells_setCell h.g, ?_, h.hB, h.hL⟩, (Fr.refl _ _).setCell (.inl rfl) _⟩
  exact ownsRow_setCell_other h.row (by simp [Value.ownBlock]; exact fun e => h.ne e.symm) _

theorem Held.drew (h : Held w B gb nb cap L s kd r) : Held w.drew B gb nb cap L s kd r := ⟨h.g, h.row.drew, h.hB, h.hL⟩

theorem Held.gnB (h : Held w B gb nb cap L s kd r) : ∀ i, gn gb nb i → B ≤ i := by
  rintro i (rfl | rfl)
  · exact h.hB
  · exact h.Bn

theorem join_eq (s : Fo) (p a b : Nat) : s.join p a b =
    (if b = 0 then Fo.setL (if a = 0 then Fo.setF s p b else Fo.setB s a b) p a else Fo.setA (if a = 0 then Fo.setF s p b else Fo.setB s a b) b a) := by
  by_cases ha : a = 0 <;> by_cases hb : b = 0 <;> simp [Fo.join, Fo.setA, Fo.setB, Fo.setF, Fo.setL, ha, hb]
end
end Go.Proofs.YtcedebpoihcbdaaDoor
