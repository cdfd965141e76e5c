/-
  How a grove lies in memory: a block with the slice of its nodes, a row of six cells a node; what a store into one of these cells does.
-/
import Derived.Test.YtffgopdccgcdnaaMath2
import Derived.WalkKit
namespace Go.Proofs.Ytffgopdccgcdnaa
open Go.RowKit Gv

def rowOf (s : Fo) (kd : Nat → Value) (i : Nat) : List Value :=
  [.int .i64 (s.par i), .int .i64 (s.ahd i), .int .i64 (s.bhd i), .int .i64 (s.fst i), .int .i64 (s.lst i), kd i]

def cellsF (L : Nat) (s : Fo) (kd : Nat → Value) : List Value := (List.range L).flatMap (rowOf s kd)

theorem cellsF_succ (L : Nat) (s : Fo) (kd : Nat → Value) : cellsF (L + 1) s kd = cellsF L s kd ++ rowOf s kd L := by
  simp [cellsF, List.range_succ]

theorem cellsF_length (L : Nat) (s : Fo) (kd : Nat → Value) : (cellsF L s kd).length = L * 6 := by
  induction L with
  | zero => rfl
  | succ L ih => rw [cellsF_succ, List.length_append, ih]; simp [rowOf]; omega

theorem cellsF_at {L i j : Nat} (s : Fo) (kd : Nat → Value) (hi : i < L) (hj : j < 6) : (cellsF L s kd)[i * 6 + j]? = (rowOf s kd i)[j]? := by
  induction L with
  | zero => omega
  | succ L ih =>
    rw [cellsF_succ]
    by_cases e : i = L
    · subst e
      rw [List.getElem?_append_right (by rw [cellsF_length]; omega), cellsF_length]
      congr 1
      omega
    · rw [List.getElem?_append_left (by rw [cellsF_length]; omega)]
      exact ih (by omega)

theorem cellsF_congr {L : Nat} {s s' : Fo} {kd kd' : Nat → Value} (h : ∀ i, i < L → rowOf s' kd' i = rowOf s kd i) : cellsF L s' kd' = cellsF L s kd := by
  induction L with
  | zero => rfl
  | succ L ih => rw [cellsF_succ, cellsF_succ, ih (fun i hi => h i (by omega)), h L (by omega)]

theorem cellsF_set {L i j : Nat} {s s' : Fo} {kd kd' : Nat → Value} {v : Value} (hi : i < L) (hj : j < 6) (ho : ∀ x, x ≠ i → rowOf s' kd' x = rowOf s kd x) (hs : rowOf s' kd' i = (rowOf s kd i).set j v) :
    (cellsF L s kd).set (i * 6 + j) v = cellsF L s' kd' := by
  induction L with
  | zero => omega
  | succ L ih =>
    rw [cellsF_succ, cellsF_succ, List.set_append, cellsF_length]
    by_cases e : i = L
    · subst e
      rw [if_neg (by omega), hs, cellsF_congr (s := s) (kd := kd) (s' := s') (kd' := kd') (fun x hx => ho x (by omega))]
      congr 2
      omega
    · rw [if_pos (by omega), ih (by omega), ho L (fun e' => e e'.symm)]

structure Held (w : World) (B gb nb cap L : Nat) (s : Fo) (kd : Nat → Value) : Prop where
  g : w.heap[gb]? = some (.cells #[.slice (some ⟨nb, 0, none⟩) L cap] 43 (0, 0))
  row : w.ownsRow B 64 6 (.slice (some ⟨nb, 0, none⟩) L cap) L (cellsF L s kd)
  hB : B ≤ gb
  hL : L ≤ 301

section
variable {w w' : World} {B gb nb cap L : Nat} {s s' : Fo} {kd kd' : Nat → Value}

theorem Held.block (h : Held w B gb nb cap L s kd) : ∃ cur, w.heap[nb]? = some (.cells cur 64 (0, 0)) ∧ B ≤ nb := by
  rcases h.row.2 with ⟨h', _⟩ | ⟨g', cap', cur, h', hb, hg, _⟩
  · simp at h'
  · simp only [Value.slice.injEq, Option.some.injEq, Addr.mk.injEq, and_true, true_and] at h'
    obtain ⟨rfl, rfl⟩ := h'
    exact ⟨cur, hg, hb⟩

theorem Held.ne (h : Held w B gb nb cap L s kd) : gb ≠ nb := by
  obtain ⟨cur, hn, _⟩ := h.block
  rintro rfl
  have := h.g
  rw [hn] at this
  simp at this

theorem Held.ltg (h : Held w B gb nb cap L s kd) : gb < w.heap.size := lt_of_block h.g
theorem Held.ltn (h : Held w B gb nb cap L s kd) : nb < w.heap.size := by obtain ⟨cur, hn, _⟩ := h.block; exact lt_of_block hn
theorem Held.Bn (h : Held w B gb nb cap L s kd) : B ≤ nb := by obtain ⟨cur, _, hb⟩ := h.block; exact hb
theorem Held.gcell (h : Held w B gb nb cap L s kd) : w.cell? ⟨gb, 0, none⟩ = some (.slice (some ⟨nb, 0, none⟩) L cap) := cell_of_one h.g
theorem Held.gfree (h : Held w B gb nb cap L s kd) : w.frozen? ⟨gb, 0, none⟩ = false := free_of_one h.g
theorem Held.free (h : Held w B gb nb cap L s kd) (j : Nat) : w.frozen? ⟨nb, j, none⟩ = false := h.row.frozenAt j

theorem Held.cellAt (h : Held w B gb nb cap L s kd) {i j : Nat} (hi : i < L) (hj : j < 6) : w.cell? ⟨nb, i * 6 + j, none⟩ = (rowOf s kd i)[j]? := by
  rw [h.row.cellAt (i * 6 + j) (by omega), cellsF_at s kd hi hj]

theorem Held.cpar (h : Held w B gb nb cap L s kd) {i : Nat} (hi : i < L) : w.cell? ⟨nb, i * 6, none⟩ = some (.int .i64 (s.par i)) := h.cellAt (j := 0) hi (by omega)
theorem Held.cahd (h : Held w B gb nb cap L s kd) {i : Nat} (hi : i < L) : w.cell? ⟨nb, i * 6 + 1, none⟩ = some (.int .i64 (s.ahd i)) := h.cellAt (j := 1) hi (by omega)
theorem Held.cbhd (h : Held w B gb nb cap L s kd) {i : Nat} (hi : i < L) : w.cell? ⟨nb, i * 6 + 2, none⟩ = some (.int .i64 (s.bhd i)) := h.cellAt (j := 2) hi (by omega)
theorem Held.cfst (h : Held w B gb nb cap L s kd) {i : Nat} (hi : i < L) : w.cell? ⟨nb, i * 6 + 3, none⟩ = some (.int .i64 (s.fst i)) := h.cellAt (j := 3) hi (by omega)
theorem Held.clst (h : Held w B gb nb cap L s kd) {i : Nat} (hi : i < L) : w.cell? ⟨nb, i * 6 + 4, none⟩ = some (.int .i64 (s.lst i)) := h.cellAt (j := 4) hi (by omega)
theorem Held.ckd (h : Held w B gb nb cap L s kd) {i : Nat} (hi : i < L) : w.cell? ⟨nb, i * 6 + 5, none⟩ = some (kd i) := h.cellAt (j := 5) hi (by omega)

/-- What lies in other blocks counts for nothing. -/
theorem Held.same (h : Held w B gb nb cap L s kd) (hg : w'.heap[gb]? = w.heap[gb]?) (hn : w'.heap[nb]? = w.heap[nb]?) : Held w' B gb nb cap L s kd := by
  refine ⟨by rw [hg]; exact h.g, ⟨h.row.1, ?_⟩, h.hB, h.hL⟩
  rcases h.row.2 with ⟨h', _⟩ | ⟨g', cap', cur, h', hb, hgg, r⟩
  · simp at h'
  · simp only [Value.slice.injEq, Option.some.injEq, Addr.mk.injEq, and_true, true_and] at h'
    obtain ⟨rfl, rfl⟩ := h'
    exact .inr ⟨nb, cap, cur, rfl, hb, by rw [hn]; exact hgg, r⟩

theorem Held.below {D : Nat} (h : Held w B gb nb cap L s kd) (hb : Below D w w') (hg : gb < D) (hn : nb < D) : Held w' B gb nb cap L s kd :=
  h.same (hb.block gb hg) (hb.block nb hn)

/-- Of blocks made since, and of draws, a grove knows nothing. -/
theorem Held.since (h : Held w B gb nb cap L s kd) (hb : Below w.heap.size w w') : Held w' B gb nb cap L s kd := h.below hb h.ltg h.ltn

theorem Held.alloc (h : Held w B gb nb cap L s kd) (o : Obj) : Held (w.alloc o) B gb nb cap L s kd :=
  h.since ((Below.refl _ _).alloc (Nat.le_refl _) o)

theorem Held.congr (h : Held w B gb nb cap L s kd) (hr : ∀ i, i < L → rowOf s' kd' i = rowOf s kd i) : Held w B gb nb cap L s' kd' :=
  ⟨h.g, by rw [cellsF_congr hr]; exact h.row, h.hB, h.hL⟩

/-- A store into a node's cell. -/
theorem Held.store (h : Held w B gb nb cap L s kd) {i j : Nat} {v : Value} (hi : i < L) (hj : j < 6) (ho : ∀ x, x ≠ i → rowOf s' kd' x = rowOf s kd x) (hs : rowOf s' kd' i = (rowOf s kd i).set j v) :
    Held (w.setCell ⟨nb, i * 6 + j, none⟩ v) B gb nb cap L s' kd' ∧ w.grownBy (w.setCell ⟨nb, i * 6 + j, none⟩ v) (some nb) := by
  have hst := h.row.stored (i * 6 + j) v
  refine ⟨⟨?_, ?_, h.hB, h.hL⟩, hst.2⟩
  · rw [heap_setCell_other w _ gb v h.ne]; exact h.g
  · rw [cellsF_set hi hj ho hs] at hst; exact hst.1

def Fo.setA (s : Fo) (i v : Nat) : Fo := { s with ahd := up s.ahd i v }
def Fo.setB (s : Fo) (i v : Nat) : Fo := { s with bhd := up s.bhd i v }
def Fo.setF (s : Fo) (i v : Nat) : Fo := { s with fst := up s.fst i v }
def Fo.setL (s : Fo) (i v : Nat) : Fo := { s with lst := up s.lst i v }

theorem Held.putP (h : Held w B gb nb cap L s kd) {i : Nat} (v : Nat) (hi : i < L) : Held (w.setCell ⟨nb, i * 6, none⟩ (.int .i64 v)) B gb nb cap L (s.setPar i v) kd ∧ w.grownBy (w.setCell ⟨nb, i * 6, none⟩ (.int .i64 v)) (some nb) :=
  h.store (j := 0) hi (by omega) (fun x hx => by simp [rowOf, Fo.setPar, up_other _ _ _ hx]) (by simp [rowOf, Fo.setPar, up_same])
theorem Held.putA (h : Held w B gb nb cap L s kd) {i : Nat} (v : Nat) (hi : i < L) : Held (w.setCell ⟨nb, i * 6 + 1, none⟩ (.int .i64 v)) B gb nb cap L (Fo.setA s i v) kd ∧ w.grownBy (w.setCell ⟨nb, i * 6 + 1, none⟩ (.int .i64 v)) (some nb) :=
  h.store (j := 1) hi (by omega) (fun x hx => by simp [rowOf, Fo.setA, up_other _ _ _ hx]) (by simp [rowOf, Fo.setA, up_same])
theorem Held.putB (h : Held w B gb nb cap L s kd) {i : Nat} (v : Nat) (hi : i < L) : Held (w.setCell ⟨nb, i * 6 + 2, none⟩ (.int .i64 v)) B gb nb cap L (Fo.setB s i v) kd ∧ w.grownBy (w.setCell ⟨nb, i * 6 + 2, none⟩ (.int .i64 v)) (some nb) :=
  h.store (j := 2) hi (by omega) (fun x hx => by simp [rowOf, Fo.setB, up_other _ _ _ hx]) (by simp [rowOf, Fo.setB, up_same])
theorem Held.putF (h : Held w B gb nb cap L s kd) {i : Nat} (v : Nat) (hi : i < L) : Held (w.setCell ⟨nb, i * 6 + 3, none⟩ (.int .i64 v)) B gb nb cap L (Fo.setF s i v) kd ∧ w.grownBy (w.setCell ⟨nb, i * 6 + 3, none⟩ (.int .i64 v)) (some nb) :=
  h.store (j := 3) hi (by omega) (fun x hx => by simp [rowOf, Fo.setF, up_other _ _ _ hx]) (by simp [rowOf, Fo.setF, up_same])
theorem Held.putL (h : Held w B gb nb cap L s kd) {i : Nat} (v : Nat) (hi : i < L) : Held (w.setCell ⟨nb, i * 6 + 4, none⟩ (.int .i64 v)) B gb nb cap L (Fo.setL s i v) kd ∧ w.grownBy (w.setCell ⟨nb, i * 6 + 4, none⟩ (.int .i64 v)) (some nb) :=
  h.store (j := 4) hi (by omega) (fun x hx => by simp [rowOf, Fo.setL, up_other _ _ _ hx]) (by simp [rowOf, Fo.setL, up_same])

theorem grownBy_trans {a b c : World} {r : Option Nat} (h : a.grownBy b r) (k : b.grownBy c r) : a.grownBy c r :=
  ⟨k.os.trans h.os, k.tape.trans h.tape, k.output.trans h.output, Nat.le_trans h.size k.size, fun i hi hr => (k.block i (Nat.lt_of_lt_of_le hi h.size) hr).trans (h.block i hi hr)⟩

theorem grownBy_drew {a b : World} {r : Option Nat} (h : a.grownBy b r) : a.grownBy b.drew r := ⟨h.os, h.tape, h.output, h.size, h.block⟩
theorem Held.drew (h : Held w B gb nb cap L s kd) : Held w.drew B gb nb cap L s kd := ⟨h.g, h.row.drew, h.hB, h.hL⟩

theorem grownBy_below {a b : World} {D nb : Nat} (h : a.grownBy b (some nb)) (hD : D ≤ a.heap.size) (hn : D ≤ nb) : Below D a b :=
  ⟨h.os, h.tape, h.output, h.size, fun k hk => h.block k (by omega) (by simp; omega)⟩

theorem join_eq (s : Fo) (p a b : Nat) : s.join p a b =
    (if b = 0 then Fo.setL (if a = 0 then Fo.setF s p b else Fo.setB s a b) p a else Fo.setA (if a = 0 then Fo.setF s p b else Fo.setB s a b) b a) := by
  by_cases ha : a = 0 <;> by_cases hb : b = 0 <;> simp [Fo.join, Fo.setA, Fo.setB, Fo.setF, Fo.setL, ha, hb]
end
end Go.Proofs.Ytffgopdccgcdnaa
