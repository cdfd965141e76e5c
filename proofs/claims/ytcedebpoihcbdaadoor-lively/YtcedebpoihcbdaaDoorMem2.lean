/-
  How a grove's iterators, walkers and lists lie in memory: rows of structs, so many cells each.
-/
import Derived.Test.YtcedebpoihcbdaaDoorMem
import Derived.Test.YtcedebpoihcbdaaDoorMath5
namespace Go.Proofs.YtcedebpoihcbdaaDoor
open Go.RowKit Gv

section
variable {α : Type} {f : α → List Value} {k : Nat}
theorem flat_length (hf : ∀ a, (f a).length = k) (l : List α) : (l.flatMap f).length = l.length * k := by
  induction l with
  | nil => simp
  | cons a l ih => rw [List.flatMap_cons, List.length_append, hf, ih, List.length_cons, Nat.add_mul]; omega

theorem flat_at (hf : ∀ a, (f a).length = k) {l : List α} {i j : Nat} {a : α} (ha : l[i]? = some a) (hj : j < k) : (l.flatMap f)[i * k + j]? = (f a)[j]? := by
  induction l generalizing i with
  | nil => simp at ha
  | cons b l ih =>
    rw [List.flatMap_cons]
    cases i with
    | zero =>
      simp only [List.getElem?_cons_zero, Option.some.injEq] at ha
      subst ha
      rw [List.getElem?_append_left (by rw [hf]; omega)]
      congr 1
      omega
    | succ i =>
      have e : (i + 1) * k + j = k + (i * k + j) := by rw [Nat.add_mul]; omega
      rw [List.getElem?_append_right (by rw [hf, e]; omega), hf, e, Nat.add_sub_cancel_left]
      exact ih (by simpa using ha)

theorem flat_set (hf : ∀ a, (f a).length = k) {l : List α} {i j : Nat} {a a' : α} {v : Value} (ha : l[i]? = some a) (hj : j < k) (hs : f a' = (f a).set j v) : (l.flatMap f).set (i * k + j) v = (l.set i a').flatMap f := by
  induction l generalizing i with
  | nil => simp at ha
  | cons b l ih =>
    rw [List.flatMap_cons]
    cases i with
    | zero =>
      simp only [List.getElem?_cons_zero, Option.some.injEq] at ha
      subst ha
      rw [List.set_append, if_pos (by rw [hf]; omega), List.set_cons_zero, List.flatMap_cons, hs]
      congr 2
      omega
    | succ i =>
      have e : (i + 1) * k + j = k + (i * k + j) := by rw [Nat.add_mul]; omega
      rw [List.set_append, if_neg (by rw [hf, e]; omega), hf, e, Nat.add_sub_cancel_left, ih (by simpa using ha), List.set_cons_succ, List.flatMap_cons]
end

/-! ### iterators -/
structure It where
  spot : Spot
  see : Int
  rules : Value

def It.row (i : It) : List Value := [.int .i64 i.spot.root, .int .i64 i.see, i.rules, .int .i64 i.spot.place, .bool i.spot.ahead]
theorem It.row_len (i : It) : i.row.length = 5 := rfl

def It.leave (N : Nat) (s : Fo) (c : Nat) (i : It) : It := { i with spot := i.spot.leave N s c }

/-- The iterators' row, and that they are in order. -/
structure Its (w : World) (B : Nat) (v : Value) (its : List It) : Prop where
  row : w.ownsRow B 91 5 v its.length (its.flatMap It.row)
  few : its.length ≤ 50

theorem Its.same {w w' : World} {B : Nat} {v : Value} {its : List It} (h : Its w B v its) (hb : ∀ g, v.ownBlock = some g → w'.heap[g]? = w.heap[g]?) : Its w' B v its := ⟨ownsRow_same h.row hb, h.few⟩
theorem Its.since {w w' : World} {B : Nat} {v : Value} {its : List It} (h : Its w B v its) (hb : Below w.heap.size w w') : Its w' B v its := ⟨ownsRow_since h.row hb, h.few⟩
theorem Its.fr {S : Nat → Prop} {w w' : World} {B : Nat} {v : Value} {its : List It} (h : Its w B v its) (hf : Fr S w w') (hn : ∀ g, v.ownBlock = some g → ¬ S g) : Its w' B v its := ⟨ownsRow_fr h.row hf hn, h.few⟩

/-- How the value looks. -/
theorem row_form {w : World} {base : Nat} {e : TypeId} {size : Nat} {v : Value} {n : Nat} {xs : List Value} (h : w.ownsRow base e size v n xs) :
    (v = .slice none 0 0 ∧ n = 0) ∨ ∃ g cap, v = .slice (some ⟨g, 0, none⟩) n cap ∧ base ≤ g ∧ g < w.heap.size ∧ (∃ cur, w.heap[g]? = some (.cells cur e (0, 0))) ∧ n ≤ cap := by
  rcases h.2 with ⟨h', h''⟩ | ⟨g, cap, cur, h', hb, hg, hn, _⟩
  · exact .inl ⟨h', h''⟩
  · exact .inr ⟨g, cap, h', hb, lt_of_block hg, ⟨cur, hg⟩, hn⟩

/-- Rows of other types lie elsewhere. -/
theorem row_apart {w : World} {base : Nat} {e e' : TypeId} {size n : Nat} {v : Value} {xs : List Value} {g : Nat} {cur : Array Value} {fr : Nat × Nat} (h : w.ownsRow base e size v n xs) (hg : w.heap[g]? = some (.cells cur e' fr)) (hne : e ≠ e') : v.ownBlock ≠ some g := by
  intro hv
  rcases h.2 with ⟨rfl, _⟩ | ⟨g', cap, cur', rfl, _, hg', _⟩
  · simp [Value.ownBlock] at hv
  · simp only [Value.ownBlock, Option.some.injEq] at hv
    subst hv
    rw [hg'] at hg
    simp at hg
    exact hne hg.2.1

theorem row_n {w : World} {base : Nat} {e : TypeId} {size n m cap g : Nat} {xs : List Value} (h : w.ownsRow base e size (.slice (some ⟨g, 0, none⟩) n cap) m xs) : n = m := by
  rcases row_form h with ⟨h', _⟩ | ⟨g', cap', h', _⟩
  · simp at h'
  · simp at h'; exact h'.2.1

theorem Its.cellAt {w : World} {B g cap n : Nat} {its : List It} (h : Its w B (.slice (some ⟨g, 0, none⟩) n cap) its) {i j : Nat} {it : It} (hi : its[i]? = some it) (hj : j < 5) : w.cell? ⟨g, i * 5 + j, none⟩ = it.row[j]? := by
  have hl : i < its.length := (List.getElem?_eq_some_iff.1 hi).1
  obtain rfl := row_n h.row
  rw [h.row.cellAt (i * 5 + j) (by omega), flat_at It.row_len hi hj]

theorem Its.free {w : World} {B g cap n : Nat} {its : List It} (h : Its w B (.slice (some ⟨g, 0, none⟩) n cap) its) (j : Nat) : w.frozen? ⟨g, j, none⟩ = false := by
  obtain rfl := row_n h.row
  exact h.row.frozenAt j

theorem Its.store {w : World} {B g cap n : Nat} {its : List It} (h : Its w B (.slice (some ⟨g, 0, none⟩) n cap) its) {i j : Nat} {it it' : It} {v : Value} (hi : its[i]? = some it) (hj : j < 5) (hs : it'.row = it.row.set j v) :
    Its (w.setCell ⟨g, i * 5 + j, none⟩ v) B (.slice (some ⟨g, 0, none⟩) n cap) (its.set i it') := by
  obtain rfl := row_n h.row
  have hst := (h.row.stored (i * 5 + j) v).1
  rw [flat_set It.row_len hi hj hs] at hst
  exact ⟨by rw [List.length_set]; exact hst, by rw [List.length_set]; exact h.few⟩

/-- All is in order with an iterator: its place is within its root. -/
def It.Sound (N : Nat) (s : Fo) (i : It) : Prop := 1 ≤ i.spot.root ∧ i.spot.root ≤ N ∧ 1 ≤ i.spot.place ∧ i.spot.place ≤ N ∧ Desc s.par i.spot.place i.spot.root

/-! ### walkers -/
structure Wk where
  root : Nat
  see : Int
  rules : Value
  here : Nat

def Wk.row (i : Wk) : List Value := [.int .i64 i.root, .int .i64 i.see, i.rules, .int .i64 i.here]
theorem Wk.row_len (i : Wk) : i.row.length = 4 := rfl

structure Wks (w : World) (B : Nat) (v : Value) (ws : List Wk) : Prop where
  row : w.ownsRow B 155 4 v ws.length (ws.flatMap Wk.row)
  few : ws.length ≤ 50

theorem Wks.same {w w' : World} {B : Nat} {v : Value} {ws : List Wk} (h : Wks w B v ws) (hb : ∀ g, v.ownBlock = some g → w'.heap[g]? = w.heap[g]?) : Wks w' B v ws := ⟨ownsRow_same h.row hb, h.few⟩
theorem Wks.since {w w' : World} {B : Nat} {v : Value} {ws : List Wk} (h : Wks w B v ws) (hb : Below w.heap.size w w') : Wks w' B v ws := ⟨ownsRow_since h.row hb, h.few⟩
theorem Wks.fr {S : Nat → Prop} {w w' : World} {B : Nat} {v : Value} {ws : List Wk} (h : Wks w B v ws) (hf : Fr S w w') (hn : ∀ g, v.ownBlock = some g → ¬ S g) : Wks w' B v ws := ⟨ownsRow_fr h.row hf hn, h.few⟩

theorem Wks.cellAt {w : World} {B g cap n : Nat} {ws : List Wk} (h : Wks w B (.slice (some ⟨g, 0, none⟩) n cap) ws) {i j : Nat} {wk : Wk} (hi : ws[i]? = some wk) (hj : j < 4) : w.cell? ⟨g, i * 4 + j, none⟩ = wk.row[j]? := by
  have hl : i < ws.length := (List.getElem?_eq_some_iff.1 hi).1
  obtain rfl := row_n h.row
  rw [h.row.cellAt (i * 4 + j) (by omega), flat_at Wk.row_len hi hj]

theorem Wks.free {w : World} {B g cap n : Nat} {ws : List Wk} (h : Wks w B (.slice (some ⟨g, 0, none⟩) n cap) ws) (j : Nat) : w.frozen? ⟨g, j, none⟩ = false := by
  obtain rfl := row_n h.row
  exact h.row.frozenAt j

theorem Wks.store {w : World} {B g cap n : Nat} {ws : List Wk} (h : Wks w B (.slice (some ⟨g, 0, none⟩) n cap) ws) {i j : Nat} {wk wk' : Wk} {v : Value} (hi : ws[i]? = some wk) (hj : j < 4) (hs : wk'.row = wk.row.set j v) :
    Wks (w.setCell ⟨g, i * 4 + j, none⟩ v) B (.slice (some ⟨g, 0, none⟩) n cap) (ws.set i wk') := by
  obtain rfl := row_n h.row
  have hst := (h.row.stored (i * 4 + j) v).1
  rw [flat_set Wk.row_len hi hj hs] at hst
  exact ⟨by rw [List.length_set]; exact hst, by rw [List.length_set]; exact h.few⟩
end Go.Proofs.YtcedebpoihcbdaaDoor
