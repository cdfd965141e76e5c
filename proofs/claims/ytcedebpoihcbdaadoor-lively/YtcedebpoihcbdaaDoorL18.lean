/-
  The law's 'looked': first its loop, which tells elements and tags apart by the raw numbers.
-/
import Derived.Test.YtcedebpoihcbdaaDoorL17
import Derived.Test.YtcedebpoihcbdaaDoorW9
namespace Go.Proofs.YtcedebpoihcbdaaDoor
open Go.RowKit Go.Shelf Gv

/-- Two rows of numbers, in blocks of their own. -/
structure Two (D : Nat) (w : World) (a : Value) (xs : List Nat) (b : Value) (ys : List Nat) : Prop where
  ra : w.ownsRow D 3 1 a xs.length (ints xs)
  rb : w.ownsRow D 3 1 b ys.length (ints ys)
  dis : ∀ g, a.ownBlock = some g → b.ownBlock ≠ some g

theorem Two.symm {D : Nat} {w : World} {a b : Value} {xs ys : List Nat} (h : Two D w a xs b ys) : Two D w b ys a xs := ⟨h.rb, h.ra, fun g hg e => h.dis g e hg⟩

/-- One more in the second row. -/
theorem Two.more {D : Nat} {w w2 : World} {a b v' : Value} {xs ys : List Nat} {y : Nat} {o : Obj} (h : Two D w a xs b ys) (hD : D ≤ w.heap.size) (hown : w2.ownsRow D 3 1 v' (ys.length + 1) (ints ys ++ [.int .i64 (y : Nat)])) (hgrow : (w.alloc o).grownBy w2 b.ownBlock) (hat : v'.ownBlock = b.ownBlock ∨ v'.ownBlock = some (w.alloc o).heap.size) :
    Two D w2 a xs v' (ys ++ [y]) ∧ Below D w w2 := by
  have hB : Below D w w2 := ((Below.refl D w).alloc hD _).grown hgrow (by rw [World.size_alloc]; omega) (fun k hk => (h.rb.lt k hk).1)
  refine ⟨⟨?_, by rw [List.length_append, ints_snoc]; exact hown, fun g hg e => ?_⟩, hB⟩
  · refine ownsRow_same h.ra (fun g hg => ?_)
    have hlt := (h.ra.lt g hg).2
    exact (hgrow.block g (by rw [World.size_alloc]; omega) (fun e => h.dis g hg e.symm)).trans (Below.heap_alloc _ _ _ hlt)
  · have hlt := (h.ra.lt g hg).2
    rcases hat with hat | hat
    · exact h.dis g hg (hat ▸ e)
    · rw [hat] at e
      simp only [Option.some.injEq, World.size_alloc] at e
      omega

/-- What of the first k in the tree's order are elements, and what have the tag. -/
def elsF (kk : Nat → Nat) (l : List Nat) (k : Nat) : List Nat := (l.take k).tail.filter (fun n => decide (kk n = 2))
def tagF (kk : Nat → Nat) (tg : Nat → ByteArray) (l : List Nat) (k : Nat) : List Nat := (l.take k).tail.filter (fun n => decide (kk n = 2 ∧ tg n = strA))

theorem take_tail {l : List Nat} {k : Nat} (h1 : 1 ≤ k) (hk : k < l.length) : (l.take (k + 1)).tail = (l.take k).tail ++ [l.getD k 0] := by
  obtain ⟨j, rfl⟩ : ∃ j, k = j + 1 := ⟨k - 1, by omega⟩
  cases l with
  | nil => simp at hk
  | cons a l =>
    simp only [List.take_succ_cons, List.tail_cons]
    rw [take_snocN (by simpa using hk)]
    simp

theorem elsF_yes {kk : Nat → Nat} {l : List Nat} {k : Nat} (h1 : 1 ≤ k) (hk : k < l.length) (h : kk (l.getD k 0) = 2) : elsF kk l (k + 1) = elsF kk l k ++ [l.getD k 0] := by
  unfold elsF; rw [take_tail h1 hk, List.filter_append]; generalize l.getD k 0 = y at *; simp [h]
theorem elsF_no {kk : Nat → Nat} {l : List Nat} {k : Nat} (h1 : 1 ≤ k) (hk : k < l.length) (h : kk (l.getD k 0) ≠ 2) : elsF kk l (k + 1) = elsF kk l k := by
  unfold elsF; rw [take_tail h1 hk, List.filter_append]; generalize l.getD k 0 = y at *; simp [h]
theorem tagF_yes {kk : Nat → Nat} {tg : Nat → ByteArray} {l : List Nat} {k : Nat} (h1 : 1 ≤ k) (hk : k < l.length) (h : kk (l.getD k 0) = 2) (h2 : tg (l.getD k 0) = strA) : tagF kk tg l (k + 1) = tagF kk tg l k ++ [l.getD k 0] := by
  unfold tagF; rw [take_tail h1 hk, List.filter_append]; generalize l.getD k 0 = y at *; simp [h, h2]
theorem tagF_no {kk : Nat → Nat} {tg : Nat → ByteArray} {l : List Nat} {k : Nat} (h1 : 1 ≤ k) (hk : k < l.length) (h : ¬ (kk (l.getD k 0) = 2 ∧ tg (l.getD k 0) = strA)) : tagF kk tg l (k + 1) = tagF kk tg l k := by
  unfold tagF; rw [take_tail h1 hk, List.filter_append]; generalize l.getD k 0 = y at *; simp; intro h3 h4; exact h ⟨h3, h4⟩

theorem kkR_yes {len : Nat} {zs : List Int} {y : Nat} (h : y = 1 ∨ rawAt len zs (y - 1) % 4 ≠ 3) : kkR len zs y = 2 := by
  unfold kkR; rw [if_pos (h.imp (fun e => by omega) id)]
theorem kkR_not {len : Nat} {zs : List Int} {y : Nat} (h1 : 1 ≤ y) (h : y ≠ 1) (h2 : rawAt len zs (y - 1) % 4 = 3) : kkR len zs y ≠ 2 := by
  unfold kkR; rw [if_neg (by rintro (e | e) <;> omega)]; omega
theorem tgR_yes {len : Nat} {zs : List Int} {y : Nat} (h : rawAt len zs (y - 1) % 3 = 0) : tgR len zs y = strA := by unfold tgR tagS; rw [if_pos h]
theorem tgR_not {len : Nat} {zs : List Int} {y : Nat} (h : rawAt len zs (y - 1) % 3 ≠ 0) : tgR len zs y ≠ strA := by
  unfold tgR tagS
  rw [if_neg h]
  split <;> decide

end Go.Proofs.YtcedebpoihcbdaaDoor
