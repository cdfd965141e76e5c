/-
  The document's own answer: what its New does.
-/
import Derived.Test.YtcedebpoihcbdaaGreatDoorR6
namespace Go.Proofs.YtcedebpoihcbdaaGreatDoor
set_option linter.unusedVariables false
open Go.RowKit Go.Shelf Gv

/-- The document's grove when it is made. -/
def Rx.first (rb rn cap : Nat) : Rx :=
  { rb := rb, rn := rn, cap := cap, N := 0, kn := fun _ => 0, tag := fun _ => ByteArray.empty, av := fun _ => .slice none 0 0, par := fun _ => 0, kv := fun _ => .slice none 0 0, K := fun _ => [], ats := fun _ => [], top := 0, wv := .slice none 0 0, wl := [], iv := .slice none 0 0, il := [], qv := .slice none 0 0, ql := [] }

theorem Rx.first_own {rb rn cap b : Nat} (h : (Rx.first rb rn cap).own b) : b = rb ∨ b = rn := by
  rcases h with h | h | ⟨i, _, h⟩ | ⟨i, _, h⟩ | h | h | h | ⟨x, hx, h⟩ | ⟨x, hx, h⟩
  · exact .inl h
  · exact .inr h
  all_goals first | (simp [Rx.first, Value.ownBlock] at h; done) | (simp [Rx.first] at hx; done)

theorem first_ok {w : World} {rb rn cap : Nat} (hg : w.heap[rb]? = some (.cells #[.slice (some ⟨rn, 0, none⟩) 1 cap, .slice none 0 0, .slice none 0 0, .slice none 0 0] 117 (0, 0)))
    (hrow : w.ownsRow 0 150 5 (.slice (some ⟨rn, 0, none⟩) 1 cap) 1 (newRow 0 ByteArray.empty)) : RefOK w (Rx.first rb rn cap) :=
  ⟨hg, hrow, by show 0 ≤ 300; omega, fun _ _ => World.ownsRow_nil _ _ _ _, fun _ _ => by show 0 ≤ 300; omega, fun _ _ => World.ownsRow_nil _ _ _ _, fun _ _ => Nat.le_refl _, by show 0 ≤ 4000000; omega, fun _ _ _ _ _ b hb => by simp [Rx.first, Value.ownBlock] at hb, World.ownsRow_nil _ _ _ _, by show 0 ≤ 50; omega, World.ownsRow_nil _ _ _ _, by show 0 ≤ 50; omega, fun x hx => by simp [Rx.first] at hx, World.ownsRow_nil _ _ _ _, by show 0 ≤ 50; omega, fun x hx => by simp [Rx.first] at hx⟩

set_option maxRecDepth 100000 in
set_option maxHeartbeats 1000000 in
theorem refNew (w : World) : Calls Tryz.prog 58 #[] w fun e w' => ∃ rb rn cap, e = .returned (.pointer (some ⟨rb, 0, none⟩)) ∧ RefOK w' (Rx.first rb rn cap) ∧ Below w.heap.size w w' ∧ w.heap.size ≤ rb ∧ w.heap.size ≤ rn := by
  obtain ⟨i0, hi, hz0, hz1, hz2⟩ := info_parts Tryz.info150
  go_enter Tryz.func58, Tryz.ntmps58
  go_wp2_with (at_builtin; refine wpList_append_lies _ rfl _ _ 112 rfl (w.heap.size + 1) 150 i0 _ 5 80 Tryz.underlying112 hi hz0 hz1 hz2 rfl (by decide) (.slice none 0 0) 0 [] rfl (World.ownsRow_nil _ _ _ _) ⟨w.heap.size + 1, 0, none⟩ 1 1 (newRow 0 ByteArray.empty) rfl ?c0 ?c1 ?c2 ?cm ?c3 ?c4 ?c5 _ rfl ?_)
  case c0 => rfl
  case c1 =>
    intro j u hj
    rw [at_add, Nat.zero_add]
    have hb := heap_alloc_new (w.alloc (.cells #[.slice none 0 0, .slice none 0 0, .slice none 0 0, .slice none 0 0] 117)) (.cells (newRow 0 ByteArray.empty).toArray 150)
    have hs : (w.alloc (.cells #[.slice none 0 0, .slice none 0 0, .slice none 0 0, .slice none 0 0] 117)).heap.size = w.heap.size + 1 := by simp
    rw [hs] at hb
    refine (cells_of hb j).trans ?_
    simpa using hj
  case c2 => exact newRow_one 0 ByteArray.empty
  case cm => omega
  case c3 => unfold maxLen; omega
  case c4 => omega
  case c5 => simp
  intro g cp w3 hown hgrow hat hlt
  have hb1 : Below w.heap.size w (w.alloc (.cells #[.slice none 0 0, .slice none 0 0, .slice none 0 0, .slice none 0 0] 117)) := (Below.refl _ _).alloc (Nat.le_refl _) _
  have hg1 : (w.alloc (.cells #[.slice none 0 0, .slice none 0 0, .slice none 0 0, .slice none 0 0] 117)).heap[w.heap.size]? = some (.cells #[.slice none 0 0, .slice none 0 0, .slice none 0 0, .slice none 0 0] 117 (0, 0)) := heap_alloc_new w _
  have hs1 : (w.alloc (.cells #[.slice none 0 0, .slice none 0 0, .slice none 0 0, .slice none 0 0] 117)).heap.size = w.heap.size + 1 := by simp
  generalize w.alloc (.cells #[.slice none 0 0, .slice none 0 0, .slice none 0 0, .slice none 0 0] 117) = W1 at *
  have hk : ∀ b, b < W1.heap.size → w3.heap[b]? = W1.heap[b]? := fun b hb => (hgrow.block b (by simp; omega) (by simp [Value.ownBlock])).trans (Below.heap_alloc _ _ _ hb)
  have hg3 : w3.heap[w.heap.size]? = some (.cells #[.slice none 0 0, .slice none 0 0, .slice none 0 0, .slice none 0 0] 117 (0, 0)) := (hk _ (by omega)).trans hg1
  have hsz : W1.heap.size ≤ w3.heap.size := Nat.le_trans (by simp) hgrow.size
  have hge : w.heap.size + 1 ≤ g := (hown.lt g rfl).1
  have c0 : w3.cell? ⟨w.heap.size, 0, none⟩ = some (.slice none 0 0) := by simp [World.cell?, hg3]
  have fz : ∀ j, w3.frozen? ⟨w.heap.size, j, none⟩ = false := fun j => by simp [World.frozen?, hg3]
  have hb3 : Below w.heap.size w (w3.setCell ⟨w.heap.size, 0, none⟩ (.slice (some ⟨g, 0, none⟩) (0 + 1) cp)) :=
    ⟨hgrow.os.trans hb1.os, hgrow.tape.trans hb1.tape, hgrow.output.trans hb1.output, by simp [World.setCell]; omega, fun b hb => by
      rw [heap_setCell_other _ _ _ _ (by show b ≠ w.heap.size; omega), hk b (by omega), hb1.block b hb]⟩
  have OK := first_ok (w := w3.setCell ⟨w.heap.size, 0, none⟩ (.slice (some ⟨g, 0, none⟩) (0 + 1) cp)) (rb := w.heap.size) (rn := g) (cap := cp) (heap_setCell_same w3 w.heap.size 0 _ _ _ hg3)
    (ownsRow_setCell_other (row_base hown (Nat.zero_le _)) (by simp [Value.ownBlock]; omega) _)
  have HOK : Hid _ := OK
  have HB : Hid _ := hb3
  clear OK hb3 hk hg3 hown hgrow hat hb1 hg1
  go_wp2_with fail
  go_ret
  exact ⟨w.heap.size, g, cp, rfl, HOK.out, HB.out, Nat.le_refl _, by omega⟩
end Go.Proofs.YtcedebpoihcbdaaGreatDoor
