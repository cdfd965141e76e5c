/-
  slices.IndexFunc and slices.DeleteFunc, where the function handed in is that of the list's look, which may make new blocks.
-/
import Derived.Test.YtcedebpoihcbdaaDoorW6
import Derived.Lib.SliceRun
import Derived.Laws.IdiomCopy
namespace Go.Proofs.YtcedebpoihcbdaaDoor
open Go.RowKit Gv

theorem cells_setCells {g : Nat} {t : TypeId} {fr : Nat × Nat} : ∀ (vs : List Value) (o : Nat) (w : World) (cur : Array Value), w.heap[g]? = some (.cells cur t fr) → ∃ cur', (w.setCells g o vs).heap[g]? = some (.cells cur' t fr) ∧ cur'.size = cur.size ∧ ∀ k, k < o → cur'[k]? = cur[k]?
  | [], _, _, cur, h => ⟨cur, h, rfl, fun _ _ => rfl⟩
  | v :: vs, o, w, cur, h => by
    obtain ⟨c', h1, h2, h3⟩ := cells_setCells vs (o + 1) (w.setCell ⟨g, o, none⟩ v) (cur.setIfInBounds o v) (cells_setCell h)
    refine ⟨c', h1, by rw [h2]; simp, fun k hk => ?_⟩
    rw [h3 k (by omega), Array.getElem?_setIfInBounds_ne (by omega)]

theorem fr_setCells {g : Nat} {S : Nat → Prop} (hg : S g) : ∀ (vs : List Value) (o : Nat) (a w : World), Fr S a w → Fr S a (w.setCells g o vs)
  | [], _, _, _, h => h
  | v :: vs, o, a, _, h => fr_setCells hg vs (o + 1) a _ (h.setCell (p := ⟨g, o, none⟩) hg v)

/-- What the function handed in tells, in whatever world where all but the row's own block is as it was. -/
def Tells (b1 b2 : Nat) (S : Nat → Prop) (p : Nat → Bool) (l : List Nat) (w : World) : Prop :=
  ∀ x, x ∈ l → ∀ W, Fr S w W → Calls Tryd.prog 68 #[.int .i64 (x : Nat), .pointer (some ⟨b1, 0, none⟩), .pointer (some ⟨b2, 0, none⟩)] W fun e W' => e = .returned (.bool (p x)) ∧ Below W.heap.size W W'

theorem getD_mem {l : List Nat} {k : Nat} (h : k < l.length) : l.getD k 0 ∈ l := by
  rw [List.getD_eq_getElem?_getD, List.getElem?_eq_getElem h]; exact List.getElem_mem _

set_option maxRecDepth 100000 in
set_option maxHeartbeats 400000 in
theorem indexF (b1 b2 : Nat) (S : Nat → Prop) (p : Nat → Bool) (l : List Nat) (ao : Option Addr) (c : Nat) (w : World) (hl : l.length ≤ 1000) (hn : Nums w ao l.length l) (hp : Tells b1 b2 S p l w) :
    Calls Tryd.prog 77 #[.slice ao l.length c, .func (.func 68) #[] #[.pointer (some ⟨b1, 0, none⟩), .pointer (some ⟨b2, 0, none⟩)]] w fun e w' => Below w.heap.size w w' ∧
      ((e = .returned (.int .i64 (-1)) ∧ ∀ x, x ∈ l → p x = false) ∨ ∃ k : Nat, k < l.length ∧ e = .returned (.int .i64 k) ∧ p (l.getD k 0) = true ∧ ∀ j, j < k → p (l.getD j 0) = false) := by
  have HP : Hid (Tells b1 b2 S p l w) := hp
  have HN : Hid (Nums w ao l.length l) := hn
  clear hp hn
  go_enter Tryd.func77, Tryd.ntmps77
  go_wp2_with fail
  go_loopg [8] l.length (fun m i wr => ∃ k : Nat, i = .int .i64 k ∧ m + k = l.length ∧ Below w.heap.size w wr ∧ ∀ j, j < k → p (l.getD j 0) = false)
  case atStart => exact ⟨0, rfl, by omega, Below.refl _ _, fun j hj => absurd hj (by omega)⟩
  case round =>
    obtain ⟨k, rfl, hk, hB, hno⟩ := hrel
    have HB : Hid (Below w.heap.size w wr) := hB
    have HNo : Hid (∀ j, j < k → p (l.getD j 0) = false) := hno
    clear hB hno
    by_cases hlt : k < l.length
    · have hlt' : (k : Int) < ((l.length : Nat) : Int) := by omega
      rcases HN.out with h0 | ⟨g, rfl, hg, hc⟩
      · omega
      have hcell : wr.cell? ⟨g, k, none⟩ = some (.int .i64 (l.getD k 0 : Nat)) := (HB.out.cell (p := ⟨g, k, none⟩) hg).trans (hc k hlt)
      have HC := HP.out (l.getD k 0) (getD_mem hlt) wr (Fr.of_below HB.out)
      have HCC : Hid _ := HC
      clear hc HC
      generalize hx : l.getD k 0 = x at *
      have HX : Hid (l.getD k 0 = x) := hx
      clear hx
      go_wp2_with fail
      refine Calls.mono HCC.out ?_
      rintro e w2 ⟨rfl, hB2⟩
      have HB2 : Hid (Below w.heap.size w w2) := HB.out.trans (hB2.mono HB.out.size)
      clear hB2 HCC
      cases hpx : p x with
      | true =>
        go_wp2_with fail
        go_ret
        exact ⟨HB2.out, .inr ⟨k, hlt, rfl, by rw [HX.out]; exact hpx, HNo.out⟩⟩
      | false =>
        go_wp2_with fail
        go_roundg (gk - 1)
        case measure => omega
        case rel =>
          refine ⟨k + 1, by go_num, by omega, HB2.out, fun j hj => ?_⟩
          by_cases e : j = k
          · subst e; rw [HX.out]; exact hpx
          · exact HNo.out j (by omega)
    · have hlt' : ¬ (k : Int) < ((l.length : Nat) : Int) := by omega
      go_wp2_with fail
      go_ret
      refine ⟨HB.out, .inl ⟨rfl, fun x hx => ?_⟩⟩
      obtain ⟨j, hj, rfl⟩ := List.getElem_of_mem hx
      have := HNo.out j (by omega)
      rwa [List.getD_eq_getElem?_getD, List.getElem?_eq_getElem hj] at this
end Go.Proofs.YtcedebpoihcbdaaDoor
