/-
  What the grove's fits, mayPut and Put do, where no node is a root.
-/
import Derived.Test.YtffgopdccgcdnaaW2
namespace Go.Proofs.Ytffgopdccgcdnaa
open Go.RowKit Gv

/-- The interface value of a node: 1 a root, 2 an element, 3 a text, else a note. -/
def kindV (k : Nat) (t : ByteArray) : Value :=
  if k = 1 then .iface 70 (.agg #[]) else if k = 2 then .iface 67 (.agg #[.string t]) else if k = 3 then .iface 72 (.agg #[.string t]) else .iface 73 (.agg #[.string t])

theorem as67_70 (v : Value) (w : World) : (Instr.typeAssert (.iface 67 v) 51 70 true).run Try.prog w = .ok (.tuple #[.agg #[], .bool false]) w := by kernel_rfl
theorem mK67 (x : Value) (w : World) : (method 190 67 x "MayHaveKids").run Try.prog w = .ok (51, x) w := by kernel_rfl
theorem mK72 (x : Value) (w : World) : (method 190 72 x "MayHaveKids").run Try.prog w = .ok (55, x) w := by kernel_rfl
theorem mK73 (x : Value) (w : World) : (method 190 73 x "MayHaveKids").run Try.prog w = .ok (57, x) w := by kernel_rfl
theorem mP67 (x : Value) (w : World) : (method 190 67 x "MayHaveParent").run Try.prog w = .ok (52, x) w := by kernel_rfl
theorem mP72 (x : Value) (w : World) : (method 190 72 x "MayHaveParent").run Try.prog w = .ok (56, x) w := by kernel_rfl
theorem mP73 (x : Value) (w : World) : (method 190 73 x "MayHaveParent").run Try.prog w = .ok (58, x) w := by kernel_rfl

theorem kids51 (t : ByteArray) (w : World) : Calls Try.prog 51 #[.agg #[.string t]] w fun e w' => e = .returned (.bool true) ∧ Below w.heap.size w w' := by
  go_enter Try.func51, Try.ntmps51
  go_wp2
  go_ret
  exact ⟨rfl, (Below.refl _ _).alloc (Nat.le_refl _) _⟩
theorem kids55 (t : ByteArray) (w : World) : Calls Try.prog 55 #[.agg #[.string t]] w fun e w' => e = .returned (.bool false) ∧ Below w.heap.size w w' := by
  go_enter Try.func55, Try.ntmps55
  go_wp2
  go_ret
  exact ⟨rfl, (Below.refl _ _).alloc (Nat.le_refl _) _⟩
theorem kids57 (t : ByteArray) (w : World) : Calls Try.prog 57 #[.agg #[.string t]] w fun e w' => e = .returned (.bool false) ∧ Below w.heap.size w w' := by
  go_enter Try.func57, Try.ntmps57
  go_wp2
  go_ret
  exact ⟨rfl, (Below.refl _ _).alloc (Nat.le_refl _) _⟩
theorem par52 (t : ByteArray) (w : World) : Calls Try.prog 52 #[.agg #[.string t]] w fun e w' => e = .returned (.bool true) ∧ Below w.heap.size w w' := by
  go_enter Try.func52, Try.ntmps52
  go_wp2
  go_ret
  exact ⟨rfl, (Below.refl _ _).alloc (Nat.le_refl _) _⟩
theorem par56 (t : ByteArray) (w : World) : Calls Try.prog 56 #[.agg #[.string t]] w fun e w' => e = .returned (.bool true) ∧ Below w.heap.size w w' := by
  go_enter Try.func56, Try.ntmps56
  go_wp2
  go_ret
  exact ⟨rfl, (Below.refl _ _).alloc (Nat.le_refl _) _⟩
theorem par58 (t : ByteArray) (w : World) : Calls Try.prog 58 #[.agg #[.string t]] w fun e w' => e = .returned (.bool true) ∧ Below w.heap.size w w' := by
  go_enter Try.func58, Try.ntmps58
  go_wp2
  go_ret
  exact ⟨rfl, (Below.refl _ _).alloc (Nat.le_refl _) _⟩

section
variable {w : World} {B gb nb cap N : Nat} {s : Fo} {kd : Nat → Value} {K : Nat → List Nat}

theorem fitsG (h : Held w B gb nb cap (N + 1) s kd) (p c : Nat) (hn : p ≤ N) {x : Value} (hk : kd p = .iface 67 x) :
    Calls Try.prog 28 #[.pointer (some ⟨gb, 0, none⟩), .int .i64 p, .int .i64 c] w fun e w' => e = .returned (.bool true) ∧ w' = w := by
  have HH : Hid (Held w B gb nb cap (N + 1) s kd) := h
  have HK : Hid (kd p = .iface 67 x) := hk
  have hL := h.hL
  have ha := as67_70
  clear h hk
  go_enter Try.func28, Try.ntmps28
  go_wp2_with fail
  refine (kindF HH.out p (by omega) HK.out).mono ?_
  rintro e w ⟨rfl, rfl⟩
  go_wp2_with fail
  go_ret
  exact ⟨rfl, rfl⟩

set_option maxHeartbeats 400000 in
theorem mayPutNo (h : Held w B gb nb cap (N + 1) s kd) (p c b : Nat) (h1 : 1 ≤ p) (hn : p ≤ N) (hc1 : 1 ≤ c) (hcN : c ≤ N) (hb : b ≤ N) {t : ByteArray} (hk : kd p = .iface 72 (.agg #[.string t]) ∨ kd p = .iface 73 (.agg #[.string t])) :
    Calls Try.prog 15 #[.pointer (some ⟨gb, 0, none⟩), .int .i64 p, .int .i64 c, .int .i64 b] w fun e w' => e = .returned (.int .i64 6) ∧ Below w.heap.size w w' := by
  have HH : Hid (Held w B gb nb cap (N + 1) s kd) := h
  have hL := h.hL
  have b1 : hasB (N + 1) p = true := by simp [hasB]; omega
  have b2 : hasB (N + 1) c = true := by simp [hasB]; omega
  have m1 := mK72
  have m2 := mK73
  clear h
  by_cases eb : b = 0
  · subst eb
    rcases hk with hk | hk
    · have HK : Hid (kd p = .iface 72 (.agg #[.string t])) := hk
      clear hk
      go_enter Try.func15, Try.ntmps15
      go_wp2_with fail
      refine (hasF HH.out p).mono ?_
      rintro e w ⟨rfl, rfl⟩
      go_wp2_with fail
      refine (hasF HH.out c).mono ?_
      rintro e w ⟨rfl, rfl⟩
      go_wp2_with fail
      refine (kindF HH.out p (by omega) HK.out).mono ?_
      rintro e w ⟨rfl, rfl⟩
      go_wp2_with fail
      refine (kids55 t _).mono ?_
      rintro e w1 ⟨rfl, hb1⟩
      go_wp2_with fail
      go_ret
      exact ⟨rfl, hb1⟩
    · have HK : Hid (kd p = .iface 73 (.agg #[.string t])) := hk
      clear hk
      go_enter Try.func15, Try.ntmps15
      go_wp2_with fail
      refine (hasF HH.out p).mono ?_
      rintro e w ⟨rfl, rfl⟩
      go_wp2_with fail
      refine (hasF HH.out c).mono ?_
      rintro e w ⟨rfl, rfl⟩
      go_wp2_with fail
      refine (kindF HH.out p (by omega) HK.out).mono ?_
      rintro e w ⟨rfl, rfl⟩
      go_wp2_with fail
      refine (kids57 t _).mono ?_
      rintro e w1 ⟨rfl, hb1⟩
      go_wp2_with fail
      go_ret
      exact ⟨rfl, hb1⟩
  · have eb' : ((b : Int) != 0) = true := by simp; omega
    have b3 : hasB (N + 1) b = true := by simp [hasB]; omega
    clear eb
    rcases hk with hk | hk
    · have HK : Hid (kd p = .iface 72 (.agg #[.string t])) := hk
      clear hk
      go_enter Try.func15, Try.ntmps15
      go_wp2_with fail
      refine (hasF HH.out p).mono ?_
      rintro e w ⟨rfl, rfl⟩
      go_wp2_with fail
      refine (hasF HH.out c).mono ?_
      rintro e w ⟨rfl, rfl⟩
      go_wp2_with fail
      refine (hasF HH.out b).mono ?_
      rintro e w ⟨rfl, rfl⟩
      go_wp2_with fail
      refine (kindF HH.out p (by omega) HK.out).mono ?_
      rintro e w ⟨rfl, rfl⟩
      go_wp2_with fail
      refine (kids55 t _).mono ?_
      rintro e w1 ⟨rfl, hb1⟩
      go_wp2_with fail
      go_ret
      exact ⟨rfl, hb1⟩
    · have HK : Hid (kd p = .iface 73 (.agg #[.string t])) := hk
      clear hk
      go_enter Try.func15, Try.ntmps15
      go_wp2_with fail
      refine (hasF HH.out p).mono ?_
      rintro e w ⟨rfl, rfl⟩
      go_wp2_with fail
      refine (hasF HH.out c).mono ?_
      rintro e w ⟨rfl, rfl⟩
      go_wp2_with fail
      refine (hasF HH.out b).mono ?_
      rintro e w ⟨rfl, rfl⟩
      go_wp2_with fail
      refine (kindF HH.out p (by omega) HK.out).mono ?_
      rintro e w ⟨rfl, rfl⟩
      go_wp2_with fail
      refine (kids57 t _).mono ?_
      rintro e w1 ⟨rfl, hb1⟩
      go_wp2_with fail
      go_ret
      exact ⟨rfl, hb1⟩
end
end Go.Proofs.Ytffgopdccgcdnaa
