/-
  The four kinds of nodes as interface values: what their methods say, and what a type switch tells.
-/
import Derived.Test.YtcedebpoihcbdaaDoorW2
namespace Go.Proofs.YtcedebpoihcbdaaDoor
open Go.RowKit Gv

/-- The interface value of a node: 1 a root, 2 an element, 3 a text, 4 a note. -/
def KV (k : Nat) (v : Value) : Prop :=
  (k = 1 ∧ v = .iface 107 (.agg #[])) ∨ (k = 2 ∧ ∃ eb, v = .iface 58 (.pointer (some ⟨eb, 0, none⟩))) ∨ (k = 3 ∧ ∃ t : ByteArray, v = .iface 112 (.agg #[.string t])) ∨ (k = 4 ∧ ∃ t : ByteArray, v = .iface 113 (.agg #[.string t]))

theorem asRR (w : World) : (Instr.typeAssert (.iface 107 (.agg #[])) 74 107 true).run Tryd.prog w = .ok (.tuple #[.agg #[], .bool true]) w := by kernel_rfl
theorem asRE (w : World) : (Instr.typeAssert (.iface 107 (.agg #[])) 74 58 true).run Tryd.prog w = .ok (.tuple #[.pointer none, .bool false]) w := by kernel_rfl
theorem asRT (w : World) : (Instr.typeAssert (.iface 107 (.agg #[])) 74 112 true).run Tryd.prog w = .ok (.tuple #[.agg #[.string ByteArray.empty], .bool false]) w := by kernel_rfl
theorem asER (eb : Nat) (w : World) : (Instr.typeAssert (.iface 58 (.pointer (some ⟨eb, 0, none⟩))) 74 107 true).run Tryd.prog w = .ok (.tuple #[.agg #[], .bool false]) w := by kernel_rfl
theorem asEE (eb : Nat) (w : World) : (Instr.typeAssert (.iface 58 (.pointer (some ⟨eb, 0, none⟩))) 74 58 true).run Tryd.prog w = .ok (.tuple #[.pointer (some ⟨eb, 0, none⟩), .bool true]) w := by kernel_rfl
theorem asET (eb : Nat) (w : World) : (Instr.typeAssert (.iface 58 (.pointer (some ⟨eb, 0, none⟩))) 74 112 true).run Tryd.prog w = .ok (.tuple #[.agg #[.string ByteArray.empty], .bool false]) w := by kernel_rfl
theorem asTR (t : ByteArray) (w : World) : (Instr.typeAssert (.iface 112 (.agg #[.string t])) 74 107 true).run Tryd.prog w = .ok (.tuple #[.agg #[], .bool false]) w := by kernel_rfl
theorem asTE (t : ByteArray) (w : World) : (Instr.typeAssert (.iface 112 (.agg #[.string t])) 74 58 true).run Tryd.prog w = .ok (.tuple #[.pointer none, .bool false]) w := by kernel_rfl
theorem asTT (t : ByteArray) (w : World) : (Instr.typeAssert (.iface 112 (.agg #[.string t])) 74 112 true).run Tryd.prog w = .ok (.tuple #[.agg #[.string t], .bool true]) w := by kernel_rfl
theorem asNR (t : ByteArray) (w : World) : (Instr.typeAssert (.iface 113 (.agg #[.string t])) 74 107 true).run Tryd.prog w = .ok (.tuple #[.agg #[], .bool false]) w := by kernel_rfl
theorem asNE (t : ByteArray) (w : World) : (Instr.typeAssert (.iface 113 (.agg #[.string t])) 74 58 true).run Tryd.prog w = .ok (.tuple #[.pointer none, .bool false]) w := by kernel_rfl
theorem asNT (t : ByteArray) (w : World) : (Instr.typeAssert (.iface 113 (.agg #[.string t])) 74 112 true).run Tryd.prog w = .ok (.tuple #[.agg #[.string ByteArray.empty], .bool false]) w := by kernel_rfl
theorem mKR (x : Value) (w : World) : (method 260 107 x "MayHaveKids").run Tryd.prog w = .ok (108, x) w := by kernel_rfl
theorem mKR' (w : World) : Calls Tryd.prog 108 #[.agg #[]] w fun e w' => e = .returned (.bool true) ∧ Below w.heap.size w w' := by
  go_enter Tryd.func108, Tryd.ntmps108
  go_wp2
  go_ret
  first | exact ⟨rfl, (Below.refl _ _).alloc (Nat.le_refl _) _⟩ | exact ⟨rfl, Below.refl _ _⟩
theorem mKE (x : Value) (w : World) : (method 260 58 x "MayHaveKids").run Tryd.prog w = .ok (106, x) w := by kernel_rfl
theorem mKE' (eb : Nat) (w : World) : Calls Tryd.prog 106 #[.pointer (some ⟨eb, 0, none⟩)] w fun e w' => e = .returned (.bool true) ∧ Below w.heap.size w w' := by
  go_enter Tryd.func106, Tryd.ntmps106
  go_wp2
  go_ret
  first | exact ⟨rfl, (Below.refl _ _).alloc (Nat.le_refl _) _⟩ | exact ⟨rfl, Below.refl _ _⟩
theorem mKT (x : Value) (w : World) : (method 260 112 x "MayHaveKids").run Tryd.prog w = .ok (111, x) w := by kernel_rfl
theorem mKT' (t : ByteArray) (w : World) : Calls Tryd.prog 111 #[.agg #[.string t]] w fun e w' => e = .returned (.bool false) ∧ Below w.heap.size w w' := by
  go_enter Tryd.func111, Tryd.ntmps111
  go_wp2
  go_ret
  first | exact ⟨rfl, (Below.refl _ _).alloc (Nat.le_refl _) _⟩ | exact ⟨rfl, Below.refl _ _⟩
theorem mKN (x : Value) (w : World) : (method 260 113 x "MayHaveKids").run Tryd.prog w = .ok (113, x) w := by kernel_rfl
theorem mKN' (t : ByteArray) (w : World) : Calls Tryd.prog 113 #[.agg #[.string t]] w fun e w' => e = .returned (.bool false) ∧ Below w.heap.size w w' := by
  go_enter Tryd.func113, Tryd.ntmps113
  go_wp2
  go_ret
  first | exact ⟨rfl, (Below.refl _ _).alloc (Nat.le_refl _) _⟩ | exact ⟨rfl, Below.refl _ _⟩
theorem mPR (x : Value) (w : World) : (method 260 107 x "MayHaveParent").run Tryd.prog w = .ok (109, x) w := by kernel_rfl
theorem mPR' (w : World) : Calls Tryd.prog 109 #[.agg #[]] w fun e w' => e = .returned (.bool false) ∧ Below w.heap.size w w' := by
  go_enter Tryd.func109, Tryd.ntmps109
  go_wp2
  go_ret
  first | exact ⟨rfl, (Below.refl _ _).alloc (Nat.le_refl _) _⟩ | exact ⟨rfl, Below.refl _ _⟩
theorem mPE (x : Value) (w : World) : (method 260 58 x "MayHaveParent").run Tryd.prog w = .ok (107, x) w := by kernel_rfl
theorem mPE' (eb : Nat) (w : World) : Calls Tryd.prog 107 #[.pointer (some ⟨eb, 0, none⟩)] w fun e w' => e = .returned (.bool true) ∧ Below w.heap.size w w' := by
  go_enter Tryd.func107, Tryd.ntmps107
  go_wp2
  go_ret
  first | exact ⟨rfl, (Below.refl _ _).alloc (Nat.le_refl _) _⟩ | exact ⟨rfl, Below.refl _ _⟩
theorem mPT (x : Value) (w : World) : (method 260 112 x "MayHaveParent").run Tryd.prog w = .ok (112, x) w := by kernel_rfl
theorem mPT' (t : ByteArray) (w : World) : Calls Tryd.prog 112 #[.agg #[.string t]] w fun e w' => e = .returned (.bool true) ∧ Below w.heap.size w w' := by
  go_enter Tryd.func112, Tryd.ntmps112
  go_wp2
  go_ret
  first | exact ⟨rfl, (Below.refl _ _).alloc (Nat.le_refl _) _⟩ | exact ⟨rfl, Below.refl _ _⟩
theorem mPN (x : Value) (w : World) : (method 260 113 x "MayHaveParent").run Tryd.prog w = .ok (114, x) w := by kernel_rfl
theorem mPN' (t : ByteArray) (w : World) : Calls Tryd.prog 114 #[.agg #[.string t]] w fun e w' => e = .returned (.bool true) ∧ Below w.heap.size w w' := by
  go_enter Tryd.func114, Tryd.ntmps114
  go_wp2
  go_ret
  first | exact ⟨rfl, (Below.refl _ _).alloc (Nat.le_refl _) _⟩ | exact ⟨rfl, Below.refl _ _⟩

/-- Whatever the kind: which function the method is, and what it says. -/
theorem mKAll {k : Nat} {v : Value} (h : KV k v) : ∃ t x f, v = .iface t x ∧ (∀ w : World, (method 260 t x "MayHaveKids").run Tryd.prog w = .ok (f, x) w) ∧ (∀ w : World, (callFunc f #[x]).run Tryd.prog w = .ok (.enter f #[x]) w) ∧ ∀ w : World, Calls Tryd.prog f #[x] w fun e w' => e = .returned (.bool (decide (k ≤ 2))) ∧ Below w.heap.size w w' := by
  rcases h with ⟨rfl, rfl⟩ | ⟨rfl, eb, rfl⟩ | ⟨rfl, t, rfl⟩ | ⟨rfl, t, rfl⟩
  · exact ⟨_, _, _, rfl, fun w => mKR _ w, fun w => by kernel_rfl, fun w => mKR' w⟩
  · exact ⟨_, _, _, rfl, fun w => mKE _ w, fun w => by kernel_rfl, fun w => mKE' eb w⟩
  · exact ⟨_, _, _, rfl, fun w => mKT _ w, fun w => by kernel_rfl, fun w => mKT' t w⟩
  · exact ⟨_, _, _, rfl, fun w => mKN _ w, fun w => by kernel_rfl, fun w => mKN' t w⟩

/-- Whatever the kind: which function the method is, and what it says. -/
theorem mPAll {k : Nat} {v : Value} (h : KV k v) : ∃ t x f, v = .iface t x ∧ (∀ w : World, (method 260 t x "MayHaveParent").run Tryd.prog w = .ok (f, x) w) ∧ (∀ w : World, (callFunc f #[x]).run Tryd.prog w = .ok (.enter f #[x]) w) ∧ ∀ w : World, Calls Tryd.prog f #[x] w fun e w' => e = .returned (.bool (decide (k ≠ 1))) ∧ Below w.heap.size w w' := by
  rcases h with ⟨rfl, rfl⟩ | ⟨rfl, eb, rfl⟩ | ⟨rfl, t, rfl⟩ | ⟨rfl, t, rfl⟩
  · exact ⟨_, _, _, rfl, fun w => mPR _ w, fun w => by kernel_rfl, fun w => mPR' w⟩
  · exact ⟨_, _, _, rfl, fun w => mPE _ w, fun w => by kernel_rfl, fun w => mPE' eb w⟩
  · exact ⟨_, _, _, rfl, fun w => mPT _ w, fun w => by kernel_rfl, fun w => mPT' t w⟩
  · exact ⟨_, _, _, rfl, fun w => mPN _ w, fun w => by kernel_rfl, fun w => mPN' t w⟩

section
variable {w : World} {B gb nb cap N : Nat} {s : Fo} {kd : Nat → Value} {K : Nat → List Nat} {r : Re}

/-- The node as an element: where it is one. -/
theorem elementF (h : Held w B gb nb cap (N + 1) s kd r) (n : Nat) (hn : n ≤ N) {k : Nat} (hk : KV k (kd n)) :
    Calls Tryd.prog 25 #[.pointer (some ⟨gb, 0, none⟩), .int .i64 n] w fun e w' => w' = w ∧ ((k = 2 ∧ ∃ eb, kd n = .iface 58 (.pointer (some ⟨eb, 0, none⟩)) ∧ e = .returned (.pointer (some ⟨eb, 0, none⟩))) ∨ (k ≠ 2 ∧ e = .returned (.pointer none))) := by
  have HH : Hid (Held w B gb nb cap (N + 1) s kd r) := h
  have hL := h.hL
  have a1 := asRE
  have a2 := asEE
  have a3 := asTE
  have a4 := asNE
  clear h
  rcases hk with ⟨rfl, hk⟩ | ⟨rfl, eb, hk⟩ | ⟨rfl, t, hk⟩ | ⟨rfl, t, hk⟩
  all_goals
    have HK : Hid (kd n = _) := hk
    clear hk
    go_enter Tryd.func25, Tryd.ntmps25
    go_wp2_with fail
    refine (kindF HH.out n (by omega) HK.out).mono ?_
    rintro e w ⟨rfl, rfl⟩
    go_wp2_with fail
    go_ret
  · exact ⟨rfl, .inr ⟨by omega, rfl⟩⟩
  · exact ⟨rfl, .inl ⟨by trivial, eb, HK.out, rfl⟩⟩
  · exact ⟨rfl, .inr ⟨by omega, rfl⟩⟩
  · exact ⟨rfl, .inr ⟨by omega, rfl⟩⟩
end
end Go.Proofs.YtcedebpoihcbdaaDoor
