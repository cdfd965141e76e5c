/-
  What a filter says of a node.
-/
import Derived.Test.YtcedebpoihcbdaaY0
import Derived.Deep.QuietTactic
namespace Go.Proofs.Ytcedebpoihcbdaa
open Go.RowKit Gv

theorem numC {k : Nat} {v : Value} (hk : KV k v) (w : World) : Calls Try.prog 72 #[v] w fun e w' => e = .returned (.int .i64 k) ∧ w' = w := by
  have a1 := asRR
  have a2 := asER
  have a3 := asEE
  have a4 := asTR
  have a5 := asTE
  have a6 := asTT
  have a7 := asNR
  have a8 := asNE
  have a9 := asNT
  rcases hk with ⟨rfl, rfl⟩ | ⟨rfl, eb, rfl⟩ | ⟨rfl, t, rfl⟩ | ⟨rfl, t, rfl⟩
  all_goals
    go_enter Try.func72, Try.ntmps72
    go_wp2
    go_ret
    exact ⟨rfl, rfl⟩

/-! ### rules -/
abbrev Rule := ByteArray × Int
def rrow (x : Rule) : List Value := [.string x.1, .int .i64 x.2]
theorem rrow_len (x : Rule) : (rrow x).length = 2 := rfl

structure Rls (w : World) (B : Nat) (rv : Value) (rules : List Rule) : Prop where
  row : w.ownsRow B 113 2 rv rules.length (rules.flatMap rrow)
  few : rules.length ≤ 10

theorem Rls.since {w w' : World} {B : Nat} {rv : Value} {rules : List Rule} (h : Rls w B rv rules) (hb : Below w.heap.size w w') : Rls w' B rv rules := ⟨ownsRow_since h.row hb, h.few⟩
theorem Rls.fr {S : Nat → Prop} {w w' : World} {B : Nat} {rv : Value} {rules : List Rule} (h : Rls w B rv rules) (hf : Fr S w w') (hn : ∀ g, rv.ownBlock = some g → ¬ S g) : Rls w' B rv rules := ⟨ownsRow_fr h.row hf hn, h.few⟩
theorem rls_none (w : World) (B : Nat) : Rls w B (.slice none 0 0) [] := ⟨World.ownsRow_nil _ _ _ _, by simp⟩

/-- The verdict of the first rule of a tag; 1 (accepted) if there is none. -/
def tagSays : List Rule → ByteArray → Int
  | [], _ => 1
  | x :: l, t => if (x.1.toList == t.toList) = true then x.2 else tagSays l t

def seeB (see : Int) (k : Nat) : Bool := !(bits BinOp.and IntKind.i64 see (IntKind.i64.wrap (2 ^ min k 64)) == 0)

/-- What a filter says of a node of this kind and tag. -/
def saysF (see : Int) (rules : List Rule) (k : Nat) (t : ByteArray) : Int := if seeB see k = true then (if k = 2 then tagSays rules t else 1) else 3

theorem tagSays_skip {rules : List Rule} {t : ByteArray} {k : Nat} (h : ∀ x, x ∈ rules.take k → (x.1.toList == t.toList) = false) : tagSays rules t = tagSays (rules.drop k) t := by
  induction k generalizing rules with
  | zero => rfl
  | succ k ih =>
    cases rules with
    | nil => rfl
    | cons x l =>
      have hx : (x.1.toList == t.toList) = false := h x (by simp)
      show (if (x.1.toList == t.toList) = true then x.2 else tagSays l t) = _
      rw [if_neg (by rw [hx]; simp)]
      exact ih (fun y hy => h y (by simp [hy]))

set_option maxRecDepth 100000 in
set_option maxHeartbeats 400000 in
theorem saysTagC {w : World} {B : Nat} {rv : Value} {rules : List Rule} (fb fo : Nat) (hc : w.cell? ⟨fb, fo + 1, none⟩ = some rv) (hR : Rls w B rv rules) (t : ByteArray) :
    Calls Try.prog 73 #[.pointer (some ⟨fb, fo, none⟩), .string t] w fun e w' => e = .returned (.int .i64 (tagSays rules t)) ∧ Below w.heap.size w w' := by
  have hfew := hR.few
  rcases row_form hR.row with ⟨hv, hn⟩ | ⟨rb, rcap, hv, hrb, hrs, hcur, hrc⟩
  · subst hv
    have HN : Hid (rules = []) := List.length_eq_zero_iff.1 hn
    clear hn hR
    go_enter Try.func73, Try.ntmps73
    go_wp2_with fail
    go_loopw [12] (fun i wr => i = .int .i64 0 ∧ wr = w) (fun _ _ => 0)
    case atStart => exact ⟨rfl, rfl⟩
    case round =>
      obtain ⟨rfl, rfl⟩ := hrel
      obtain ⟨w, rfl⟩ : ∃ w : World, w = wr := ⟨_, rfl⟩
      go_wp2_with fail
      go_ret
      exact ⟨by rw [HN.out]; rfl, Below.refl _ _⟩
  · subst hv
    have HR : Hid (Rls w B (.slice (some ⟨rb, 0, none⟩) rules.length rcap) rules) := hR
    clear hR hcur
    go_enter Try.func73, Try.ntmps73
    go_wp2_with fail
    go_loopw [12] (fun i wr => ∃ k : Nat, k ≤ rules.length ∧ i = .int .i64 k ∧ (∀ x, x ∈ rules.take k → (x.1.toList == t.toList) = false) ∧ Below w.heap.size w wr) (fun i _ => rules.length - (intOf i).toNat)
    case atStart => exact ⟨0, Nat.zero_le _, rfl, by simp, Below.refl _ _⟩
    case round =>
      obtain ⟨k, hk, rfl, hno, hbel⟩ := hrel
      have HNo : Hid (∀ x, x ∈ rules.take k → (x.1.toList == t.toList) = false) := hno
      have HB : Hid (Below w.heap.size w wr) := hbel
      clear hno hbel
      by_cases hlt : k < rules.length
      · have hget : rules[k]? = some rules[k] := List.getElem?_eq_getElem hlt
        have hd : rules.drop k = rules[k] :: rules.drop (k + 1) := List.drop_eq_getElem_cons hlt
        have htk : rules.take (k + 1) = rules.take k ++ [rules[k]] := List.take_succ_eq_append_getElem hlt
        have q0 : wr.cell? ⟨rb, k * 2, none⟩ = some (.string rules[k].1) := by
          rw [HB.out.cell (p := ⟨rb, k * 2, none⟩) hrs, HR.out.row.cellAt (k * 2) (by omega)]
          exact flat_at rrow_len (j := 0) hget (by omega)
        have q1 : wr.cell? ⟨rb, k * 2 + 1, none⟩ = some (.int .i64 rules[k].2) := by
          rw [HB.out.cell (p := ⟨rb, k * 2 + 1, none⟩) hrs, HR.out.row.cellAt (k * 2 + 1) (by omega)]
          exact flat_at rrow_len (j := 1) hget (by omega)
        have HD : Hid (rules.drop k = rules[k] :: rules.drop (k + 1)) := hd
        have HT : Hid (rules.take (k + 1) = rules.take k ++ [rules[k]]) := htk
        clear hget hd htk
        generalize rules[k] = x at *
        cases ht : (x.1.toList == t.toList) with
        | true =>
          have HX : Hid (tagSays rules t = x.2) := by
            show tagSays rules t = x.2
            rw [tagSays_skip HNo.out, HD.out]
            show (if (x.1.toList == t.toList) = true then x.2 else _) = _
            rw [if_pos ht]
          clear HD HT
          go_wp2_with fail
          go_ret
          exact ⟨ret_int (by rw [HX.out]), HB.out.alloc HB.out.size _⟩
        | false =>
          have HX : Hid ((x.1.toList == t.toList) = false) := ht
          go_wp2_with fail
          go_roundw
          case rel =>
            refine ⟨k + 1, hlt, by go_num, fun y hy => ?_, HB.out.alloc HB.out.size _⟩
            rw [HT.out] at hy
            rcases List.mem_append.1 hy with hy | hy
            · exact HNo.out y hy
            · simp at hy; subst hy; exact HX.out
          case measure => simp [intOf]; omega
      · have hkk : k = rules.length := by omega
        subst hkk
        have HX : Hid (tagSays rules t = 1) := by
          show tagSays rules t = 1
          rw [tagSays_skip HNo.out, List.drop_of_length_le (Nat.le_refl _)]
          rfl
        go_wp2_with fail
        go_ret
        exact ⟨ret_int (by rw [HX.out]), HB.out⟩

theorem below_drewN0 {w w' : World} {n : Nat} (h : Below w.heap.size (w.drewN n) w') : Below w.heap.size w w' := ⟨h.os, h.tape, h.output, h.size, h.block⟩

set_option maxRecDepth 100000 in
set_option maxHeartbeats 400000 in
theorem saysC {k : Nat} {v : Value} (hk : KV k v) {w : World} {B : Nat} {rv : Value} {rules : List Rule} {t : ByteArray} (fb fo : Nat) (see : Int) (h1 : w.cell? ⟨fb, fo, none⟩ = some (.int .i64 see)) (h2 : w.cell? ⟨fb, fo + 1, none⟩ = some rv) (hR : Rls w B rv rules) (he : k = 2 → ∃ mb, El w B v t mb) :
    Calls Try.prog 58 #[.pointer (some ⟨fb, fo, none⟩), v] w fun e w' => e = .returned (.int .i64 (saysF see rules k t)) ∧ Below w.heap.size w w' := by
  have HK : Hid (KV k v) := hk
  have HR : Hid (Rls w B rv rules) := hR
  have HE : Hid (k = 2 → ∃ mb, El w B v t mb) := he
  clear he hR
  cases hs : seeB see k with
  | false =>
    have ht : (bits BinOp.and IntKind.i64 see (IntKind.i64.wrap (2 ^ min k 64)) == 0) = true := by unfold seeB at hs; simpa using hs
    have HS : Hid (saysF see rules k t = 3) := by show saysF see rules k t = 3; simp [saysF, hs]
    clear hs hk
    go_enter Try.func58, Try.ntmps58
    go_wp2_with fail
    go_quiet ((go_at_call 72; exact Calls.quiet_of_same (numC HK.out _)))
    go_wp2_with fail
    go_ret
    exact ⟨ret_int (by rw [HS.out]), ⟨rfl, rfl, rfl, Nat.le_refl _, fun _ _ => rfl⟩⟩
  | true =>
    have ht : (bits BinOp.and IntKind.i64 see (IntKind.i64.wrap (2 ^ min k 64)) == 0) = false := by unfold seeB at hs; simpa using hs
    have HS : Hid (saysF see rules k t = if k = 2 then tagSays rules t else 1) := by show saysF see rules k t = _; simp [saysF, hs]
    have a1 := asRE
    have a2 := asEE
    have a3 := asTE
    have a4 := asNE
    clear hs
    rcases hk with ⟨rfl, rfl⟩ | ⟨rfl, eb, rfl⟩ | ⟨rfl, t', rfl⟩ | ⟨rfl, t', rfl⟩
    · rw [show (2 ^ min 1 64 : Int) = 2 from by decide] at ht
      go_enter Try.func58, Try.ntmps58
      go_wp2_with fail
      go_quiet ((go_at_call 72; exact Calls.quiet_of_same (numC HK.out _)))
      go_wp2_with fail
      go_ret
      exact ⟨ret_int (by rw [HS.out]; rfl), ⟨rfl, rfl, rfl, Nat.le_refl _, fun _ _ => rfl⟩⟩
    · rw [show (2 ^ min 2 64 : Int) = 4 from by decide] at ht
      obtain ⟨mb, eb', hv, hcells, _⟩ := HE.out rfl
      simp at hv
      subst hv
      have hc0 : w.cell? ⟨eb, 0, none⟩ = some (.string t) := cells_of hcells 0
      clear hcells
      go_enter Try.func58, Try.ntmps58
      go_wp2_with fail
      go_quiet ((go_at_call 72; exact Calls.quiet_of_same (numC HK.out _)))
      go_wp2_with fail
      refine (saysTagC (w := w.drewN nq) (B := B) (rv := rv) (rules := rules) fb fo h2 ⟨ownsRow_same HR.out.row (fun _ _ => rfl), HR.out.few⟩ t).mono ?_
      rintro e w2 ⟨rfl, hb2⟩
      have HB2 : Hid _ := hb2
      clear hb2
      go_wp2_with fail
      go_ret
      exact ⟨ret_int (by rw [HS.out]; rfl), below_drewN0 HB2.out⟩
    · rw [show (2 ^ min 3 64 : Int) = 8 from by decide] at ht
      go_enter Try.func58, Try.ntmps58
      go_wp2_with fail
      go_quiet ((go_at_call 72; exact Calls.quiet_of_same (numC HK.out _)))
      go_wp2_with fail
      go_ret
      exact ⟨ret_int (by rw [HS.out]; rfl), ⟨rfl, rfl, rfl, Nat.le_refl _, fun _ _ => rfl⟩⟩
    · rw [show (2 ^ min 4 64 : Int) = 16 from by decide] at ht
      go_enter Try.func58, Try.ntmps58
      go_wp2_with fail
      go_quiet ((go_at_call 72; exact Calls.quiet_of_same (numC HK.out _)))
      go_wp2_with fail
      go_ret
      exact ⟨ret_int (by rw [HS.out]; rfl), ⟨rfl, rfl, rfl, Nat.le_refl _, fun _ _ => rfl⟩⟩
end Go.Proofs.Ytcedebpoihcbdaa
