/-
  What New, Make and what they call do.
-/
import Derived.Test.YtcedebpoihcbdaaDoorX2
import Derived.Deep.AppendLies
namespace Go.Proofs.YtcedebpoihcbdaaDoor
open Go.RowKit Gv

theorem Tryd.info86 : (Tryd.prog.info? 86).map (fun i => (i.zero, i.size, i.bytes)) = some (some (.agg #[.int .i64 0, .int .i64 0, .int .i64 0, .int .i64 0, .int .i64 0, .nilIface]), 6, 56) := by kernel_rfl

def zeroF : Fo := { par := fun _ => 0, ahd := fun _ => 0, bhd := fun _ => 0, fst := fun _ => 0, lst := fun _ => 0 }
def noKind : Nat → Value := fun _ => .nilIface

theorem make1 (w : World) : (Instr.makeSlice 39 (.int .i64 1) (.int .i64 1)).run Tryd.prog w = .ok (.slice (some ⟨w.heap.size, 0, none⟩) 1 1) (w.alloc (.cells #[.int .i64 0, .int .i64 0, .int .i64 0, .int .i64 0, .int .i64 0, .nilIface] 86)) := by
  obtain ⟨i0, hi, hz0, hz1, hz2⟩ := info_parts Tryd.info86
  have h := run_make (P := Tryd.prog) w 39 86 i0 _ Tryd.underlying39 hi hz0 .i64 .i64 1 1 (by decide) (by decide) (by rw [hz2]; decide) (by decide)
  rw [hz1, show madeCells (Value.agg #[.int .i64 0, .int .i64 0, .int .i64 0, .int .i64 0, .int .i64 0, .nilIface]).cells (Int.toNat 1 * 6) = #[.int .i64 0, .int .i64 0, .int .i64 0, .int .i64 0, .int .i64 0, .nilIface] from by kernel_rfl] at h
  exact h

theorem newForest (w : World) : Calls Tryd.prog 35 #[] w fun e w' => e = .returned (.agg #[.slice (some ⟨w.heap.size + 1, 0, none⟩) 1 1, .int .i64 0, .int .i64 0]) ∧ w'.ownsRow w.heap.size 86 6 (.slice (some ⟨w.heap.size + 1, 0, none⟩) 1 1) 1 (cellsF 1 zeroF noKind) ∧ Below w.heap.size w w' := by
  have hmk := make1
  go_enter Tryd.func35, Tryd.ntmps35
  go_wp2
  have h1 := World.ownsRow_lit (e := 86) (size := 6) (base := w.heap.size) (w.alloc (.cells #[.slice (some ⟨w.heap.size + 1, 0, none⟩) 1 1, .int .i64 0, .int .i64 0] 43)) #[.int .i64 0, .int .i64 0, .int .i64 0, .int .i64 0, .int .i64 0, .nilIface] 1 (by simp) (by decide) rfl
  have h2 : Below w.heap.size w ((w.alloc (.cells #[.slice (some ⟨w.heap.size + 1, 0, none⟩) 1 1, .int .i64 0, .int .i64 0] 43)).alloc (.cells #[.int .i64 0, .int .i64 0, .int .i64 0, .int .i64 0, .int .i64 0, .nilIface] 86)) := ((Below.refl _ _).alloc (Nat.le_refl _) _).alloc (by simp) _
  rw [World.size_alloc] at h1
  exact bodyPost_ret (v := .agg #[.slice (some ⟨w.heap.size + 1, 0, none⟩) 1 1, .int .i64 0, .int .i64 0]) (by simp [results, Tryd.results35, go_sem]) rfl ⟨rfl, h1, h2⟩

def re0 : Re := { pl := 0, cl := 0, lv := .slice none 0 0, iv := .slice none 0 0, wv := .slice none 0 0 }

theorem newG (w : World) : Calls Tryd.prog 13 #[] w fun e w' => ∃ gb nb, e = .returned (.pointer (some ⟨gb, 0, none⟩)) ∧ Held w' w.heap.size gb nb 1 1 zeroF noKind re0 ∧ Below w.heap.size w w' := by
  go_enter Tryd.func13, Tryd.ntmps13
  go_wp2_with fail
  refine (newForest w).mono ?_
  rintro e w1 ⟨rfl, hown, hbel⟩
  have hlt := hbel.size
  have HO : Hid _ := hown
  have HB : Hid (Below w.heap.size w w1) := hbel
  clear hown hbel
  go_wp2_with fail
  go_ret
  have h1 : (w1.alloc (.cells #[.slice (some ⟨w.heap.size + 1, 0, none⟩) 1 1, .int .i64 0, .int .i64 0, .slice none 0 0, .slice none 0 0, .slice none 0 0] 48)).ownsRow w.heap.size 86 6 (.slice (some ⟨w.heap.size + 1, 0, none⟩) 1 1) 1 (cellsF 1 zeroF noKind) := World.ownsRow.alloc HO.out _
  exact ⟨w1.heap.size, w.heap.size + 1, rfl, ⟨heap_alloc_new w1 _, h1, hlt, by omega⟩, HB.out.alloc hlt _⟩

/-! ### names -/
def okB (c : UInt8) : Bool := 97 ≤ c && c ≤ 122
def nameB (l : List UInt8) : Bool := decide (1 ≤ l.length ∧ l.length ≤ 8) && l.all okB
theorem ret_bool {a b : Bool} (h : a = b) : Ending.returned (.bool a) = .returned (.bool b) := by rw [h]

theorem take_snoc (s : ByteArray) (k : Nat) (h : k < s.size) : s.data.toList.take (k + 1) = s.data.toList.take k ++ [s[k]] := by
  rw [List.take_succ_eq_append_getElem (by simpa using h)]; rfl

theorem okB_yes {c : UInt8} (h1 : (97 : Int) ≤ (c.toNat : Int)) (h2 : (c.toNat : Int) ≤ 122) : okB c = true := by
  simp [okB, UInt8.le_iff_toNat_le]; omega
theorem okB_no {c : UInt8} (h : (c.toNat : Int) < 97 ∨ (122 : Int) < (c.toNat : Int)) : okB c = false := by
  simp [okB, UInt8.le_iff_toNat_le]; omega

theorem all_snoc (l : List UInt8) (c : UInt8) : (l ++ [c]).all okB = (l.all okB && okB c) := by simp

theorem all_take_false {l : List UInt8} {k : Nat} (h : (l.take k).all okB = false) : l.all okB = false := by
  rw [← List.take_append_drop k l, List.all_append, h]; rfl

set_option maxRecDepth 100000 in
set_option maxHeartbeats 400000 in
theorem isName (s : ByteArray) (w : World) (hs : s.size ≤ maxLen) :
    Calls Tryd.prog 47 #[.string s] w fun e w' => e = .returned (.bool (nameB s.data.toList)) ∧ w' = w := by
  unfold maxLen at hs
  have hlen : s.data.toList.length = s.size := by simp
  by_cases h1 : 1 ≤ s.size
  · by_cases h8 : s.size ≤ 8
    · have HN : Hid (nameB s.data.toList = s.data.toList.all okB) := by
        show nameB s.data.toList = _
        unfold nameB
        rw [hlen]
        simp [h1, h8]
      clear hlen
      have d1 : decide ((s.size : Int) < 1) = false := by simp; omega
      have d2 : decide (8 < (s.size : Int)) = false := by simp; omega
      go_enter Tryd.func47, Tryd.ntmps47
      go_wp2
      go_loop [14] (fun i => ∃ k : Nat, k ≤ s.size ∧ i = .int .i64 k ∧ (s.data.toList.take k).all okB = true) (fun i => s.size - (intOf i).toNat)
      case atStart => exact ⟨0, Nat.zero_le _, rfl, rfl⟩
      case round =>
        obtain ⟨k, hk, rfl, hall⟩ := hrel
        have HALL : Hid ((s.data.toList.take k).all okB = true) := hall
        clear hall
        by_cases hlt : k < s.size
        · have HS : Hid ((s.data.toList.take (k + 1)).all okB = okB s[k]) := by
            show (s.data.toList.take (k + 1)).all okB = _
            rw [take_snoc s k hlt, all_snoc, HALL.out]; rfl
          by_cases c1 : (97 : Int) ≤ (s[k].toNat : Int)
          · by_cases c2 : (s[k].toNat : Int) ≤ 122
            · go_wp2
              all_goals
                go_round
                case rel => exact ⟨k + 1, by omega, by go_num, by rw [HS.out]; exact okB_yes c1 c2⟩
                case measure => simp [intOf]; omega
            · have c2' : (122 : Int) < (s[k].toNat : Int) := by omega
              clear c2
              go_wp2
              go_ret
              exact ⟨ret_bool (by rw [HN.out, all_take_false (k := k + 1) (by rw [HS.out]; exact okB_no (.inr c2'))]), rfl⟩
          · have c1' : (s[k].toNat : Int) < 97 := by omega
            clear c1
            go_wp2
            go_ret
            exact ⟨ret_bool (by rw [HN.out, all_take_false (k := k + 1) (by rw [HS.out]; exact okB_no (.inl c1'))]), rfl⟩
        · have hkk : k = s.size := by omega
          subst hkk
          have HF : Hid (nameB s.data.toList = true) := by
            show nameB s.data.toList = true
            rw [HN.out, ← HALL.out, List.take_of_length_le (by simp)]
          clear HN HALL
          go_wp2
          go_ret
          exact ⟨ret_bool (by rw [HF.out]), rfl⟩
    · have hn : nameB s.data.toList = false := by unfold nameB; rw [hlen]; simp [h8]
      have d1 : decide ((s.size : Int) < 1) = false := by simp; omega
      have d2 : decide (8 < (s.size : Int)) = true := by simp; omega
      rw [hn]
      clear hn hlen
      go_enter Tryd.func47, Tryd.ntmps47
      go_wp2
      go_ret
      exact ⟨rfl, rfl⟩
  · have hn : nameB s.data.toList = false := by unfold nameB; rw [hlen]; simp [h1]
    have d1 : decide ((s.size : Int) < 1) = true := by simp; omega
    rw [hn]
    clear hn hlen
    go_enter Tryd.func47, Tryd.ntmps47
    go_wp2
    go_ret
    exact ⟨rfl, rfl⟩

/-! ### kinds -/
/-- The error with which a kind is refused, 0 if none. -/
def kindErr (kind : Int) (t : ByteArray) : Int :=
  if kind = 2 then (if nameB t.data.toList then 0 else 2) else if kind = 1 ∨ kind = 3 ∨ kind = 4 then (if t.size ≤ 40 then 0 else 3) else 1

/-- An element: a block of its own with its tag, and a map. -/
def El (w : World) (B : Nat) (v : Value) (t : ByteArray) (mb : Nat) : Prop := ∃ eb, v = .iface 58 (.pointer (some ⟨eb, 0, none⟩)) ∧ w.heap[eb]? = some (.cells #[.string t, .map (some mb)] 98 (0, 0)) ∧ B ≤ eb

theorem newElem (t : ByteArray) (w : World) :
    Calls Tryd.prog 53 #[.string t] w fun e w' => e = .returned (.pointer (some ⟨w.heap.size + 1, 0, none⟩)) ∧ w' = (w.alloc (.map #[] 0)).alloc (.cells #[.string t, .map (some w.heap.size)] 98) := by
  have hm := fun w => run_makeMap (P := Tryd.prog) 96 w
  go_enter Tryd.func53, Tryd.ntmps53
  go_wp2
  go_ret
  exact ⟨by simp, rfl⟩

theorem newSay3 (t : ByteArray) (w : World) : Calls Tryd.prog 54 #[.int .i64 3, .string t] w fun e w' => e = .returned (.iface 112 (.agg #[.string t])) ∧ w' = w := by
  go_enter Tryd.func54, Tryd.ntmps54
  go_wp2
  go_ret
  exact ⟨rfl, rfl⟩
theorem newSay4 (t : ByteArray) (w : World) : Calls Tryd.prog 54 #[.int .i64 4, .string t] w fun e w' => e = .returned (.iface 113 (.agg #[.string t])) ∧ w' = w := by
  go_enter Tryd.func54, Tryd.ntmps54
  go_wp2
  go_ret
  exact ⟨rfl, rfl⟩
theorem newSay1 (t : ByteArray) (w : World) : Calls Tryd.prog 54 #[.int .i64 1, .string t] w fun e w' => e = .returned (.iface 107 (.agg #[])) ∧ w' = w := by
  go_enter Tryd.func54, Tryd.ntmps54
  go_wp2
  go_ret
  exact ⟨rfl, rfl⟩

/-- What a kind that is not refused is. -/
def NewVal (w w' : World) (k : Nat) (t : ByteArray) (v : Value) : Prop := KV k v ∧ (k = 2 → ∃ mb, El w' w.heap.size v t mb ∧ w.heap.size ≤ mb ∧ w'.heap[mb]? = some (.map #[] 0))

set_option maxRecDepth 100000 in
theorem newKindC (kind : Int) (t : ByteArray) (w : World) (hs : t.size ≤ maxLen) :
    Calls Tryd.prog 36 #[.int .i64 kind, .string t] w fun e w' => Below w.heap.size w w' ∧ ((kindErr kind t ≠ 0 ∧ w' = w ∧ e = .returned (.tuple #[.nilIface, .int .i64 (kindErr kind t)])) ∨ (kindErr kind t = 0 ∧ ∃ (k : Nat) (ty : TypeId) (x : Value), kind = k ∧ e = .returned (.tuple #[.iface ty x, .int .i64 0]) ∧ NewVal w w' k t (.iface ty x))) := by
  have hsz : (t.size : Int) ≤ 9223372036854775807 := by unfold maxLen at hs; omega
  by_cases k2 : kind = 2
  · subst k2
    have HS : Hid (t.size ≤ maxLen) := hs
    clear hs
    cases hn : nameB t.data.toList with
    | true =>
      have HN : Hid (nameB t.data.toList = true) := hn
      have HE : Hid (kindErr 2 t = 0) := by show kindErr 2 t = 0; simp [kindErr, hn]
      clear hn
      go_enter Tryd.func36, Tryd.ntmps36
      go_wp2_with fail
      refine (isName t w HS.out).mono ?_
      rintro e w ⟨rfl, rfl⟩
      rw [HN.out]
      go_wp2_with fail
      refine (newElem t w).mono ?_
      rintro e w1 ⟨rfl, hw1⟩
      have HW1 : Hid (w1 = (w.alloc (.map #[] 0)).alloc (.cells #[.string t, .map (some w.heap.size)] 98)) := hw1
      clear hw1
      go_wp2_with fail
      go_ret2
      rw [HW1.out]
      refine ⟨((Below.refl _ _).alloc (Nat.le_refl _) _).alloc (by simp) _, .inr ⟨HE.out, 2, _, _, rfl, rfl, .inr (.inl ⟨rfl, _, rfl⟩), fun _ => ⟨w.heap.size, ⟨w.heap.size + 1, rfl, ?_, by omega⟩, Nat.le_refl _, ?_⟩⟩⟩
      · have := heap_alloc_new (w.alloc (.map #[] 0)) (.cells #[.string t, .map (some w.heap.size)] 98)
        rw [World.size_alloc] at this
        exact this
      · rw [Below.heap_alloc _ _ _ (by simp)]
        exact heap_alloc_new w _
    | false =>
      have HN : Hid (nameB t.data.toList = false) := hn
      have HE : Hid (kindErr 2 t = 2) := by show kindErr 2 t = 2; simp [kindErr, hn]
      clear hn
      go_enter Tryd.func36, Tryd.ntmps36
      go_wp2_with fail
      refine (isName t w HS.out).mono ?_
      rintro e w ⟨rfl, rfl⟩
      rw [HN.out]
      go_wp2_with fail
      go_ret2
      exact ⟨Below.refl _ _, .inl ⟨by rw [HE.out]; decide, rfl, by rw [HE.out]; rfl⟩⟩
  · by_cases hl : t.size ≤ 40
    · by_cases k1 : kind = 1
      · subst k1
        have HE : Hid (kindErr 1 t = 0) := by show kindErr 1 t = 0; simp [kindErr, hl]
        go_enter Tryd.func36, Tryd.ntmps36
        go_wp2_with fail
        refine (newSay1 t w).mono ?_
        rintro e w ⟨rfl, rfl⟩
        go_wp2_with fail
        go_ret2
        exact ⟨Below.refl _ _, .inr ⟨HE.out, 1, _, _, rfl, rfl, .inl ⟨rfl, rfl⟩, fun h => by omega⟩⟩
      · by_cases k3 : kind = 3
        · subst k3
          have HE : Hid (kindErr 3 t = 0) := by show kindErr 3 t = 0; simp [kindErr, hl]
          go_enter Tryd.func36, Tryd.ntmps36
          go_wp2_with fail
          refine (newSay3 t w).mono ?_
          rintro e w ⟨rfl, rfl⟩
          go_wp2_with fail
          go_ret2
          exact ⟨Below.refl _ _, .inr ⟨HE.out, 3, _, _, rfl, rfl, .inr (.inr (.inl ⟨rfl, t, rfl⟩)), fun h => by omega⟩⟩
        · by_cases k4 : kind = 4
          · subst k4
            have HE : Hid (kindErr 4 t = 0) := by show kindErr 4 t = 0; simp [kindErr, hl]
            go_enter Tryd.func36, Tryd.ntmps36
            go_wp2_with fail
            refine (newSay4 t w).mono ?_
            rintro e w ⟨rfl, rfl⟩
            go_wp2_with fail
            go_ret2
            exact ⟨Below.refl _ _, .inr ⟨HE.out, 4, _, _, rfl, rfl, .inr (.inr (.inr ⟨rfl, t, rfl⟩)), fun h => by omega⟩⟩
          · have HE : Hid (kindErr kind t = 1) := by show kindErr kind t = 1; simp [kindErr, k1, k2, k3, k4]
            have d1 : (kind == 1) = false := by simp [k1]
            have d2 : (kind == 2) = false := by simp [k2]
            have d3 : (kind == 3) = false := by simp [k3]
            have d4 : (kind == 4) = false := by simp [k4]
            clear k1 k2 k3 k4
            go_enter Tryd.func36, Tryd.ntmps36
            go_wp2_with fail
            go_ret2
            exact ⟨Below.refl _ _, .inl ⟨by rw [HE.out]; decide, rfl, by rw [HE.out]; rfl⟩⟩
    · by_cases kx : kind = 1 ∨ kind = 3 ∨ kind = 4
      · have HE : Hid (kindErr kind t = 3) := by show kindErr kind t = 3; simp [kindErr, k2, kx, hl]
        rcases kx with rfl | rfl | rfl
        all_goals
          go_enter Tryd.func36, Tryd.ntmps36
          go_wp2_with fail
          go_ret2
          exact ⟨Below.refl _ _, .inl ⟨by rw [HE.out]; decide, rfl, by rw [HE.out]; rfl⟩⟩
      · have HE : Hid (kindErr kind t = 1) := by show kindErr kind t = 1; simp [kindErr, k2, kx]
        have d1 : (kind == 1) = false := by simp; omega
        have d2 : (kind == 2) = false := by simp [k2]
        have d3 : (kind == 3) = false := by simp; omega
        have d4 : (kind == 4) = false := by simp; omega
        clear kx k2
        go_enter Tryd.func36, Tryd.ntmps36
        go_wp2_with fail
        go_ret2
        exact ⟨Below.refl _ _, .inl ⟨by rw [HE.out]; decide, rfl, by rw [HE.out]; rfl⟩⟩

/-! ### one node more -/
theorem lift_row {s : Fo} {kd : Nat → Value} {L : Nat} {k : Value} (i : Nat) (hi : i < L) : rowOf (s.lift L 0 0) (up kd L k) i = rowOf s kd i := by
  have e : i ≠ L := by omega
  simp [rowOf, Fo.lift, up_other _ _ _ e]

theorem lift_new {s : Fo} {kd : Nat → Value} {L : Nat} {k : Value} : rowOf (s.lift L 0 0) (up kd L k) L = [.int .i64 0, .int .i64 0, .int .i64 0, .int .i64 0, .int .i64 0, k] := by
  simp [rowOf, Fo.lift, up_same]

theorem cells_lift {s : Fo} {kd : Nat → Value} {L : Nat} {k : Value} : cellsF L s kd ++ [.int .i64 0, .int .i64 0, .int .i64 0, .int .i64 0, .int .i64 0, k] = cellsF (L + 1) (s.lift L 0 0) (up kd L k) := by
  rw [cellsF_succ, lift_new, cellsF_congr (fun i hi => lift_row i hi)]

section
variable {w : World} {B gb nb cap L : Nat} {s : Fo} {kd : Nat → Value} {r : Re}

theorem add_end {w1 w2 : World} {g c : Nat} {k : Value} (h : Held w B gb nb cap L s kd r) (hL : L ≤ 300) (hw1 : Below w.heap.size w w1)
    (hown : w2.ownsRow B 86 6 (.slice (some ⟨g, 0, none⟩) (L + 1) c) (L + 1) (cellsF L s kd ++ [.int .i64 0, .int .i64 0, .int .i64 0, .int .i64 0, .int .i64 0, k]))
    (hgrow : w1.grownBy w2 (some nb)) (hat : some nb = some g ∨ g = w1.heap.size) :
    Held (w2.setCell ⟨gb, 0, none⟩ (.slice (some ⟨g, 0, none⟩) (L + 1) c)) B gb g c (L + 1) (s.lift L 0 0) (up kd L k) r ∧ Fr (gn gb nb) w (w2.setCell ⟨gb, 0, none⟩ (.slice (some ⟨g, 0, none⟩) (L + 1) c)) ∧ (g = nb ∨ w.heap.size ≤ g) := by
  have hg2 : w2.heap[gb]? = some (.cells #[.slice (some ⟨nb, 0, none⟩) L cap, .int .i64 r.pl, .int .i64 r.cl, r.lv, r.iv, r.wv] 48 (0, 0)) := by
    rw [hgrow.block gb (Nat.lt_of_lt_of_le h.ltg hw1.size) (by simpa using h.ne), hw1.block gb h.ltg]
    exact h.g
  have hne : g ≠ gb := by
    rcases hat with e | e
    · simp at e; subst e; exact fun e => h.ne e.symm
    · have := h.ltg; have := hw1.size; omega
  refine ⟨⟨cells_setCell hg2, ?_, h.hB, by omega⟩, ?_, ?_⟩
  · rw [← cells_lift]
    exact ownsRow_setCell_other hown (by simp [Value.ownBlock]; exact hne) _
  · have f1 : Fr (gn gb nb) w w1 := Fr.of_below hw1
    have f2 : Fr (gn gb nb) w1 w2 := Fr.of_grown hgrow (fun k hk => by simp at hk; subst hk; exact .inr rfl)
    exact (f1.trans f2).setCell (.inl rfl) _
  · rcases hat with e | e
    · simp at e; exact .inl e.symm
    · right; have := hw1.size; omega

set_option maxRecDepth 100000 in
set_option maxHeartbeats 400000 in
theorem addF (h : Held w B gb nb cap L s kd r) (hL1 : 1 ≤ L) (hL3 : L ≤ 300) (t : TypeId) (x : Value) :
    Calls Tryd.prog 38 #[.pointer (some ⟨gb, 0, none⟩), .iface t x] w fun e w' => e = .returned (.int .i64 L) ∧ ∃ nb' cap', Held w' B gb nb' cap' (L + 1) (s.lift L 0 0) (up kd L (.iface t x)) r ∧ Fr (gn gb nb) w w' ∧ (nb' = nb ∨ w.heap.size ≤ nb') := by
  obtain ⟨i0, hi, hz0, hz1, hz2⟩ := info_parts Tryd.info86
  have HH : Hid (Held w B gb nb cap L s kd r) := h
  have hg := h.gcell
  have hlg := h.ltg
  have hrow := h.row
  have hBs : B ≤ w.heap.size := by have := h.hB; omega
  clear h
  go_enter Tryd.func38, Tryd.ntmps38
  go_wp2_with (at_builtin; refine wpList_append_lies _ rfl _ _ 39 rfl B 86 i0 _ 6 56 Tryd.underlying39 hi hz0 hz1 hz2 rfl (by decide) _ _ _ rfl (hrow.alloc _) ⟨w.heap.size, 0, none⟩ 1 1 [.int .i64 0, .int .i64 0, .int .i64 0, .int .i64 0, .int .i64 0, .iface t x] rfl ?c0 ?c1 ?c2 ?cm ?c3 ?c4 ?c5 _ rfl ?_)
  case c0 => rfl
  case c1 =>
    intro j u hj
    match j, hj with
    | 0, hj => simp at hj; subst hj; simp [Addr.add]
    | 1, hj => simp at hj; subst hj; simp [Addr.add]
    | 2, hj => simp at hj; subst hj; simp [Addr.add]
    | 3, hj => simp at hj; subst hj; simp [Addr.add]
    | 4, hj => simp at hj; subst hj; simp [Addr.add]
    | 5, hj => simp at hj; subst hj; simp [Addr.add]
  case c2 =>
    intro u hu
    simp only [List.mem_cons, List.not_mem_nil, or_false] at hu
    rcases hu with rfl | rfl | rfl | rfl | rfl | rfl <;> rfl
  case cm => omega
  case c3 => unfold maxLen; omega
  case c4 => omega
  case c5 => simp; omega
  intro g c w2 hown2 hgrow2 hat2 hlt2
  have hb1 : Below w.heap.size w (w.alloc (.cells #[.int .i64 0, .int .i64 0, .int .i64 0, .int .i64 0, .int .i64 0, .iface t x] 86)) := (Below.refl _ _).alloc (Nat.le_refl _) _
  have R := add_end HH.out hL3 hb1 hown2 hgrow2 (hat2.imp id (fun e => by rw [World.size_alloc]; exact e))
  have hg2 : w2.heap[gb]? = some (.cells #[.slice (some ⟨nb, 0, none⟩) L cap, .int .i64 r.pl, .int .i64 r.cl, r.lv, r.iv, r.wv] 48 (0, 0)) := by
    rw [hgrow2.block gb (by simp; omega) (by simpa [Value.ownBlock] using HH.out.ne), hb1.block gb hlg]
    exact HH.out.g
  have q1 := cells_of hg2 0
  have q2 := frees_of hg2 0
  simp only [List.getElem?_toArray, List.getElem?_cons_zero] at q1
  have RR : Hid _ := R
  clear R hg2 hb1 hown2 hgrow2 hat2 hlt2 hg hrow
  go_wp2_with fail
  refine (countF RR.out.1 (by omega)).mono ?_
  rintro e w3 ⟨rfl, rfl⟩
  go_wp2_with fail
  go_ret
  exact ⟨ret_int (by omega), g, c, RR.out.1, RR.out.2⟩

theorem El.fr {S : Nat → Prop} {w w' : World} {B : Nat} {v : Value} {t : ByteArray} {mb : Nat} (h : El w B v t mb) (hf : Fr S w w') (hS : ∀ i cs fr, S i → w.heap[i]? ≠ some (.cells cs 98 fr)) : El w' B v t mb := by
  obtain ⟨eb, h1, h2, h3⟩ := h
  refine ⟨eb, h1, ?_, h3⟩
  rw [hf.block eb (lt_of_block h2) (fun hs => hS eb _ _ hs h2)]
  exact h2

theorem El.since {w w' : World} {B : Nat} {v : Value} {t : ByteArray} {mb : Nat} (h : El w B v t mb) (hf : Below w.heap.size w w') : El w' B v t mb := by
  obtain ⟨eb, h1, h2, h3⟩ := h
  exact ⟨eb, h1, by rw [hf.block eb (lt_of_block h2)]; exact h2, h3⟩

theorem Held.noEl (h : Held w B gb nb cap L s kd r) : ∀ i cs fr, gn gb nb i → w.heap[i]? ≠ some (.cells cs 98 fr) := by
  obtain ⟨cur, hn, _⟩ := h.block
  rintro i cs fr (rfl | rfl) e
  · rw [h.g] at e; simp at e
  · rw [hn] at e; simp at e

/-- Make, as far as there is room. -/
theorem makeC (h : Held w B gb nb cap L s kd r) (hL1 : 1 ≤ L) (kind : Int) (t : ByteArray) (hs : t.size ≤ maxLen) :
    Calls Tryd.prog 14 #[.pointer (some ⟨gb, 0, none⟩), .int .i64 kind, .string t] w fun e w' =>
      (kindErr kind t ≠ 0 ∧ w' = w ∧ e = .returned (.tuple #[.int .i64 0, .int .i64 (kindErr kind t)])) ∨
      (kindErr kind t = 0 ∧ L = 301 ∧ Below w.heap.size w w' ∧ e = .returned (.tuple #[.int .i64 0, .int .i64 4])) ∨
      (kindErr kind t = 0 ∧ L ≤ 300 ∧ e = .returned (.tuple #[.int .i64 L, .int .i64 0]) ∧ ∃ (k nb' cap' : Nat) (v : Value), kind = k ∧ Held w' B gb nb' cap' (L + 1) (s.lift L 0 0) (up kd L v) r ∧ Fr (gn gb nb) w w' ∧ (nb' = nb ∨ w.heap.size ≤ nb') ∧ NewVal w w' k t v) := by
  have HH : Hid (Held w B gb nb cap L s kd r) := h
  have HS : Hid (t.size ≤ maxLen) := hs
  have hL := h.hL
  clear h hs
  go_enter Tryd.func14, Tryd.ntmps14
  go_wp2_with fail
  refine (newKindC kind t w HS.out).mono ?_
  rintro e w1 ⟨hb, hcase⟩
  rcases hcase with ⟨hne, rfl, rfl⟩ | ⟨hz, k, ty, x, rfl, rfl, hnv⟩
  · obtain ⟨w, rfl⟩ : ∃ w : World, w = w1 := ⟨_, rfl⟩
    have HE : Hid (kindErr kind t = kindErr kind t) := rfl
    have q0' : (kindErr kind t != 0) = true := by simp [hne]
    have HNE : Hid (kindErr kind t ≠ 0) := hne
    clear hne hb
    go_wp2_with fail
    go_ret2
    exact .inl ⟨HNE.out, rfl, rfl⟩
  · have HZ : Hid (kindErr k t = 0) := hz
    have HNV : Hid (NewVal w w1 k t (.iface ty x)) := hnv
    have HB : Hid (Below w.heap.size w w1) := hb
    have H1 : Hid (Held w1 B gb nb cap L s kd r) := HH.out.since hb
    clear hz hnv hb
    go_wp2_with fail
    refine (countF H1.out hL1).mono ?_
    rintro e w1 ⟨rfl, rfl⟩
    by_cases hlt : L ≤ 300
    · have hlt' : (L : Int) - 1 < 300 := by omega
      go_wp2_with fail
      refine (addF H1.out hL1 hlt ty x).mono ?_
      rintro e w2 ⟨rfl, nb', cap', H2, F2, hnb⟩
      have H2' : Hid _ := H2
      have F2' : Hid (Fr (gn gb nb) w1 w2) := F2
      have HNB : Hid (nb' = nb ∨ w1.heap.size ≤ nb') := hnb
      clear H2 F2 hnb
      go_wp2_with fail
      go_ret2
      refine .inr (.inr ⟨HZ.out, hlt, rfl, k, nb', cap', _, rfl, H2'.out, (Fr.of_below HB.out).trans F2'.out, HNB.out.imp id (fun h => Nat.le_trans HB.out.size h), HNV.out.1, fun h2 => ?_⟩)
      obtain ⟨mb, he, hmb, hmap⟩ := HNV.out.2 h2
      refine ⟨mb, he.fr F2'.out H1.out.noEl, hmb, ?_⟩
      rw [F2'.out.block mb (lt_of_block hmap) ?_]
      · exact hmap
      · obtain ⟨cur, hn, _⟩ := H1.out.block
        rintro (rfl | rfl)
        · have := H1.out.g; rw [hmap] at this; simp at this
        · rw [hmap] at hn; simp at hn
    · have hL301 : L = 301 := by omega
      have hlt' : (300 : Int) ≤ (L : Int) - 1 := by omega
      go_wp2_with fail
      go_ret2
      exact .inr (.inl ⟨HZ.out, hL301, HB.out, rfl⟩)
end
end Go.Proofs.YtcedebpoihcbdaaDoor
