/-
  What New, Make and what they call do.
-/
import Derived.Test.YtffgopdccgcdnaaW6
import Derived.Deep.AppendLies
namespace Go.Proofs.Ytffgopdccgcdnaa
open Go.RowKit Gv

theorem Try.info64 : (Try.prog.info? 64).map (fun i => (i.zero, i.size, i.bytes)) = some (some (.agg #[.int .i64 0, .int .i64 0, .int .i64 0, .int .i64 0, .int .i64 0, .nilIface]), 6, 56) := by kernel_rfl

def zeroF : Fo := { par := fun _ => 0, ahd := fun _ => 0, bhd := fun _ => 0, fst := fun _ => 0, lst := fun _ => 0 }
def noKind : Nat → Value := fun _ => .nilIface

theorem make1 (w : World) : (Instr.makeSlice 39 (.int .i64 1) (.int .i64 1)).run Try.prog w = .ok (.slice (some ⟨w.heap.size, 0, none⟩) 1 1) (w.alloc (.cells #[.int .i64 0, .int .i64 0, .int .i64 0, .int .i64 0, .int .i64 0, .nilIface] 64)) := by
  obtain ⟨i0, hi, hz0, hz1, hz2⟩ := info_parts Try.info64
  have h := run_make (P := Try.prog) w 39 64 i0 _ Try.underlying39 hi hz0 .i64 .i64 1 1 (by decide) (by decide) (by rw [hz2]; decide) (by decide)
  rw [hz1, show madeCells (Value.agg #[.int .i64 0, .int .i64 0, .int .i64 0, .int .i64 0, .int .i64 0, .nilIface]).cells (Int.toNat 1 * 6) = #[.int .i64 0, .int .i64 0, .int .i64 0, .int .i64 0, .int .i64 0, .nilIface] from by kernel_rfl] at h
  exact h

theorem newForest (w : World) : Calls Try.prog 22 #[] w fun e w' => e = .returned (.agg #[.slice (some ⟨w.heap.size + 1, 0, none⟩) 1 1]) ∧ w'.ownsRow w.heap.size 64 6 (.slice (some ⟨w.heap.size + 1, 0, none⟩) 1 1) 1 (cellsF 1 zeroF noKind) ∧ Below w.heap.size w w' := by
  have hmk := make1
  go_enter Try.func22, Try.ntmps22
  go_wp2
  have h1 := World.ownsRow_lit (e := 64) (size := 6) (base := w.heap.size) (w.alloc (.cells #[.slice (some ⟨w.heap.size + 1, 0, none⟩) 1 1] 41)) #[.int .i64 0, .int .i64 0, .int .i64 0, .int .i64 0, .int .i64 0, .nilIface] 1 (by simp) (by decide) rfl
  have h2 : Below w.heap.size w ((w.alloc (.cells #[.slice (some ⟨w.heap.size + 1, 0, none⟩) 1 1] 41)).alloc (.cells #[.int .i64 0, .int .i64 0, .int .i64 0, .int .i64 0, .int .i64 0, .nilIface] 64)) := ((Below.refl _ _).alloc (Nat.le_refl _) _).alloc (by simp) _
  rw [World.size_alloc] at h1
  exact bodyPost_ret (v := .agg #[.slice (some ⟨w.heap.size + 1, 0, none⟩) 1 1]) (by simp [results, Try.results22, go_sem]) rfl ⟨rfl, h1, h2⟩

theorem newG (w : World) : Calls Try.prog 12 #[] w fun e w' => ∃ gb nb, e = .returned (.pointer (some ⟨gb, 0, none⟩)) ∧ Held w' w.heap.size gb nb 1 1 zeroF noKind ∧ Below w.heap.size w w' := by
  go_enter Try.func12, Try.ntmps12
  go_wp2_with fail
  refine (newForest w).mono ?_
  rintro e w1 ⟨rfl, hown, hbel⟩
  have hlt := hbel.size
  have HO : Hid _ := hown
  have HB : Hid (Below w.heap.size w w1) := hbel
  clear hown hbel
  go_wp2_with fail
  go_ret
  have h1 : (w1.alloc (.cells #[.slice (some ⟨w.heap.size + 1, 0, none⟩) 1 1] 43)).ownsRow w.heap.size 64 6 (.slice (some ⟨w.heap.size + 1, 0, none⟩) 1 1) 1 (cellsF 1 zeroF noKind) := World.ownsRow.alloc HO.out _
  exact ⟨w1.heap.size, w.heap.size + 1, rfl, ⟨heap_alloc_new w1 _, h1, hlt, by omega⟩, HB.out.alloc hlt _⟩

/-! ### names -/
def okB (c : UInt8) : Bool := 97 ≤ c && c ≤ 122
def nameB (l : List UInt8) : Bool := decide (1 ≤ l.length ∧ l.length ≤ 8) && l.all okB
theorem ret_bool {a b : Bool} (h : a = b) : Ending.returned (.bool a) = .returned (.bool b) := by rw [h]

theorem take_snoc (s : ByteArray) (k : Nat) (h : k < s.size) : s.data.toList.take (k + 1) = s.data.toList.take k ++ [s[k]] := by
  rw [List.take_succ_eq_append_getElem (by simpa using h)]; rfl

theorem okB_yes {c : UInt8} (h1 : (97 : Int) ≤ (c.toNat : Int)) (h2 : (c.toNat : Int) ≤ 122) : okB c = true := by
  simp [okB, UInt8.le_iff_toNat_le]; omega
theorem okB_no {c : UInt8} (h : (c.toNat : Int) < 97 ∨ (122 : Int) < (c.toNat : Int)) : okB c = false := by
  simp [okB, UInt8.le_iff_toNat_le]; omega

theorem all_snoc (l : List UInt8) (c : UInt8) : (l ++ [c]).all okB = (l.all okB && okB c) := by simp

theorem all_take_false {l : List UInt8} {k : Nat} (h : (l.take k).all okB = false) : l.all okB = false := by
  rw [← List.take_append_drop k l, List.all_append, h]; rfl

set_option maxHeartbeats 400000 in
theorem isName (s : ByteArray) (w : World) (hs : s.size ≤ maxLen) :
    Calls Try.prog 31 #[.string s] w fun e w' => e = .returned (.bool (nameB s.data.toList)) ∧ w' = w := by
  unfold maxLen at hs
  have hlen : s.data.toList.length = s.size := by simp
  by_cases h1 : 1 ≤ s.size
  · by_cases h8 : s.size ≤ 8
    · have HN : Hid (nameB s.data.toList = s.data.toList.all okB) := by
        show nameB s.data.toList = _
        unfold nameB
        rw [hlen]
        simp [h1, h8]
      clear hlen
      have d1 : decide ((s.size : Int) < 1) = false := by simp; omega
      have d2 : decide (8 < (s.size : Int)) = false := by simp; omega
      go_enter Try.func31, Try.ntmps31
      go_wp2
      go_loop [14] (fun i => ∃ k : Nat, k ≤ s.size ∧ i = .int .i64 k ∧ (s.data.toList.take k).all okB = true) (fun i => s.size - (intOf i).toNat)
      case atStart => exact ⟨0, Nat.zero_le _, rfl, rfl⟩
      case round =>
        obtain ⟨k, hk, rfl, hall⟩ := hrel
        have HALL : Hid ((s.data.toList.take k).all okB = true) := hall
        clear hall
        by_cases hlt : k < s.size
        · have HS : Hid ((s.data.toList.take (k + 1)).all okB = okB s[k]) := by
            show (s.data.toList.take (k + 1)).all okB = _
            rw [take_snoc s k hlt, all_snoc, HALL.out]; rfl
          by_cases c1 : (97 : Int) ≤ (s[k].toNat : Int)
          · by_cases c2 : (s[k].toNat : Int) ≤ 122
            · go_wp2
              all_goals
                go_round
                case rel => exact ⟨k + 1, by omega, by go_num, by rw [HS.out]; exact okB_yes c1 c2⟩
                case measure => simp [intOf]; omega
            · have c2' : (122 : Int) < (s[k].toNat : Int) := by omega
              clear c2
              go_wp2
              go_ret
              exact ⟨ret_bool (by rw [HN.out, all_take_false (k := k + 1) (by rw [HS.out]; exact okB_no (.inr c2'))]), rfl⟩
          · have c1' : (s[k].toNat : Int) < 97 := by omega
            clear c1
            go_wp2
            go_ret
            exact ⟨ret_bool (by rw [HN.out, all_take_false (k := k + 1) (by rw [HS.out]; exact okB_no (.inl c1'))]), rfl⟩
        · have hkk : k = s.size := by omega
          subst hkk
          have HF : Hid (nameB s.data.toList = true) := by
            show nameB s.data.toList = true
            rw [HN.out, ← HALL.out, List.take_of_length_le (by simp)]
          clear HN HALL
          go_wp2
          go_ret
          exact ⟨ret_bool (by rw [HF.out]), rfl⟩
    · have hn : nameB s.data.toList = false := by unfold nameB; rw [hlen]; simp [h8]
      have d1 : decide ((s.size : Int) < 1) = false := by simp; omega
      have d2 : decide (8 < (s.size : Int)) = true := by simp; omega
      rw [hn]
      clear hn hlen
      go_enter Try.func31, Try.ntmps31
      go_wp2
      go_ret
      exact ⟨rfl, rfl⟩
  · have hn : nameB s.data.toList = false := by unfold nameB; rw [hlen]; simp [h1]
    have d1 : decide ((s.size : Int) < 1) = true := by simp; omega
    rw [hn]
    clear hn hlen
    go_enter Try.func31, Try.ntmps31
    go_wp2
    go_ret
    exact ⟨rfl, rfl⟩

/-! ### kinds -/
theorem newKindEl (t : ByteArray) (w : World) (hs : t.size ≤ maxLen) (hn : nameB t.data.toList = true) :
    Calls Try.prog 23 #[.int .i64 2, .string t] w fun e w' => e = .returned (.tuple #[.iface 67 (.agg #[.string t]), .int .i64 0]) ∧ w' = w := by
  have HN : Hid (nameB t.data.toList = true) := hn
  clear hn
  go_enter Try.func23, Try.ntmps23
  go_wp2_with fail
  refine (isName t w hs).mono ?_
  rintro e w ⟨rfl, rfl⟩
  rw [HN.out]
  go_wp2_with fail
  go_ret2
  exact ⟨rfl, rfl⟩

theorem newKindTx (t : ByteArray) (w : World) (hs : t.size ≤ 40) :
    Calls Try.prog 23 #[.int .i64 3, .string t] w fun e w' => e = .returned (.tuple #[.iface 72 (.agg #[.string t]), .int .i64 0]) ∧ w' = w := by
  go_enter Try.func23, Try.ntmps23
  go_wp2
  go_ret2
  exact ⟨rfl, rfl⟩

theorem newKindNo (t : ByteArray) (w : World) (hs : t.size ≤ 40) :
    Calls Try.prog 23 #[.int .i64 4, .string t] w fun e w' => e = .returned (.tuple #[.iface 73 (.agg #[.string t]), .int .i64 0]) ∧ w' = w := by
  go_enter Try.func23, Try.ntmps23
  go_wp2
  go_ret2
  exact ⟨rfl, rfl⟩

/-! ### one node more -/
theorem lift_row {s : Fo} {kd : Nat → Value} {L : Nat} {k : Value} (i : Nat) (hi : i < L) : rowOf (s.lift L 0 0) (up kd L k) i = rowOf s kd i := by
  have e : i ≠ L := by omega
  simp [rowOf, Fo.lift, up_other _ _ _ e]

theorem lift_new {s : Fo} {kd : Nat → Value} {L : Nat} {k : Value} : rowOf (s.lift L 0 0) (up kd L k) L = [.int .i64 0, .int .i64 0, .int .i64 0, .int .i64 0, .int .i64 0, k] := by
  simp [rowOf, Fo.lift, up_same]

theorem cells_lift {s : Fo} {kd : Nat → Value} {L : Nat} {k : Value} : cellsF L s kd ++ [.int .i64 0, .int .i64 0, .int .i64 0, .int .i64 0, .int .i64 0, k] = cellsF (L + 1) (s.lift L 0 0) (up kd L k) := by
  rw [cellsF_succ, lift_new, cellsF_congr (fun i hi => lift_row i hi)]

section
variable {w : World} {B gb nb cap L : Nat} {s : Fo} {kd : Nat → Value}

theorem add_end {w1 w2 : World} {g c : Nat} {k : Value} (h : Held w B gb nb cap L s kd) (hL : L ≤ 300) (hw1 : Below w.heap.size w w1)
    (hown : w2.ownsRow B 64 6 (.slice (some ⟨g, 0, none⟩) (L + 1) c) (L + 1) (cellsF L s kd ++ [.int .i64 0, .int .i64 0, .int .i64 0, .int .i64 0, .int .i64 0, k]))
    (hgrow : w1.grownBy w2 (some nb)) (hat : some nb = some g ∨ g = w1.heap.size) :
    Held (w2.setCell ⟨gb, 0, none⟩ (.slice (some ⟨g, 0, none⟩) (L + 1) c)) B gb g c (L + 1) (s.lift L 0 0) (up kd L k) ∧ Below B w (w2.setCell ⟨gb, 0, none⟩ (.slice (some ⟨g, 0, none⟩) (L + 1) c)) := by
  have hg2 : w2.heap[gb]? = some (.cells #[.slice (some ⟨nb, 0, none⟩) L cap] 43 (0, 0)) := by
    rw [hgrow.block gb (Nat.lt_of_lt_of_le h.ltg hw1.size) (by simpa using h.ne), hw1.block gb h.ltg]
    exact h.g
  have hne : g ≠ gb := by
    rcases hat with e | e
    · simp at e; subst e; exact fun e => h.ne e.symm
    · have := h.ltg; have := hw1.size; omega
  constructor
  · refine ⟨one_setCell hg2, ?_, h.hB, by omega⟩
    rw [← cells_lift]
    exact ownsRow_setCell_other hown (by simp [Value.ownBlock]; exact hne) _
  · have b1 : Below B w w1 := hw1.mono (by have := h.hB; have := h.ltg; omega)
    have hs1 : B ≤ w1.heap.size := by have := h.hB; have := h.ltg; have := hw1.size; omega
    exact (b1.grown hgrow hs1 (fun k hk => by simp at hk; subst hk; exact h.Bn)).setCell (by exact h.hB) _

set_option maxHeartbeats 400000 in
theorem addF (h : Held w B gb nb cap L s kd) (hL1 : 1 ≤ L) (hL3 : L ≤ 300) (t : TypeId) (x : Value) :
    Calls Try.prog 25 #[.pointer (some ⟨gb, 0, none⟩), .iface t x] w fun e w' => e = .returned (.int .i64 L) ∧ ∃ nb' cap', Held w' B gb nb' cap' (L + 1) (s.lift L 0 0) (up kd L (.iface t x)) ∧ Below B w w' := by
  obtain ⟨i0, hi, hz0, hz1, hz2⟩ := info_parts Try.info64
  have HH : Hid (Held w B gb nb cap L s kd) := h
  have hg := h.gcell
  have hlg := h.ltg
  have hrow := h.row
  have hBs : B ≤ w.heap.size := by have := h.hB; omega
  clear h
  go_enter Try.func25, Try.ntmps25
  go_wp2_with (at_builtin; refine wpList_append_lies _ rfl _ _ 39 rfl B 64 i0 _ 6 56 Try.underlying39 hi hz0 hz1 hz2 rfl (by decide) _ _ _ rfl (hrow.alloc _) ⟨w.heap.size, 0, none⟩ 1 1 [.int .i64 0, .int .i64 0, .int .i64 0, .int .i64 0, .int .i64 0, .iface t x] rfl ?c0 ?c1 ?c2 ?cm ?c3 ?c4 ?c5 _ rfl ?_)
  case c0 => rfl
  case c1 =>
    intro j u hj
    match j, hj with
    | 0, hj => simp at hj; subst hj; simp [Addr.add]
    | 1, hj => simp at hj; subst hj; simp [Addr.add]
    | 2, hj => simp at hj; subst hj; simp [Addr.add]
    | 3, hj => simp at hj; subst hj; simp [Addr.add]
    | 4, hj => simp at hj; subst hj; simp [Addr.add]
    | 5, hj => simp at hj; subst hj; simp [Addr.add]
  case c2 =>
    intro u hu
    simp only [List.mem_cons, List.not_mem_nil, or_false] at hu
    rcases hu with rfl | rfl | rfl | rfl | rfl | rfl <;> rfl
  case cm => omega
  case c3 => unfold maxLen; omega
  case c4 => omega
  case c5 => simp; omega
  intro g c w2 hown2 hgrow2 hat2 hlt2
  have hb1 : Below w.heap.size w (w.alloc (.cells #[.int .i64 0, .int .i64 0, .int .i64 0, .int .i64 0, .int .i64 0, .iface t x] 64)) := (Below.refl _ _).alloc (Nat.le_refl _) _
  have R := add_end HH.out hL3 hb1 hown2 hgrow2 (hat2.imp id (fun e => by rw [World.size_alloc]; exact e))
  have hg2 : w2.heap[gb]? = some (.cells #[.slice (some ⟨nb, 0, none⟩) L cap] 43 (0, 0)) := by
    rw [hgrow2.block gb (by simp; omega) (by simpa [Value.ownBlock] using HH.out.ne), hb1.block gb hlg]
    exact HH.out.g
  have q1 := cell_of_one hg2
  have q2 := free_of_one hg2
  have RR : Hid _ := R
  clear R hg2 hb1 hown2 hgrow2 hat2 hlt2 hg hrow
  go_wp2_with fail
  refine (countF RR.out.1 (by omega)).mono ?_
  rintro e w3 ⟨rfl, rfl⟩
  go_wp2_with fail
  go_ret
  exact ⟨ret_int (by omega), g, c, RR.out.1, RR.out.2⟩

theorem makeG (h : Held w B gb nb cap L s kd) (hL1 : 1 ≤ L) (hL3 : L ≤ 300) (kind : Int) (b : ByteArray) (t : TypeId) (x : Value) (hnk : ∀ w, Calls Try.prog 23 #[.int .i64 kind, .string b] w fun e w' => e = .returned (.tuple #[.iface t x, .int .i64 0]) ∧ w' = w) :
    Calls Try.prog 13 #[.pointer (some ⟨gb, 0, none⟩), .int .i64 kind, .string b] w fun e w' => e = .returned (.tuple #[.int .i64 L, .int .i64 0]) ∧ ∃ nb' cap', Held w' B gb nb' cap' (L + 1) (s.lift L 0 0) (up kd L (.iface t x)) ∧ Below B w w' := by
  have HH : Hid (Held w B gb nb cap L s kd) := h
  have HK : Hid (∀ w, Calls Try.prog 23 #[.int .i64 kind, .string b] w fun e w' => e = .returned (.tuple #[.iface t x, .int .i64 0]) ∧ w' = w) := hnk
  clear h hnk
  go_enter Try.func13, Try.ntmps13
  go_wp2_with fail
  refine (HK.out w).mono ?_
  rintro e w ⟨rfl, rfl⟩
  go_wp2_with fail
  refine (countF HH.out hL1).mono ?_
  rintro e w ⟨rfl, rfl⟩
  have hlt : (L : Int) - 1 < 300 := by omega
  go_wp2_with fail
  refine (addF HH.out hL1 hL3 t x).mono ?_
  rintro e w1 ⟨rfl, nb', cap', H', B'⟩
  have R : Hid (Held w1 B gb nb' cap' (L + 1) (s.lift L 0 0) (up kd L (.iface t x)) ∧ Below B w w1) := ⟨H', B'⟩
  clear H' B'
  go_wp2_with fail
  go_ret2
  exact ⟨rfl, nb', cap', R.out⟩
end
end Go.Proofs.Ytffgopdccgcdnaa
