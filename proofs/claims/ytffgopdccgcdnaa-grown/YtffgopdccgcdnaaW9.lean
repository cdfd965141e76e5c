/-
  What the law's 'tag' and 'made' do: a grove of so many nodes, none of which stands anywhere, the first an element, none a root.
-/
import Derived.Test.YtffgopdccgcdnaaW8
import Derived.OpenShut
namespace Go.Proofs.Ytffgopdccgcdnaa
open Go.RowKit Gv

/-- A slice of numbers that came in: empty, or so many cells, each within int's bounds. -/
def RawIs (w : World) (a : Option Addr) (n : Nat) (zs : List Int) : Prop :=
  n = 0 ∨ ∃ b off, a = some ⟨b, off, none⟩ ∧ b < w.heap.size ∧ ∀ i, i < n → w.cell? ⟨b, off + i, none⟩ = some (.int .i64 (zs.getD i 0)) ∧ -9223372036854775808 ≤ zs.getD i 0 ∧ zs.getD i 0 ≤ 9223372036854775807

theorem RawIs.below {w w' : World} {a : Option Addr} {n : Nat} {zs : List Int} (h : RawIs w a n zs) (hb : Below w.heap.size w w') : RawIs w' a n zs := by
  rcases h with h | ⟨b, off, e, hlt, hc⟩
  · exact .inl h
  · exact .inr ⟨b, off, e, Nat.lt_of_lt_of_le hlt hb.size, fun i hi => ⟨(hb.cell (p := ⟨b, off + i, none⟩) hlt).trans (hc i hi).1, (hc i hi).2⟩⟩

def strA : ByteArray := ⟨#[97]⟩
def strB : ByteArray := ⟨#[98]⟩
def strC : ByteArray := ⟨#[99]⟩

set_option maxHeartbeats 400000 in
theorem tagL (c : Nat) (hc : c ≤ 1000) (w : World) :
    Calls Try.prog 14 #[.int .i64 c] w fun e w' => ∃ t : ByteArray, e = .returned (.string t) ∧ nameB t.data.toList = true ∧ t.size ≤ 8 ∧ Below w.heap.size w w' := by
  go_enter Try.func14, Try.ntmps14
  go_wp2_with fail
  refine (pickL c 3 _ (by omega) (by omega) (by omega) (by omega)).mono ?_
  rintro e w' ⟨r, hr, rfl, rfl⟩
  obtain rfl | rfl | rfl : r = 0 ∨ r = 1 ∨ r = 2 := by omega
  · go_wp2_with fail
    go_ret
    exact ⟨_, rfl, by decide, by decide, (Below.refl _ _).alloc (Nat.le_refl _) _⟩
  · go_wp2_with fail
    go_ret
    exact ⟨_, rfl, by decide, by decide, (Below.refl _ _).alloc (Nat.le_refl _) _⟩
  · go_wp2_with fail
    go_ret
    exact ⟨_, rfl, by decide, by decide, (Below.refl _ _).alloc (Nat.le_refl _) _⟩

theorem zeroF_lift (L : Nat) : zeroF.lift L 0 0 = zeroF := by
  have e : ∀ i, up (fun _ : Nat => (0 : Nat)) i 0 = fun _ => 0 := by intro i; funext x; simp [up]
  simp [Fo.lift, zeroF, e]

/-- None stands anywhere. -/
theorem loose_wf (N : Nat) : WF N zeroF (fun _ => []) := by
  refine ⟨rfl, ?_, ?_, ?_, ?_, ?_, ?_, ?_, ?_⟩
  · intro p k hk; simp at hk
  · intro k _ _ h; exact absurd rfl h
  · intro p; simp
  · intro p _ _; rfl
  · intro p _ _; rfl
  · intro p; trivial
  · intro k _; exact ⟨1, rfl⟩
  · simp only [List.length_nil, zeroF, if_true]

theorem leafy_up {k : Nat} {kd : Nat → Value} {T : TypeId} {t : ByteArray} (h : Leafy k kd) (hT : T = 67 ∨ T = 72 ∨ T = 73) : Leafy (k + 1) (up kd (k + 1) (.iface T (.agg #[.string t]))) := by
  intro i h1 h2
  by_cases e : i = k + 1
  · subst e
    rw [up_same]
    refine ⟨t, ?_⟩
    rcases hT with rfl | rfl | rfl
    · exact .inl rfl
    · exact .inr (.inl rfl)
    · exact .inr (.inr rfl)
  · rw [up_other _ _ _ e]
    exact h i h1 (by omega)

set_option maxRecDepth 100000 in
set_option maxHeartbeats 2000000 in
theorem madeL (w : World) (n : Nat) (a : Option Addr) (len cap : Nat) (zs : List Int) (h1 : 1 ≤ n) (hn : n ≤ 100) (hlen : len ≤ maxLen) (hr : RawIs w a len zs) :
    Calls Try.prog 5 #[.int .i64 n, .slice a len cap] w fun e w' => ∃ gb nb c kd, e = .returned (.pointer (some ⟨gb, 0, none⟩)) ∧ Held w' w.heap.size gb nb c (n + 1) zeroF kd ∧ Leafy n kd ∧ (∃ x, kd 1 = .iface 67 x) ∧ Below w.heap.size w w' := by
  unfold maxLen at hlen
  have HR : Hid (RawIs w a len zs) := hr
  clear hr
  go_enter Try.func5, Try.ntmps5
  go_wp2_with fail
  refine (newG w).mono ?_
  rintro e w1 ⟨gb, nb0, rfl, H0, B0⟩
  have HH0 : Hid _ := H0
  have HB0 : Hid _ := B0
  clear H0 B0
  go_wp2_with fail
  go_loopw [6] (fun i wr => ∃ (k nb c : Nat) (kd : Nat → Value), k ≤ n ∧ i = .int .i64 k ∧ Held wr w.heap.size gb nb c (k + 1) zeroF kd ∧ Leafy k kd ∧ (1 ≤ k → ∃ x, kd 1 = .iface 67 x) ∧ Below w.heap.size w wr) (fun i _ => n - (intOf i).toNat)
  case atStart => exact ⟨0, nb0, 1, noKind, Nat.zero_le _, rfl, HH0.out, fun i h1 h2 => by omega, fun h => by omega, HB0.out⟩
  case round =>
    obtain ⟨k, nb, c, kd, hk, rfl, hH, hLf, hk1, hbel⟩ := hrel
    have HH : Hid _ := hH
    have HLf : Hid (Leafy k kd) := hLf
    have HK1 : Hid (1 ≤ k → ∃ x, kd 1 = .iface 67 x) := hk1
    have HB : Hid (Below w.heap.size w wr) := hbel
    clear hH hLf hk1 hbel HH0 HB0
    by_cases hkn : k < n
    · by_cases hkl : k < len
      · rcases HR.out with h0 | ⟨b, off, ha, hbs, hcs⟩
        · omega
        subst ha
        have hcell : wr.cell? ⟨b, off + k, none⟩ = some (.int .i64 (zs.getD k 0)) := (HB.out.cell (p := ⟨b, off + k, none⟩) hbs).trans (hcs k hkl).1
        have hbd := (hcs k hkl).2
        clear hcs
        generalize zs.getD k 0 = z at *
        have hi : (k : Int) < (len : Int) := by omega
        go_wp2_with fail
        refine (pickL z 12 wr (by omega) (by omega) hbd.1 hbd.2).mono ?_
        rintro e wr ⟨r, hr, rfl, rfl⟩
        clear hcell
        by_cases k0 : k = 0
        · have k0' : decide (0 < (k : Int)) = false := by simp; omega
          go_wp2_with fail
          refine (tagL r (by omega) wr).mono ?_
          rintro e w3 ⟨t, rfl, ht, hts, hb3⟩
          have HT : Hid (nameB t.data.toList = true) := ht
          have H3 : Hid (Held w3 w.heap.size gb nb c (k + 1) zeroF kd) := HH.out.since hb3
          have B3 : Hid (Below w.heap.size w w3) := HB.out.trans (hb3.mono HB.out.size)
          clear ht hb3
          go_wp2_with fail
          refine (makeG H3.out (by omega) (by omega) 2 t 67 (.agg #[.string t]) (fun w => newKindEl t w (by unfold maxLen; omega) HT.out)).mono ?_
          rintro e w4 ⟨rfl, nb4, c4, H4, B4⟩
          have HH4 : Hid (Held w4 w.heap.size gb nb4 c4 (k + 1 + 1) zeroF (up kd (k + 1) (.iface 67 (.agg #[.string t])))) := by rw [zeroF_lift] at H4; exact H4
          have HB4 : Hid (Below w.heap.size w w4) := B3.out.trans B4
          clear H4 B4
          go_wp2_with fail
          go_roundw
          case rel => exact ⟨k + 1, nb4, c4, _, hkn, by go_num, HH4.out, leafy_up HLf.out (.inl rfl), fun _ => ⟨_, by rw [show k = 0 from by omega]; exact up_same _ _ _⟩, HB4.out⟩
          case measure => simp [intOf]; omega
        · have k0' : decide (0 < (k : Int)) = true := by simp; omega
          by_cases m3 : r % 4 = 3
          · have m3' : ((r : Int) % 4 == 3) = true := by simp; omega
            obtain q2 | q2 : r / 4 % 2 = 0 ∨ r / 4 % 2 = 1 := by omega
            · have e1 : ((r : Int) / 4 % 2) = 0 := by omega
              clear q2 m3
              go_wp2_with fail
              refine (tagL r (by omega) wr).mono ?_
              rintro e w3 ⟨t, rfl, ht, hts, hb3⟩
              have HT : Hid (nameB t.data.toList = true) := ht
              have H3 : Hid (Held w3 w.heap.size gb nb c (k + 1) zeroF kd) := HH.out.since hb3
              have B3 : Hid (Below w.heap.size w w3) := HB.out.trans (hb3.mono HB.out.size)
              clear ht hb3
              go_wp2_with fail
              refine (makeG H3.out (by omega) (by omega) 3 t 72 (.agg #[.string t]) (fun w => newKindTx t w (by omega))).mono ?_
              rintro e w4 ⟨rfl, nb4, c4, H4, B4⟩
              have HH4 : Hid (Held w4 w.heap.size gb nb4 c4 (k + 1 + 1) zeroF (up kd (k + 1) (.iface 72 (.agg #[.string t])))) := by rw [zeroF_lift] at H4; exact H4
              have HB4 : Hid (Below w.heap.size w w4) := B3.out.trans B4
              clear H4 B4
              go_wp2_with fail
              go_roundw
              case rel => exact ⟨k + 1, nb4, c4, _, hkn, by go_num, HH4.out, leafy_up HLf.out (.inr (.inl rfl)), fun _ => by obtain ⟨x, hx⟩ := HK1.out (by omega); exact ⟨x, by rw [up_other _ _ _ (by omega)]; exact hx⟩, HB4.out⟩
              case measure => simp [intOf]; omega
            · have e1 : ((r : Int) / 4 % 2) = 1 := by omega
              clear q2 m3
              go_wp2_with fail
              refine (tagL r (by omega) wr).mono ?_
              rintro e w3 ⟨t, rfl, ht, hts, hb3⟩
              have HT : Hid (nameB t.data.toList = true) := ht
              have H3 : Hid (Held w3 w.heap.size gb nb c (k + 1) zeroF kd) := HH.out.since hb3
              have B3 : Hid (Below w.heap.size w w3) := HB.out.trans (hb3.mono HB.out.size)
              clear ht hb3
              go_wp2_with fail
              refine (makeG H3.out (by omega) (by omega) 4 t 73 (.agg #[.string t]) (fun w => newKindNo t w (by omega))).mono ?_
              rintro e w4 ⟨rfl, nb4, c4, H4, B4⟩
              have HH4 : Hid (Held w4 w.heap.size gb nb4 c4 (k + 1 + 1) zeroF (up kd (k + 1) (.iface 73 (.agg #[.string t])))) := by rw [zeroF_lift] at H4; exact H4
              have HB4 : Hid (Below w.heap.size w w4) := B3.out.trans B4
              clear H4 B4
              go_wp2_with fail
              go_roundw
              case rel => exact ⟨k + 1, nb4, c4, _, hkn, by go_num, HH4.out, leafy_up HLf.out (.inr (.inr rfl)), fun _ => by obtain ⟨x, hx⟩ := HK1.out (by omega); exact ⟨x, by rw [up_other _ _ _ (by omega)]; exact hx⟩, HB4.out⟩
              case measure => simp [intOf]; omega
          · have m3' : ((r : Int) % 4 == 3) = false := by simp; omega
            clear m3
            go_wp2_with fail
            refine (tagL r (by omega) wr).mono ?_
            rintro e w3 ⟨t, rfl, ht, hts, hb3⟩
            have HT : Hid (nameB t.data.toList = true) := ht
            have H3 : Hid (Held w3 w.heap.size gb nb c (k + 1) zeroF kd) := HH.out.since hb3
            have B3 : Hid (Below w.heap.size w w3) := HB.out.trans (hb3.mono HB.out.size)
            clear ht hb3
            go_wp2_with fail
            refine (makeG H3.out (by omega) (by omega) 2 t 67 (.agg #[.string t]) (fun w => newKindEl t w (by unfold maxLen; omega) HT.out)).mono ?_
            rintro e w4 ⟨rfl, nb4, c4, H4, B4⟩
            have HH4 : Hid (Held w4 w.heap.size gb nb4 c4 (k + 1 + 1) zeroF (up kd (k + 1) (.iface 67 (.agg #[.string t])))) := by rw [zeroF_lift] at H4; exact H4
            have HB4 : Hid (Below w.heap.size w w4) := B3.out.trans B4
            clear H4 B4
            go_wp2_with fail
            go_roundw
            case rel => exact ⟨k + 1, nb4, c4, _, hkn, by go_num, HH4.out, leafy_up HLf.out (.inl rfl), fun _ => by obtain ⟨x, hx⟩ := HK1.out (by omega); exact ⟨x, by rw [up_other _ _ _ (by omega)]; exact hx⟩, HB4.out⟩
            case measure => simp [intOf]; omega
      · have hi : (len : Int) ≤ (k : Int) := by omega
        by_cases k0 : k = 0
        · have k0' : decide (0 < (k : Int)) = false := by simp; omega
          go_wp2_with fail
          refine (tagL 0 (by omega) wr).mono ?_
          rintro e w3 ⟨t, rfl, ht, hts, hb3⟩
          have HT : Hid (nameB t.data.toList = true) := ht
          have H3 : Hid (Held w3 w.heap.size gb nb c (k + 1) zeroF kd) := HH.out.since hb3
          have B3 : Hid (Below w.heap.size w w3) := HB.out.trans (hb3.mono HB.out.size)
          clear ht hb3
          go_wp2_with fail
          refine (makeG H3.out (by omega) (by omega) 2 t 67 (.agg #[.string t]) (fun w => newKindEl t w (by unfold maxLen; omega) HT.out)).mono ?_
          rintro e w4 ⟨rfl, nb4, c4, H4, B4⟩
          have HH4 : Hid (Held w4 w.heap.size gb nb4 c4 (k + 1 + 1) zeroF (up kd (k + 1) (.iface 67 (.agg #[.string t])))) := by rw [zeroF_lift] at H4; exact H4
          have HB4 : Hid (Below w.heap.size w w4) := B3.out.trans B4
          clear H4 B4
          go_wp2_with fail
          go_roundw
          case rel => exact ⟨k + 1, nb4, c4, _, hkn, by go_num, HH4.out, leafy_up HLf.out (.inl rfl), fun _ => ⟨_, by rw [show k = 0 from by omega]; exact up_same _ _ _⟩, HB4.out⟩
          case measure => simp [intOf]; omega
        · have k0' : decide (0 < (k : Int)) = true := by simp; omega
          go_wp2_with fail
          refine (tagL 0 (by omega) wr).mono ?_
          rintro e w3 ⟨t, rfl, ht, hts, hb3⟩
          have HT : Hid (nameB t.data.toList = true) := ht
          have H3 : Hid (Held w3 w.heap.size gb nb c (k + 1) zeroF kd) := HH.out.since hb3
          have B3 : Hid (Below w.heap.size w w3) := HB.out.trans (hb3.mono HB.out.size)
          clear ht hb3
          go_wp2_with fail
          refine (makeG H3.out (by omega) (by omega) 2 t 67 (.agg #[.string t]) (fun w => newKindEl t w (by unfold maxLen; omega) HT.out)).mono ?_
          rintro e w4 ⟨rfl, nb4, c4, H4, B4⟩
          have HH4 : Hid (Held w4 w.heap.size gb nb4 c4 (k + 1 + 1) zeroF (up kd (k + 1) (.iface 67 (.agg #[.string t])))) := by rw [zeroF_lift] at H4; exact H4
          have HB4 : Hid (Below w.heap.size w w4) := B3.out.trans B4
          clear H4 B4
          go_wp2_with fail
          go_roundw
          case rel => exact ⟨k + 1, nb4, c4, _, hkn, by go_num, HH4.out, leafy_up HLf.out (.inl rfl), fun _ => by obtain ⟨x, hx⟩ := HK1.out (by omega); exact ⟨x, by rw [up_other _ _ _ (by omega)]; exact hx⟩, HB4.out⟩
          case measure => simp [intOf]; omega
    · obtain rfl : k = n := by omega
      go_wp2_with fail
      go_ret
      exact ⟨gb, nb, c, kd, rfl, HH.out, HLf.out, HK1.out h1, HB.out⟩
end Go.Proofs.Ytffgopdccgcdnaa
