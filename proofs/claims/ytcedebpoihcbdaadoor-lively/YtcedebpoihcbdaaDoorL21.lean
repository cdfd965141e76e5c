/-
  The walk of the law 'Lively'.
-/
import Derived.Test.YtcedebpoihcbdaaDoorL20
import Derived.Deep.RegionHeld3
namespace Go.Proofs.YtcedebpoihcbdaaDoor
open Go.RowKit Go.Shelf Gv

theorem lsOf_step {k : Nat} (h : 1 ≤ k) : lsOf (k - 1) ++ [Ls.new k 1 strA] ++ [Ls.new k 1 strStar] ++ [Ls.new k 2 strX] ++ [Ls.new k 4 ByteArray.empty] = lsOf k := by
  obtain ⟨n, rfl⟩ : ∃ n, k = n + 1 := ⟨k - 1, by omega⟩
  rfl

def upTo (n : Nat) : List Nat := (List.range n).map (· + 1)
theorem upTo_succ (n : Nat) : upTo (n + 1) = upTo n ++ [n + 1] := by simp [upTo, List.range_succ]
theorem upTo_len (n : Nat) : (upTo n).length = n := by simp [upTo]

theorem tdiv5_bounds {c : Int} (h1 : -9223372036854775808 ≤ c) (h2 : c ≤ 9223372036854775807) : -9223372036854775808 ≤ c.tdiv 5 ∧ c.tdiv 5 ≤ 9223372036854775807 := by
  by_cases h0 : 0 ≤ c
  · rw [Int.tdiv_eq_ediv_of_nonneg h0]; omega
  · have e : c.tdiv 5 = -((-c) / 5) := by
      have := Int.neg_tdiv (-c) 5
      rw [Int.neg_neg] at this
      rw [this, Int.tdiv_eq_ediv_of_nonneg (by omega)]
    rw [e]; omega

theorem pick8 (a : Int) (w : World) (h1 : -9223372036854775808 ≤ a) (h2 : a ≤ 9223372036854775807) : Calls Tryd.prog 4 #[.int .i64 a, .int .i64 8] w fun e w' => e = .returned (.int .i64 (pickF a 8 : Nat)) ∧ w' = w := pickX a 8 w (by omega) (by omega) h1 h2
theorem pick4 (a : Int) (w : World) (h1 : -9223372036854775808 ≤ a) (h2 : a ≤ 9223372036854775807) : Calls Tryd.prog 4 #[.int .i64 a, .int .i64 4] w fun e w' => e = .returned (.int .i64 (pickF a 4 : Nat)) ∧ w' = w := pickX a 4 w (by omega) (by omega) h1 h2

theorem itemM {w0 w : World} {D gb nb cap N : Nat} {kk : Nat → Nat} {tg : Nat → ByteArray} {kd : Nat → Value} {mp : Nat → Nat} {v : Value} {xs : List Nat} {p : Nat} (h : Live w0 D w gb nb cap N kk tg kd mp v xs p) (hN : 1 ≤ N) (m : Nat) (h1 : 1 ≤ m) (h8 : m ≤ 8) (j : Int) :
    Calls Tryd.prog 10 #[.pointer (some ⟨gb, 0, none⟩), .int .i64 (m : Int), .int .i64 j] w fun e w' => ∃ q : Int, e = .returned (.tuple #[.int .i64 q, .int .i64 0]) ∧ Live w0 D w' gb nb cap N kk tg kd mp v xs (p + 2) := by
  obtain ⟨i, rfl⟩ : ∃ i, m = i + 1 := ⟨m - 1, by omega⟩
  exact itemL h hN i (by omega) j

set_option maxRecDepth 100000 in
set_option maxHeartbeats 8000000 in
theorem livelyWalk (a0 : Int) (a1 : Option Addr) (len1 cap1 : Nat) (z1 : List Int) (a2 : Option Addr) (len2 cap2 : Nat) (z2 : List Int) (w : World)
    (hlo : -9223372036854775808 ≤ a0) (hhi : a0 ≤ 9223372036854775807) (hl1 : len1 ≤ maxLen) (hr1 : RawIs w a1 len1 z1) (hr2 : RawIs w a2 len2 z2) :
    Calls Tryd.prog 3 #[.int .i64 a0, .slice a1 len1 cap1, .slice a2 len2 cap2] w fun e w' => e = .returned (.bool true) ∧ Below w.heap.size w w' := by
  obtain ⟨i0, hi, hz0, hz1, hz2⟩ := info_parts Tryd.info3
  have HL1 : Hid (len1 ≤ maxLen) := hl1
  have HR1 : Hid (RawIs w a1 len1 z1) := hr1
  have HR2 : Hid (RawIs w a2 len2 z2) := hr2
  clear hl1 hr1 hr2
  go_enter Tryd.func3, Tryd.ntmps3
  go_wp2_with fail
  refine (pickL a0 12 w (by omega) (by omega) hlo hhi).mono ?_
  rintro e w ⟨r, hr, rfl, rfl⟩
  clear hlo hhi
  go_wp2_with fail
  have hN : (2 + (r : Int)) = ((2 + r : Nat) : Int) := by omega
  rw [hN]
  clear hN
  have hN1 : 2 ≤ 2 + r := by omega
  have hN2 : 2 + r ≤ 13 := by omega
  clear hr
  generalize 2 + r = N at *
  refine (madeL w N a1 len1 cap1 z1 (by omega) HL1.out HR1.out).mono ?_
  rintro e w1 ⟨gb, nb, c, kd, mp, rfl, hM, hB⟩
  have HE0 : Hid _ := firstL hM hB (kkR_ne len1 z1) (kkR_one len1 z1) hN1
  have HB0 : Hid (Below w.heap.size w w1) := hB
  clear hM hB
  go_wp2_with fail
  refine Calls.mono HE0.out ?_
  rintro e w2 ⟨rfl, hE⟩
  have HE : Hid _ := hE
  clear hE HE0
  go_wp2_with fail
  obtain ⟨D, hD⟩ : ∃ D, D = w2.heap.size := ⟨_, rfl⟩
  have HD1 : Hid (w.heap.size ≤ D) := by
    obtain ⟨_, _, _, _, _, _, h5, _⟩ := HE.out
    show w.heap.size ≤ D
    rw [hD]; exact h5.size
  have HD2 : Hid (D ≤ w2.heap.size) := Nat.le_of_eq hD
  clear hD
  go_loopg [9, 10] 2 (fun m v i wr => ∃ k : Nat, i = .int .i64 k ∧ m + k = 3 ∧ 1 ≤ k ∧ Hid (Early w wr gb nb c N (kkR len1 z1) (tgR len1 z1) kd mp (lsOf (k - 1))) ∧ Hid (Roots D wr v (upTo (k - 1))) ∧ Hid (D ≤ wr.heap.size))
  case atStart => exact ⟨1, rfl, rfl, Nat.le_refl _, HE.out, World.ownsRow_nil _ _ _ _, HD2.out⟩
  case round =>
    obtain ⟨k, rfl, hm, hk1, HE1, HRt, HDl⟩ := hrel
    by_cases hk : k ≤ 2
    · have hkI : (k : Int) ≤ 2 := by omega
      have hlen : (lsOf (k - 1)).length = 4 * (k - 1) := lsOf_len _
      have q0 : IntKind.i64.wrap (4 * (k : Int)) = 4 * (k : Int) := IntWalk.i64_in _ (by omega)
      have q1 : IntKind.i64.wrap (4 * (k : Int) - 3) = 4 * (k : Int) - 3 := IntWalk.i64_in _ (by omega)
      have q2 : IntKind.i64.wrap (4 * (k : Int) - 2) = 4 * (k : Int) - 2 := IntWalk.i64_in _ (by omega)
      have q3 : IntKind.i64.wrap (4 * (k : Int) - 1) = 4 * (k : Int) - 1 := IntWalk.i64_in _ (by omega)
      have HLN : Hid ((lsOf (k - 1)).length = 4 * (k - 1)) := hlen
      clear hlen
      go_wp2_with fail
      refine (watchL HE1.out HRt.out (by simp [HLN.out]; omega) k 1 strA ask1 hk1 (by omega) (4 * (k : Int) - 3) (by simp [HLN.out]; omega)).mono ?_
      rintro e w4 ⟨rfl, hE, hR, hS⟩
      have HS4 : Hid (D ≤ w4.heap.size) := Nat.le_trans HDl.out hS
      have HE4 : Hid _ := hE
      have HR4 : Hid _ := hR
      clear hE hR hS
      go_wp2_with fail
      refine (watchL HE4.out HR4.out (by simp [HLN.out]; omega) k 1 strStar ask2 hk1 (by omega) (4 * (k : Int) - 2) (by simp [HLN.out]; omega)).mono ?_
      rintro e w5 ⟨rfl, hE, hR, hS⟩
      have HS5 : Hid (D ≤ w5.heap.size) := Nat.le_trans HS4.out hS
      have HE5 : Hid _ := hE
      have HR5 : Hid _ := hR
      clear hE hR hS
      go_wp2_with fail
      refine (watchL HE5.out HR5.out (by simp [HLN.out]; omega) k 2 strX ask3 hk1 (by omega) (4 * (k : Int) - 1) (by simp [HLN.out]; omega)).mono ?_
      rintro e w6 ⟨rfl, hE, hR, hS⟩
      have HS6 : Hid (D ≤ w6.heap.size) := Nat.le_trans HS5.out hS
      have HE6 : Hid _ := hE
      have HR6 : Hid _ := hR
      clear hE hR hS
      go_wp2_with fail
      refine (watchL HE6.out HR6.out (by simp [HLN.out]; omega) k 4 ByteArray.empty ask4 hk1 (by omega) (4 * (k : Int)) (by simp [HLN.out]; omega)).mono ?_
      rintro e w7 ⟨rfl, hE, hR, hS⟩
      have HS7 : Hid (D ≤ w7.heap.size) := Nat.le_trans HS6.out hS
      have HE7 : Hid _ := hE
      have HR7 : Hid _ := hR
      clear hE hR hS
      have HE8 : Hid (Early w w7 gb nb c N (kkR len1 z1) (tgR len1 z1) kd mp (lsOf k)) := by
        show Early _ _ _ _ _ _ _ _ _ _ _
        rw [← lsOf_step hk1]
        exact HE7.out
      have HDl7 : Hid (D ≤ w7.heap.size) := HS7.out
      go_wp2_with (at_builtin; refine wpList_append_own_at _ rfl _ _ 22 rfl D 3 i0 (.int .i64 0) 1 8 Tryd.underlying22 hi hz0 hz1 hz2 rfl (by decide) _ _ _ rfl (World.ownsRow.alloc HR7.out _) ⟨w7.heap.size, 0, none⟩ 1 1 [.int .i64 (k : Nat)] rfl rfl (cell_one_new _ _ _) ?c2 ?c3 ?c4 ?c5 ?_)
      case c2 => intro u hu; simp at hu; subst hu; rfl
      case c3 => rw [upTo_len]; unfold maxLen; omega
      case c4 => rw [upTo_len]; omega
      case c5 => have := HDl7.out; simp; omega
      intro v8 w8 hown hgrow _ hat
      obtain ⟨hE, hR⟩ := HE8.out.more ⟨HD1.out, HDl7.out⟩ HR7.out hown hgrow
      have HE9 : Hid _ := hE
      have HR9 : Hid (Roots D w8 v8 (upTo k)) := by
        show Roots _ _ _ _
        rw [show upTo k = upTo (k - 1) ++ [k] from by obtain ⟨n, rfl⟩ : ∃ n, k = n + 1 := ⟨k - 1, by omega⟩; exact upTo_succ n]
        exact hR
      have HDl8 : Hid (D ≤ w8.heap.size) := Nat.le_trans HDl7.out (Nat.le_trans (by simp) hgrow.size)
      clear hE hR hown hgrow hat
      go_wp2_with fail
      go_roundg (gk - 1)
      case measure => omega
      case rel => exact ⟨k + 1, by go_num, by omega, by omega, HE9.out, HR9.out, HDl8.out⟩
    · obtain rfl : k = 3 := by omega
      have HLv : Hid (Live w D wr gb nb c N (kkR len1 z1) (tgR len1 z1) kd mp _ [1, 2] 2) := HE1.out.live lsOf_is HRt.out
      clear HE1 HRt HE HB0
      obtain ⟨ra, rc, hre, -⟩ := found_form HLv.out.roots
      have hre2 : _ = Value.slice ra 2 rc := hre
      clear hre
      subst hre2
      rw [show ((3 : Nat) : Int) = 3 from rfl]
      go_wp2_with fail
      go_loopw [19] (fun i wx => ∃ k : Nat, k ≤ 92 ∧ i = .int .i64 k ∧ Hid (Live w D wx gb nb c N (kkR len1 z1) (tgR len1 z1) kd mp (.slice ra 2 rc) [1, 2] (2 + 2 * k))) (fun i _ => 100 - (intOf i).toNat)
      case atStart => exact ⟨0, by omega, rfl, HLv.out⟩
      case round =>
        obtain ⟨k, hk, rfl, HL⟩ := hrel
        by_cases hk2 : k + 2 < len2
        · have t1 : (k : Int) + 2 < (len2 : Int) := by omega
          by_cases hk90 : k < 90
          · have t2 : (k : Int) < 90 := by omega
            rcases HR2.out with h0 | ⟨b2, off, ha2, hbs, hcs⟩
            · omega
            subst ha2
            have D0 : Hid (w.cell? ⟨b2, off + k, none⟩ = some (.int .i64 (z2.getD k 0))) := (hcs k (by omega)).1
            have D1 : Hid (w.cell? ⟨b2, off + (k + 1), none⟩ = some (.int .i64 (z2.getD (k + 1) 0))) := (hcs (k + 1) (by omega)).1
            have D2 : Hid (w.cell? ⟨b2, off + (k + 2), none⟩ = some (.int .i64 (z2.getD (k + 2) 0))) := (hcs (k + 2) (by omega)).1
            have e1 := (hcs (k + 1) (by omega)).2
            have e2 := (hcs (k + 2) (by omega)).2
            have e0 := (hcs k (by omega)).2
            clear hcs HLv
            generalize z2.getD k 0 = x0 at *
            generalize z2.getD (k + 1) 0 = x1 at *
            generalize z2.getD (k + 2) 0 = x2 at *
            have d0 : wr.cell? ⟨b2, off + k, none⟩ = some (.int .i64 x0) := (HL.out.below.cell (p := ⟨b2, off + k, none⟩) hbs).trans D0.out
            have d1 : wr.cell? ⟨b2, off + (k + 1), none⟩ = some (.int .i64 x1) := (HL.out.below.cell (p := ⟨b2, off + (k + 1), none⟩) hbs).trans D1.out
            have d2 : wr.cell? ⟨b2, off + (k + 2), none⟩ = some (.int .i64 x2) := (HL.out.below.cell (p := ⟨b2, off + (k + 2), none⟩) hbs).trans D2.out
            have p5 := pickF_lt x1 (n := 5) (by omega)
            have p0 := pickF_lt x0 (n := N) (by omega)
            have v0 : (k : Int) < (len2 : Int) := by omega
            have v00 : (0 : Int) ≤ (k : Int) := by omega
            have v1 : (k : Int) + 1 < (len2 : Int) := by omega
            have v2 : (0 : Int) ≤ (k : Int) + 1 := by omega
            have v3 : (0 : Int) ≤ (k : Int) + 2 := by omega
            have v4 : ((k : Int) + 1).toNat = k + 1 := by omega
            have v5 : ((k : Int) + 2).toNat = k + 2 := by omega
            have v6 : IntKind.i64.wrap ((k : Int) + 1) = (k : Int) + 1 := IntWalk.i64_in _ (by omega)
            have v7 : IntKind.i64.wrap ((k : Int) + 2) = (k : Int) + 2 := IntWalk.i64_in _ (by omega)
            have v8 : IntKind.i64.wrap (x1.tdiv 5) = x1.tdiv 5 := IntWalk.i64_quo' x1 5 (by omega)
            have t5 := tdiv5_bounds (c := x1) e1.1 e1.2
            go_wp2_with fail
            refine (pickX x0 N wr (by omega) (by omega) e0.1 e0.2).mono ?_
            rintro e wr ⟨rfl, rfl⟩
            go_wp2_with fail
            refine (pickX x1 5 wr (by omega) (by omega) e1.1 e1.2).mono ?_
            rintro e wr ⟨rfl, rfl⟩
            have HSt : Hid _ := p5
            clear p5
            by_cases c0 : pickF x1 5 = 0
            · rw [c0]
              clear c0
              go_wp2_with fail
              rw [show (1 + ((pickF x0 N : Nat) : Int)) = ((1 + pickF x0 N : Nat) : Int) from by omega]
              refine (setL HL.out (by omega) _ strClass ⟨#[121, 32, 120]⟩ (by decide) (by decide)).mono ?_
              rintro e w4 ⟨q, rfl, hL⟩
              have HLn : Hid (Live w D w4 gb nb c N (kkR len1 z1) (tgR len1 z1) kd mp (.slice ra 2 rc) [1, 2] (2 + 2 * k + 2)) := hL
              clear hL
              have f2 : w4.cell? ⟨b2, off + (k + 2), none⟩ = some (.int .i64 x2) := (HLn.out.below.cell (p := ⟨b2, off + (k + 2), none⟩) hbs).trans D2.out
              have f0 : w4.cell? ⟨b2, off + k, none⟩ = some (.int .i64 x0) := (HLn.out.below.cell (p := ⟨b2, off + k, none⟩) hbs).trans D0.out
              cases hev : (x2.tmod 2 == 0) with
              | true =>
                go_wp2_with fail
                refine (pickX x0 2 w4 (by omega) (by omega) e0.1 e0.2).mono ?_
                rintro e w4 ⟨rfl, rfl⟩
                have pr := pickF_lt x0 (n := 2) (by omega)
                go_wp2_with fail
                rw [show (1 + ((pickF x0 2 : Nat) : Int)) = ((1 + pickF x0 2 : Nat) : Int) from by omega]
                refine (lookedL HLn.out hN1 HL1.out HR1.out (1 + pickF x0 2) (by omega) (by omega)).mono ?_
                rintro e w9 ⟨rfl, hL⟩
                have HL9 : Hid (Live w D w9 gb nb c N (kkR len1 z1) (tgR len1 z1) kd mp (.slice ra 2 rc) [1, 2] (2 + 2 * k + 2)) := hL
                clear hL f0 f2 pr
                go_wp2_with fail
                go_roundw
                case rel => exact ⟨k + 3, by omega, by go_num, HL9.out.up (by omega)⟩
                case measure => simp [intOf]; omega
              | false =>
                go_wp2_with fail
                go_roundw
                case rel => exact ⟨k + 3, by omega, by go_num, HLn.out.up (by omega)⟩
                case measure => simp [intOf]; omega
            · by_cases c1 : pickF x1 5 = 1
              · rw [c1]
                clear c0 c1
                go_wp2_with fail
                rw [show (1 + ((pickF x0 N : Nat) : Int)) = ((1 + pickF x0 N : Nat) : Int) from by omega]
                refine (unsetL HL.out (by omega) _ strClass (by decide)).mono ?_
                rintro e w4 ⟨q, rfl, hL⟩
                have HLn : Hid (Live w D w4 gb nb c N (kkR len1 z1) (tgR len1 z1) kd mp (.slice ra 2 rc) [1, 2] (2 + 2 * k + 2)) := hL
                clear hL
                have f2 : w4.cell? ⟨b2, off + (k + 2), none⟩ = some (.int .i64 x2) := (HLn.out.below.cell (p := ⟨b2, off + (k + 2), none⟩) hbs).trans D2.out
                have f0 : w4.cell? ⟨b2, off + k, none⟩ = some (.int .i64 x0) := (HLn.out.below.cell (p := ⟨b2, off + k, none⟩) hbs).trans D0.out
                cases hev : (x2.tmod 2 == 0) with
                | true =>
                  go_wp2_with fail
                  refine (pickX x0 2 w4 (by omega) (by omega) e0.1 e0.2).mono ?_
                  rintro e w4 ⟨rfl, rfl⟩
                  have pr := pickF_lt x0 (n := 2) (by omega)
                  go_wp2_with fail
                  rw [show (1 + ((pickF x0 2 : Nat) : Int)) = ((1 + pickF x0 2 : Nat) : Int) from by omega]
                  refine (lookedL HLn.out hN1 HL1.out HR1.out (1 + pickF x0 2) (by omega) (by omega)).mono ?_
                  rintro e w9 ⟨rfl, hL⟩
                  have HL9 : Hid (Live w D w9 gb nb c N (kkR len1 z1) (tgR len1 z1) kd mp (.slice ra 2 rc) [1, 2] (2 + 2 * k + 2)) := hL
                  clear hL f0 f2 pr
                  go_wp2_with fail
                  go_roundw
                  case rel => exact ⟨k + 3, by omega, by go_num, HL9.out.up (by omega)⟩
                  case measure => simp [intOf]; omega
                | false =>
                  go_wp2_with fail
                  go_roundw
                  case rel => exact ⟨k + 3, by omega, by go_num, HLn.out.up (by omega)⟩
                  case measure => simp [intOf]; omega
              · by_cases c2 : pickF x1 5 = 2
                · rw [c2]
                  clear c0 c1 c2
                  have p8 := pickF_lt x2 (n := 8) (by omega)
                  have p4 := pickF_lt x0 (n := 4) (by omega)
                  obtain ⟨mi, hmi⟩ : ∃ m : Nat, m = pickF x2 8 + 1 := ⟨_, rfl⟩
                  have wa : (1 + ((pickF x2 8 : Nat) : Int)) = ((mi : Nat) : Int) := by omega
                  have wb : IntKind.i64.wrap (1 + ((pickF x2 8 : Nat) : Int)) = ((mi : Nat) : Int) := by rw [IntWalk.i64_in _ (by omega)]; omega
                  have m1 : 1 ≤ mi ∧ mi ≤ 8 := by omega
                  have wc : IntKind.i64.wrap ((mi : Nat) : Int) = ((mi : Nat) : Int) := IntWalk.i64_in _ (by omega)
                  clear hmi p8
                  have P8 : Hid (∀ w : World, Calls Tryd.prog 4 #[.int .i64 x2, .int .i64 8] w fun e w' => e = .returned (.int .i64 (pickF x2 8 : Nat)) ∧ w' = w) := fun w => pick8 x2 w e2.1 e2.2
                  have P4 : Hid (∀ w : World, Calls Tryd.prog 4 #[.int .i64 x0, .int .i64 4] w fun e w' => e = .returned (.int .i64 (pickF x0 4 : Nat)) ∧ w' = w) := fun w => pick4 x0 w e0.1 e0.2
                  generalize pickF x2 8 = pk8 at *
                  generalize hp4 : pickF x0 4 = pk4 at *
                  clear p4
                  go_wp2_with fail
                  go_region_held3 (fun wx => wx.cell? ⟨b2, off + (k + 2), none⟩ = some (.int .i64 x2) ∧ wx.cell? ⟨b2, off + k, none⟩ = some (.int .i64 x0)) (first | exact ⟨d2, d0⟩ | exact ⟨y2, y0⟩ | go_keep) ((first | (go_at_call 4; first | (with_reducible refine (P8.out _).mono ?_; rintro e wq ⟨rfl, rfl⟩) | (with_reducible refine (P4.out _).mono ?_; rintro e wq ⟨rfl, rfl⟩)) | (go_at_call 10; (with_reducible refine (itemM (HL.out.since (w' := wr.drew) (Below.refl _ _).drew) (by omega) mi m1.1 m1.2 _).mono ?_); rintro e w4 ⟨q, rfl, hL⟩; have y2 : w4.cell? ⟨b2, off + (k + 2), none⟩ = some (.int .i64 x2) := (hL.below.cell (p := ⟨b2, off + (k + 2), none⟩) hbs).trans D2.out; have y0 : w4.cell? ⟨b2, off + k, none⟩ = some (.int .i64 x0) := (hL.below.cell (p := ⟨b2, off + k, none⟩) hbs).trans D0.out; have HLn : Hid (Live w D w4 gb nb c N (kkR len1 z1) (tgR len1 z1) kd mp (.slice ra 2 rc) [1, 2] (2 + 2 * k + 2)) := hL; clear hL)))
                  all_goals
                    have f2 : w4.cell? ⟨b2, off + (k + 2), none⟩ = some (.int .i64 x2) := y2
                    have f0 : w4.cell? ⟨b2, off + k, none⟩ = some (.int .i64 x0) := y0
                    clear y2 y0
                    cases hev : (x2.tmod 2 == 0) with
                    | true =>
                      go_wp2_with fail
                      refine (pickX x0 2 _ (by omega) (by omega) e0.1 e0.2).mono ?_
                      rintro e w5 ⟨rfl, rfl⟩
                      have pr := pickF_lt x0 (n := 2) (by omega)
                      go_wp2_with fail
                      rw [show (1 + ((pickF x0 2 : Nat) : Int)) = ((1 + pickF x0 2 : Nat) : Int) from by omega]
                      refine (lookedL HLn.out hN1 HL1.out HR1.out (1 + pickF x0 2) (by omega) (by omega)).mono ?_
                      rintro e w9 ⟨rfl, hL⟩
                      have HL9 : Hid (Live w D w9 gb nb c N (kkR len1 z1) (tgR len1 z1) kd mp (.slice ra 2 rc) [1, 2] (2 + 2 * k + 2)) := hL
                      clear hL f0 f2 pr
                      go_wp2_with fail
                      go_roundw
                      case rel => exact ⟨k + 3, by omega, by go_num, HL9.out.up (by omega)⟩
                      case measure => simp [intOf]; omega
                    | false =>
                      go_wp2_with fail
                      go_roundw
                      case rel => exact ⟨k + 3, by omega, by go_num, HLn.out.up (by omega)⟩
                      case measure => simp [intOf]; omega
                · have c0' : (((pickF x1 5 : Nat) : Int) == 0) = false := by simp; omega
                  have c1' : (((pickF x1 5 : Nat) : Int) == 1) = false := by simp; omega
                  have c2' : (((pickF x1 5 : Nat) : Int) == 2) = false := by simp; omega
                  clear c0 c1 c2
                  generalize pickF x1 5 = pk at *
                  go_wp2_with fail
                  go_region_held3 (fun wx => wx.cell? ⟨b2, off + (k + 2), none⟩ = some (.int .i64 x2) ∧ wx.cell? ⟨b2, off + (k + 1), none⟩ = some (.int .i64 x1) ∧ wx.cell? ⟨b2, off + k, none⟩ = some (.int .i64 x0)) (first | exact ⟨d2, d1, d0⟩ | exact ⟨y2, y1, y0⟩ | go_keep) ((go_at_call 11; refine (changeL (HL.out.since (w' := wr.drew) (Below.refl _ _).drew) (by omega) (kkR_ne len1 z1) (by omega) x0 (x1.tdiv 5) x2 e0 t5 e2).mono ?_; rintro e w4 ⟨rfl, hL⟩; have y2 : w4.cell? ⟨b2, off + (k + 2), none⟩ = some (.int .i64 x2) := (hL.below.cell (p := ⟨b2, off + (k + 2), none⟩) hbs).trans D2.out; have y1 : w4.cell? ⟨b2, off + (k + 1), none⟩ = some (.int .i64 x1) := (hL.below.cell (p := ⟨b2, off + (k + 1), none⟩) hbs).trans D1.out; have y0 : w4.cell? ⟨b2, off + k, none⟩ = some (.int .i64 x0) := (hL.below.cell (p := ⟨b2, off + k, none⟩) hbs).trans D0.out; have HLn : Hid (Live w D w4 gb nb c N (kkR len1 z1) (tgR len1 z1) kd mp (.slice ra 2 rc) [1, 2] (2 + 2 * k + 2)) := hL; clear hL))
                  all_goals
                    have f2 : w4.cell? ⟨b2, off + (k + 2), none⟩ = some (.int .i64 x2) := y2
                    have f0 : w4.cell? ⟨b2, off + k, none⟩ = some (.int .i64 x0) := y0
                    clear y2 y0
                    cases hev : (x2.tmod 2 == 0) with
                    | true =>
                      go_wp2_with fail
                      refine (pickX x0 2 _ (by omega) (by omega) e0.1 e0.2).mono ?_
                      rintro e w5 ⟨rfl, rfl⟩
                      have pr := pickF_lt x0 (n := 2) (by omega)
                      go_wp2_with fail
                      rw [show (1 + ((pickF x0 2 : Nat) : Int)) = ((1 + pickF x0 2 : Nat) : Int) from by omega]
                      refine (lookedL HLn.out hN1 HL1.out HR1.out (1 + pickF x0 2) (by omega) (by omega)).mono ?_
                      rintro e w9 ⟨rfl, hL⟩
                      have HL9 : Hid (Live w D w9 gb nb c N (kkR len1 z1) (tgR len1 z1) kd mp (.slice ra 2 rc) [1, 2] (2 + 2 * k + 2)) := hL
                      clear hL f0 f2 pr
                      go_wp2_with fail
                      go_roundw
                      case rel => exact ⟨k + 3, by omega, by go_num, HL9.out.up (by omega)⟩
                      case measure => simp [intOf]; omega
                    | false =>
                      go_wp2_with fail
                      go_roundw
                      case rel => exact ⟨k + 3, by omega, by go_num, HLn.out.up (by omega)⟩
                      case measure => simp [intOf]; omega
          · have t2 : ¬ (k : Int) < 90 := by omega
            go_wp2_with fail
            go_loopg [22] 2 (fun m i wx => ∃ j : Nat, i = .int .i64 j ∧ m + j = 2 ∧ Hid (Live w D wx gb nb c N (kkR len1 z1) (tgR len1 z1) kd mp (.slice ra 2 rc) [1, 2] 300))
            case atStart => exact ⟨0, rfl, rfl, HL.out.up (by omega)⟩
            case round =>
              obtain ⟨j, rfl, hmj, HLj⟩ := hrel
              by_cases hj : j < 2
              · have hjI : (j : Int) < 2 := by omega
                obtain ⟨ro, rcp, re, hnum⟩ := found_form HLj.out.roots
                simp only [Value.slice.injEq] at re
                rw [← re.1] at hnum
                rcases hnum with h0 | ⟨rg, rfl, hrg, hrc⟩
                · simp at h0
                have rcell := hrc j (by simpa using hj)
                have rv : ([1, 2] : List Nat).getD j 0 = j + 1 := by
                  obtain rfl | rfl : j = 0 ∨ j = 1 := by omega
                  · rfl
                  · rfl
                rw [rv] at rcell
                clear hrc hrg re rv
                go_wp2_with fail
                refine (lookedL HLj.out hN1 HL1.out HR1.out (j + 1) (by omega) (by omega)).mono ?_
                rintro e w9 ⟨rfl, hL⟩
                have HL9 : Hid _ := hL
                clear hL rcell
                go_wp2_with fail
                go_roundg (gk - 1)
                case measure => omega
                case rel => exact ⟨j + 1, by go_num, by omega, HL9.out⟩
              · have hjI : ¬ (j : Int) < 2 := by omega
                go_wp2_with fail
                go_ret
                exact ⟨rfl, HLj.out.below⟩
        · have t1 : ¬ (k : Int) + 2 < (len2 : Int) := by omega
          go_wp2_with fail
          go_loopg [22] 2 (fun m i wx => ∃ j : Nat, i = .int .i64 j ∧ m + j = 2 ∧ Hid (Live w D wx gb nb c N (kkR len1 z1) (tgR len1 z1) kd mp (.slice ra 2 rc) [1, 2] 300))
          case atStart => exact ⟨0, rfl, rfl, HL.out.up (by omega)⟩
          case round =>
            obtain ⟨j, rfl, hmj, HLj⟩ := hrel
            by_cases hj : j < 2
            · have hjI : (j : Int) < 2 := by omega
              obtain ⟨ro, rcp, re, hnum⟩ := found_form HLj.out.roots
              simp only [Value.slice.injEq] at re
              rw [← re.1] at hnum
              rcases hnum with h0 | ⟨rg, rfl, hrg, hrc⟩
              · simp at h0
              have rcell := hrc j (by simpa using hj)
              have rv : ([1, 2] : List Nat).getD j 0 = j + 1 := by
                obtain rfl | rfl : j = 0 ∨ j = 1 := by omega
                · rfl
                · rfl
              rw [rv] at rcell
              clear hrc hrg re rv
              go_wp2_with fail
              refine (lookedL HLj.out hN1 HL1.out HR1.out (j + 1) (by omega) (by omega)).mono ?_
              rintro e w9 ⟨rfl, hL⟩
              have HL9 : Hid _ := hL
              clear hL rcell
              go_wp2_with fail
              go_roundg (gk - 1)
              case measure => omega
              case rel => exact ⟨j + 1, by go_num, by omega, HL9.out⟩
            · have hjI : ¬ (j : Int) < 2 := by omega
              go_wp2_with fail
              go_ret
              exact ⟨rfl, HLj.out.below⟩
end Go.Proofs.YtcedebpoihcbdaaDoor
