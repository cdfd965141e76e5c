/-
  The law's 'ranged'.
-/
import Derived.Test.YtcedebpoihcbdaaZ5
namespace Go.Proofs.Ytcedebpoihcbdaa
open Go.RowKit Gv

/-- Where it is when so many moves have been made. -/
def hrF (K : Nat → List Nat) (x : Nat) (back : Bool) (i : Nat) : Nat :=
  if i = 0 then x else if i ≤ (K x).length then (wayK K x back).getD (i - 1) 0 else if (K x).length = 0 then x else (wayK K x back).getD ((K x).length - 1) 0

theorem way_zero {K : Nat → List Nat} {x i : Nat} (back : Bool) (h : (K x).length ≤ i) : (wayK K x back).getD i 0 = 0 := by
  rw [List.getD_eq_getElem?_getD, List.getElem?_eq_none (by rw [wayK_len]; exact h)]; rfl

theorem hr_step {N : Nat} {s : Fo} {K : Nat → List Nat} (h : WF N s K) {x i : Nat} (back : Bool) (hi : i ≤ (K x).length) : hereTo (hrF K x back i) ((wayK K x back).getD i 0) = hrF K x back (i + 1) := by
  by_cases hl : i < (K x).length
  · have hz : (wayK K x back).getD i 0 ≠ 0 := nz_of_kid h (wayK_mem back hl)
    unfold hereTo
    rw [if_neg hz]
    unfold hrF
    rw [if_neg (by omega), if_pos (by omega), Nat.add_sub_cancel]
  · have e : i = (K x).length := by omega
    rw [way_zero back (by omega)]
    unfold hereTo
    rw [if_pos rfl]
    unfold hrF
    by_cases h0 : i = 0
    · rw [if_pos h0, if_neg (by omega), if_neg (by omega), if_pos (by omega)]
    · rw [if_neg h0, if_pos (by omega), if_neg (by omega), if_neg (by omega), if_neg (by omega), e]

theorem way_rev {K : Nat → List Nat} {x i : Nat} (hi : i < (K x).length) : (wayK K x true).getD i 0 = (K x).getD ((K x).length - 1 - i) 0 := by
  simp only [wayK, if_true]
  rw [List.getD_eq_getElem?_getD, List.getD_eq_getElem?_getD, List.getElem?_reverse hi]

theorem kid_not_top {N : Nat} {s : Fo} {K : Nat → List Nat} (h : WF N s K) {x y : Nat} (hd : Desc s.par x 1) (hy : y ∈ K x) : y ≠ 1 := by
  rintro rfl
  have hk := h.kid x 1 hy
  obtain ⟨m, hm⟩ := hd
  have : anc s.par (m + 1) 1 = 1 := by show anc s.par m (s.par 1) = 1; rw [hk.2.2.2.2]; exact hm
  exact no_loop h.z (by omega) (h.acy 1 hk.2.2.2.1) m this

section
variable {B : Nat} {w : World} {gb nb cap N : Nat} {kk : Nat → Nat} {tg : Nat → ByteArray} {kd : Nat → Value} {mp : Nat → Nat} {σ : St} {r : Re} {here : Nat}

set_option maxRecDepth 100000 in
set_option maxHeartbeats 4000000 in
theorem rangedF (h : Wg B w gb nb cap N kk tg kd mp σ r here) (x : Nat) (h1 : 1 ≤ x) (hN : x ≤ N) (hd : Desc σ.s.par x 1) {D kcap : Nat} {kao : Option Addr} (hD : ∀ j, r.wv.ownBlock = some j → j < D) (hkl : (σ.K x).length = 0 ∨ ∃ kg, kao = some ⟨kg, 0, none⟩ ∧ Lst w D kg (σ.K x)) :
    Calls Try.prog 21 #[.pointer (some ⟨gb, 0, none⟩), .int .i64 x, .slice kao (σ.K x).length kcap, .int .i64 2, .int .i64 5, .int .i64 1] w fun e w' => e = .returned (.bool true) ∧ ∃ here', Wg B w' gb nb cap N kk tg kd mp σ r here' ∧ Fr (fun j => r.wv.ownBlock = some j) w w' := by
  have HG : Hid (Wg B w gb nb cap N kk tg kd mp σ r here) := h
  have HDs : Hid (Desc σ.s.par x 1) := hd
  have HD : Hid (∀ j, r.wv.ownBlock = some j → j < D) := hD
  have HKL : Hid ((σ.K x).length = 0 ∨ ∃ kg, kao = some ⟨kg, 0, none⟩ ∧ Lst w D kg (σ.K x)) := hkl
  have HW : Hid (WF N σ.s σ.K) := h.gro.wf
  have hN3 := h.gro.N1
  have hfew := h.gro.wf.few x
  have HOut : Hid (outF σ.s x false = (wayK σ.K x false).getD 0 0) := wayK_out h.gro.wf h1 hN false
  have HLe : Hid (∀ i, (wayK σ.K x false).getD i 0 ≤ N) := by
    intro i
    by_cases hi : i < (σ.K x).length
    · exact (h.gro.wf.kid x _ (wayK_mem false hi)).2.2.2.1
    · rw [way_zero false (by omega)]; omega
  clear h hd hD hkl
  go_enter Try.func21, Try.ntmps21
  go_wp2_with fail
  refine (goS HG.out x h1 hN).mono ?_
  rintro e w1 ⟨rfl, hg1, hf1⟩
  have W1 : Hid (Wg B w1 gb nb cap N kk tg kd mp σ r x) := hg1
  have F0 : Hid (Fr (fun j => r.wv.ownBlock = some j) w w1) := hf1
  clear hg1 hf1
  go_wp2_with fail
  go_loopw [14, 15] (fun mv i wr => ∃ k : Nat, k ≤ (σ.K x).length + 1 ∧ mv = .int .i64 (if k = 0 then 2 else 5) ∧ i = .int .i64 k ∧ Wg B wr gb nb cap N kk tg kd mp σ r (hrF σ.K x false k) ∧ Fr (fun j => r.wv.ownBlock = some j) w1 wr) (fun _ i _ => (σ.K x).length + 1 - (intOf i).toNat)
  case atStart => exact ⟨0, Nat.zero_le _, rfl, rfl, W1.out, Fr.refl _ _⟩
  case round =>
    obtain ⟨i, hi, rfl, rfl, hg, hf⟩ := hrel
    have W : Hid (Wg B wr gb nb cap N kk tg kd mp σ r (hrF σ.K x false i)) := hg
    have F : Hid (Fr (fun j => r.wv.ownBlock = some j) w1 wr) := hf
    clear hg hf
    by_cases hil1 : i ≤ (σ.K x).length
    · have il1 : (i : Int) ≤ (((σ.K x).length : Nat) : Int) := by omega
      have HST : Hid (hereTo (hrF σ.K x false i) ((wayK σ.K x false).getD i 0) = hrF σ.K x false (i + 1)) := hr_step HW.out false hil1
      by_cases i0 : i = 0
      · rw [if_pos i0]
        have HOutI : Hid (outF σ.s (hrF σ.K x false i) false = (wayK σ.K x false).getD i 0) := by
          show outF σ.s (hrF σ.K x false i) false = _
          rw [i0]; exact HOut.out
        clear i0
        go_wp2_with fail
        refine (firstS W.out (by rw [HOutI.out]; exact HLe.out i)).mono ?_
        rw [HOutI.out]
        rintro e w2 ⟨rfl, hg2, hf2⟩
        have W2 : Hid (Wg B w2 gb nb cap N kk tg kd mp σ r (hrF σ.K x false (i + 1))) := by rw [← HST.out]; exact hg2
        have F2 : Hid (Fr (fun j => r.wv.ownBlock = some j) w1 w2) := F.out.trans hf2
        clear hg2 hf2
        by_cases hil : i < (σ.K x).length
        · have il' : (i : Int) < (((σ.K x).length : Nat) : Int) := by omega
          obtain ⟨kg, hkg, KL2⟩ : ∃ kg, kao = some ⟨kg, 0, none⟩ ∧ Lst w2 D kg (σ.K x) := by
            rcases HKL.out with h0 | ⟨kg, hkg, hl⟩
            · omega
            · exact ⟨kg, hkg, (hl.fr F0.out (fun hs => by have := HD.out _ hs; have := hl.1; omega)).fr F2.out (fun hs => by have := HD.out _ hs; have := hl.1; omega)⟩
          subst hkg
          have cell1 : w2.cell? ⟨kg, i, none⟩ = some (.int .i64 ((wayK σ.K x false).getD i 0 : Nat)) := KL2.2.2 i hil
          clear KL2
          generalize (wayK σ.K x false).getD i 0 = v at *
          go_wp2_with fail
          go_roundw
          case rel => exact ⟨i + 1, by omega, by rw [if_neg (by omega)], by go_num, W2.out, F2.out⟩
          case measure => simp [intOf]; omega
        · have il' : ¬ (i : Int) < (((σ.K x).length : Nat) : Int) := by omega
          rw [way_zero false (by omega)]
          go_wp2_with fail
          go_roundw
          case rel => exact ⟨i + 1, by omega, by rw [if_neg (by omega)], by go_num, W2.out, F2.out⟩
          case measure => simp [intOf]; omega

      · rw [if_neg i0]
        have hpos : i - 1 < (σ.K x).length := by omega
        have hkm : (wayK σ.K x false).getD (i - 1) 0 ∈ σ.K x := wayK_mem false hpos
        have EH : Hid (hrF σ.K x false i = (wayK σ.K x false).getD (i - 1) 0) := by show hrF σ.K x false i = _; unfold hrF; rw [if_neg i0, if_pos hil1]
        have HSib : Hid (sibF σ.s (hrF σ.K x false i) false = (wayK σ.K x false).getD i 0) := by
          show sibF σ.s (hrF σ.K x false i) false = _
          rw [EH.out, wayK_sib HW.out false hpos, show i - 1 + 1 = i by omega]
        have HNe : Hid (hrF σ.K x false i ≠ 1) := by show hrF σ.K x false i ≠ 1; rw [EH.out]; exact kid_not_top HW.out HDs.out hkm
        have HPr : Hid (σ.s.par (hrF σ.K x false i) ≠ 0) := by
          show σ.s.par (hrF σ.K x false i) ≠ 0
          rw [EH.out, (HW.out.kid x _ hkm).2.2.2.2]; omega
        clear hkm
        go_wp2_with fail
        refine (nextSibS W.out HNe.out HPr.out).mono ?_
        rw [HSib.out]
        rintro e w2 ⟨rfl, hg2, hf2⟩
        have W2 : Hid (Wg B w2 gb nb cap N kk tg kd mp σ r (hrF σ.K x false (i + 1))) := by rw [← HST.out]; exact hg2
        have F2 : Hid (Fr (fun j => r.wv.ownBlock = some j) w1 w2) := F.out.trans hf2
        clear hg2 hf2
        by_cases hil : i < (σ.K x).length
        · have il' : (i : Int) < (((σ.K x).length : Nat) : Int) := by omega
          obtain ⟨kg, hkg, KL2⟩ : ∃ kg, kao = some ⟨kg, 0, none⟩ ∧ Lst w2 D kg (σ.K x) := by
            rcases HKL.out with h0 | ⟨kg, hkg, hl⟩
            · omega
            · exact ⟨kg, hkg, (hl.fr F0.out (fun hs => by have := HD.out _ hs; have := hl.1; omega)).fr F2.out (fun hs => by have := HD.out _ hs; have := hl.1; omega)⟩
          subst hkg
          have cell1 : w2.cell? ⟨kg, i, none⟩ = some (.int .i64 ((wayK σ.K x false).getD i 0 : Nat)) := KL2.2.2 i hil
          clear KL2
          generalize (wayK σ.K x false).getD i 0 = v at *
          go_wp2_with fail
          go_roundw
          case rel => exact ⟨i + 1, by omega, by rw [if_neg (by omega)], by go_num, W2.out, F2.out⟩
          case measure => simp [intOf]; omega
        · have il' : ¬ (i : Int) < (((σ.K x).length : Nat) : Int) := by omega
          rw [way_zero false (by omega)]
          go_wp2_with fail
          go_roundw
          case rel => exact ⟨i + 1, by omega, by rw [if_neg (by omega)], by go_num, W2.out, F2.out⟩
          case measure => simp [intOf]; omega

    · have il1 : ¬ (i : Int) ≤ (((σ.K x).length : Nat) : Int) := by omega
      have ei : i = (σ.K x).length + 1 := by omega
      have i0 : i ≠ 0 := by omega
      rw [if_neg i0]
      have EH : Hid (hrF σ.K x false i = if (σ.K x).length = 0 then x else (wayK σ.K x false).getD ((σ.K x).length - 1) 0) := by show hrF σ.K x false i = _; unfold hrF; rw [if_neg (by omega), if_neg (by omega)]
      clear ei i0
      go_wp2_with fail
      refine (hereS W.out).mono ?_
      rintro e wr ⟨rfl, rfl⟩
      by_cases l0 : (σ.K x).length = 0
      · have l0' : ¬ (0 : Int) < (((σ.K x).length : Nat) : Int) := by omega
        have EX : hrF σ.K x false i = x := by rw [EH.out, if_pos l0]
        rw [EX]
        have WX : Hid (Wg B wr gb nb cap N kk tg kd mp σ r x) := by have := W.out; rw [EX] at this; exact this
        clear EX l0
        go_wp2_with fail
        go_ret
        exact ⟨by simp, x, WX.out, F0.out.trans F.out⟩
      · have l0' : (0 : Int) < (((σ.K x).length : Nat) : Int) := by omega
        have hkm : (wayK σ.K x false).getD ((σ.K x).length - 1) 0 ∈ σ.K x := wayK_mem false (by omega)
        have EX : hrF σ.K x false i = (wayK σ.K x false).getD ((σ.K x).length - 1) 0 := by rw [EH.out, if_neg l0]
        have hkk := HW.out.kid x _ hkm
        have HPx : Hid (σ.s.par (hrF σ.K x false i) = x) := by show σ.s.par (hrF σ.K x false i) = x; rw [EX]; exact hkk.2.2.2.2
        have HNe : Hid (hrF σ.K x false i ≠ 1) := by show hrF σ.K x false i ≠ 1; rw [EX]; exact kid_not_top HW.out HDs.out hkm
        clear EX l0 hkm hkk
        generalize hrF σ.K x false i = y at *
        go_wp2_with fail
        refine (parS W.out HNe.out (by rw [HPx.out]; omega)).mono ?_
        rw [HPx.out]
        rintro e w2 ⟨rfl, hg2, hf2⟩
        have W2 : Hid (Wg B w2 gb nb cap N kk tg kd mp σ r (hereTo y x)) := hg2
        have F2 : Hid (Fr (fun j => r.wv.ownBlock = some j) w1 w2) := F.out.trans hf2
        clear hg2 hf2
        go_wp2_with fail
        go_ret
        exact ⟨by simp, hereTo y x, W2.out, F0.out.trans F2.out⟩

set_option maxRecDepth 100000 in
set_option maxHeartbeats 4000000 in
theorem rangedT (h : Wg B w gb nb cap N kk tg kd mp σ r here) (x : Nat) (h1 : 1 ≤ x) (hN : x ≤ N) (hd : Desc σ.s.par x 1) {D kcap : Nat} {kao : Option Addr} (hD : ∀ j, r.wv.ownBlock = some j → j < D) (hkl : (σ.K x).length = 0 ∨ ∃ kg, kao = some ⟨kg, 0, none⟩ ∧ Lst w D kg (σ.K x)) :
    Calls Try.prog 21 #[.pointer (some ⟨gb, 0, none⟩), .int .i64 x, .slice kao (σ.K x).length kcap, .int .i64 3, .int .i64 4, .int .i64 (-1)] w fun e w' => e = .returned (.bool true) ∧ ∃ here', Wg B w' gb nb cap N kk tg kd mp σ r here' ∧ Fr (fun j => r.wv.ownBlock = some j) w w' := by
  have HG : Hid (Wg B w gb nb cap N kk tg kd mp σ r here) := h
  have HDs : Hid (Desc σ.s.par x 1) := hd
  have HD : Hid (∀ j, r.wv.ownBlock = some j → j < D) := hD
  have HKL : Hid ((σ.K x).length = 0 ∨ ∃ kg, kao = some ⟨kg, 0, none⟩ ∧ Lst w D kg (σ.K x)) := hkl
  have HW : Hid (WF N σ.s σ.K) := h.gro.wf
  have hN3 := h.gro.N1
  have hfew := h.gro.wf.few x
  have HOut : Hid (outF σ.s x true = (wayK σ.K x true).getD 0 0) := wayK_out h.gro.wf h1 hN true
  have HLe : Hid (∀ i, (wayK σ.K x true).getD i 0 ≤ N) := by
    intro i
    by_cases hi : i < (σ.K x).length
    · exact (h.gro.wf.kid x _ (wayK_mem true hi)).2.2.2.1
    · rw [way_zero true (by omega)]; omega
  clear h hd hD hkl
  go_enter Try.func21, Try.ntmps21
  go_wp2_with fail
  refine (goS HG.out x h1 hN).mono ?_
  rintro e w1 ⟨rfl, hg1, hf1⟩
  have W1 : Hid (Wg B w1 gb nb cap N kk tg kd mp σ r x) := hg1
  have F0 : Hid (Fr (fun j => r.wv.ownBlock = some j) w w1) := hf1
  clear hg1 hf1
  go_wp2_with fail
  go_loopw [14, 15] (fun mv i wr => ∃ k : Nat, k ≤ (σ.K x).length + 1 ∧ mv = .int .i64 (if k = 0 then 3 else 4) ∧ i = .int .i64 k ∧ Wg B wr gb nb cap N kk tg kd mp σ r (hrF σ.K x true k) ∧ Fr (fun j => r.wv.ownBlock = some j) w1 wr) (fun _ i _ => (σ.K x).length + 1 - (intOf i).toNat)
  case atStart => exact ⟨0, Nat.zero_le _, rfl, rfl, W1.out, Fr.refl _ _⟩
  case round =>
    obtain ⟨i, hi, rfl, rfl, hg, hf⟩ := hrel
    have W : Hid (Wg B wr gb nb cap N kk tg kd mp σ r (hrF σ.K x true i)) := hg
    have F : Hid (Fr (fun j => r.wv.ownBlock = some j) w1 wr) := hf
    clear hg hf
    by_cases hil1 : i ≤ (σ.K x).length
    · have il1 : (i : Int) ≤ (((σ.K x).length : Nat) : Int) := by omega
      have HST : Hid (hereTo (hrF σ.K x true i) ((wayK σ.K x true).getD i 0) = hrF σ.K x true (i + 1)) := hr_step HW.out true hil1
      by_cases i0 : i = 0
      · rw [if_pos i0]
        have HOutI : Hid (outF σ.s (hrF σ.K x true i) true = (wayK σ.K x true).getD i 0) := by
          show outF σ.s (hrF σ.K x true i) true = _
          rw [i0]; exact HOut.out
        clear i0
        go_wp2_with fail
        refine (lastS W.out (by rw [HOutI.out]; exact HLe.out i)).mono ?_
        rw [HOutI.out]
        rintro e w2 ⟨rfl, hg2, hf2⟩
        have W2 : Hid (Wg B w2 gb nb cap N kk tg kd mp σ r (hrF σ.K x true (i + 1))) := by rw [← HST.out]; exact hg2
        have F2 : Hid (Fr (fun j => r.wv.ownBlock = some j) w1 w2) := F.out.trans hf2
        clear hg2 hf2
        by_cases hil : i < (σ.K x).length
        · have il' : (i : Int) < (((σ.K x).length : Nat) : Int) := by omega
          obtain ⟨kg, hkg, KL2⟩ : ∃ kg, kao = some ⟨kg, 0, none⟩ ∧ Lst w2 D kg (σ.K x) := by
            rcases HKL.out with h0 | ⟨kg, hkg, hl⟩
            · omega
            · exact ⟨kg, hkg, (hl.fr F0.out (fun hs => by have := HD.out _ hs; have := hl.1; omega)).fr F2.out (fun hs => by have := HD.out _ hs; have := hl.1; omega)⟩
          subst hkg
          have cell1 : w2.cell? ⟨kg, (σ.K x).length - 1 - i, none⟩ = some (.int .i64 ((wayK σ.K x true).getD i 0 : Nat)) := by rw [way_rev hil]; exact KL2.2.2 ((σ.K x).length - 1 - i) (by omega)
          have cell0 : w2.cell? ⟨kg, i, none⟩ = some (.int .i64 ((σ.K x).getD i 0 : Nat)) := KL2.2.2 i hil
          have ixf : ((((σ.K x).length : Nat) : Int) - 1 - (i : Int)) = (((σ.K x).length - 1 - i : Nat) : Int) := by omega
          clear KL2
          generalize (wayK σ.K x true).getD i 0 = v at *
          generalize (σ.K x).getD i 0 = y0 at *
          go_wp2_with fail
          go_roundw
          case rel => exact ⟨i + 1, by omega, by rw [if_neg (by omega)], by go_num, W2.out, F2.out⟩
          case measure => simp [intOf]; omega
        · have il' : ¬ (i : Int) < (((σ.K x).length : Nat) : Int) := by omega
          rw [way_zero true (by omega)]
          go_wp2_with fail
          go_roundw
          case rel => exact ⟨i + 1, by omega, by rw [if_neg (by omega)], by go_num, W2.out, F2.out⟩
          case measure => simp [intOf]; omega

      · rw [if_neg i0]
        have hpos : i - 1 < (σ.K x).length := by omega
        have hkm : (wayK σ.K x true).getD (i - 1) 0 ∈ σ.K x := wayK_mem true hpos
        have EH : Hid (hrF σ.K x true i = (wayK σ.K x true).getD (i - 1) 0) := by show hrF σ.K x true i = _; unfold hrF; rw [if_neg i0, if_pos hil1]
        have HSib : Hid (sibF σ.s (hrF σ.K x true i) true = (wayK σ.K x true).getD i 0) := by
          show sibF σ.s (hrF σ.K x true i) true = _
          rw [EH.out, wayK_sib HW.out true hpos, show i - 1 + 1 = i by omega]
        have HNe : Hid (hrF σ.K x true i ≠ 1) := by show hrF σ.K x true i ≠ 1; rw [EH.out]; exact kid_not_top HW.out HDs.out hkm
        have HPr : Hid (σ.s.par (hrF σ.K x true i) ≠ 0) := by
          show σ.s.par (hrF σ.K x true i) ≠ 0
          rw [EH.out, (HW.out.kid x _ hkm).2.2.2.2]; omega
        clear hkm
        go_wp2_with fail
        refine (prevSibS W.out HNe.out HPr.out).mono ?_
        rw [HSib.out]
        rintro e w2 ⟨rfl, hg2, hf2⟩
        have W2 : Hid (Wg B w2 gb nb cap N kk tg kd mp σ r (hrF σ.K x true (i + 1))) := by rw [← HST.out]; exact hg2
        have F2 : Hid (Fr (fun j => r.wv.ownBlock = some j) w1 w2) := F.out.trans hf2
        clear hg2 hf2
        by_cases hil : i < (σ.K x).length
        · have il' : (i : Int) < (((σ.K x).length : Nat) : Int) := by omega
          obtain ⟨kg, hkg, KL2⟩ : ∃ kg, kao = some ⟨kg, 0, none⟩ ∧ Lst w2 D kg (σ.K x) := by
            rcases HKL.out with h0 | ⟨kg, hkg, hl⟩
            · omega
            · exact ⟨kg, hkg, (hl.fr F0.out (fun hs => by have := HD.out _ hs; have := hl.1; omega)).fr F2.out (fun hs => by have := HD.out _ hs; have := hl.1; omega)⟩
          subst hkg
          have cell1 : w2.cell? ⟨kg, (σ.K x).length - 1 - i, none⟩ = some (.int .i64 ((wayK σ.K x true).getD i 0 : Nat)) := by rw [way_rev hil]; exact KL2.2.2 ((σ.K x).length - 1 - i) (by omega)
          have cell0 : w2.cell? ⟨kg, i, none⟩ = some (.int .i64 ((σ.K x).getD i 0 : Nat)) := KL2.2.2 i hil
          have ixf : ((((σ.K x).length : Nat) : Int) - 1 - (i : Int)) = (((σ.K x).length - 1 - i : Nat) : Int) := by omega
          clear KL2
          generalize (wayK σ.K x true).getD i 0 = v at *
          generalize (σ.K x).getD i 0 = y0 at *
          go_wp2_with fail
          go_roundw
          case rel => exact ⟨i + 1, by omega, by rw [if_neg (by omega)], by go_num, W2.out, F2.out⟩
          case measure => simp [intOf]; omega
        · have il' : ¬ (i : Int) < (((σ.K x).length : Nat) : Int) := by omega
          rw [way_zero true (by omega)]
          go_wp2_with fail
          go_roundw
          case rel => exact ⟨i + 1, by omega, by rw [if_neg (by omega)], by go_num, W2.out, F2.out⟩
          case measure => simp [intOf]; omega

    · have il1 : ¬ (i : Int) ≤ (((σ.K x).length : Nat) : Int) := by omega
      have ei : i = (σ.K x).length + 1 := by omega
      have i0 : i ≠ 0 := by omega
      rw [if_neg i0]
      have EH : Hid (hrF σ.K x true i = if (σ.K x).length = 0 then x else (wayK σ.K x true).getD ((σ.K x).length - 1) 0) := by show hrF σ.K x true i = _; unfold hrF; rw [if_neg (by omega), if_neg (by omega)]
      clear ei i0
      go_wp2_with fail
      refine (hereS W.out).mono ?_
      rintro e wr ⟨rfl, rfl⟩
      by_cases l0 : (σ.K x).length = 0
      · have l0' : ¬ (0 : Int) < (((σ.K x).length : Nat) : Int) := by omega
        have EX : hrF σ.K x true i = x := by rw [EH.out, if_pos l0]
        rw [EX]
        have WX : Hid (Wg B wr gb nb cap N kk tg kd mp σ r x) := by have := W.out; rw [EX] at this; exact this
        clear EX l0
        go_wp2_with fail
        go_ret
        exact ⟨by simp, x, WX.out, F0.out.trans F.out⟩
      · have l0' : (0 : Int) < (((σ.K x).length : Nat) : Int) := by omega
        have hkm : (wayK σ.K x true).getD ((σ.K x).length - 1) 0 ∈ σ.K x := wayK_mem true (by omega)
        have EX : hrF σ.K x true i = (wayK σ.K x true).getD ((σ.K x).length - 1) 0 := by rw [EH.out, if_neg l0]
        have hkk := HW.out.kid x _ hkm
        have HPx : Hid (σ.s.par (hrF σ.K x true i) = x) := by show σ.s.par (hrF σ.K x true i) = x; rw [EX]; exact hkk.2.2.2.2
        have HNe : Hid (hrF σ.K x true i ≠ 1) := by show hrF σ.K x true i ≠ 1; rw [EX]; exact kid_not_top HW.out HDs.out hkm
        clear EX l0 hkm hkk
        generalize hrF σ.K x true i = y at *
        go_wp2_with fail
        refine (parS W.out HNe.out (by rw [HPx.out]; omega)).mono ?_
        rw [HPx.out]
        rintro e w2 ⟨rfl, hg2, hf2⟩
        have W2 : Hid (Wg B w2 gb nb cap N kk tg kd mp σ r (hereTo y x)) := hg2
        have F2 : Hid (Fr (fun j => r.wv.ownBlock = some j) w1 w2) := F.out.trans hf2
        clear hg2 hf2
        go_wp2_with fail
        go_ret
        exact ⟨by simp, hereTo y x, W2.out, F0.out.trans F2.out⟩

end
end Go.Proofs.Ytcedebpoihcbdaa
