/-
  What the law's 'sound' answers of a forest: true.
-/
import Derived.Test.YtcedebpoihcbdaaW6
import Derived.Deep.QuietTactic
import Derived.BigQuiet
namespace Go.Proofs.Ytcedebpoihcbdaa
open Go.RowKit Gv

theorem atNo (w : World) (ao : Option Addr) (n cap x : Nat) (l : List Nat) (hl : n ≤ l.length) (hn : n ≤ 1000) (hN : Nums w ao n l) (hx : x ∉ l.take n) :
    Calls Try.prog 13 #[.slice ao n cap, .int .i64 x] w fun e w' => e = .returned (.int .i64 (-1)) ∧ w' = w := by
  refine (atL w ao n cap x l hl hn hN).mono ?_
  rintro e w' ⟨hw, h | ⟨k, hk, hg, _⟩⟩
  · exact ⟨h.2, hw⟩
  · exfalso
    apply hx
    rw [List.mem_iff_getElem?]
    exact ⟨k, by rw [List.getElem?_take, if_pos hk]; exact hg⟩

theorem nums_drewN {w : World} {ao : Option Addr} {n m : Nat} {l : List Nat} (h : Nums w ao n l) : Nums (w.drewN m) ao n l := by
  rcases h with h | ⟨g, a, b, c⟩
  · exact .inl h
  · exact .inr ⟨g, a, by simpa using b, fun i hi => by simpa using c i hi⟩

theorem not_in_take {l : List Nat} {k : Nat} (hn : l.Nodup) (hk : k < l.length) : l.getD k 0 ∉ l.take k := by
  intro h
  have e : l = l.take k ++ l.drop k := (List.take_append_drop k l).symm
  rw [e] at hn
  refine (List.nodup_append.1 hn).2.2 _ h _ ?_ rfl
  rw [List.drop_eq_getElem_cons hk, List.getD_eq_getElem?_getD, List.getElem?_eq_getElem hk]
  exact List.mem_cons_self

theorem below_drewN' {D : Nat} {a b : World} (h : Below D a b) (m : Nat) : Below D a (b.drewN m) := ⟨h.os, h.tape, h.output, h.size, h.block⟩

theorem anc_le {N : Nat} {s : Fo} {K : Nat → List Nat} (h : WF N s K) (x : Nat) (hx : x ≤ N) (m : Nat) : anc s.par m x ≤ N := by
  induction m with
  | zero => exact hx
  | succ m ih => rw [anc_succ']; exact h.parLe _ ih

section
variable {w : World} {B gb nb cap N : Nat} {s : Fo} {kd : Nat → Value} {K : Nat → List Nat} {r : Re}

def cntK (K : Nat → List Nat) (n : Nat) : Nat := sumTo n (fun p => (K p).length)
def cntP (s : Fo) (n : Nat) : Nat := sumTo n (fun k => if s.par k = 0 then 0 else 1)

theorem cntK_succ (K : Nat → List Nat) (n : Nat) : cntK K (n + 1) = cntK K n + (K (n + 1)).length := rfl

set_option maxRecDepth 100000 in
set_option maxHeartbeats 4000000 in
theorem soundL (h : Held w B gb nb cap (N + 1) s kd r) (hwf : WF N s K) :
    Calls Try.prog 11 #[.pointer (some ⟨gb, 0, none⟩), .int .i64 N] w fun e w' => e = .returned (.bool true) ∧ Below w.heap.size w w' := by
  have HH : Hid (Held w B gb nb cap (N + 1) s kd r) := h
  have HW : Hid (WF N s K) := hwf
  have hL := h.hL
  have HC : Hid (cntK K N = cntP s N) := hwf.cnt
  have hfew : ∀ n, (K n).length ≤ 300 := fun n => by have := hwf.few n; omega
  have bK : ∀ n, n ≤ 301 → cntK K n ≤ 100000 := fun n hn => by have h := sumTo_le (n := n) (f := fun p => (K p).length) hfew; unfold cntK; have h2 : n * 300 ≤ 301 * 300 := Nat.mul_le_mul_right _ hn; omega
  have bP : ∀ n, n ≤ 301 → cntP s n ≤ 100000 := fun n hn => by
    have h := sumTo_le (n := n) (m := 1) (f := fun k => if s.par k = 0 then 0 else 1) (fun i => by split <;> omega)
    unfold cntP
    omega
  have BK : Hid (∀ n, n ≤ 301 → cntK K n ≤ 100000) := bK
  have BP : Hid (∀ n, n ≤ 301 → cntP s n ≤ 100000) := bP
  have HFew : Hid (∀ n, (K n).length ≤ 300) := hfew
  clear h hwf bK bP hfew
  go_enter Try.func11, Try.ntmps11
  go_wp2_with fail
  go_loopw [5, 6, 7] (fun a b i wr => ∃ n : Nat, n ≤ N ∧ i = .int .i64 (n + 1 : Nat) ∧ a = .int .i64 (cntK K n) ∧ b = .int .i64 (cntP s n) ∧ Below w.heap.size w wr) (fun _ _ i _ => N + 1 - (intOf i).toNat)
  case atStart => exact ⟨0, Nat.zero_le _, rfl, rfl, rfl, Below.refl _ _⟩
  case round =>
    obtain ⟨n, hn, rfl, rfl, rfl, hbel⟩ := hrel
    have k1 := BK.out n (by omega)
    have p1 := BP.out n (by omega)
    by_cases hnN : n < N
    · have H0 : Hid (Held wr B gb nb cap (N + 1) s kd r) := HH.out.since hbel
      have HB : Hid (Below w.heap.size w wr) := hbel
      clear hbel
      go_wp2_with fail
      refine (kidsG H0.out HW.out (n + 1) (by omega) (by omega)).mono ?_
      rintro e w1 ⟨kv, rfl, hkown, hkbel⟩
      have H1 : Hid (Held w1 B gb nb cap (N + 1) s kd r) := H0.out.since hkbel
      have hpN := HW.out.parLe (n + 1) (by omega)
      have hfew1 := HFew.out (n + 1)
      obtain ⟨_, kao, kcap, hkv, hkc, hkn⟩ := nums_of hkown
      subst hkv
      have HKN : Hid (Nums w1 kao (K (n + 1)).length (K (n + 1))) := hkn
      have HB1 : Hid (Below w.heap.size w w1) := HB.out.trans (hkbel.mono HB.out.size)
      clear hkown hkbel hkn
      go_wp2_with fail
      refine (parentG H1.out (n + 1) (by omega) (by omega)).mono ?_
      rintro e w1 ⟨rfl, rfl⟩
      have HQ : Hid (s.par (n + 1) = s.par (n + 1)) := rfl
      generalize hq : s.par (n + 1) = q at *
      clear HQ
      have HQ : Hid (s.par (n + 1) = q) := hq
      clear hq
      have HP : Hid (cntP s (n + 1) = cntP s n + if q = 0 then 0 else 1) := by
        show cntP s (n + 1) = _
        rw [← HQ.out]; rfl
      by_cases p0 : q = 0
      · have q0 : q = 0 := p0
        subst q0
        go_wp2_with fail
        go_loopw [5, 12] (fun a i wr => ∃ k : Nat, k ≤ (K (n + 1)).length ∧ i = .int .i64 k ∧ a = .int .i64 ((cntK K n : Int) + (k : Int)) ∧ Below w1.heap.size w1 wr) (fun _ i _ => (K (n + 1)).length - (intOf i).toNat)
        case atStart => exact ⟨0, Nat.zero_le _, rfl, by simp, Below.refl _ _⟩
        case round =>
          obtain ⟨k, hk, rfl, rfl, hb2⟩ := hrel
          obtain ⟨w2, rfl⟩ : ∃ w2 : World, w2 = wr := ⟨_, rfl⟩
          have H2 : Hid (Held w2 B gb nb cap (N + 1) s kd r) := H1.out.since hb2
          have HB2 : Hid (Below w1.heap.size w1 w2) := hb2
          clear hb2
          by_cases hkl : k < (K (n + 1)).length
          · rcases HKN.out with h0 | ⟨kg, hkg, hkgs, hkc'⟩
            · omega
            subst hkg
            have hcell : w2.cell? ⟨kg, k, none⟩ = some (.int .i64 ((K (n + 1)).getD k 0 : Nat)) := (HB2.out.cell (p := ⟨kg, k, none⟩) hkgs).trans (hkc' k hkl)
            have hnums : Nums w2 (some ⟨kg, 0, none⟩) k (K (n + 1)) := .inr ⟨kg, rfl, Nat.lt_of_lt_of_le hkgs HB2.out.size, fun i hi => (HB2.out.cell (p := ⟨kg, i, none⟩) hkgs).trans (hkc' i (by omega))⟩
            have hmem : (K (n + 1)).getD k 0 ∈ K (n + 1) := by rw [List.getD_eq_getElem?_getD, List.getElem?_eq_getElem hkl]; exact List.getElem_mem _
            have hyk := HW.out.kid (n + 1) _ hmem
            have hout : (K (n + 1)).getD k 0 ∉ (K (n + 1)).take k := not_in_take (HW.out.nd (n + 1)) hkl
            have HNU : Hid _ := hnums
            have HOUT : Hid _ := hout
            clear hkc' hnums hout hmem
            generalize (K (n + 1)).getD k 0 = y at *
            have hyp : 1 ≤ y ∧ y ≤ N := ⟨hyk.2.2.1, hyk.2.2.2.1⟩
            have HY : Hid (s.par y = n + 1) := hyk.2.2.2.2
            clear hyk
            go_wp2_with fail
            refine (parentG H2.out y hyp.1 hyp.2).mono ?_
            rintro e w2 ⟨rfl, rfl⟩
            rw [HY.out]
            have hk1000 : k ≤ 1000 := by omega
            have ib1 : (k : Int) ≤ (kcap : Int) := by omega
            have ib2 : (k : Int) < ((K (n + 1)).length : Int) := by omega
            go_wp2_with fail
            go_quiet ((go_at_call 13; exact Calls.quiet_of_same (atNo _ _ k kcap y (K (n + 1)) hk hk1000 (nums_drewN HNU.out) HOUT.out)))
            go_wp2_with fail
            go_roundw
            case rel => exact ⟨k + 1, hkl, by go_num, by go_num, below_drewN' HB2.out nq⟩
            case measure => simp [intOf]; omega
          · have hkk : k = (K (n + 1)).length := by omega
            subst hkk
            have hanc1 : anc s.par 1 (n + 1) = 0 := HQ.out
            have HAN : Hid (anc s.par 1 (n + 1) = 0) := hanc1
            have HBw : Hid (Below w.heap.size w w2) := HB1.out.trans (HB2.out.mono HB1.out.size)
            clear hanc1
            go_wp2_with fail
            go_loopw [16, 17] (fun u i w3 => ∃ k2 : Nat, k2 ≤ N + 1 ∧ i = .int .i64 k2 ∧ u = .int .i64 (anc s.par (k2 + 1) (n + 1) : Nat) ∧ w3 = w2) (fun _ i _ => N + 1 - (intOf i).toNat)
            case atStart => exact ⟨0, Nat.zero_le _, rfl, by rw [HAN.out]; rfl, rfl⟩
            case round =>
              obtain ⟨k2, hk2, rfl, rfl, rfl⟩ := hrel
              obtain ⟨w3, rfl⟩ : ∃ w3 : World, w3 = wr := ⟨_, rfl⟩
              have HA2 : Hid (anc s.par (k2 + 1 + 1) (n + 1) = s.par (anc s.par (k2 + 1) (n + 1))) := anc_succ' s.par (k2 + 1) (n + 1)
              have hle : anc s.par (k2 + 1) (n + 1) ≤ N := anc_le HW.out (n + 1) (by omega) (k2 + 1)
              have hnl : anc s.par (k2 + 1) (n + 1) ≠ n + 1 := no_loop HW.out.z (by omega) (HW.out.acy (n + 1) (by omega)) k2
              have htop : k2 = N + 1 → anc s.par (k2 + 1) (n + 1) = 0 := by
                rintro rfl
                have h1 := HW.out.top (n + 1) (by omega)
                rw [show N + 1 + 1 = N + 2 from rfl, anc_add, h1, anc_zero HW.out.z]
              generalize anc s.par (k2 + 1) (n + 1) = A at *
              by_cases hA : A = 0
              · subst hA
                clear htop hnl
                by_cases hk2N : k2 ≤ N
                · have hk2i : (k2 : Int) ≤ (N : Int) := by omega
                  go_wp2_with fail
                  go_roundw
                  case rel => exact ⟨n + 1, hnN, by go_num, by rw [cntK_succ]; go_num, by rw [HP.out]; simp, HBw.out⟩
                  case measure => simp [intOf]; omega
                · have hk2i : ¬ (k2 : Int) ≤ (N : Int) := by omega
                  go_wp2_with fail
                  go_roundw
                  case rel => exact ⟨n + 1, hnN, by go_num, by rw [cntK_succ]; go_num, by rw [HP.out]; simp, HBw.out⟩
                  case measure => simp [intOf]; omega
              · have hk2N : k2 ≤ N := by
                  rcases Nat.lt_or_ge N k2 with h | h
                  · exact absurd (htop (by omega)) hA
                  · exact h
                have hA' : ((A : Int) != 0) = true := by simp; omega
                have hnl' : ((A : Int) == (n : Int) + 1) = false := by simp; omega
                have hA1 : 1 ≤ A := by omega
                clear htop hnl hA
                go_wp2_with fail
                refine (parentG H2.out A hA1 hle).mono ?_
                rintro e w3 ⟨rfl, rfl⟩
                go_wp2_with fail
                go_roundw
                case rel => exact ⟨k2 + 1, by omega, by go_num, by rw [HA2.out], trivial⟩
                case measure => simp [intOf]; omega
      · have q0 : ((q : Int) != 0) = true := by simp; omega
        have HQ0 : Hid (q ≠ 0) := p0
        have d2 : decide (N < q) = false := by simp; omega
        clear p0
        go_wp2_with fail
        go_loopw [5, 12] (fun a i wr => ∃ k : Nat, k ≤ (K (n + 1)).length ∧ i = .int .i64 k ∧ a = .int .i64 ((cntK K n : Int) + (k : Int)) ∧ Below w1.heap.size w1 wr) (fun _ i _ => (K (n + 1)).length - (intOf i).toNat)
        case atStart => exact ⟨0, Nat.zero_le _, rfl, by simp, Below.refl _ _⟩
        case round =>
          obtain ⟨k, hk, rfl, rfl, hb2⟩ := hrel
          obtain ⟨w2, rfl⟩ : ∃ w2 : World, w2 = wr := ⟨_, rfl⟩
          have H2 : Hid (Held w2 B gb nb cap (N + 1) s kd r) := H1.out.since hb2
          have HB2 : Hid (Below w1.heap.size w1 w2) := hb2
          clear hb2
          by_cases hkl : k < (K (n + 1)).length
          · rcases HKN.out with h0 | ⟨kg, hkg, hkgs, hkc'⟩
            · omega
            subst hkg
            have hcell : w2.cell? ⟨kg, k, none⟩ = some (.int .i64 ((K (n + 1)).getD k 0 : Nat)) := (HB2.out.cell (p := ⟨kg, k, none⟩) hkgs).trans (hkc' k hkl)
            have hnums : Nums w2 (some ⟨kg, 0, none⟩) k (K (n + 1)) := .inr ⟨kg, rfl, Nat.lt_of_lt_of_le hkgs HB2.out.size, fun i hi => (HB2.out.cell (p := ⟨kg, i, none⟩) hkgs).trans (hkc' i (by omega))⟩
            have hmem : (K (n + 1)).getD k 0 ∈ K (n + 1) := by rw [List.getD_eq_getElem?_getD, List.getElem?_eq_getElem hkl]; exact List.getElem_mem _
            have hyk := HW.out.kid (n + 1) _ hmem
            have hout : (K (n + 1)).getD k 0 ∉ (K (n + 1)).take k := not_in_take (HW.out.nd (n + 1)) hkl
            have HNU : Hid _ := hnums
            have HOUT : Hid _ := hout
            clear hkc' hnums hout hmem
            generalize (K (n + 1)).getD k 0 = y at *
            have hyp : 1 ≤ y ∧ y ≤ N := ⟨hyk.2.2.1, hyk.2.2.2.1⟩
            have HY : Hid (s.par y = n + 1) := hyk.2.2.2.2
            clear hyk
            go_wp2_with fail
            refine (parentG H2.out y hyp.1 hyp.2).mono ?_
            rintro e w2 ⟨rfl, rfl⟩
            rw [HY.out]
            have hk1000 : k ≤ 1000 := by omega
            have ib1 : (k : Int) ≤ (kcap : Int) := by omega
            have ib2 : (k : Int) < ((K (n + 1)).length : Int) := by omega
            go_wp2_with fail
            go_quiet ((go_at_call 13; exact Calls.quiet_of_same (atNo _ _ k kcap y (K (n + 1)) hk hk1000 (nums_drewN HNU.out) HOUT.out)))
            go_wp2_with fail
            go_roundw
            case rel => exact ⟨k + 1, hkl, by go_num, by go_num, below_drewN' HB2.out nq⟩
            case measure => simp [intOf]; omega
          · have hkk : k = (K (n + 1)).length := by omega
            subst hkk
            have hanc1 : anc s.par 1 (n + 1) = q := HQ.out
            have HAN : Hid (anc s.par 1 (n + 1) = q) := hanc1
            have HBw : Hid (Below w.heap.size w w2) := HB1.out.trans (HB2.out.mono HB1.out.size)
            clear hanc1
            go_wp2_with fail
            go_loopw [16, 17] (fun u i w3 => ∃ k2 : Nat, k2 ≤ N + 1 ∧ i = .int .i64 k2 ∧ u = .int .i64 (anc s.par (k2 + 1) (n + 1) : Nat) ∧ w3 = w2) (fun _ i _ => N + 1 - (intOf i).toNat)
            case atStart => exact ⟨0, Nat.zero_le _, rfl, by rw [HAN.out], rfl⟩
            case round =>
              obtain ⟨k2, hk2, rfl, rfl, rfl⟩ := hrel
              obtain ⟨w3, rfl⟩ : ∃ w3 : World, w3 = wr := ⟨_, rfl⟩
              have HA2 : Hid (anc s.par (k2 + 1 + 1) (n + 1) = s.par (anc s.par (k2 + 1) (n + 1))) := anc_succ' s.par (k2 + 1) (n + 1)
              have hle : anc s.par (k2 + 1) (n + 1) ≤ N := anc_le HW.out (n + 1) (by omega) (k2 + 1)
              have hnl : anc s.par (k2 + 1) (n + 1) ≠ n + 1 := no_loop HW.out.z (by omega) (HW.out.acy (n + 1) (by omega)) k2
              have htop : k2 = N + 1 → anc s.par (k2 + 1) (n + 1) = 0 := by
                rintro rfl
                have h1 := HW.out.top (n + 1) (by omega)
                rw [show N + 1 + 1 = N + 2 from rfl, anc_add, h1, anc_zero HW.out.z]
              generalize anc s.par (k2 + 1) (n + 1) = A at *
              by_cases hA : A = 0
              · subst hA
                clear htop hnl
                by_cases hk2N : k2 ≤ N
                · have hk2i : (k2 : Int) ≤ (N : Int) := by omega
                  go_wp2_with fail
                  go_roundw
                  case rel => exact ⟨n + 1, hnN, by go_num, by rw [cntK_succ]; go_num, by rw [HP.out, if_neg HQ0.out]; rfl, HBw.out⟩
                  case measure => simp [intOf]; omega
                · have hk2i : ¬ (k2 : Int) ≤ (N : Int) := by omega
                  go_wp2_with fail
                  go_roundw
                  case rel => exact ⟨n + 1, hnN, by go_num, by rw [cntK_succ]; go_num, by rw [HP.out, if_neg HQ0.out]; rfl, HBw.out⟩
                  case measure => simp [intOf]; omega
              · have hk2N : k2 ≤ N := by
                  rcases Nat.lt_or_ge N k2 with h | h
                  · exact absurd (htop (by omega)) hA
                  · exact h
                have hA' : ((A : Int) != 0) = true := by simp; omega
                have hnl' : ((A : Int) == (n : Int) + 1) = false := by simp; omega
                have hA1 : 1 ≤ A := by omega
                clear htop hnl hA
                go_wp2_with fail
                refine (parentG H2.out A hA1 hle).mono ?_
                rintro e w3 ⟨rfl, rfl⟩
                go_wp2_with fail
                go_roundw
                case rel => exact ⟨k2 + 1, by omega, by go_num, by rw [HA2.out], trivial⟩
                case measure => simp [intOf]; omega
    · obtain rfl : n = N := by omega
      have eq : cntK K n = cntP s n := HC.out
      rw [eq]
      clear eq
      go_wp2_with fail
      go_ret
      exact ⟨rfl, hbel⟩
end
end Go.Proofs.Ytcedebpoihcbdaa
