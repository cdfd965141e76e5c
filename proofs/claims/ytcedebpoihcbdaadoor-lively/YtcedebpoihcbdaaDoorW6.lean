/-
  What the law's own helpers do: pick, at, within.
-/
import Derived.Test.YtcedebpoihcbdaaDoorX2
import Derived.Deep.AppendLies
namespace Go.Proofs.YtcedebpoihcbdaaDoor
open Go.RowKit Gv

def pickF (c : Int) (n : Nat) : Nat := (if c < 0 then -(c + 1) else c).toNat % n

theorem pickF_lt (c : Int) {n : Nat} (h : 1 ≤ n) : pickF c n < n := Nat.mod_lt _ h

theorem pickX (c : Int) (n : Nat) (w : World) (h1 : 1 ≤ n) (h2 : n ≤ 1000) (hlo : -9223372036854775808 ≤ c) (hhi : c ≤ 9223372036854775807) :
    Calls Tryd.prog 4 #[.int .i64 c, .int .i64 n] w fun e w' => e = .returned (.int .i64 (pickF c n : Nat)) ∧ w' = w := by
  have hn0 : ((n : Int) == 0) = false := by simp; omega
  by_cases hc : c < 0
  · go_enter Tryd.func4, Tryd.ntmps4
    go_wp2
    go_ret
    have e0 : -((c + 1).tmod (n : Int)) = -(c + 1) % (n : Int) := by rw [← Int.neg_tmod, Int.tmod_eq_emod_of_nonneg (by omega)]
    refine ⟨ret_int ?_, rfl⟩
    rw [e0]
    unfold pickF
    rw [if_pos hc, Int.natCast_emod, Int.toNat_of_nonneg (by omega)]
  · have hc' : 0 ≤ c := by omega
    go_enter Tryd.func4, Tryd.ntmps4
    go_wp2
    go_ret
    refine ⟨ret_int ?_, rfl⟩
    unfold pickF
    rw [if_neg (by omega), Int.natCast_emod, Int.toNat_of_nonneg (by omega)]

theorem pickL (c : Int) (n : Nat) (w : World) (h1 : 1 ≤ n) (h2 : n ≤ 1000) (hlo : -9223372036854775808 ≤ c) (hhi : c ≤ 9223372036854775807) :
    Calls Tryd.prog 4 #[.int .i64 c, .int .i64 n] w fun e w' => ∃ r : Nat, r < n ∧ e = .returned (.int .i64 r) ∧ w' = w :=
  (pickX c n w h1 h2 hlo hhi).mono fun _ _ ⟨h, h'⟩ => ⟨pickF c n, pickF_lt c h1, h, h'⟩

/-- A slice of numbers as it lies in memory: how many, where, which. -/
def Nums (w : World) (ao : Option Addr) (n : Nat) (l : List Nat) : Prop :=
  n = 0 ∨ ∃ g, ao = some ⟨g, 0, none⟩ ∧ g < w.heap.size ∧ ∀ i, i < n → w.cell? ⟨g, i, none⟩ = some (.int .i64 (l.getD i 0 : Nat))

theorem nums_of {w : World} {D n : Nat} {v : Value} {l : List Nat} (h : w.ownsRow D 3 1 v n (ints l)) :
    n = l.length ∧ ∃ ao cap, v = .slice ao n cap ∧ n ≤ cap ∧ Nums w ao n l := by
  obtain ⟨h1, ao, cap, h2, h3, h4⟩ := ints_shape h
  refine ⟨h1, ao, cap, h2, h3, ?_⟩
  rcases h4 with h4 | ⟨g, a, _, b, c⟩
  · exact .inl h4
  · exact .inr ⟨g, a, b, c⟩

theorem ints_cells {w : World} {g n : Nat} {l : List Nat} (hc : ∀ i, i < n → w.cell? ⟨g, i, none⟩ = some (.int .i64 (l.getD i 0 : Nat))) (hn : n = l.length) : ∀ j u, (ints l)[j]? = some u → w.cell? ((⟨g, 0, none⟩ : Addr).add j) = some u := by
  intro j u hj
  simp only [ints, List.getElem?_map] at hj
  by_cases hjl : j < l.length
  · have e : (⟨g, 0, none⟩ : Addr).add j = ⟨g, j, none⟩ := by unfold Addr.add; split <;> simp_all
    rw [e, hc j (by omega)]
    rw [List.getElem?_eq_getElem hjl] at hj
    rw [List.getD_eq_getElem?_getD, List.getElem?_eq_getElem hjl]
    simpa using hj
  · rw [List.getElem?_eq_none (by omega)] at hj
    simp at hj

theorem ints_one (l : List Nat) : ∀ u ∈ ints l, u.oneCell' = true := by
  intro u hu
  simp only [ints, List.mem_map] at hu
  obtain ⟨k, _, rfl⟩ := hu
  rfl

section
variable {B gb nb cap N : Nat} {s : Fo} {kd : Nat → Value} {K : Nat → List Nat} {r : Re}

def WithinSays (B gb nb cap N : Nat) (s : Fo) (kd : Nat → Value) (r : Re) (K : Nat → List Nat) (f : Nat) : Prop :=
  ∀ (w : World) (n most : Nat), Held w B gb nb cap (N + 1) s kd r → 1 ≤ n → n ≤ N → most ≤ f + 1 → most ≤ 1000 →
    Calls Tryd.prog 32 #[.pointer (some ⟨gb, 0, none⟩), .int .i64 n, .int .i64 most] w fun e w' => ∃ v, e = .returned v ∧ w'.ownsRow w.heap.size 3 1 v (wi K (f + 1) n most).length (ints (wi K (f + 1) n most)) ∧ Below w.heap.size w w'

set_option maxRecDepth 100000 in
set_option maxHeartbeats 1000000 in
theorem withinStep (hwf : WF N s K) (f : Nat) (ih : ∀ f', f = f' + 1 → WithinSays B gb nb cap N s kd r K f') : WithinSays B gb nb cap N s kd r K f := by
  intro w n most h h1 hn hm hmm
  have HW : Hid (WF N s K) := hwf
  have HI : Hid (∀ f', f = f' + 1 → WithinSays B gb nb cap N s kd r K f') := ih
  have hfew : (K n).length ≤ N := hwf.few n
  obtain ⟨i0, hi, hz0, hz1, hz2⟩ := info_parts Tryd.info3
  have HH : Hid (Held w B gb nb cap (N + 1) s kd r) := h
  have hL := h.hL
  clear hwf ih h
  go_enter Tryd.func32, Tryd.ntmps32
  go_wp2_with fail
  refine (kidsG (HH.out.alloc _) HW.out n h1 hn).mono ?_
  rintro e w1 ⟨kv, rfl, hkown, hkbel⟩
  have hl0 : w1.ownsRow w.heap.size 3 1 (.slice (some ⟨w.heap.size, 0, none⟩) 1 1) 1 (ints [n]) := by
    have := (World.ownsRow_lit (e := 3) (size := 1) (base := w.heap.size) w #[.int .i64 (n : Int)] 1 (Nat.le_refl _) (by decide) rfl)
    exact this.kept (below_grownBy hkbel none) (by simp [Value.ownBlock])
  have hb0 : Below w.heap.size w w1 := ((Below.refl _ _).alloc (Nat.le_refl _) _).trans (hkbel.mono (by simp))
  obtain ⟨_, kao, kcap, hkv, hkc, hkn⟩ := nums_of hkown
  have hkne : kv.ownBlock ≠ some w.heap.size := by
    intro e
    have := (hkown.lt _ e).1
    simp at this
    omega
  subst hkv
  have HK0 : Hid (w1.ownsRow w.heap.size 3 1 (.slice kao (K n).length kcap) (K n).length (ints (K n))) := by
    refine ⟨hkown.1, ?_⟩
    rcases hkown.2 with h | ⟨g, c, cur, a, b, r⟩
    · exact .inl h
    · exact .inr ⟨g, c, cur, a, by simp at b; omega, r⟩
  have HL0 : Hid _ := hl0
  have HB0 : Hid _ := hb0
  have HKN : Hid _ := hkne
  clear hkown hkbel hl0 hb0 hkn hkne
  go_wp2_with fail
  go_loopw [7, 10] (fun v i wr => ∃ (k g vc : Nat), k ≤ (K n).length ∧ i = .int .i64 k ∧ v = .slice (some ⟨g, 0, none⟩) (wiTo K f n most k).length vc ∧ wr.ownsRow w.heap.size 3 1 v (wiTo K f n most k).length (ints (wiTo K f n most k)) ∧ Below w.heap.size w wr ∧
      wr.ownsRow w.heap.size 3 1 (.slice kao (K n).length kcap) (K n).length (ints (K n)) ∧ (Value.slice kao (K n).length kcap).ownBlock ≠ some g) (fun _ i _ => (K n).length - (intOf i).toNat)
  case atStart => exact ⟨0, w.heap.size, 1, Nat.zero_le _, rfl, by rw [wiTo_zero]; rfl, by rw [wiTo_zero]; exact HL0.out, HB0.out, HK0.out, HKN.out⟩
  case round =>
    obtain ⟨k, g, vc, hk, rfl, rfl, hown, hbel, hkown, hkne⟩ := hrel
    have hTl := wiTo_len K f n most k
    have HT : Hid (k < (K n).length → wiTo K f n most (k + 1) = if (wiTo K f n most k).length < most then wiTo K f n most k ++ wi K f ((K n).getD k 0) (most - (wiTo K f n most k).length) else wiTo K f n most k) := wiTo_succ K f n most k
    have HF : Hid (most ≤ (wiTo K f n most k).length → wi K (f + 1) n most = wiTo K f n most k) := wiTo_full K f n most k
    have HA : Hid (k = (K n).length → wi K (f + 1) n most = wiTo K f n most k) := by rintro rfl; exact (wiTo_all K f n most).symm
    generalize wiTo K f n most k = T at *
    by_cases hkl : k < (K n).length
    · by_cases hTm : T.length < most
      · obtain ⟨f', rfl⟩ : ∃ f', f = f' + 1 := ⟨f - 1, by omega⟩
        obtain ⟨_, kao', kcap', hkv', _, hkN⟩ := nums_of hkown
        simp only [Value.slice.injEq, true_and] at hkv'
        obtain ⟨rfl, rfl⟩ := hkv'
        rcases hkN with h0 | ⟨kg, rfl, hkgs, hkc'⟩
        · omega
        have hcell := hkc' k hkl
        have hmem : (K n).getD k 0 ∈ K n := by rw [List.getD_eq_getElem?_getD, List.getElem?_eq_getElem hkl]; exact List.getElem_mem _
        have hyk := HW.out.kid n _ hmem
        have hN := HH.out.since hbel
        have HO : Hid _ := hown
        have HKO : Hid _ := hkown
        have HKN' : Hid _ := hkne
        have HB : Hid (Below w.heap.size w wr) := hbel
        have HHr : Hid (Held wr B gb nb cap (N + 1) s kd r) := hN
        clear hown hkown hkne hbel hN hkc' hmem
        generalize (K n).getD k 0 = y at *
        have hyp : 1 ≤ y ∧ y ≤ N := ⟨hyk.2.2.1, hyk.2.2.2.1⟩
        clear hyk
        have hsub : ((most : Int) - (T.length : Int)) = ((most - T.length : Nat) : Int) := by omega
        have HS : Hid (((most : Int) - (T.length : Int)) = ((most - T.length : Nat) : Int)) := hsub
        clear hsub
        go_wp2_with fail
        rw [HS.out]
        refine (HI.out f' rfl wr y (most - T.length) HHr.out hyp.1 hyp.2 (by omega) (by omega)).mono ?_
        rintro e w2 ⟨v2, rfl, hown2, hbel2⟩
        have hRl := wi_len K (f' + 1) y (most - T.length)
        obtain ⟨_, ao2, cap2, hv2, _, hN2⟩ := nums_of hown2
        have HT2 : Hid (wiTo K (f' + 1) n most (k + 1) = T ++ wi K (f' + 1) y (most - T.length)) := by
          show wiTo K (f' + 1) n most (k + 1) = _
          rw [HT.out hkl, if_pos hTm]
        clear HT HF HA HI HK0 HL0 HB0 HKN
        generalize wi K (f' + 1) y (most - T.length) = R at *
        have hT2 : w2.ownsRow w.heap.size 3 1 (.slice (some ⟨g, 0, none⟩) T.length vc) T.length (ints T) := World.ownsRow.kept HO.out (below_grownBy hbel2 none) (by simp [Value.ownBlock])
        have hK2 : w2.ownsRow w.heap.size 3 1 (.slice (some ⟨kg, 0, none⟩) (K n).length kcap) (K n).length (ints (K n)) := World.ownsRow.kept HKO.out (below_grownBy hbel2 none) (by simp [Value.ownBlock])
        have hB2 : Below w.heap.size w w2 := HB.out.trans (hbel2.mono HB.out.size)
        rcases hN2 with h0 | ⟨g2, hg2, hg2s, hc2⟩
        · omega
        rw [hg2] at hv2
        rw [hv2]
        have HC2 := ints_cells hc2 rfl
        have HHC : Hid _ := HC2
        have HHT : Hid (w2.ownsRow w.heap.size 3 1 (.slice (some ⟨g, 0, none⟩) T.length vc) T.length (ints T)) := hT2
        have HHK : Hid (w2.ownsRow w.heap.size 3 1 (.slice (some ⟨kg, 0, none⟩) (K n).length kcap) (K n).length (ints (K n))) := hK2
        have HHB : Hid (Below w.heap.size w w2) := hB2
        clear hT2 hK2 hB2 HC2 hc2 hown2 hbel2 hv2 hg2 HO HKO HB
        go_wp2_with (at_builtin; refine wpList_append_lies _ rfl _ _ 22 rfl w.heap.size 3 i0 (.int .i64 0) 1 8 Tryd.underlying22 hi hz0 hz1 hz2 rfl (by decide) _ _ _ rfl HHT.out ⟨g2, 0, none⟩ R.length cap2 (ints R) rfl ?c0 ?c1 ?c2 ?cm ?c3 ?c4 ?c5 _ rfl ?_)
        case c0 => simp [ints]
        case c1 => exact HHC.out
        case c2 => exact ints_one R
        case cm => omega
        case c3 => unfold maxLen; omega
        case c4 => omega
        case c5 => exact HHB.out.size
        intro g3 cap3 w3 hown3 hgrow3 hat3 hlt3
        have hK3 : w3.ownsRow w.heap.size 3 1 (.slice (some ⟨kg, 0, none⟩) (K n).length kcap) (K n).length (ints (K n)) := World.ownsRow.kept HHK.out hgrow3 (.inr HKN'.out)
        have hne3 : (Value.slice (some ⟨kg, 0, none⟩) (K n).length kcap).ownBlock ≠ some g3 := by
          intro e
          rcases hat3 with h | h
          · exact HKN'.out (by rw [e, ← h]; rfl)
          · have := (World.ownsRow.lt HHK.out g3 e).2
            omega
        have hB3 : Below w.heap.size w w3 := HHB.out.grown hgrow3 HHB.out.size (fun q hq => (World.ownsRow.lt HHT.out q hq).1)
        have hO3 : w3.ownsRow w.heap.size 3 1 (.slice (some ⟨g3, 0, none⟩) (T ++ R).length cap3) (T ++ R).length (ints (T ++ R)) := by
          rw [List.length_append]
          have e : ints (T ++ R) = ints T ++ ints R := by simp [ints]
          rw [e]; exact hown3
        have W1 : Hid _ := hK3
        have W2 : Hid _ := hne3
        have W3 : Hid (Below w.heap.size w w3) := hB3
        have W4 : Hid (w3.ownsRow w.heap.size 3 1 (.slice (some ⟨g3, 0, none⟩) (T ++ R).length cap3) (T ++ R).length (ints (T ++ R))) := hO3
        clear hK3 hne3 hB3 hO3 hown3 hgrow3 hat3
        go_wp2_with fail
        go_roundw
        case rel => exact ⟨k + 1, g3, cap3, by omega, by go_num, by rw [HT2.out, List.length_append], by rw [HT2.out, ← List.length_append]; exact W4.out, W3.out, W1.out, W2.out⟩
        case measure => simp [intOf]; omega
      · have e := HF.out (by omega)
        have HE : Hid (wi K (f + 1) n most = T) := e
        clear e HF HA HT
        have HO : Hid _ := hown
        have HB : Hid (Below w.heap.size w wr) := hbel
        clear hown hbel hkown hkne
        go_wp2_with fail
        go_ret
        rw [HE.out]
        exact ⟨_, rfl, HO.out, HB.out⟩
    · have e := HA.out (by omega)
      have HE : Hid (wi K (f + 1) n most = T) := e
      clear e HF HA HT
      have HO : Hid _ := hown
      have HB : Hid (Below w.heap.size w wr) := hbel
      clear hown hbel hkown hkne
      go_wp2_with fail
      go_ret
      rw [HE.out]
      exact ⟨_, rfl, HO.out, HB.out⟩

theorem withinL (hwf : WF N s K) (f : Nat) : WithinSays B gb nb cap N s kd r K f := by
  induction f with
  | zero => exact withinStep hwf 0 (fun f' h => by omega)
  | succ f ih => exact withinStep hwf (f + 1) (fun f' h => (show f = f' by omega) ▸ ih)
end
end Go.Proofs.YtcedebpoihcbdaaDoor
