/-
  The walk of the law 'Grown'.
-/
import Derived.Test.YtcedebpoihcbdaaW7
import Derived.Test.YtcedebpoihcbdaaX3
namespace Go.Proofs.Ytcedebpoihcbdaa
open Go.RowKit Gv

theorem no_desc_12 : ¬ Desc zeroF.par 1 2 := by
  rintro ⟨m, hm⟩
  cases m with
  | zero => simp [anc] at hm
  | succ m =>
    have e : anc zeroF.par (m + 1) 1 = anc zeroF.par m 0 := rfl
    rw [e, anc_zero rfl] at hm
    omega

theorem put_facts {N : Nat} {s : Fo} {K : Nat → List Nat} (h : WF N s K) {p c b : Nat} (hc1 : 1 ≤ c) (hcN : c ≤ N) (hp1 : 1 ≤ p) (hpN : p ≤ N) (hd : ¬ Desc s.par p c) (hb : b = 0 ∨ b ∈ K p) :
    ∃ K' us vs, WF N ((Fo.out s c).insert p c (markOf s c b)) K' ∧ ((Fo.out s c).insert p c (markOf s c b)).par c = p ∧ K' p = us ++ c :: vs ∧ (b = 0 → vs = []) ∧ (b ≠ 0 → b ≠ c → ∃ vt, vs = b :: vt) ∧ wi K' (N + 1) c N = wi K (N + 1) c N := by
  obtain ⟨us, vs, _, _, hwf', h0, h1⟩ := put_wf h hc1 hcN hp1 hpN hd hb
  refine ⟨_, us, vs, hwf', ?_, up_same _ _ _, h0, h1, ?_⟩
  · show up (Fo.out s c).par c p c = p
    exact up_same _ _ _
  · exact wi_congr (f := s.par) (fun q k hk => (h.kid q k hk).2.2.2.2) (N + 1) c N (fun x hx => put_under h hc1 hcN hd hx)

theorem int_at {w : World} {D g cap : Nat} {l : List Nat} (h : w.ownsRow D 3 1 (.slice (some ⟨g, 0, none⟩) l.length cap) l.length (ints l)) {i : Nat} (hi : i < l.length) : w.cell? ⟨g, i, none⟩ = some (.int .i64 (l.getD i 0 : Nat)) := by
  obtain ⟨_, ao, cap', hv, _, h4⟩ := ints_shape h
  simp only [Value.slice.injEq, true_and] at hv
  obtain ⟨rfl, rfl⟩ := hv
  rcases h4 with h4 | ⟨g', e, _, _, hc⟩
  · omega
  · simp only [Option.some.injEq, Addr.mk.injEq, and_true] at e
    subst e
    exact hc i hi

theorem idx_of {l us vs : List Nat} {c k : Nat} (hn : l.Nodup) (hl : l = us ++ c :: vs) (hk : l[k]? = some c) : k = us.length := by
  have hu : l[us.length]? = some c := by rw [hl, List.getElem?_append_right (Nat.le_refl _)]; simp
  obtain ⟨h1, e1⟩ := List.getElem?_eq_some_iff.1 hk
  obtain ⟨h2, e2⟩ := List.getElem?_eq_some_iff.1 hu
  rcases Nat.lt_trichotomy k us.length with h | h | h
  · exact absurd (e1.trans e2.symm) (List.pairwise_iff_getElem.1 hn k us.length h1 h2 h)
  · exact h
  · exact absurd (e2.trans e1.symm) (List.pairwise_iff_getElem.1 hn us.length k h2 h1 h)

set_option maxRecDepth 100000 in
set_option maxHeartbeats 4000000 in
theorem grownWalk (a0 : Int) (a1 : Option Addr) (len1 cap1 : Nat) (z1 : List Int) (a2 : Option Addr) (len2 cap2 : Nat) (z2 : List Int) (w : World)
    (hlo : -9223372036854775808 ≤ a0) (hhi : a0 ≤ 9223372036854775807) (hl1 : len1 ≤ maxLen) (hr1 : RawIs w a1 len1 z1) (hr2 : RawIs w a2 len2 z2) :
    Calls Try.prog 3 #[.int .i64 a0, .slice a1 len1 cap1, .slice a2 len2 cap2] w fun e w' => e = .returned (.bool true) ∧ Below w.heap.size w w' := by
  have HL1 : Hid (len1 ≤ maxLen) := hl1
  have HR1 : Hid (RawIs w a1 len1 z1) := hr1
  have HR2 : Hid (RawIs w a2 len2 z2) := hr2
  clear hl1 hr1 hr2
  go_enter Try.func3, Try.ntmps3
  go_wp2_with fail
  refine (pickL a0 12 w (by omega) (by omega) hlo hhi).mono ?_
  rintro e w ⟨r, hr, rfl, rfl⟩
  clear hlo hhi
  go_wp2_with fail
  have hN : (2 + (r : Int)) = ((2 + r : Nat) : Int) := by omega
  rw [hN]
  clear hN
  have hN1 : 2 ≤ 2 + r := by omega
  have hN2 : 2 + r ≤ 13 := by omega
  clear hr
  generalize 2 + r = N at *
  refine (madeL w N a1 len1 cap1 z1 (by omega) HL1.out HR1.out).mono ?_
  rintro e w1 ⟨gb, nb, c, kd, mp, rfl, hM, hB⟩
  have HH0 : Hid (Held w1 w.heap.size gb nb c (N + 1) zeroF kd re0) := hM.held
  have HLf : Hid (Kinds N (kkR len1 z1) kd) := hM.kinds
  have HNo : Hid (∀ i, kkR len1 z1 i ≠ 1) := kkR_ne len1 z1
  have HK1 : Hid (kkR len1 z1 1 = 2) := kkR_one len1 z1
  have HB0 : Hid (Below w.heap.size w w1) := hB
  clear hM hB HL1 HR1
  generalize kkR len1 z1 = kk at *
  go_wp2_with fail
  refine (putG HH0.out (loose_wf N) HLf.out HNo.out (m := 0) ⟨rfl, by decide, by decide⟩ (by omega) 1 2 0 (by omega) (by omega) (by omega) (by omega) (.inl rfl)).mono ?_
  rintro e w2 ⟨q, r0, rfl, hG, hR0, hcase⟩
  have hok : q = 0 ∧ Held w2 w.heap.size gb nb c (N + 1) ((Fo.out zeroF 2).insert 1 2 (markOf zeroF 2 0)) kd r0 := by
    rcases hcase with ⟨h1, _, h3⟩ | ⟨_, h2, _⟩
    · exact ⟨h1, h3⟩
    · exfalso
      rcases h2 with h2 | h2
      · exact no_desc_12 h2
      · have := HK1.out
        omega
  clear hcase
  obtain ⟨rfl, hH2⟩ := hok
  obtain ⟨us, vs, -, -, hwf2, -, -⟩ := put_wf (loose_wf N) (p := 1) (c := 2) (b := 0) (by omega) (by omega) (by omega) (by omega) no_desc_12 (.inl rfl)
  have HB2 : Hid (Below w.heap.size w w2) := HB0.out.trans (hG.below HB0.out.size HH0.out.gnB)
  have START : Hid (∃ s K r, Held w2 w.heap.size gb nb c (N + 1) s kd r ∧ WF N s K ∧ Rk r 2) := ⟨_, _, _, hH2, hwf2, hR0⟩
  clear hG hH2 hwf2 hR0 HH0 HB0 HK1
  go_wp2_with fail
  go_loopw [9] (fun i wr => ∃ (k : Nat) (s : Fo) (K : Nat → List Nat) (r : Re), k ≤ 200 ∧ i = .int .i64 k ∧ Held wr w.heap.size gb nb c (N + 1) s kd r ∧ WF N s K ∧ Rk r (k + 2) ∧ Below w.heap.size w wr) (fun i _ => 300 - (intOf i).toNat)
  case atStart =>
    obtain ⟨s, K, r, h1, h2, h3⟩ := START.out
    exact ⟨0, s, K, r, by omega, rfl, h1, h2, h3, HB2.out⟩
  case round =>
    obtain ⟨k, s, K, r, hk, rfl, hH, hwf, hrk, hbel⟩ := hrel
    have HRk : Hid (Rk r (k + 2)) := hrk
    clear hrk
    have HH : Hid (Held wr w.heap.size gb nb c (N + 1) s kd r) := hH
    have HW : Hid (WF N s K) := hwf
    have HB : Hid (Below w.heap.size w wr) := hbel
    clear hH hwf hbel START HB2
    by_cases hk2 : k + 2 < len2
    · by_cases hk120 : k < 120
      · have t1 : (k : Int) + 2 < (len2 : Int) := by omega
        have t2 : (k : Int) < 120 := by omega
        rcases HR2.out with h0 | ⟨b2, off, ha2, hbs, hcs⟩
        · omega
        subst ha2
        have d0 : wr.cell? ⟨b2, off + k, none⟩ = some (.int .i64 (z2.getD k 0)) := (HB.out.cell (p := ⟨b2, off + k, none⟩) hbs).trans (hcs k (by omega)).1
        have d1 : wr.cell? ⟨b2, off + (k + 1), none⟩ = some (.int .i64 (z2.getD (k + 1) 0)) := (HB.out.cell (p := ⟨b2, off + (k + 1), none⟩) hbs).trans (hcs (k + 1) (by omega)).1
        have D2 : Hid (w.cell? ⟨b2, off + (k + 2), none⟩ = some (.int .i64 (z2.getD (k + 2) 0))) := (hcs (k + 2) (by omega)).1
        have e0 := (hcs k (by omega)).2
        have e1 := (hcs (k + 1) (by omega)).2
        have e2 := (hcs (k + 2) (by omega)).2
        clear hcs
        generalize z2.getD k 0 = x0 at *
        generalize z2.getD (k + 1) 0 = x1 at *
        generalize z2.getD (k + 2) 0 = x2 at *
        go_wp2_with fail
        refine (pickL x0 N wr (by omega) (by omega) e0.1 e0.2).mono ?_
        rintro e wr ⟨c0, hc0, rfl, rfl⟩
        go_wp2_with fail
        refine (pickL x1 N wr (by omega) (by omega) e1.1 e1.2).mono ?_
        rintro e wr ⟨p0, hp0, rfl, rfl⟩
        go_wp2_with fail
        rw [show (1 + (c0 : Int)) = ((1 + c0 : Nat) : Int) from by omega, show (1 + (p0 : Int)) = ((1 + p0 : Nat) : Int) from by omega]
        have hC : 1 ≤ 1 + c0 ∧ 1 + c0 ≤ N := by omega
        have hP : 1 ≤ 1 + p0 ∧ 1 + p0 ≤ N := by omega
        clear hc0 hp0 d0 d1 e0 e1
        generalize 1 + c0 = C at *
        generalize 1 + p0 = P at *
        refine (withinL HW.out N wr C N HH.out hC.1 hC.2 (by omega) (by omega)).mono ?_
        rintro e w3 ⟨uv, rfl, huown, hub⟩
        have hUl := wi_len K (N + 1) C N
        have HWI : Hid (wi K (N + 1) C N = wi K (N + 1) C N) := rfl
        generalize hU : wi K (N + 1) C N = U at *
        have HU : Hid (wi K (N + 1) C N = U) := hU
        clear HWI hU
        obtain ⟨ug, ucap, huv, hugb, hugs⟩ := huown.form (by omega)
        rw [huv] at huown
        rw [huv]
        clear huv
        have hnbw := HH.out.ltn
        have hgbw := HH.out.ltg
        have H3 : Hid (Held w3 w.heap.size gb nb c (N + 1) s kd r) := HH.out.since hub
        have B3 : Hid (Below w.heap.size w w3) := HB.out.trans (hub.mono HB.out.size)
        have U3 : Hid (w3.ownsRow wr.heap.size 3 1 (.slice (some ⟨ug, 0, none⟩) U.length ucap) U.length (ints U)) := huown
        clear huown hub
        go_wp2_with fail
        refine (kidsG H3.out HW.out P hP.1 hP.2).mono ?_
        rintro e w4 ⟨kv, rfl, hkown, hkb⟩
        have H4 : Hid (Held w4 w.heap.size gb nb c (N + 1) s kd r) := H3.out.since hkb
        have B4 : Hid (Below w.heap.size w w4) := B3.out.trans (hkb.mono B3.out.size)
        have U4 : Hid (w4.ownsRow wr.heap.size 3 1 (.slice (some ⟨ug, 0, none⟩) U.length ucap) U.length (ints U)) := World.ownsRow.kept U3.out (below_grownBy hkb none) (by simp [Value.ownBlock])
        have hKl := HW.out.few P
        obtain ⟨_, kao, kcap, hkv, hkc, hkn⟩ := nums_of hkown
        subst hkv
        have KN : Hid (Nums w4 kao (K P).length (K P)) := hkn
        have d2 : w4.cell? ⟨b2, off + (k + 2), none⟩ = some (.int .i64 x2) := (B4.out.cell (p := ⟨b2, off + (k + 2), none⟩) hbs).trans D2.out
        clear hkown hkb hkn
        by_cases hz : (K P).length = 0
        · have z1 : (((K P).length : Nat) : Int) = 0 := by omega
          go_wp2_with fail
          clear z1 hz
          refine (putG H4.out HW.out HLf.out HNo.out HRk.out (by omega) P C 0 hP.1 hP.2 hC.1 hC.2 (.inl rfl)).mono ?_
          rintro e w5 ⟨q, r1, rfl, hG5, hR1, hcase⟩
          have FACTS : ∃ s' K' r', Rk r' (k + 3 + 2) ∧ Held w5 w.heap.size gb nb c (N + 1) s' kd r' ∧ WF N s' K' ∧ wi K' (N + 1) C N = U ∧ ((q = 0 ∧ s'.par C = P ∧ ∃ us vs, K' P = us ++ C :: vs ∧ (0 = 0 → vs = []) ∧ (0 ≠ 0 → 0 ≠ C → ∃ vt, vs = 0 :: vt)) ∨ q = 6) := by
            rcases hcase with ⟨h1, h2, h3⟩ | ⟨h1, _, h3⟩
            · obtain ⟨K', us, vs, f1, f2, f3, f4, f5, f6⟩ := put_facts HW.out (b := 0) hC.1 hC.2 hP.1 hP.2 h2 (.inl rfl)
              exact ⟨_, K', r1, hR1.up (by omega), h3, f1, f6.trans HU.out, .inl ⟨h1, f2, us, vs, f3, f4, f5⟩⟩
            · exact ⟨s, K, r1, hR1.up (by omega), h3, HW.out, HU.out, .inr h1⟩
          clear hcase
          obtain ⟨s', K', r', hrk5, h5, hw5, hwi, hq⟩ := FACTS
          have HRk5 : Hid (Rk r' (k + 3 + 2)) := hrk5
          clear hrk5 hR1
          have H5 : Hid (Held w5 w.heap.size gb nb c (N + 1) s' kd r') := h5
          have W5 : Hid (WF N s' K') := hw5
          have HWI : Hid (wi K' (N + 1) C N = U) := hwi
          have HQ : Hid ((q = 0 ∧ s'.par C = P ∧ ∃ us vs, K' P = us ++ C :: vs ∧ (0 = 0 → vs = []) ∧ (0 ≠ 0 → 0 ≠ C → ∃ vt, vs = 0 :: vt)) ∨ q = 6) := hq
          have hugn : ug ≠ nb := by omega
          have U5 : Hid (w5.ownsRow wr.heap.size 3 1 (.slice (some ⟨ug, 0, none⟩) U.length ucap) U.length (ints U)) := ownsRow_fr U4.out hG5 (fun g hg => by simp [Value.ownBlock] at hg; subst hg; rintro (e | e) <;> omega)
          have B5 : Hid (Below w.heap.size w w5) := B4.out.trans (hG5.below B4.out.size H4.out.gnB)
          clear h5 hw5 hwi hq hG5 H3 H4 U3 U4 B3 B4 HH HW HB HU
          go_wp2_with fail
          refine (soundL H5.out W5.out).mono ?_
          rintro e w6 ⟨rfl, hb6⟩
          have H6 : Hid (Held w6 w.heap.size gb nb c (N + 1) s' kd r') := H5.out.since hb6
          have B6 : Hid (Below w.heap.size w w6) := B5.out.trans (hb6.mono B5.out.size)
          have U6 : Hid (w6.ownsRow wr.heap.size 3 1 (.slice (some ⟨ug, 0, none⟩) U.length ucap) U.length (ints U)) := World.ownsRow.kept U5.out (below_grownBy hb6 none) (by simp [Value.ownBlock])
          clear hb6 H5 B5 U5
          go_wp2_with fail
          refine (withinL W5.out N w6 C N H6.out hC.1 hC.2 (by omega) (by omega)).mono ?_
          rw [HWI.out]
          rintro e w7 ⟨av, rfl, haown, hb7⟩
          obtain ⟨ag, acap, hav, hagb, hags⟩ := haown.form (by omega)
          rw [hav] at haown
          rw [hav]
          clear hav
          have H7 : Hid (Held w7 w.heap.size gb nb c (N + 1) s' kd r') := H6.out.since hb7
          have B7 : Hid (Below w.heap.size w w7) := B6.out.trans (hb7.mono B6.out.size)
          have U7 : Hid (w7.ownsRow wr.heap.size 3 1 (.slice (some ⟨ug, 0, none⟩) U.length ucap) U.length (ints U)) := World.ownsRow.kept U6.out (below_grownBy hb7 none) (by simp [Value.ownBlock])
          have A7 : Hid (w7.ownsRow w6.heap.size 3 1 (.slice (some ⟨ag, 0, none⟩) U.length acap) U.length (ints U)) := haown
          have hugs7 := (World.ownsRow.lt U7.out ug rfl).2
          clear haown hb7 H6 B6 U6 HWI
          go_wp2_with fail
          go_loopw [19] (fun i w8 => ∃ j : Nat, j ≤ U.length ∧ i = .int .i64 j ∧ Below w7.heap.size w7 w8) (fun i _ => U.length - (intOf i).toNat)
          case atStart => exact ⟨0, Nat.zero_le _, rfl, Below.refl _ _⟩
          case round =>
            obtain ⟨j1, hj1, rfl, hb8⟩ := hrel
            obtain ⟨w8, rfl⟩ : ∃ w8 : World, w8 = wr := ⟨_, rfl⟩
            have HB8 : Hid (Below w7.heap.size w7 w8) := hb8
            clear hb8
            by_cases hjl : j1 < U.length
            · have c1 : w8.cell? ⟨ag, j1, none⟩ = some (.int .i64 (U.getD j1 0 : Nat)) := (HB8.out.cell (p := ⟨ag, j1, none⟩) hags).trans (int_at A7.out hjl)
              have c2 : w8.cell? ⟨ug, j1, none⟩ = some (.int .i64 (U.getD j1 0 : Nat)) := (HB8.out.cell (p := ⟨ug, j1, none⟩) hugs7).trans (int_at U7.out hjl)
              generalize U.getD j1 0 = y at *
              have ib : (j1 : Int) < (U.length : Int) := by omega
              go_wp2_with fail
              go_quiet (fail)
              go_wp2_with fail
              go_roundw
              case rel => exact ⟨j1 + 1, hjl, by go_num, below_drewN' HB8.out nq⟩
              case measure => simp [intOf]; omega
            · have hjj : j1 = U.length := by omega
              subst hjj
              have H8 : Hid (Held w8 w.heap.size gb nb c (N + 1) s' kd r') := H7.out.since HB8.out
              have B8 : Hid (Below w.heap.size w w8) := B7.out.trans (HB8.out.mono B7.out.size)
              clear HB8 H7 B7 U7 A7
              go_wp2_with fail
              refine (parentG H8.out C hC.1 hC.2).mono ?_
              rintro e w8 ⟨rfl, rfl⟩
              rcases HQ.out with ⟨hq0, hpar, us, vs, hKP, hv0, hvn⟩ | hq6
              · subst hq0
                rw [hpar]
                have HKP : Hid (K' P = us ++ C :: vs) := hKP
                have hlenK : (K' P).length = us.length + 1 + vs.length := by rw [hKP]; simp; omega
                have HLK : Hid ((K' P).length = us.length + 1 + vs.length) := hlenK
                have hfew := W5.out.few P
                have hpos : us.length < (K' P).length := by omega
                have hvs : vs = [] := hv0 (by first | rfl | trivial)
                have hl1 : (K' P).length = us.length + 1 := by rw [hlenK, hvs]; simp
                have tb : ((us.length : Int) != (((K' P).length : Nat) : Int) - 1) = false := by simp; omega
                clear hl1 hvs
                clear hKP hlenK hv0 hvn hpar HQ
                go_wp2_with fail
                refine (kidsG H8.out W5.out P hP.1 hP.2).mono ?_
                rintro e w9 ⟨lv, rfl, hlown, hb9⟩
                obtain ⟨lg, lcap, hlv, hlgb, hlgs⟩ := hlown.form (by omega)
                rw [hlv] at hlown
                rw [hlv]
                clear hlv
                have H9 : Hid (Held w9 w.heap.size gb nb c (N + 1) s' kd r') := H8.out.since hb9
                have B9 : Hid (Below w.heap.size w w9) := B8.out.trans (hb9.mono B8.out.size)
                have hcs9 := fun i (hi : i < (K' P).length) => int_at hlown hi
                have L9 : Hid (∀ i, i < (K' P).length → w9.cell? ⟨lg, i, none⟩ = some (.int .i64 ((K' P).getD i 0 : Nat))) := hcs9
                clear hlown hb9 H8 B8 hcs9
                go_wp2_with fail
                refine (atL w9 (some ⟨lg, 0, none⟩) (K' P).length lcap C (K' P) (Nat.le_refl _) (by omega) (.inr ⟨lg, rfl, hlgs, L9.out⟩)).mono ?_
                rintro e w9' ⟨hw9, hat⟩
                subst hw9
                have hidx : e = .returned (.int .i64 (us.length : Nat)) := by
                  rcases hat with ⟨hno, _⟩ | ⟨kx, _, hget, he⟩
                  · exact absurd (by rw [List.take_of_length_le (Nat.le_refl _), HKP.out]; simp) hno
                  · rw [he, idx_of (W5.out.nd P) HKP.out hget]
                subst hidx
                clear hat
                generalize us.length = m at *
                go_wp2_with fail
                go_roundw
                case rel => exact ⟨k + 3, s', K', r', by omega, by go_num, H9.out, W5.out, HRk5.out, B9.out⟩
                case measure => simp [intOf]; omega
              · subst hq6
                clear HQ
                go_wp2_with fail
                go_roundw
                case rel => exact ⟨k + 3, s', K', r', by omega, by go_num, H8.out, W5.out, HRk5.out, B8.out⟩
                case measure => simp [intOf]; omega
        · have z1 : (0 : Int) < (((K P).length : Nat) : Int) := by omega
          go_wp2_with fail
          refine (pickL x2 3 w4 (by omega) (by omega) e2.1 e2.2).mono ?_
          rintro e w4 ⟨r3, hr3, rfl, rfl⟩
          by_cases hr0 : r3 = 0
          · subst hr0
            go_wp2_with fail
            refine (putG H4.out HW.out HLf.out HNo.out HRk.out (by omega) P C 0 hP.1 hP.2 hC.1 hC.2 (.inl rfl)).mono ?_
            rintro e w5 ⟨q, r1, rfl, hG5, hR1, hcase⟩
            have FACTS : ∃ s' K' r', Rk r' (k + 3 + 2) ∧ Held w5 w.heap.size gb nb c (N + 1) s' kd r' ∧ WF N s' K' ∧ wi K' (N + 1) C N = U ∧ ((q = 0 ∧ s'.par C = P ∧ ∃ us vs, K' P = us ++ C :: vs ∧ (0 = 0 → vs = []) ∧ (0 ≠ 0 → 0 ≠ C → ∃ vt, vs = 0 :: vt)) ∨ q = 6) := by
              rcases hcase with ⟨h1, h2, h3⟩ | ⟨h1, _, h3⟩
              · obtain ⟨K', us, vs, f1, f2, f3, f4, f5, f6⟩ := put_facts HW.out (b := 0) hC.1 hC.2 hP.1 hP.2 h2 (.inl rfl)
                exact ⟨_, K', r1, hR1.up (by omega), h3, f1, f6.trans HU.out, .inl ⟨h1, f2, us, vs, f3, f4, f5⟩⟩
              · exact ⟨s, K, r1, hR1.up (by omega), h3, HW.out, HU.out, .inr h1⟩
            clear hcase
            obtain ⟨s', K', r', hrk5, h5, hw5, hwi, hq⟩ := FACTS
            have HRk5 : Hid (Rk r' (k + 3 + 2)) := hrk5
            clear hrk5 hR1
            have H5 : Hid (Held w5 w.heap.size gb nb c (N + 1) s' kd r') := h5
            have W5 : Hid (WF N s' K') := hw5
            have HWI : Hid (wi K' (N + 1) C N = U) := hwi
            have HQ : Hid ((q = 0 ∧ s'.par C = P ∧ ∃ us vs, K' P = us ++ C :: vs ∧ (0 = 0 → vs = []) ∧ (0 ≠ 0 → 0 ≠ C → ∃ vt, vs = 0 :: vt)) ∨ q = 6) := hq
            have hugn : ug ≠ nb := by omega
            have U5 : Hid (w5.ownsRow wr.heap.size 3 1 (.slice (some ⟨ug, 0, none⟩) U.length ucap) U.length (ints U)) := ownsRow_fr U4.out hG5 (fun g hg => by simp [Value.ownBlock] at hg; subst hg; rintro (e | e) <;> omega)
            have B5 : Hid (Below w.heap.size w w5) := B4.out.trans (hG5.below B4.out.size H4.out.gnB)
            clear h5 hw5 hwi hq hG5 H3 H4 U3 U4 B3 B4 HH HW HB HU
            go_wp2_with fail
            refine (soundL H5.out W5.out).mono ?_
            rintro e w6 ⟨rfl, hb6⟩
            have H6 : Hid (Held w6 w.heap.size gb nb c (N + 1) s' kd r') := H5.out.since hb6
            have B6 : Hid (Below w.heap.size w w6) := B5.out.trans (hb6.mono B5.out.size)
            have U6 : Hid (w6.ownsRow wr.heap.size 3 1 (.slice (some ⟨ug, 0, none⟩) U.length ucap) U.length (ints U)) := World.ownsRow.kept U5.out (below_grownBy hb6 none) (by simp [Value.ownBlock])
            clear hb6 H5 B5 U5
            go_wp2_with fail
            refine (withinL W5.out N w6 C N H6.out hC.1 hC.2 (by omega) (by omega)).mono ?_
            rw [HWI.out]
            rintro e w7 ⟨av, rfl, haown, hb7⟩
            obtain ⟨ag, acap, hav, hagb, hags⟩ := haown.form (by omega)
            rw [hav] at haown
            rw [hav]
            clear hav
            have H7 : Hid (Held w7 w.heap.size gb nb c (N + 1) s' kd r') := H6.out.since hb7
            have B7 : Hid (Below w.heap.size w w7) := B6.out.trans (hb7.mono B6.out.size)
            have U7 : Hid (w7.ownsRow wr.heap.size 3 1 (.slice (some ⟨ug, 0, none⟩) U.length ucap) U.length (ints U)) := World.ownsRow.kept U6.out (below_grownBy hb7 none) (by simp [Value.ownBlock])
            have A7 : Hid (w7.ownsRow w6.heap.size 3 1 (.slice (some ⟨ag, 0, none⟩) U.length acap) U.length (ints U)) := haown
            have hugs7 := (World.ownsRow.lt U7.out ug rfl).2
            clear haown hb7 H6 B6 U6 HWI
            go_wp2_with fail
            go_loopw [19] (fun i w8 => ∃ j : Nat, j ≤ U.length ∧ i = .int .i64 j ∧ Below w7.heap.size w7 w8) (fun i _ => U.length - (intOf i).toNat)
            case atStart => exact ⟨0, Nat.zero_le _, rfl, Below.refl _ _⟩
            case round =>
              obtain ⟨j1, hj1, rfl, hb8⟩ := hrel
              obtain ⟨w8, rfl⟩ : ∃ w8 : World, w8 = wr := ⟨_, rfl⟩
              have HB8 : Hid (Below w7.heap.size w7 w8) := hb8
              clear hb8
              by_cases hjl : j1 < U.length
              · have c1 : w8.cell? ⟨ag, j1, none⟩ = some (.int .i64 (U.getD j1 0 : Nat)) := (HB8.out.cell (p := ⟨ag, j1, none⟩) hags).trans (int_at A7.out hjl)
                have c2 : w8.cell? ⟨ug, j1, none⟩ = some (.int .i64 (U.getD j1 0 : Nat)) := (HB8.out.cell (p := ⟨ug, j1, none⟩) hugs7).trans (int_at U7.out hjl)
                generalize U.getD j1 0 = y at *
                have ib : (j1 : Int) < (U.length : Int) := by omega
                go_wp2_with fail
                go_quiet (fail)
                go_wp2_with fail
                go_roundw
                case rel => exact ⟨j1 + 1, hjl, by go_num, below_drewN' HB8.out nq⟩
                case measure => simp [intOf]; omega
              · have hjj : j1 = U.length := by omega
                subst hjj
                have H8 : Hid (Held w8 w.heap.size gb nb c (N + 1) s' kd r') := H7.out.since HB8.out
                have B8 : Hid (Below w.heap.size w w8) := B7.out.trans (HB8.out.mono B7.out.size)
                clear HB8 H7 B7 U7 A7
                go_wp2_with fail
                refine (parentG H8.out C hC.1 hC.2).mono ?_
                rintro e w8 ⟨rfl, rfl⟩
                rcases HQ.out with ⟨hq0, hpar, us, vs, hKP, hv0, hvn⟩ | hq6
                · subst hq0
                  rw [hpar]
                  have HKP : Hid (K' P = us ++ C :: vs) := hKP
                  have hlenK : (K' P).length = us.length + 1 + vs.length := by rw [hKP]; simp; omega
                  have HLK : Hid ((K' P).length = us.length + 1 + vs.length) := hlenK
                  have hfew := W5.out.few P
                  have hpos : us.length < (K' P).length := by omega
                  have hvs : vs = [] := hv0 (by first | rfl | trivial)
                  have hl1 : (K' P).length = us.length + 1 := by rw [hlenK, hvs]; simp
                  have tb : ((us.length : Int) != (((K' P).length : Nat) : Int) - 1) = false := by simp; omega
                  clear hl1 hvs
                  clear hKP hlenK hv0 hvn hpar HQ
                  go_wp2_with fail
                  refine (kidsG H8.out W5.out P hP.1 hP.2).mono ?_
                  rintro e w9 ⟨lv, rfl, hlown, hb9⟩
                  obtain ⟨lg, lcap, hlv, hlgb, hlgs⟩ := hlown.form (by omega)
                  rw [hlv] at hlown
                  rw [hlv]
                  clear hlv
                  have H9 : Hid (Held w9 w.heap.size gb nb c (N + 1) s' kd r') := H8.out.since hb9
                  have B9 : Hid (Below w.heap.size w w9) := B8.out.trans (hb9.mono B8.out.size)
                  have hcs9 := fun i (hi : i < (K' P).length) => int_at hlown hi
                  have L9 : Hid (∀ i, i < (K' P).length → w9.cell? ⟨lg, i, none⟩ = some (.int .i64 ((K' P).getD i 0 : Nat))) := hcs9
                  clear hlown hb9 H8 B8 hcs9
                  go_wp2_with fail
                  refine (atL w9 (some ⟨lg, 0, none⟩) (K' P).length lcap C (K' P) (Nat.le_refl _) (by omega) (.inr ⟨lg, rfl, hlgs, L9.out⟩)).mono ?_
                  rintro e w9' ⟨hw9, hat⟩
                  subst hw9
                  have hidx : e = .returned (.int .i64 (us.length : Nat)) := by
                    rcases hat with ⟨hno, _⟩ | ⟨kx, _, hget, he⟩
                    · exact absurd (by rw [List.take_of_length_le (Nat.le_refl _), HKP.out]; simp) hno
                    · rw [he, idx_of (W5.out.nd P) HKP.out hget]
                  subst hidx
                  clear hat
                  generalize us.length = m at *
                  go_wp2_with fail
                  go_roundw
                  case rel => exact ⟨k + 3, s', K', r', by omega, by go_num, H9.out, W5.out, HRk5.out, B9.out⟩
                  case measure => simp [intOf]; omega
                · subst hq6
                  clear HQ
                  go_wp2_with fail
                  go_roundw
                  case rel => exact ⟨k + 3, s', K', r', by omega, by go_num, H8.out, W5.out, HRk5.out, B8.out⟩
                  case measure => simp [intOf]; omega
          · have hr0' : (0 : Int) < (r3 : Int) := by omega
            go_wp2_with fail
            refine (pickL x2 (K P).length w4 (by omega) (by omega) e2.1 e2.2).mono ?_
            rintro e w4 ⟨j, hj, rfl, rfl⟩
            rcases KN.out with h0 | ⟨kg, hkg, hkgs, hkc'⟩
            · omega
            subst hkg
            have hcell := hkc' j hj
            have hmem : (K P).getD j 0 ∈ K P := by rw [List.getD_eq_getElem?_getD, List.getElem?_eq_getElem hj]; exact List.getElem_mem _
            have HMEM : Hid ((K P).getD j 0 ∈ K P) := hmem
            have HB1 : Hid (1 ≤ (K P).getD j 0) := (HW.out.kid P _ hmem).2.2.1
            clear hkc' hmem
            generalize (K P).getD j 0 = b at *
            have hj' : (j : Int) < (((K P).length : Nat) : Int) := by omega
            go_wp2_with fail
            refine (putG H4.out HW.out HLf.out HNo.out HRk.out (by omega) P C b hP.1 hP.2 hC.1 hC.2 (.inr HMEM.out)).mono ?_
            rintro e w5 ⟨q, r1, rfl, hG5, hR1, hcase⟩
            have FACTS : ∃ s' K' r', Rk r' (k + 3 + 2) ∧ Held w5 w.heap.size gb nb c (N + 1) s' kd r' ∧ WF N s' K' ∧ wi K' (N + 1) C N = U ∧ ((q = 0 ∧ s'.par C = P ∧ ∃ us vs, K' P = us ++ C :: vs ∧ (b = 0 → vs = []) ∧ (b ≠ 0 → b ≠ C → ∃ vt, vs = b :: vt)) ∨ q = 6) := by
              rcases hcase with ⟨h1, h2, h3⟩ | ⟨h1, _, h3⟩
              · obtain ⟨K', us, vs, f1, f2, f3, f4, f5, f6⟩ := put_facts HW.out (b := b) hC.1 hC.2 hP.1 hP.2 h2 (.inr HMEM.out)
                exact ⟨_, K', r1, hR1.up (by omega), h3, f1, f6.trans HU.out, .inl ⟨h1, f2, us, vs, f3, f4, f5⟩⟩
              · exact ⟨s, K, r1, hR1.up (by omega), h3, HW.out, HU.out, .inr h1⟩
            clear hcase
            obtain ⟨s', K', r', hrk5, h5, hw5, hwi, hq⟩ := FACTS
            have HRk5 : Hid (Rk r' (k + 3 + 2)) := hrk5
            clear hrk5 hR1
            have H5 : Hid (Held w5 w.heap.size gb nb c (N + 1) s' kd r') := h5
            have W5 : Hid (WF N s' K') := hw5
            have HWI : Hid (wi K' (N + 1) C N = U) := hwi
            have HQ : Hid ((q = 0 ∧ s'.par C = P ∧ ∃ us vs, K' P = us ++ C :: vs ∧ (b = 0 → vs = []) ∧ (b ≠ 0 → b ≠ C → ∃ vt, vs = b :: vt)) ∨ q = 6) := hq
            have hugn : ug ≠ nb := by omega
            have U5 : Hid (w5.ownsRow wr.heap.size 3 1 (.slice (some ⟨ug, 0, none⟩) U.length ucap) U.length (ints U)) := ownsRow_fr U4.out hG5 (fun g hg => by simp [Value.ownBlock] at hg; subst hg; rintro (e | e) <;> omega)
            have B5 : Hid (Below w.heap.size w w5) := B4.out.trans (hG5.below B4.out.size H4.out.gnB)
            clear h5 hw5 hwi hq hG5 H3 H4 U3 U4 B3 B4 HH HW HB HU
            go_wp2_with fail
            refine (soundL H5.out W5.out).mono ?_
            rintro e w6 ⟨rfl, hb6⟩
            have H6 : Hid (Held w6 w.heap.size gb nb c (N + 1) s' kd r') := H5.out.since hb6
            have B6 : Hid (Below w.heap.size w w6) := B5.out.trans (hb6.mono B5.out.size)
            have U6 : Hid (w6.ownsRow wr.heap.size 3 1 (.slice (some ⟨ug, 0, none⟩) U.length ucap) U.length (ints U)) := World.ownsRow.kept U5.out (below_grownBy hb6 none) (by simp [Value.ownBlock])
            clear hb6 H5 B5 U5
            go_wp2_with fail
            refine (withinL W5.out N w6 C N H6.out hC.1 hC.2 (by omega) (by omega)).mono ?_
            rw [HWI.out]
            rintro e w7 ⟨av, rfl, haown, hb7⟩
            obtain ⟨ag, acap, hav, hagb, hags⟩ := haown.form (by omega)
            rw [hav] at haown
            rw [hav]
            clear hav
            have H7 : Hid (Held w7 w.heap.size gb nb c (N + 1) s' kd r') := H6.out.since hb7
            have B7 : Hid (Below w.heap.size w w7) := B6.out.trans (hb7.mono B6.out.size)
            have U7 : Hid (w7.ownsRow wr.heap.size 3 1 (.slice (some ⟨ug, 0, none⟩) U.length ucap) U.length (ints U)) := World.ownsRow.kept U6.out (below_grownBy hb7 none) (by simp [Value.ownBlock])
            have A7 : Hid (w7.ownsRow w6.heap.size 3 1 (.slice (some ⟨ag, 0, none⟩) U.length acap) U.length (ints U)) := haown
            have hugs7 := (World.ownsRow.lt U7.out ug rfl).2
            clear haown hb7 H6 B6 U6 HWI
            go_wp2_with fail
            go_loopw [19] (fun i w8 => ∃ j : Nat, j ≤ U.length ∧ i = .int .i64 j ∧ Below w7.heap.size w7 w8) (fun i _ => U.length - (intOf i).toNat)
            case atStart => exact ⟨0, Nat.zero_le _, rfl, Below.refl _ _⟩
            case round =>
              obtain ⟨j1, hj1, rfl, hb8⟩ := hrel
              obtain ⟨w8, rfl⟩ : ∃ w8 : World, w8 = wr := ⟨_, rfl⟩
              have HB8 : Hid (Below w7.heap.size w7 w8) := hb8
              clear hb8
              by_cases hjl : j1 < U.length
              · have c1 : w8.cell? ⟨ag, j1, none⟩ = some (.int .i64 (U.getD j1 0 : Nat)) := (HB8.out.cell (p := ⟨ag, j1, none⟩) hags).trans (int_at A7.out hjl)
                have c2 : w8.cell? ⟨ug, j1, none⟩ = some (.int .i64 (U.getD j1 0 : Nat)) := (HB8.out.cell (p := ⟨ug, j1, none⟩) hugs7).trans (int_at U7.out hjl)
                generalize U.getD j1 0 = y at *
                have ib : (j1 : Int) < (U.length : Int) := by omega
                go_wp2_with fail
                go_quiet (fail)
                go_wp2_with fail
                go_roundw
                case rel => exact ⟨j1 + 1, hjl, by go_num, below_drewN' HB8.out nq⟩
                case measure => simp [intOf]; omega
              · have hjj : j1 = U.length := by omega
                subst hjj
                have H8 : Hid (Held w8 w.heap.size gb nb c (N + 1) s' kd r') := H7.out.since HB8.out
                have B8 : Hid (Below w.heap.size w w8) := B7.out.trans (HB8.out.mono B7.out.size)
                clear HB8 H7 B7 U7 A7
                go_wp2_with fail
                refine (parentG H8.out C hC.1 hC.2).mono ?_
                rintro e w8 ⟨rfl, rfl⟩
                rcases HQ.out with ⟨hq0, hpar, us, vs, hKP, hv0, hvn⟩ | hq6
                · subst hq0
                  rw [hpar]
                  have HKP : Hid (K' P = us ++ C :: vs) := hKP
                  have hlenK : (K' P).length = us.length + 1 + vs.length := by rw [hKP]; simp; omega
                  have HLK : Hid ((K' P).length = us.length + 1 + vs.length) := hlenK
                  have hfew := W5.out.few P
                  have hpos : us.length < (K' P).length := by omega
                  have HVN : Hid (b ≠ 0 → b ≠ C → ∃ vt, vs = b :: vt) := hvn
                  have hb1 : 1 ≤ b := HB1.out
                  have tb1 : ((b : Int) == 0) = false := by simp; omega
                  have tb2 : ((b : Int) != 0) = true := by simp; omega
                  clear hKP hlenK hv0 hvn hpar HQ
                  go_wp2_with fail
                  refine (kidsG H8.out W5.out P hP.1 hP.2).mono ?_
                  rintro e w9 ⟨lv, rfl, hlown, hb9⟩
                  obtain ⟨lg, lcap, hlv, hlgb, hlgs⟩ := hlown.form (by omega)
                  rw [hlv] at hlown
                  rw [hlv]
                  clear hlv
                  have H9 : Hid (Held w9 w.heap.size gb nb c (N + 1) s' kd r') := H8.out.since hb9
                  have B9 : Hid (Below w.heap.size w w9) := B8.out.trans (hb9.mono B8.out.size)
                  have hcs9 := fun i (hi : i < (K' P).length) => int_at hlown hi
                  have L9 : Hid (∀ i, i < (K' P).length → w9.cell? ⟨lg, i, none⟩ = some (.int .i64 ((K' P).getD i 0 : Nat))) := hcs9
                  clear hlown hb9 H8 B8 hcs9
                  go_wp2_with fail
                  refine (atL w9 (some ⟨lg, 0, none⟩) (K' P).length lcap C (K' P) (Nat.le_refl _) (by omega) (.inr ⟨lg, rfl, hlgs, L9.out⟩)).mono ?_
                  rintro e w9' ⟨hw9, hat⟩
                  subst hw9
                  have hidx : e = .returned (.int .i64 (us.length : Nat)) := by
                    rcases hat with ⟨hno, _⟩ | ⟨kx, _, hget, he⟩
                    · exact absurd (by rw [List.take_of_length_le (Nat.le_refl _), HKP.out]; simp) hno
                    · rw [he, idx_of (W5.out.nd P) HKP.out hget]
                  subst hidx
                  clear hat
                  by_cases hbC : b = C
                  · subst hbC
                    generalize us.length = m at *
                    go_wp2_with fail
                    go_roundw
                    case rel => exact ⟨k + 3, s', K', r', by omega, by go_num, H9.out, W5.out, HRk5.out, B9.out⟩
                    case measure => simp [intOf]; omega
                  · obtain ⟨vt, hvt⟩ := HVN.out (by omega) hbC
                    have tb3 : ((b : Int) != (C : Int)) = true := by simp; omega
                    have hl2 : us.length + 1 < (K' P).length := by rw [HLK.out, hvt]; simp
                    have hnx : (K' P).getD (us.length + 1) 0 = b := by rw [HKP.out, hvt, List.getD_eq_getElem?_getD, List.getElem?_append_right (by omega)]; simp
                    have cx : w9'.cell? ⟨lg, us.length + 1, none⟩ = some (.int .i64 (b : Nat)) := by rw [L9.out _ hl2, hnx]
                    clear hnx hvt hbC HKP HLK L9 HVN
                    generalize us.length = m at *
                    go_wp2_with fail
                    go_roundw
                    case rel => exact ⟨k + 3, s', K', r', by omega, by go_num, H9.out, W5.out, HRk5.out, B9.out⟩
                    case measure => simp [intOf]; omega
                · subst hq6
                  clear HQ
                  go_wp2_with fail
                  go_roundw
                  case rel => exact ⟨k + 3, s', K', r', by omega, by go_num, H8.out, W5.out, HRk5.out, B8.out⟩
                  case measure => simp [intOf]; omega
      · have t1 : (k : Int) + 2 < (len2 : Int) := by omega
        have t2 : ¬ (k : Int) < 120 := by omega
        go_wp2_with fail
        go_ret
        exact ⟨rfl, HB.out⟩
    · have t1 : ¬ (k : Int) + 2 < (len2 : Int) := by omega
      go_wp2_with fail
      go_ret
      exact ⟨rfl, HB.out⟩
end Go.Proofs.Ytcedebpoihcbdaa
