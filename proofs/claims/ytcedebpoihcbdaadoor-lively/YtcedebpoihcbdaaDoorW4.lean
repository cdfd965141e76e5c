/-
  What the grove's hasOtherElement, fitsRoot, fits and mayPut do, for all numbers.
-/
import Derived.Test.YtcedebpoihcbdaaDoorW3
namespace Go.Proofs.YtcedebpoihcbdaaDoor
open Go.RowKit Gv

/-- Every node has one of the four kinds. -/
def Kinds (N : Nat) (kk : Nat → Nat) (kd : Nat → Value) : Prop := ∀ i, 1 ≤ i → i ≤ N → KV (kk i) (kd i)

/-- A root that takes no such child. -/
def Full (kk : Nat → Nat) (K : Nat → List Nat) (p c : Nat) : Prop := kk p = 1 ∧ (kk c = 3 ∨ (kk c = 2 ∧ ∃ k, k ∈ K p ∧ k ≠ c ∧ kk k = 2))

/-- What Put answers. -/
def PutErr (N : Nat) (s : Fo) (K : Nat → List Nat) (kk : Nat → Nat) (p c b : Int) (r : Int) : Prop :=
  (r = 5 ∧ ¬ (hasB (N + 1) p = true ∧ hasB (N + 1) c = true ∧ (b = 0 ∨ hasB (N + 1) b = true))) ∨
  ∃ p' c' b' : Nat, p = p' ∧ c = c' ∧ b = b' ∧ 1 ≤ p' ∧ p' ≤ N ∧ 1 ≤ c' ∧ c' ≤ N ∧ b' ≤ N ∧
    ((r = 6 ∧ (2 < kk p' ∨ kk c' = 1 ∨ Desc s.par p' c')) ∨
      (kk p' ≤ 2 ∧ kk c' ≠ 1 ∧ ¬ Desc s.par p' c' ∧
        ((r = 7 ∧ b' ≠ 0 ∧ s.par b' ≠ p') ∨ ((b' = 0 ∨ s.par b' = p') ∧ ((r = 6 ∧ Full kk K p' c') ∨ (r = 0 ∧ ¬ Full kk K p' c'))))))

section
variable {w : World} {B gb nb cap N : Nat} {s : Fo} {kd : Nat → Value} {K : Nat → List Nat} {r : Re} {kk : Nat → Nat}

set_option maxRecDepth 100000 in
set_option maxHeartbeats 400000 in
theorem otherF (h : Held w B gb nb cap (N + 1) s kd r) (hwf : WF N s K) (hk : Kinds N kk kd) (p c : Nat) (h1 : 1 ≤ p) (hn : p ≤ N) (hcN : c ≤ N) :
    Calls Tryd.prog 62 #[.pointer (some ⟨gb, 0, none⟩), .int .i64 p, .int .i64 c] w fun e w' => ∃ b : Bool, e = .returned (.bool b) ∧ (b = true ↔ ∃ k, k ∈ K p ∧ k ≠ c ∧ kk k = 2) ∧ w' = w := by
  have HH : Hid (Held w B gb nb cap (N + 1) s kd r) := h
  have HW : Hid (WF N s K) := hwf
  have HK : Hid (Kinds N kk kd) := hk
  have hL := h.hL
  have hfst : Hid (s.fst p = (K p).headD 0) := hwf.fst p h1 hn
  clear h hwf hk
  go_enter Tryd.func62, Tryd.ntmps62
  go_wp2_with fail
  refine (firstF HH.out p (by omega)).mono ?_
  rintro e w ⟨rfl, rfl⟩
  go_wp2_with fail
  go_loopg [7] (K p).length (fun m i wr => ∃ xs ys, K p = xs ++ ys ∧ ys.length = m ∧ i = .int .i64 (ys.headD 0) ∧ wr = w ∧ ∀ k, k ∈ xs → ¬ (k ≠ c ∧ kk k = 2))
  case atStart => exact ⟨[], K p, rfl, rfl, by rw [hfst.out], rfl, by simp⟩
  case round =>
    obtain ⟨xs, ys, hK, hm, rfl, rfl, hno⟩ := hrel
    obtain ⟨w, rfl⟩ : ∃ w : World, w = wr := ⟨_, rfl⟩
    have HN : Hid (∀ k, k ∈ xs → ¬ (k ≠ c ∧ kk k = 2)) := hno
    have HKe : Hid (K p = xs ++ ys) := hK
    clear hno hK
    cases ys with
    | nil =>
      simp only [List.headD_nil]
      go_wp2_with fail
      go_ret
      refine ⟨false, rfl, ?_, rfl⟩
      simp only [Bool.false_eq_true, false_iff]
      rintro ⟨k, hk, hx⟩
      rw [HKe.out, List.append_nil] at hk
      exact HN.out k hk hx
    | cons y yt =>
      have hy := HW.out.kid p y (by rw [HKe.out]; simp)
      have HS : Hid (s.bhd y = yt.headD 0) := (HW.out.sides HKe.out).2
      have hnz : ((y : Int) != 0) = true := by simp; omega
      have hyN : 1 ≤ y ∧ y ≤ N := ⟨hy.2.2.1, hy.2.2.2.1⟩
      clear hy
      simp only [List.headD_cons]
      by_cases ec : y = c
      · subst ec
        go_wp2_with fail
        refine (behindF HH.out y (by omega)).mono ?_
        rintro e w ⟨rfl, rfl⟩
        go_wp2_with fail
        go_roundg yt.length
        case measure => simp at hm; omega
        case rel =>
          refine ⟨xs ++ [y], yt, by rw [HKe.out]; simp, rfl, by rw [HS.out], rfl, fun k hk => ?_⟩
          rcases List.mem_append.1 hk with hk | hk
          · exact HN.out k hk
          · simp at hk; subst hk; exact fun h => h.1 rfl
      · have ec' : ((y : Int) != (c : Int)) = true := by simp; omega
        have EC : Hid (y ≠ c) := ec
        clear ec
        go_wp2_with fail
        refine (elementF HH.out y hyN.2 (HK.out y hyN.1 hyN.2)).mono ?_
        rintro e w2 ⟨rfl, hcase⟩
        rcases hcase with ⟨h2, eb, _, rfl⟩ | ⟨h2, rfl⟩
        · have H2 : Hid (kk y = 2) := h2
          clear h2
          go_wp2_with fail
          go_ret
          refine ⟨true, rfl, ?_, rfl⟩
          simp only [true_iff]
          exact ⟨y, by rw [HKe.out]; simp, EC.out, H2.out⟩
        · have H2 : Hid (kk y ≠ 2) := h2
          clear h2
          go_wp2_with fail
          refine (behindF HH.out y (by omega)).mono ?_
          rintro e w ⟨rfl, rfl⟩
          go_wp2_with fail
          go_roundg yt.length
          case measure => simp at hm; omega
          case rel =>
            refine ⟨xs ++ [y], yt, by rw [HKe.out]; simp, rfl, by rw [HS.out], rfl, fun k hk => ?_⟩
            rcases List.mem_append.1 hk with hk | hk
            · exact HN.out k hk
            · simp at hk; subst hk; exact fun h => H2.out h.2

set_option maxRecDepth 100000 in
set_option maxHeartbeats 400000 in
theorem fitsRootF (h : Held w B gb nb cap (N + 1) s kd r) (hwf : WF N s K) (hk : Kinds N kk kd) (p c : Nat) (h1 : 1 ≤ p) (hn : p ≤ N) (hc1 : 1 ≤ c) (hcN : c ≤ N) (hc : kk c ≠ 1) :
    Calls Tryd.prog 55 #[.pointer (some ⟨gb, 0, none⟩), .int .i64 p, .int .i64 c] w fun e w' => ∃ b : Bool, e = .returned (.bool b) ∧ (b = true ↔ ¬ (kk c = 3 ∨ (kk c = 2 ∧ ∃ k, k ∈ K p ∧ k ≠ c ∧ kk k = 2))) ∧ w' = w := by
  have HH : Hid (Held w B gb nb cap (N + 1) s kd r) := h
  have HW : Hid (WF N s K) := hwf
  have HK : Hid (Kinds N kk kd) := hk
  have hL := h.hL
  have a1 := asEE
  have a2 := asET
  have a3 := asTT
  have a4 := asNE
  have a5 := asNT
  have hkc := hk c hc1 hcN
  clear h hwf hk
  rcases hkc with ⟨e1, _⟩ | ⟨e1, eb, hk⟩ | ⟨e1, t, hk⟩ | ⟨e1, t, hk⟩
  · exact absurd e1 hc
  · have E1 : Hid (kk c = 2) := e1
    have HC : Hid (kd c = .iface 58 (.pointer (some ⟨eb, 0, none⟩))) := hk
    clear hk e1 hc
    go_enter Tryd.func55, Tryd.ntmps55
    go_wp2_with fail
    refine (kindF HH.out c (by omega) HC.out).mono ?_
    rintro e w ⟨rfl, rfl⟩
    go_wp2_with fail
    refine (otherF HH.out HW.out HK.out p c h1 hn hcN).mono ?_
    rintro e w ⟨b, rfl, hb, rfl⟩
    have HB : Hid (b = true ↔ ∃ k, k ∈ K p ∧ k ≠ c ∧ kk k = 2) := hb
    clear hb
    go_wp2_with fail
    go_ret
    refine ⟨!b, rfl, ?_, rfl⟩
    have e2 := E1.out
    constructor
    · intro hb h3
      rcases h3 with h3 | ⟨_, h3⟩
      · omega
      · rw [HB.out.2 h3] at hb; cases hb
    · intro h3
      cases hb : b with
      | false => rfl
      | true => exact absurd (.inr ⟨e2, HB.out.1 hb⟩) h3
  · have E1 : Hid (kk c = 3) := e1
    have HC : Hid (kd c = .iface 112 (.agg #[.string t])) := hk
    clear hk e1 hc
    go_enter Tryd.func55, Tryd.ntmps55
    go_wp2_with fail
    refine (kindF HH.out c (by omega) HC.out).mono ?_
    rintro e w ⟨rfl, rfl⟩
    go_wp2_with fail
    go_ret
    refine ⟨false, rfl, ?_, rfl⟩
    constructor
    · intro h; cases h
    · intro h; exact absurd (Or.inl E1.out) h
  · have E1 : Hid (kk c = 4) := e1
    have HC : Hid (kd c = .iface 113 (.agg #[.string t])) := hk
    clear hk e1 hc
    go_enter Tryd.func55, Tryd.ntmps55
    go_wp2_with fail
    refine (kindF HH.out c (by omega) HC.out).mono ?_
    rintro e w ⟨rfl, rfl⟩
    go_wp2_with fail
    go_ret
    have e2 := E1.out
    exact ⟨true, rfl, ⟨fun _ h => by rcases h with h | h <;> omega, fun _ => rfl⟩, rfl⟩

set_option maxRecDepth 100000 in
set_option maxHeartbeats 400000 in
theorem fitsF (h : Held w B gb nb cap (N + 1) s kd r) (hwf : WF N s K) (hk : Kinds N kk kd) (p c : Nat) (h1 : 1 ≤ p) (hn : p ≤ N) (hc1 : 1 ≤ c) (hcN : c ≤ N) (hp : kk p ≤ 2) (hc : kk c ≠ 1) :
    Calls Tryd.prog 41 #[.pointer (some ⟨gb, 0, none⟩), .int .i64 p, .int .i64 c] w fun e w' => ∃ b : Bool, e = .returned (.bool b) ∧ (b = true ↔ ¬ Full kk K p c) ∧ w' = w := by
  have HH : Hid (Held w B gb nb cap (N + 1) s kd r) := h
  have HW : Hid (WF N s K) := hwf
  have HK : Hid (Kinds N kk kd) := hk
  have hL := h.hL
  have a1 := asRR
  have a2 := asER
  have hkc := hk p h1 hn
  have HC : Hid (kk c ≠ 1) := hc
  clear h hwf hk hc
  rcases hkc with ⟨e1, hk⟩ | ⟨e1, eb, hk⟩ | ⟨e1, t, hk⟩ | ⟨e1, t, hk⟩
  · have E1 : Hid (kk p = 1) := e1
    have HP : Hid (kd p = .iface 107 (.agg #[])) := hk
    clear hk e1 hp
    go_enter Tryd.func41, Tryd.ntmps41
    go_wp2_with fail
    refine (kindF HH.out p (by omega) HP.out).mono ?_
    rintro e w ⟨rfl, rfl⟩
    go_wp2_with fail
    refine (fitsRootF HH.out HW.out HK.out p c h1 hn hc1 hcN HC.out).mono ?_
    rintro e w ⟨b, rfl, hb, rfl⟩
    have HB : Hid (b = true ↔ ¬ (kk c = 3 ∨ (kk c = 2 ∧ ∃ k, k ∈ K p ∧ k ≠ c ∧ kk k = 2))) := hb
    clear hb
    go_wp2_with fail
    go_ret
    refine ⟨b, rfl, ?_, rfl⟩
    rw [HB.out]
    exact ⟨fun h3 h4 => h3 h4.2, fun h3 h4 => h3 ⟨E1.out, h4⟩⟩
  · have E1 : Hid (kk p = 2) := e1
    have HP : Hid (kd p = .iface 58 (.pointer (some ⟨eb, 0, none⟩))) := hk
    clear hk e1 hp
    go_enter Tryd.func41, Tryd.ntmps41
    go_wp2_with fail
    refine (kindF HH.out p (by omega) HP.out).mono ?_
    rintro e w ⟨rfl, rfl⟩
    go_wp2_with fail
    go_ret
    have e2 := E1.out
    exact ⟨true, rfl, ⟨fun _ h => by have := h.1; omega, fun _ => rfl⟩, rfl⟩
  · omega
  · omega

theorem has_nat {p : Int} (h : hasB (N + 1) p = true) : ∃ p' : Nat, p = p' ∧ 1 ≤ p' ∧ p' ≤ N := by
  simp [hasB] at h
  exact ⟨p.toNat, by omega, by omega, by omega⟩

set_option maxRecDepth 100000 in
set_option maxHeartbeats 1000000 in
theorem mayPutF (h : Held w B gb nb cap (N + 1) s kd r) (hwf : WF N s K) (hk : Kinds N kk kd) (p c b : Int) :
    Calls Tryd.prog 16 #[.pointer (some ⟨gb, 0, none⟩), .int .i64 p, .int .i64 c, .int .i64 b] w fun e w' => ∃ r : Int, e = .returned (.int .i64 r) ∧ PutErr N s K kk p c b r ∧ Below w.heap.size w w' := by
  have HH : Hid (Held w B gb nb cap (N + 1) s kd r) := h
  have HW : Hid (WF N s K) := hwf
  have HK : Hid (Kinds N kk kd) := hk
  have hL := h.hL
  clear h hwf hk
  go_enter Tryd.func16, Tryd.ntmps16
  go_wp2_with fail
  refine (hasF HH.out p).mono ?_
  rintro e w ⟨rfl, rfl⟩
  cases hp : hasB (N + 1) p with
  | false =>
    have HP : Hid (hasB (N + 1) p = false) := hp
    clear hp
    go_wp2_with fail
    go_ret
    exact ⟨5, rfl, .inl ⟨rfl, fun h => by rw [HP.out] at h; cases h.1⟩, Below.refl _ _⟩
  | true =>
    obtain ⟨p, rfl, hp1, hpN⟩ := has_nat hp
    clear hp
    go_wp2_with fail
    refine (hasF HH.out c).mono ?_
    rintro e w ⟨rfl, rfl⟩
    cases hc : hasB (N + 1) c with
    | false =>
      have HC : Hid (hasB (N + 1) c = false) := hc
      clear hc
      go_wp2_with fail
      go_ret
      exact ⟨5, rfl, .inl ⟨rfl, fun h => by rw [HC.out] at h; cases h.2.1⟩, Below.refl _ _⟩
    | true =>
      obtain ⟨c, rfl, hc1, hcN⟩ := has_nat hc
      clear hc
      have START : ∀ b' : Nat, b = (b' : Int) → b' ≤ N → Hid (∃ p' c' b'' : Nat, (p : Int) = p' ∧ (c : Int) = c' ∧ b = b'' ∧ 1 ≤ p' ∧ p' ≤ N ∧ 1 ≤ c' ∧ c' ≤ N ∧ b'' ≤ N ∧ p' = p ∧ c' = c ∧ b'' = b') := fun b' hb hbN => ⟨p, c, b', rfl, rfl, hb, hp1, hpN, hc1, hcN, hbN, rfl, rfl, rfl⟩
      obtain ⟨tp, xp, fp, vp, mp, np, cp⟩ := mKAll (HK.out p hp1 hpN)
      obtain ⟨tc, xc, fc, vc, mc, nc, cc⟩ := mPAll (HK.out c hc1 hcN)
      have VP : Hid (kd p = .iface tp xp) := vp
      have VC : Hid (kd c = .iface tc xc) := vc
      have CP : Hid (∀ w : World, Calls Tryd.prog fp #[xp] w fun e w' => e = .returned (.bool (decide (kk p ≤ 2))) ∧ Below w.heap.size w w') := cp
      have CC : Hid (∀ w : World, Calls Tryd.prog fc #[xc] w fun e w' => e = .returned (.bool (decide (kk c ≠ 1))) ∧ Below w.heap.size w w') := cc
      clear vp vc cp cc
      by_cases hb0 : b = 0
      · subst hb0
        clear START
        go_wp2_with fail
        refine (kindF HH.out p (by omega) VP.out).mono ?_
        rintro e w ⟨rfl, rfl⟩
        go_wp2_with fail
        refine (CP.out _).mono ?_
        rintro e w1 ⟨rfl, hb1⟩
        have H1 : Hid (Held w1 B gb nb cap (N + 1) s kd r) := HH.out.since hb1
        have B1 : Hid (Below w.heap.size w w1) := hb1
        clear hb1
        by_cases k2 : kk p ≤ 2
        · have K2 : Hid (kk p ≤ 2) := k2
          have d2 : decide (kk p ≤ 2) = true := by simp [k2]
          rw [d2]
          clear d2 k2
          go_wp2_with fail
          refine (kindF H1.out c (by omega) VC.out).mono ?_
          rintro e w1 ⟨rfl, rfl⟩
          go_wp2_with fail
          refine (CC.out _).mono ?_
          rintro e w2 ⟨rfl, hb2⟩
          have H2 : Hid (Held w2 B gb nb cap (N + 1) s kd r) := H1.out.since hb2
          have B2 : Hid (Below w.heap.size w w2) := B1.out.trans (hb2.mono B1.out.size)
          clear hb2
          by_cases k1 : kk c = 1
          · have K1 : Hid (kk c = 1) := k1
            have d1 : decide (kk c ≠ 1) = false := by simp [k1]
            rw [d1]
            clear d1 k1
            go_wp2_with fail
            go_ret
            exact ⟨6, rfl, .inr ⟨p, c, 0, rfl, rfl, rfl, hp1, hpN, hc1, hcN, Nat.zero_le _, .inl ⟨rfl, .inr (.inl K1.out)⟩⟩, B2.out⟩
          · have K1 : Hid (kk c ≠ 1) := k1
            have d1 : decide (kk c ≠ 1) = true := by simp [k1]
            rw [d1]
            clear d1 k1
            go_wp2_with fail
            refine (withinF H2.out HW.out p c hpN hc1 hcN).mono ?_
            rintro e w2 ⟨bb, rfl, hbd, rfl⟩
            have HD : Hid (bb = true ↔ Desc s.par p c) := hbd
            clear hbd
            cases bb with
            | true =>
              have HE : Hid (Desc s.par p c) := HD.out.1 rfl
              clear HD
              go_wp2_with fail
              go_ret
              exact ⟨6, rfl, .inr ⟨p, c, 0, rfl, rfl, rfl, hp1, hpN, hc1, hcN, Nat.zero_le _, .inl ⟨rfl, .inr (.inr HE.out)⟩⟩, B2.out⟩
            | false =>
              have HE : Hid (¬ Desc s.par p c) := fun hd => Bool.noConfusion (HD.out.2 hd)
              clear HD
              go_wp2_with fail
              refine (fitsF H2.out HW.out HK.out p c hp1 hpN hc1 hcN K2.out K1.out).mono ?_
              rintro e w2 ⟨b, rfl, hb, rfl⟩
              have HB : Hid (b = true ↔ ¬ Full kk K p c) := hb
              clear hb
              cases b with
              | true =>
                have HF : Hid (¬ Full kk K p c) := HB.out.1 rfl
                clear HB
                go_wp2_with fail
                go_ret
                exact ⟨0, rfl, .inr ⟨p, c, 0, rfl, rfl, rfl, hp1, hpN, hc1, hcN, Nat.zero_le _, .inr ⟨K2.out, K1.out, HE.out, .inr ⟨.inl rfl, .inr ⟨rfl, HF.out⟩⟩⟩⟩, B2.out⟩
              | false =>
                have HF : Hid (Full kk K p c) := Classical.byContradiction fun h => by have := HB.out.2 h; cases this
                clear HB
                go_wp2_with fail
                go_ret
                exact ⟨6, rfl, .inr ⟨p, c, 0, rfl, rfl, rfl, hp1, hpN, hc1, hcN, Nat.zero_le _, .inr ⟨K2.out, K1.out, HE.out, .inr ⟨.inl rfl, .inl ⟨rfl, HF.out⟩⟩⟩⟩, B2.out⟩
        · have K2 : Hid (2 < kk p) := by show 2 < kk p; omega
          have d2 : decide (kk p ≤ 2) = false := by simp; omega
          rw [d2]
          clear d2 k2
          go_wp2_with fail
          go_ret
          exact ⟨6, rfl, .inr ⟨p, c, 0, rfl, rfl, rfl, hp1, hpN, hc1, hcN, Nat.zero_le _, .inl ⟨rfl, .inl K2.out⟩⟩, B1.out⟩
      · have hb0' : (b != 0) = true := by simp [hb0]
        have HB0 : Hid (b ≠ 0) := hb0
        clear hb0
        go_wp2_with fail
        refine (hasF HH.out b).mono ?_
        rintro e w ⟨rfl, rfl⟩
        cases hb : hasB (N + 1) b with
        | false =>
          have HB : Hid (hasB (N + 1) b = false) := hb
          clear hb
          go_wp2_with fail
          go_ret
          exact ⟨5, rfl, .inl ⟨rfl, fun h => by rcases h.2.2 with h | h; exact HB0.out h; rw [HB.out] at h; cases h⟩, Below.refl _ _⟩
        | true =>
          obtain ⟨b, rfl, hb1, hbN⟩ := has_nat hb
          clear hb START
          have NB0 : Hid (b ≠ 0) := by show b ≠ 0; omega
          go_wp2_with fail
          refine (kindF HH.out p (by omega) VP.out).mono ?_
          rintro e w ⟨rfl, rfl⟩
          go_wp2_with fail
          refine (CP.out _).mono ?_
          rintro e w1 ⟨rfl, hbb1⟩
          have H1 : Hid (Held w1 B gb nb cap (N + 1) s kd r) := HH.out.since hbb1
          have B1 : Hid (Below w.heap.size w w1) := hbb1
          clear hbb1
          by_cases k2 : kk p ≤ 2
          · have K2 : Hid (kk p ≤ 2) := k2
            have d2 : decide (kk p ≤ 2) = true := by simp [k2]
            rw [d2]
            clear d2 k2
            go_wp2_with fail
            refine (kindF H1.out c (by omega) VC.out).mono ?_
            rintro e w1 ⟨rfl, rfl⟩
            go_wp2_with fail
            refine (CC.out _).mono ?_
            rintro e w2 ⟨rfl, hb2⟩
            have H2 : Hid (Held w2 B gb nb cap (N + 1) s kd r) := H1.out.since hb2
            have B2 : Hid (Below w.heap.size w w2) := B1.out.trans (hb2.mono B1.out.size)
            clear hb2
            by_cases k1 : kk c = 1
            · have K1 : Hid (kk c = 1) := k1
              have d1 : decide (kk c ≠ 1) = false := by simp [k1]
              rw [d1]
              clear d1 k1
              go_wp2_with fail
              go_ret
              exact ⟨6, rfl, .inr ⟨p, c, b, rfl, rfl, rfl, hp1, hpN, hc1, hcN, hbN, .inl ⟨rfl, .inr (.inl K1.out)⟩⟩, B2.out⟩
            · have K1 : Hid (kk c ≠ 1) := k1
              have d1 : decide (kk c ≠ 1) = true := by simp [k1]
              rw [d1]
              clear d1 k1
              go_wp2_with fail
              refine (withinF H2.out HW.out p c hpN hc1 hcN).mono ?_
              rintro e w2 ⟨bb, rfl, hbd, rfl⟩
              have HD : Hid (bb = true ↔ Desc s.par p c) := hbd
              clear hbd
              cases bb with
              | true =>
                have HE : Hid (Desc s.par p c) := HD.out.1 rfl
                clear HD
                go_wp2_with fail
                go_ret
                exact ⟨6, rfl, .inr ⟨p, c, b, rfl, rfl, rfl, hp1, hpN, hc1, hcN, hbN, .inl ⟨rfl, .inr (.inr HE.out)⟩⟩, B2.out⟩
              | false =>
                have HE : Hid (¬ Desc s.par p c) := fun hd => Bool.noConfusion (HD.out.2 hd)
                clear HD
                go_wp2_with fail
                refine (parentF H2.out b (by omega)).mono ?_
                rintro e w2 ⟨rfl, rfl⟩
                by_cases hbp : s.par b = p
                · have HBP : Hid (s.par b = p) := hbp
                  have d3 : (((s.par b : Nat) : Int) != (p : Int)) = false := by rw [hbp]; simp
                  clear hbp
                  go_wp2_with fail
                  refine (fitsF H2.out HW.out HK.out p c hp1 hpN hc1 hcN K2.out K1.out).mono ?_
                  rintro e w2 ⟨b', rfl, hb, rfl⟩
                  have HB : Hid (b' = true ↔ ¬ Full kk K p c) := hb
                  clear hb
                  cases b' with
                  | true =>
                    have HF : Hid (¬ Full kk K p c) := HB.out.1 rfl
                    clear HB
                    go_wp2_with fail
                    go_ret
                    exact ⟨0, rfl, .inr ⟨p, c, b, rfl, rfl, rfl, hp1, hpN, hc1, hcN, hbN, .inr ⟨K2.out, K1.out, HE.out, .inr ⟨.inr HBP.out, .inr ⟨rfl, HF.out⟩⟩⟩⟩, B2.out⟩
                  | false =>
                    have HF : Hid (Full kk K p c) := Classical.byContradiction fun h => by have := HB.out.2 h; cases this
                    clear HB
                    go_wp2_with fail
                    go_ret
                    exact ⟨6, rfl, .inr ⟨p, c, b, rfl, rfl, rfl, hp1, hpN, hc1, hcN, hbN, .inr ⟨K2.out, K1.out, HE.out, .inr ⟨.inr HBP.out, .inl ⟨rfl, HF.out⟩⟩⟩⟩, B2.out⟩
                · have HBP : Hid (s.par b ≠ p) := hbp
                  have d3 : (((s.par b : Nat) : Int) != (p : Int)) = true := by simp; omega
                  clear hbp
                  go_wp2_with fail
                  go_ret
                  exact ⟨7, rfl, .inr ⟨p, c, b, rfl, rfl, rfl, hp1, hpN, hc1, hcN, hbN, .inr ⟨K2.out, K1.out, HE.out, .inl ⟨rfl, NB0.out, HBP.out⟩⟩⟩, B2.out⟩
          · have K2 : Hid (2 < kk p) := by show 2 < kk p; omega
            have d2 : decide (kk p ≤ 2) = false := by simp; omega
            rw [d2]
            clear d2 k2
            go_wp2_with fail
            go_ret
            exact ⟨6, rfl, .inr ⟨p, c, b, rfl, rfl, rfl, hp1, hpN, hc1, hcN, hbN, .inl ⟨rfl, .inl K2.out⟩⟩, B1.out⟩
end
end Go.Proofs.YtcedebpoihcbdaaDoor
