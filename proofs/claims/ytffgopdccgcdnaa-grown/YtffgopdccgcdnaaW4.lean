/-
  What the grove's mayPut answers where the parent is an element and no node is a root.
-/
import Derived.Test.YtffgopdccgcdnaaW3
namespace Go.Proofs.Ytffgopdccgcdnaa
open Go.RowKit Gv
section
variable {w : World} {B gb nb cap N : Nat} {s : Fo} {kd : Nat → Value} {K : Nat → List Nat}

set_option maxHeartbeats 400000 in
theorem mayPut67z (h : Held w B gb nb cap (N + 1) s kd) (hwf : WF N s K) (p c : Nat) (h1 : 1 ≤ p) (hn : p ≤ N) (hc1 : 1 ≤ c) (hcN : c ≤ N) {t u : ByteArray} (hk : kd p = .iface 67 (.agg #[.string t])) (hkc : kd c = .iface 67 (.agg #[.string u])) :
    Calls Try.prog 15 #[.pointer (some ⟨gb, 0, none⟩), .int .i64 p, .int .i64 c, .int .i64 0] w fun e w' => ∃ r : Int, e = .returned (.int .i64 r) ∧ ((r = 0 ∧ ¬ Desc s.par p c) ∨ (r = 6 ∧ Desc s.par p c)) ∧ Below w.heap.size w w' := by
  have HH : Hid (Held w B gb nb cap (N + 1) s kd) := h
  have HW : Hid (WF N s K) := hwf
  have HK : Hid (kd p = .iface 67 (.agg #[.string t])) := hk
  have HC : Hid (kd c = .iface 67 (.agg #[.string u])) := hkc
  have hL := h.hL
  have b1 : hasB (N + 1) p = true := by simp [hasB]; omega
  have b2 : hasB (N + 1) c = true := by simp [hasB]; omega
  have m1 := mK67
  have m2 := mP67
  clear h hwf hk hkc
  go_enter Try.func15, Try.ntmps15
  go_wp2_with fail
  refine (hasF HH.out p).mono ?_
  rintro e w ⟨rfl, rfl⟩
  go_wp2_with fail
  refine (hasF HH.out c).mono ?_
  rintro e w ⟨rfl, rfl⟩
  go_wp2_with fail
  refine (kindF HH.out p (by omega) HK.out).mono ?_
  rintro e w ⟨rfl, rfl⟩
  go_wp2_with fail
  refine (kids51 t _).mono ?_
  rintro e w1 ⟨rfl, hb1⟩
  have H1 : Hid (Held w1 B gb nb cap (N + 1) s kd) := HH.out.since hb1
  have B1 : Hid (Below w.heap.size w w1) := hb1
  clear hb1
  go_wp2_with fail
  refine (kindF H1.out c (by omega) HC.out).mono ?_
  rintro e w1 ⟨rfl, rfl⟩
  go_wp2_with fail
  refine (par52 u _).mono ?_
  rintro e w2 ⟨rfl, hb2⟩
  have H2 : Hid (Held w2 B gb nb cap (N + 1) s kd) := H1.out.since hb2
  have B2 : Hid (Below w.heap.size w w2) := B1.out.trans (hb2.mono B1.out.size)
  clear hb2
  go_wp2_with fail
  refine (withinF H2.out HW.out p c hn hc1 hcN).mono ?_
  rintro e w2 ⟨bb, rfl, hbd, rfl⟩
  have HD : Hid (bb = true ↔ Desc s.par p c) := hbd
  clear hbd
  cases bb with
  | true =>
    have HE : Hid (Desc s.par p c) := HD.out.1 rfl
    clear HD
    go_wp2_with fail
    go_ret
    exact ⟨6, rfl, .inr ⟨rfl, HE.out⟩, B2.out⟩
  | false =>
    go_wp2_with fail
    refine (fitsG H2.out p c hn HK.out).mono ?_
    rintro e w2 ⟨rfl, rfl⟩
    go_wp2_with fail
    go_ret
    exact ⟨0, rfl, .inl ⟨rfl, fun hd => Bool.noConfusion (HD.out.2 hd)⟩, B2.out⟩

set_option maxHeartbeats 400000 in
theorem mayPut67b (h : Held w B gb nb cap (N + 1) s kd) (hwf : WF N s K) (p c : Nat) (b : Nat) (hb1 : 1 ≤ b) (hbN : b ≤ N) (hbp : s.par b = p) (h1 : 1 ≤ p) (hn : p ≤ N) (hc1 : 1 ≤ c) (hcN : c ≤ N) {t u : ByteArray} (hk : kd p = .iface 67 (.agg #[.string t])) (hkc : kd c = .iface 67 (.agg #[.string u])) :
    Calls Try.prog 15 #[.pointer (some ⟨gb, 0, none⟩), .int .i64 p, .int .i64 c, .int .i64 b] w fun e w' => ∃ r : Int, e = .returned (.int .i64 r) ∧ ((r = 0 ∧ ¬ Desc s.par p c) ∨ (r = 6 ∧ Desc s.par p c)) ∧ Below w.heap.size w w' := by
  have HH : Hid (Held w B gb nb cap (N + 1) s kd) := h
  have HW : Hid (WF N s K) := hwf
  have HK : Hid (kd p = .iface 67 (.agg #[.string t])) := hk
  have HC : Hid (kd c = .iface 67 (.agg #[.string u])) := hkc
  have hL := h.hL
  have b1 : hasB (N + 1) p = true := by simp [hasB]; omega
  have b2 : hasB (N + 1) c = true := by simp [hasB]; omega
  have b3 : hasB (N + 1) b = true := by simp [hasB]; omega
  have eb' : ((b : Int) != 0) = true := by simp; omega
  have eb2 : (((s.par b : Nat) : Int) != (p : Int)) = false := by rw [hbp]; simp
  have m1 := mK67
  have m2 := mP67
  clear h hwf hk hkc hbp
  go_enter Try.func15, Try.ntmps15
  go_wp2_with fail
  refine (hasF HH.out p).mono ?_
  rintro e w ⟨rfl, rfl⟩
  go_wp2_with fail
  refine (hasF HH.out c).mono ?_
  rintro e w ⟨rfl, rfl⟩
  go_wp2_with fail
  refine (hasF HH.out b).mono ?_
  rintro e w ⟨rfl, rfl⟩
  go_wp2_with fail
  refine (kindF HH.out p (by omega) HK.out).mono ?_
  rintro e w ⟨rfl, rfl⟩
  go_wp2_with fail
  refine (kids51 t _).mono ?_
  rintro e w1 ⟨rfl, hb1⟩
  have H1 : Hid (Held w1 B gb nb cap (N + 1) s kd) := HH.out.since hb1
  have B1 : Hid (Below w.heap.size w w1) := hb1
  clear hb1
  go_wp2_with fail
  refine (kindF H1.out c (by omega) HC.out).mono ?_
  rintro e w1 ⟨rfl, rfl⟩
  go_wp2_with fail
  refine (par52 u _).mono ?_
  rintro e w2 ⟨rfl, hb2⟩
  have H2 : Hid (Held w2 B gb nb cap (N + 1) s kd) := H1.out.since hb2
  have B2 : Hid (Below w.heap.size w w2) := B1.out.trans (hb2.mono B1.out.size)
  clear hb2
  go_wp2_with fail
  refine (withinF H2.out HW.out p c hn hc1 hcN).mono ?_
  rintro e w2 ⟨bb, rfl, hbd, rfl⟩
  have HD : Hid (bb = true ↔ Desc s.par p c) := hbd
  clear hbd
  cases bb with
  | true =>
    have HE : Hid (Desc s.par p c) := HD.out.1 rfl
    clear HD
    go_wp2_with fail
    go_ret
    exact ⟨6, rfl, .inr ⟨rfl, HE.out⟩, B2.out⟩
  | false =>
    go_wp2_with fail
    refine (parentF H2.out b (by omega)).mono ?_
    rintro e w2 ⟨rfl, rfl⟩
    go_wp2_with fail
    refine (fitsG H2.out p c hn HK.out).mono ?_
    rintro e w2 ⟨rfl, rfl⟩
    go_wp2_with fail
    go_ret
    exact ⟨0, rfl, .inl ⟨rfl, fun hd => Bool.noConfusion (HD.out.2 hd)⟩, B2.out⟩

set_option maxHeartbeats 400000 in
theorem mayPut72z (h : Held w B gb nb cap (N + 1) s kd) (hwf : WF N s K) (p c : Nat) (h1 : 1 ≤ p) (hn : p ≤ N) (hc1 : 1 ≤ c) (hcN : c ≤ N) {t u : ByteArray} (hk : kd p = .iface 67 (.agg #[.string t])) (hkc : kd c = .iface 72 (.agg #[.string u])) :
    Calls Try.prog 15 #[.pointer (some ⟨gb, 0, none⟩), .int .i64 p, .int .i64 c, .int .i64 0] w fun e w' => ∃ r : Int, e = .returned (.int .i64 r) ∧ ((r = 0 ∧ ¬ Desc s.par p c) ∨ (r = 6 ∧ Desc s.par p c)) ∧ Below w.heap.size w w' := by
  have HH : Hid (Held w B gb nb cap (N + 1) s kd) := h
  have HW : Hid (WF N s K) := hwf
  have HK : Hid (kd p = .iface 67 (.agg #[.string t])) := hk
  have HC : Hid (kd c = .iface 72 (.agg #[.string u])) := hkc
  have hL := h.hL
  have b1 : hasB (N + 1) p = true := by simp [hasB]; omega
  have b2 : hasB (N + 1) c = true := by simp [hasB]; omega
  have m1 := mK67
  have m2 := mP72
  clear h hwf hk hkc
  go_enter Try.func15, Try.ntmps15
  go_wp2_with fail
  refine (hasF HH.out p).mono ?_
  rintro e w ⟨rfl, rfl⟩
  go_wp2_with fail
  refine (hasF HH.out c).mono ?_
  rintro e w ⟨rfl, rfl⟩
  go_wp2_with fail
  refine (kindF HH.out p (by omega) HK.out).mono ?_
  rintro e w ⟨rfl, rfl⟩
  go_wp2_with fail
  refine (kids51 t _).mono ?_
  rintro e w1 ⟨rfl, hb1⟩
  have H1 : Hid (Held w1 B gb nb cap (N + 1) s kd) := HH.out.since hb1
  have B1 : Hid (Below w.heap.size w w1) := hb1
  clear hb1
  go_wp2_with fail
  refine (kindF H1.out c (by omega) HC.out).mono ?_
  rintro e w1 ⟨rfl, rfl⟩
  go_wp2_with fail
  refine (par56 u _).mono ?_
  rintro e w2 ⟨rfl, hb2⟩
  have H2 : Hid (Held w2 B gb nb cap (N + 1) s kd) := H1.out.since hb2
  have B2 : Hid (Below w.heap.size w w2) := B1.out.trans (hb2.mono B1.out.size)
  clear hb2
  go_wp2_with fail
  refine (withinF H2.out HW.out p c hn hc1 hcN).mono ?_
  rintro e w2 ⟨bb, rfl, hbd, rfl⟩
  have HD : Hid (bb = true ↔ Desc s.par p c) := hbd
  clear hbd
  cases bb with
  | true =>
    have HE : Hid (Desc s.par p c) := HD.out.1 rfl
    clear HD
    go_wp2_with fail
    go_ret
    exact ⟨6, rfl, .inr ⟨rfl, HE.out⟩, B2.out⟩
  | false =>
    go_wp2_with fail
    refine (fitsG H2.out p c hn HK.out).mono ?_
    rintro e w2 ⟨rfl, rfl⟩
    go_wp2_with fail
    go_ret
    exact ⟨0, rfl, .inl ⟨rfl, fun hd => Bool.noConfusion (HD.out.2 hd)⟩, B2.out⟩

set_option maxHeartbeats 400000 in
theorem mayPut72b (h : Held w B gb nb cap (N + 1) s kd) (hwf : WF N s K) (p c : Nat) (b : Nat) (hb1 : 1 ≤ b) (hbN : b ≤ N) (hbp : s.par b = p) (h1 : 1 ≤ p) (hn : p ≤ N) (hc1 : 1 ≤ c) (hcN : c ≤ N) {t u : ByteArray} (hk : kd p = .iface 67 (.agg #[.string t])) (hkc : kd c = .iface 72 (.agg #[.string u])) :
    Calls Try.prog 15 #[.pointer (some ⟨gb, 0, none⟩), .int .i64 p, .int .i64 c, .int .i64 b] w fun e w' => ∃ r : Int, e = .returned (.int .i64 r) ∧ ((r = 0 ∧ ¬ Desc s.par p c) ∨ (r = 6 ∧ Desc s.par p c)) ∧ Below w.heap.size w w' := by
  have HH : Hid (Held w B gb nb cap (N + 1) s kd) := h
  have HW : Hid (WF N s K) := hwf
  have HK : Hid (kd p = .iface 67 (.agg #[.string t])) := hk
  have HC : Hid (kd c = .iface 72 (.agg #[.string u])) := hkc
  have hL := h.hL
  have b1 : hasB (N + 1) p = true := by simp [hasB]; omega
  have b2 : hasB (N + 1) c = true := by simp [hasB]; omega
  have b3 : hasB (N + 1) b = true := by simp [hasB]; omega
  have eb' : ((b : Int) != 0) = true := by simp; omega
  have eb2 : (((s.par b : Nat) : Int) != (p : Int)) = false := by rw [hbp]; simp
  have m1 := mK67
  have m2 := mP72
  clear h hwf hk hkc hbp
  go_enter Try.func15, Try.ntmps15
  go_wp2_with fail
  refine (hasF HH.out p).mono ?_
  rintro e w ⟨rfl, rfl⟩
  go_wp2_with fail
  refine (hasF HH.out c).mono ?_
  rintro e w ⟨rfl, rfl⟩
  go_wp2_with fail
  refine (hasF HH.out b).mono ?_
  rintro e w ⟨rfl, rfl⟩
  go_wp2_with fail
  refine (kindF HH.out p (by omega) HK.out).mono ?_
  rintro e w ⟨rfl, rfl⟩
  go_wp2_with fail
  refine (kids51 t _).mono ?_
  rintro e w1 ⟨rfl, hb1⟩
  have H1 : Hid (Held w1 B gb nb cap (N + 1) s kd) := HH.out.since hb1
  have B1 : Hid (Below w.heap.size w w1) := hb1
  clear hb1
  go_wp2_with fail
  refine (kindF H1.out c (by omega) HC.out).mono ?_
  rintro e w1 ⟨rfl, rfl⟩
  go_wp2_with fail
  refine (par56 u _).mono ?_
  rintro e w2 ⟨rfl, hb2⟩
  have H2 : Hid (Held w2 B gb nb cap (N + 1) s kd) := H1.out.since hb2
  have B2 : Hid (Below w.heap.size w w2) := B1.out.trans (hb2.mono B1.out.size)
  clear hb2
  go_wp2_with fail
  refine (withinF H2.out HW.out p c hn hc1 hcN).mono ?_
  rintro e w2 ⟨bb, rfl, hbd, rfl⟩
  have HD : Hid (bb = true ↔ Desc s.par p c) := hbd
  clear hbd
  cases bb with
  | true =>
    have HE : Hid (Desc s.par p c) := HD.out.1 rfl
    clear HD
    go_wp2_with fail
    go_ret
    exact ⟨6, rfl, .inr ⟨rfl, HE.out⟩, B2.out⟩
  | false =>
    go_wp2_with fail
    refine (parentF H2.out b (by omega)).mono ?_
    rintro e w2 ⟨rfl, rfl⟩
    go_wp2_with fail
    refine (fitsG H2.out p c hn HK.out).mono ?_
    rintro e w2 ⟨rfl, rfl⟩
    go_wp2_with fail
    go_ret
    exact ⟨0, rfl, .inl ⟨rfl, fun hd => Bool.noConfusion (HD.out.2 hd)⟩, B2.out⟩

set_option maxHeartbeats 400000 in
theorem mayPut73z (h : Held w B gb nb cap (N + 1) s kd) (hwf : WF N s K) (p c : Nat) (h1 : 1 ≤ p) (hn : p ≤ N) (hc1 : 1 ≤ c) (hcN : c ≤ N) {t u : ByteArray} (hk : kd p = .iface 67 (.agg #[.string t])) (hkc : kd c = .iface 73 (.agg #[.string u])) :
    Calls Try.prog 15 #[.pointer (some ⟨gb, 0, none⟩), .int .i64 p, .int .i64 c, .int .i64 0] w fun e w' => ∃ r : Int, e = .returned (.int .i64 r) ∧ ((r = 0 ∧ ¬ Desc s.par p c) ∨ (r = 6 ∧ Desc s.par p c)) ∧ Below w.heap.size w w' := by
  have HH : Hid (Held w B gb nb cap (N + 1) s kd) := h
  have HW : Hid (WF N s K) := hwf
  have HK : Hid (kd p = .iface 67 (.agg #[.string t])) := hk
  have HC : Hid (kd c = .iface 73 (.agg #[.string u])) := hkc
  have hL := h.hL
  have b1 : hasB (N + 1) p = true := by simp [hasB]; omega
  have b2 : hasB (N + 1) c = true := by simp [hasB]; omega
  have m1 := mK67
  have m2 := mP73
  clear h hwf hk hkc
  go_enter Try.func15, Try.ntmps15
  go_wp2_with fail
  refine (hasF HH.out p).mono ?_
  rintro e w ⟨rfl, rfl⟩
  go_wp2_with fail
  refine (hasF HH.out c).mono ?_
  rintro e w ⟨rfl, rfl⟩
  go_wp2_with fail
  refine (kindF HH.out p (by omega) HK.out).mono ?_
  rintro e w ⟨rfl, rfl⟩
  go_wp2_with fail
  refine (kids51 t _).mono ?_
  rintro e w1 ⟨rfl, hb1⟩
  have H1 : Hid (Held w1 B gb nb cap (N + 1) s kd) := HH.out.since hb1
  have B1 : Hid (Below w.heap.size w w1) := hb1
  clear hb1
  go_wp2_with fail
  refine (kindF H1.out c (by omega) HC.out).mono ?_
  rintro e w1 ⟨rfl, rfl⟩
  go_wp2_with fail
  refine (par58 u _).mono ?_
  rintro e w2 ⟨rfl, hb2⟩
  have H2 : Hid (Held w2 B gb nb cap (N + 1) s kd) := H1.out.since hb2
  have B2 : Hid (Below w.heap.size w w2) := B1.out.trans (hb2.mono B1.out.size)
  clear hb2
  go_wp2_with fail
  refine (withinF H2.out HW.out p c hn hc1 hcN).mono ?_
  rintro e w2 ⟨bb, rfl, hbd, rfl⟩
  have HD : Hid (bb = true ↔ Desc s.par p c) := hbd
  clear hbd
  cases bb with
  | true =>
    have HE : Hid (Desc s.par p c) := HD.out.1 rfl
    clear HD
    go_wp2_with fail
    go_ret
    exact ⟨6, rfl, .inr ⟨rfl, HE.out⟩, B2.out⟩
  | false =>
    go_wp2_with fail
    refine (fitsG H2.out p c hn HK.out).mono ?_
    rintro e w2 ⟨rfl, rfl⟩
    go_wp2_with fail
    go_ret
    exact ⟨0, rfl, .inl ⟨rfl, fun hd => Bool.noConfusion (HD.out.2 hd)⟩, B2.out⟩

set_option maxHeartbeats 400000 in
theorem mayPut73b (h : Held w B gb nb cap (N + 1) s kd) (hwf : WF N s K) (p c : Nat) (b : Nat) (hb1 : 1 ≤ b) (hbN : b ≤ N) (hbp : s.par b = p) (h1 : 1 ≤ p) (hn : p ≤ N) (hc1 : 1 ≤ c) (hcN : c ≤ N) {t u : ByteArray} (hk : kd p = .iface 67 (.agg #[.string t])) (hkc : kd c = .iface 73 (.agg #[.string u])) :
    Calls Try.prog 15 #[.pointer (some ⟨gb, 0, none⟩), .int .i64 p, .int .i64 c, .int .i64 b] w fun e w' => ∃ r : Int, e = .returned (.int .i64 r) ∧ ((r = 0 ∧ ¬ Desc s.par p c) ∨ (r = 6 ∧ Desc s.par p c)) ∧ Below w.heap.size w w' := by
  have HH : Hid (Held w B gb nb cap (N + 1) s kd) := h
  have HW : Hid (WF N s K) := hwf
  have HK : Hid (kd p = .iface 67 (.agg #[.string t])) := hk
  have HC : Hid (kd c = .iface 73 (.agg #[.string u])) := hkc
  have hL := h.hL
  have b1 : hasB (N + 1) p = true := by simp [hasB]; omega
  have b2 : hasB (N + 1) c = true := by simp [hasB]; omega
  have b3 : hasB (N + 1) b = true := by simp [hasB]; omega
  have eb' : ((b : Int) != 0) = true := by simp; omega
  have eb2 : (((s.par b : Nat) : Int) != (p : Int)) = false := by rw [hbp]; simp
  have m1 := mK67
  have m2 := mP73
  clear h hwf hk hkc hbp
  go_enter Try.func15, Try.ntmps15
  go_wp2_with fail
  refine (hasF HH.out p).mono ?_
  rintro e w ⟨rfl, rfl⟩
  go_wp2_with fail
  refine (hasF HH.out c).mono ?_
  rintro e w ⟨rfl, rfl⟩
  go_wp2_with fail
  refine (hasF HH.out b).mono ?_
  rintro e w ⟨rfl, rfl⟩
  go_wp2_with fail
  refine (kindF HH.out p (by omega) HK.out).mono ?_
  rintro e w ⟨rfl, rfl⟩
  go_wp2_with fail
  refine (kids51 t _).mono ?_
  rintro e w1 ⟨rfl, hb1⟩
  have H1 : Hid (Held w1 B gb nb cap (N + 1) s kd) := HH.out.since hb1
  have B1 : Hid (Below w.heap.size w w1) := hb1
  clear hb1
  go_wp2_with fail
  refine (kindF H1.out c (by omega) HC.out).mono ?_
  rintro e w1 ⟨rfl, rfl⟩
  go_wp2_with fail
  refine (par58 u _).mono ?_
  rintro e w2 ⟨rfl, hb2⟩
  have H2 : Hid (Held w2 B gb nb cap (N + 1) s kd) := H1.out.since hb2
  have B2 : Hid (Below w.heap.size w w2) := B1.out.trans (hb2.mono B1.out.size)
  clear hb2
  go_wp2_with fail
  refine (withinF H2.out HW.out p c hn hc1 hcN).mono ?_
  rintro e w2 ⟨bb, rfl, hbd, rfl⟩
  have HD : Hid (bb = true ↔ Desc s.par p c) := hbd
  clear hbd
  cases bb with
  | true =>
    have HE : Hid (Desc s.par p c) := HD.out.1 rfl
    clear HD
    go_wp2_with fail
    go_ret
    exact ⟨6, rfl, .inr ⟨rfl, HE.out⟩, B2.out⟩
  | false =>
    go_wp2_with fail
    refine (parentF H2.out b (by omega)).mono ?_
    rintro e w2 ⟨rfl, rfl⟩
    go_wp2_with fail
    refine (fitsG H2.out p c hn HK.out).mono ?_
    rintro e w2 ⟨rfl, rfl⟩
    go_wp2_with fail
    go_ret
    exact ⟨0, rfl, .inl ⟨rfl, fun hd => Bool.noConfusion (HD.out.2 hd)⟩, B2.out⟩

end
end Go.Proofs.Ytffgopdccgcdnaa
