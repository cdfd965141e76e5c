/-
  What the grove's Put does, where no node is a root and the mark is a kid of the parent, or none.
-/
import Derived.Test.YtffgopdccgcdnaaW4
import Derived.Test.YtffgopdccgcdnaaMath3
namespace Go.Proofs.Ytffgopdccgcdnaa
open Go.RowKit Gv

/-- No node is a root. -/
def Leafy (N : Nat) (kd : Nat → Value) : Prop := ∀ i, 1 ≤ i → i ≤ N → ∃ t : ByteArray, kd i = .iface 67 (.agg #[.string t]) ∨ kd i = .iface 72 (.agg #[.string t]) ∨ kd i = .iface 73 (.agg #[.string t])

theorem below_grownBy {w w' : World} (h : Below w.heap.size w w') (r : Option Nat) : w.grownBy w' r := ⟨h.os, h.tape, h.output, h.size, fun k hk _ => h.block k hk⟩

section
variable {w : World} {B gb nb cap N : Nat} {s : Fo} {kd : Nat → Value} {K : Nat → List Nat}

theorem mayPutAll (h : Held w B gb nb cap (N + 1) s kd) (hwf : WF N s K) (hk : Leafy N kd) (p c b : Nat) (h1 : 1 ≤ p) (hn : p ≤ N) (hc1 : 1 ≤ c) (hcN : c ≤ N) (hb : b = 0 ∨ b ∈ K p) :
    Calls Try.prog 15 #[.pointer (some ⟨gb, 0, none⟩), .int .i64 p, .int .i64 c, .int .i64 b] w fun e w' => ∃ r : Int, e = .returned (.int .i64 r) ∧ ((r = 0 ∧ ¬ Desc s.par p c) ∨ (r = 6 ∧ (Desc s.par p c ∨ ∀ x, kd p ≠ .iface 67 x))) ∧ Below w.heap.size w w' := by
  have hbN : b ≤ N := by
    rcases hb with rfl | hb
    · omega
    · exact (hwf.kid p b hb).2.2.2.1
  obtain ⟨t, hp⟩ := hk p h1 hn
  obtain ⟨u, hc⟩ := hk c hc1 hcN
  rcases hp with hp | hp
  · rcases hb with rfl | hb
    · rcases hc with hc | hc | hc
      · exact (mayPut67z h hwf p c h1 hn hc1 hcN hp hc).mono fun e w' ⟨r, h1, h2, h3⟩ => ⟨r, h1, h2.imp id (fun x => ⟨x.1, .inl x.2⟩), h3⟩
      · exact (mayPut72z h hwf p c h1 hn hc1 hcN hp hc).mono fun e w' ⟨r, h1, h2, h3⟩ => ⟨r, h1, h2.imp id (fun x => ⟨x.1, .inl x.2⟩), h3⟩
      · exact (mayPut73z h hwf p c h1 hn hc1 hcN hp hc).mono fun e w' ⟨r, h1, h2, h3⟩ => ⟨r, h1, h2.imp id (fun x => ⟨x.1, .inl x.2⟩), h3⟩
    · have hbk := hwf.kid p b hb
      rcases hc with hc | hc | hc
      · exact (mayPut67b h hwf p c b hbk.2.2.1 hbN hbk.2.2.2.2 h1 hn hc1 hcN hp hc).mono fun e w' ⟨r, h1, h2, h3⟩ => ⟨r, h1, h2.imp id (fun x => ⟨x.1, .inl x.2⟩), h3⟩
      · exact (mayPut72b h hwf p c b hbk.2.2.1 hbN hbk.2.2.2.2 h1 hn hc1 hcN hp hc).mono fun e w' ⟨r, h1, h2, h3⟩ => ⟨r, h1, h2.imp id (fun x => ⟨x.1, .inl x.2⟩), h3⟩
      · exact (mayPut73b h hwf p c b hbk.2.2.1 hbN hbk.2.2.2.2 h1 hn hc1 hcN hp hc).mono fun e w' ⟨r, h1, h2, h3⟩ => ⟨r, h1, h2.imp id (fun x => ⟨x.1, .inl x.2⟩), h3⟩
  · refine (mayPutNo h p c b h1 hn hc1 hcN hbN (t := t) hp).mono fun e w' ⟨he, hb⟩ => ⟨6, he, .inr ⟨rfl, .inr fun x hx => ?_⟩, hb⟩
    rcases hp with hp | hp
    · rw [hp] at hx; simp at hx
    · rw [hp] at hx; simp at hx

theorem kid_bounds (hwf : WF N s K) {c : Nat} (hc1 : 1 ≤ c) (hcN : c ≤ N) (h0 : s.par c ≠ 0) : s.ahd c ≤ N ∧ s.bhd c ≤ N := by
  obtain ⟨xs, ys, hK⟩ := split_of_mem (hwf.own c hc1 hcN h0)
  have hs := hwf.sides hK
  rw [hs.1, hs.2]
  constructor
  · by_cases hx : xs = []
    · subst hx; simp
    · exact (hwf.kid (s.par c) _ (by rw [hK]; exact List.mem_append.2 (.inl (last_mem hx 0)))).2.2.2.1
  · by_cases hy : ys = []
    · subst hy; simp
    · exact (hwf.kid (s.par c) _ (by rw [hK]; exact List.mem_append.2 (.inr (List.mem_cons_of_mem _ (head_mem hy 0))))).2.2.2.1

theorem lst_bound (hwf : WF N s K) {p : Nat} (hp1 : 1 ≤ p) (hpN : p ≤ N) : s.lst p ≤ N := by
  rw [hwf.lst p hp1 hpN]
  by_cases hx : K p = []
  · simp [hx]
  · exact (hwf.kid p _ (last_mem hx 0)).2.2.2.1

theorem mark_bound (hwf : WF N s K) {p c b : Nat} (hc1 : 1 ≤ c) (hcN : c ≤ N) (hb : b = 0 ∨ b ∈ K p) : markOf s c b ≤ N ∧ (markOf s c b ≠ 0 → (Fo.out s c).ahd (markOf s c b) ≤ N) := by
  have h1 := out_wf hwf hc1 hcN
  have hm : markOf s c b = 0 ∨ markOf s c b ∈ dropK K c p := by
    unfold markOf
    by_cases e : b = c
    · subst e
      rw [if_pos rfl]
      rcases hb with rfl | hb
      · omega
      · obtain ⟨xs, ys, hK⟩ := split_of_mem hb
        have hn := hwf.nd p
        rw [hK] at hn
        rw [(hwf.sides hK).2]
        by_cases hy : ys = []
        · subst hy; exact .inl rfl
        · right
          simp only [dropK, hK]
          rw [filter_split (split_nodup hn).1 (split_nodup hn).2]
          exact List.mem_append.2 (.inr (head_mem hy 0))
    · rw [if_neg e]
      rcases hb with rfl | hb
      · exact .inl rfl
      · right
        simp only [dropK, List.mem_filter]
        exact ⟨hb, by simp [e]⟩
  rcases hm with hm | hm
  · exact ⟨by omega, fun h => absurd hm h⟩
  · have hk := h1.kid p _ hm
    exact ⟨hk.2.2.2.1, fun _ => (kid_bounds h1 hk.2.2.1 hk.2.2.2.1 (by omega)).1⟩

set_option maxHeartbeats 400000 in
theorem putG (h : Held w B gb nb cap (N + 1) s kd) (hwf : WF N s K) (hk : Leafy N kd) (p c b : Nat) (h1 : 1 ≤ p) (hn : p ≤ N) (hc1 : 1 ≤ c) (hcN : c ≤ N) (hb : b = 0 ∨ b ∈ K p) :
    Calls Try.prog 6 #[.pointer (some ⟨gb, 0, none⟩), .int .i64 p, .int .i64 c, .int .i64 b] w fun e w' => ∃ r : Int, e = .returned (.int .i64 r) ∧ w.grownBy w' (some nb) ∧
      ((r = 0 ∧ ¬ Desc s.par p c ∧ Held w' B gb nb cap (N + 1) ((Fo.out s c).insert p c (markOf s c b)) kd) ∨ (r = 6 ∧ (Desc s.par p c ∨ ∀ x, kd p ≠ .iface 67 x) ∧ Held w' B gb nb cap (N + 1) s kd)) := by
  have HH : Hid (Held w B gb nb cap (N + 1) s kd) := h
  have HW : Hid (WF N s K) := hwf
  have HL : Hid (Leafy N kd) := hk
  have HB : Hid (b = 0 ∨ b ∈ K p) := hb
  have hL := h.hL
  have hpar := hwf.parLe c hcN
  have HM := mark_bound hwf hc1 hcN hb
  have hm1 := HM.1
  have HM2 : Hid (markOf s c b ≠ 0 → (Fo.out s c).ahd (markOf s c b) ≤ N) := HM.2
  have hlst := lst_bound (out_wf hwf hc1 hcN) h1 hn
  clear h hwf hk hb HM
  go_enter Try.func6, Try.ntmps6
  go_wp2_with fail
  refine (mayPutAll HH.out HW.out HL.out p c b h1 hn hc1 hcN HB.out).mono ?_
  rintro e w1 ⟨r, rfl, hr, hb1⟩
  have H1 : Hid (Held w1 B gb nb cap (N + 1) s kd) := HH.out.since hb1
  have G1 : Hid (w.grownBy w1 (some nb)) := below_grownBy hb1 _
  clear hb1
  rcases hr with ⟨rfl, hd⟩ | ⟨rfl, hd⟩
  · have HD : Hid (¬ Desc s.par p c) := hd
    clear hd
    by_cases e0 : s.par c = 0
    · have ec : b ≠ c := by
        rintro rfl
        rcases HB.out with h | h
        · omega
        · have := HW.out.kid p b h; omega
      have em : markOf s c b = b := by unfold markOf; rw [if_neg ec]
      have eo : Fo.out s c = s := by unfold Fo.out; rw [if_pos e0]
      have EM : Hid (markOf s c b = b) := em
      have EO : Hid (Fo.out s c = s) := eo
      have x1 : b ≤ N := by rw [← em]; exact hm1
      have x2 : s.lst p ≤ N := by rw [← eo]; exact hlst
      have X3 : Hid (b ≠ 0 → s.ahd b ≤ N) := by have h := HM2.out; rw [em, eo] at h; exact h
      have ec' : ((b : Int) == (c : Int)) = false := by simp; omega
      have e0' : (((s.par c : Nat) : Int) != 0) = false := by simp; omega
      clear ec em eo e0 hm1 hlst HM2
      go_wp2_with fail
      refine (parentF H1.out c (by omega)).mono ?_
      rintro e w1 ⟨rfl, rfl⟩
      go_wp2_with fail
      refine (insertF H1.out p c b (by omega) (by omega) (by omega) (by omega) (fun h => Nat.lt_succ_of_le (X3.out h))).mono ?_
      rintro e w2 ⟨rfl, H2, G2⟩
      have H2' : Hid _ := H2
      have G2' : Hid _ := G2
      clear H2 G2
      go_wp2_with fail
      go_ret
      exact ⟨0, rfl, grownBy_trans G1.out G2'.out, .inl ⟨rfl, HD.out, by rw [EO.out, EM.out]; exact H2'.out⟩⟩
    · have e0' : (((s.par c : Nat) : Int) != 0) = true := by simp; omega
      have hbd := kid_bounds HW.out hc1 hcN e0
      have eo : Fo.out s c = s.remove c := by unfold Fo.out; rw [if_neg e0]
      have EO : Hid (Fo.out s c = s.remove c) := eo
      have x2 : (s.remove c).lst p ≤ N := by rw [← eo]; exact hlst
      clear e0 eo hlst
      by_cases ec : b = c
      · subst ec
        have em : markOf s b b = s.bhd b := by unfold markOf; rw [if_pos rfl]
        have EM : Hid (markOf s b b = s.bhd b) := em
        have x1 : s.bhd b ≤ N := by rw [← em]; exact hm1
        have X3 : Hid (s.bhd b ≠ 0 → (s.remove b).ahd (s.bhd b) ≤ N) := by have h := HM2.out; rw [em, EO.out] at h; exact h
        clear em hm1 HM2
        go_wp2_with fail
        refine (behindF H1.out b (by omega)).mono ?_
        rintro e w1 ⟨rfl, rfl⟩
        go_wp2_with fail
        refine (parentF H1.out b (by omega)).mono ?_
        rintro e w1 ⟨rfl, rfl⟩
        go_wp2_with fail
        refine (removeF H1.out b (by omega) (by omega) (by omega) (by omega)).mono ?_
        rintro e w2 ⟨rfl, H2, G2⟩
        have H2' : Hid _ := H2
        have G2' : Hid _ := G2
        clear H2 G2
        go_wp2_with fail
        refine (insertF H2'.out p b (s.bhd b) (by omega) (by omega) (by omega) (by omega) (fun h => Nat.lt_succ_of_le (X3.out h))).mono ?_
        rintro e w3 ⟨rfl, H3, G3⟩
        have H3' : Hid _ := H3
        have G3' : Hid _ := G3
        clear H3 G3
        go_wp2_with fail
        go_ret
        exact ⟨0, rfl, grownBy_trans (grownBy_trans G1.out G2'.out) G3'.out, .inl ⟨rfl, HD.out, by rw [EO.out, EM.out]; exact H3'.out⟩⟩
      · have em : markOf s c b = b := by unfold markOf; rw [if_neg ec]
        have ec' : ((b : Int) == (c : Int)) = false := by simp; omega
        have EM : Hid (markOf s c b = b) := em
        have x1 : b ≤ N := by rw [← em]; exact hm1
        have X3 : Hid (b ≠ 0 → (s.remove c).ahd b ≤ N) := by have h := HM2.out; rw [em, EO.out] at h; exact h
        clear em ec hm1 HM2
        go_wp2_with fail
        refine (parentF H1.out c (by omega)).mono ?_
        rintro e w1 ⟨rfl, rfl⟩
        go_wp2_with fail
        refine (removeF H1.out c (by omega) (by omega) (by omega) (by omega)).mono ?_
        rintro e w2 ⟨rfl, H2, G2⟩
        have H2' : Hid _ := H2
        have G2' : Hid _ := G2
        clear H2 G2
        go_wp2_with fail
        refine (insertF H2'.out p c b (by omega) (by omega) (by omega) (by omega) (fun h => Nat.lt_succ_of_le (X3.out h))).mono ?_
        rintro e w3 ⟨rfl, H3, G3⟩
        have H3' : Hid _ := H3
        have G3' : Hid _ := G3
        clear H3 G3
        go_wp2_with fail
        go_ret
        exact ⟨0, rfl, grownBy_trans (grownBy_trans G1.out G2'.out) G3'.out, .inl ⟨rfl, HD.out, by rw [EO.out, EM.out]; exact H3'.out⟩⟩
  · have HD : Hid (Desc s.par p c ∨ ∀ x, kd p ≠ .iface 67 x) := hd
    clear hd
    go_wp2_with fail
    go_ret
    exact ⟨6, rfl, G1.out, .inr ⟨rfl, HD.out, H1.out⟩⟩
end
end Go.Proofs.Ytffgopdccgcdnaa
