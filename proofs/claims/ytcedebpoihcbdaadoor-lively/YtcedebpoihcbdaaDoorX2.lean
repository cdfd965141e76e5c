/-
  What the grove's Put and Take do, for all numbers.
-/
import Derived.Test.YtcedebpoihcbdaaDoorX1
namespace Go.Proofs.YtcedebpoihcbdaaDoor
open Go.RowKit Gv

def Re.outed (r : Re) (s : Fo) (c : Nat) : Re := if s.par c = 0 then r else r.more
def itsOut (N : Nat) (s : Fo) (c : Nat) (its : List It) : List It := if s.par c = 0 then its else its.map (It.leave N s c)

theorem Re.outed_iv (r : Re) (s : Fo) (c : Nat) : (r.outed s c).iv = r.iv := by unfold Re.outed; split <;> rfl

section
variable {w : World} {B gb nb cap N : Nat} {s : Fo} {kd : Nat → Value} {K : Nat → List Nat} {r : Re} {kk : Nat → Nat} {its : List It}

theorem lst_bound (hwf : WF N s K) {p : Nat} (hp1 : 1 ≤ p) (hpN : p ≤ N) : s.lst p ≤ N := by
  rw [hwf.lst p hp1 hpN]
  by_cases hx : K p = []
  · simp [hx]
  · exact (hwf.kid p _ (last_mem hx 0)).2.2.2.1

theorem mark_bound (hwf : WF N s K) {p c b : Nat} (hc1 : 1 ≤ c) (hcN : c ≤ N) (hb : b = 0 ∨ b ∈ K p) : markOf s c b ≤ N ∧ (markOf s c b ≠ 0 → (Fo.out s c).ahd (markOf s c b) ≤ N) := by
  have h1 := out_wf hwf hc1 hcN
  have hm : markOf s c b = 0 ∨ markOf s c b ∈ dropK K c p := by
    unfold markOf
    by_cases e : b = c
    · subst e
      rw [if_pos rfl]
      rcases hb with rfl | hb
      · omega
      · obtain ⟨xs, ys, hK⟩ := split_of_mem hb
        have hn := hwf.nd p
        rw [hK] at hn
        rw [(hwf.sides hK).2]
        by_cases hy : ys = []
        · subst hy; exact .inl rfl
        · right
          simp only [dropK, hK]
          rw [filter_split (split_nodup hn).1 (split_nodup hn).2]
          exact List.mem_append.2 (.inr (head_mem hy 0))
    · rw [if_neg e]
      rcases hb with rfl | hb
      · exact .inl rfl
      · right
        simp only [dropK, List.mem_filter]
        exact ⟨hb, by simp [e]⟩
  rcases hm with hm | hm
  · exact ⟨by omega, fun h => absurd hm h⟩
  · have hk := h1.kid p _ hm
    exact ⟨hk.2.2.2.1, fun _ => (ahd_le h1 hk.2.2.1 hk.2.2.2.1 (by omega)).1⟩

theorem putErr_zero {p c b : Int} (hwf : WF N s K) (h : PutErr N s K kk p c b 0) : ∃ p' c' b' : Nat, p = p' ∧ c = c' ∧ b = b' ∧ 1 ≤ p' ∧ p' ≤ N ∧ 1 ≤ c' ∧ c' ≤ N ∧ kk p' ≤ 2 ∧ kk c' ≠ 1 ∧ ¬ Desc s.par p' c' ∧ (b' = 0 ∨ b' ∈ K p') ∧ ¬ Full kk K p' c' := by
  rcases h with ⟨h, _⟩ | ⟨p', c', b', e1, e2, e3, h1, h2, h3, h4, h5, h6⟩
  · omega
  · rcases h6 with ⟨h, _⟩ | ⟨k1, k2, k3, h7⟩
    · omega
    · rcases h7 with ⟨h, _⟩ | ⟨hb, h8⟩
      · omega
      · rcases h8 with ⟨h, _⟩ | ⟨_, h9⟩
        · omega
        · refine ⟨p', c', b', e1, e2, e3, h1, h2, h3, h4, k1, k2, k3, ?_, h9⟩
          by_cases h0 : b' = 0
          · exact .inl h0
          · rcases hb with hb | hb
            · exact absurd hb h0
            · right
              have := hwf.own b' (by omega) h5 (by omega)
              rwa [hb] at this

set_option maxRecDepth 100000 in
set_option maxHeartbeats 1000000 in
theorem putC (h : Held w B gb nb cap (N + 1) s kd r) (hwf : WF N s K) (hk : Kinds N kk kd) (hI : Its w B r.iv its) (hs : ∀ it, it ∈ its → it.Sound N s) (p c b : Int) (hpl : 0 ≤ r.pl) (hpl2 : r.pl + 1 ≤ 4611686018427387904) :
    Calls Tryd.prog 6 #[.pointer (some ⟨gb, 0, none⟩), .int .i64 p, .int .i64 c, .int .i64 b] w fun e w' => ∃ q : Int, e = .returned (.int .i64 q) ∧ Fr (gset gb nb r.iv) w w' ∧ PutErr N s K kk p c b q ∧
      ((q ≠ 0 ∧ Held w' B gb nb cap (N + 1) s kd r ∧ Its w' B r.iv its) ∨
        (q = 0 ∧ ∃ p' c' b' : Nat, p = p' ∧ c = c' ∧ b = b' ∧ Held w' B gb nb cap (N + 1) ((Fo.out s c').insert p' c' (markOf s c' b')) kd (r.outed s c').more ∧ Its w' B r.iv (itsOut N s c' its))) := by
  have HH : Hid (Held w B gb nb cap (N + 1) s kd r) := h
  have HW : Hid (WF N s K) := hwf
  have HK : Hid (Kinds N kk kd) := hk
  have HI : Hid (Its w B r.iv its) := hI
  have HS : Hid (∀ it, it ∈ its → it.Sound N s) := hs
  have hL := h.hL
  have HAp : Hid (∀ g, r.iv.ownBlock = some g → g ≠ gb ∧ g ≠ nb) := by
    intro g hg
    obtain ⟨cur, hn, _⟩ := h.block
    constructor
    · rintro rfl; exact row_apart hI.row h.g (by decide) hg
    · rintro rfl; exact row_apart hI.row hn (by decide) hg
  clear h hwf hk hI hs
  go_enter Tryd.func6, Tryd.ntmps6
  go_wp2_with fail
  refine (mayPutF HH.out HW.out HK.out p c b).mono ?_
  rintro e w1 ⟨q, rfl, hq, hb1⟩
  have H1 : Hid (Held w1 B gb nb cap (N + 1) s kd r) := HH.out.since hb1
  have I1 : Hid (Its w1 B r.iv its) := HI.out.since hb1
  have G1 : Hid (Fr (gset gb nb r.iv) w w1) := Fr.of_below hb1
  have HQ : Hid (PutErr N s K kk p c b q) := hq
  clear hb1 hq HH HI
  by_cases q0 : q = 0
  · subst q0
    obtain ⟨p, c, b, rfl, rfl, rfl, hp1, hpN, hc1, hcN, -, -, -, hbk, -⟩ := putErr_zero HW.out HQ.out
    have HB : Hid (b = 0 ∨ b ∈ K p) := hbk
    have hpar := HW.out.parLe c hcN
    have HM := mark_bound HW.out hc1 hcN hbk
    have hm1 := HM.1
    have HM2 : Hid (markOf s c b ≠ 0 → (Fo.out s c).ahd (markOf s c b) ≤ N) := HM.2
    have hlst := lst_bound (out_wf HW.out hc1 hcN) hp1 hpN
    clear hbk HM
    by_cases e0 : s.par c = 0
    · have ec : b ≠ c := by
        rintro rfl
        rcases HB.out with h | h
        · omega
        · have := HW.out.kid p b h; omega
      have em : markOf s c b = b := by unfold markOf; rw [if_neg ec]
      have eo : Fo.out s c = s := by unfold Fo.out; rw [if_pos e0]
      have EM : Hid (markOf s c b = b) := em
      have EO : Hid (Fo.out s c = s) := eo
      have ER : Hid (r.outed s c = r) := by show r.outed s c = r; unfold Re.outed; rw [if_pos e0]
      have EI : Hid (itsOut N s c its = its) := by show itsOut N s c its = its; unfold itsOut; rw [if_pos e0]
      have x1 : b ≤ N := by rw [← em]; exact hm1
      have x2 : s.lst p ≤ N := by rw [← eo]; exact hlst
      have X3 : Hid (b ≠ 0 → s.ahd b ≤ N) := by have h := HM2.out; rw [em, eo] at h; exact h
      have ec' : ((b : Int) == (c : Int)) = false := by simp; omega
      have e0' : (((s.par c : Nat) : Int) != 0) = false := by simp; omega
      clear ec em eo e0 hm1 hlst HM2
      go_wp2_with fail
      refine (parentF H1.out c (by omega)).mono ?_
      rintro e w1 ⟨rfl, rfl⟩
      go_wp2_with fail
      refine (insertF H1.out p c b (by omega) (by omega) (by omega) (by omega) (fun h => Nat.lt_succ_of_le (X3.out h)) hpl (by omega)).mono ?_
      rintro e w2 ⟨rfl, H2, G2⟩
      have H2' : Hid _ := H2
      have G2' : Hid _ := G2
      clear H2 G2
      go_wp2_with fail
      go_ret
      refine ⟨0, rfl, G1.out.trans (G2'.out.mono (fun i hi => hi.imp id .inl)), HQ.out, .inr ⟨rfl, p, c, b, rfl, rfl, rfl, by rw [EO.out, EM.out, ER.out]; exact H2'.out, ?_⟩⟩
      rw [EI.out]
      exact I1.out.fr G2'.out (fun g hg => by rintro (e | e); exact (HAp.out g hg).1 e; exact (HAp.out g hg).2 e)
    · have e0' : (((s.par c : Nat) : Int) != 0) = true := by simp; omega
      have E0 : Hid (s.par c ≠ 0) := e0
      have eo : Fo.out s c = s.remove c := by unfold Fo.out; rw [if_neg e0]
      have EO : Hid (Fo.out s c = s.remove c) := eo
      have ER : Hid (r.outed s c = r.more) := by show r.outed s c = r.more; unfold Re.outed; rw [if_neg e0]
      have EI : Hid (itsOut N s c its = its.map (It.leave N s c)) := by show itsOut N s c its = _; unfold itsOut; rw [if_neg e0]
      have x2 : (s.remove c).lst p ≤ N := by rw [← eo]; exact hlst
      have pl1 : 0 ≤ r.more.pl := by show 0 ≤ r.pl + 1; omega
      have pl2 : r.more.pl ≤ 4611686018427387904 := by show r.pl + 1 ≤ _; omega
      clear e0 eo hlst
      by_cases ec : b = c
      · subst ec
        have em : markOf s b b = s.bhd b := by unfold markOf; rw [if_pos rfl]
        have EM : Hid (markOf s b b = s.bhd b) := em
        have x1 : s.bhd b ≤ N := by rw [← em]; exact hm1
        have X3 : Hid (s.bhd b ≠ 0 → (s.remove b).ahd (s.bhd b) ≤ N) := by have h := HM2.out; rw [em, EO.out] at h; exact h
        clear em hm1 HM2
        go_wp2_with fail
        refine (behindF H1.out b (by omega)).mono ?_
        rintro e w1 ⟨rfl, rfl⟩
        go_wp2_with fail
        refine (parentF H1.out b (by omega)).mono ?_
        rintro e w1 ⟨rfl, rfl⟩
        go_wp2_with fail
        refine (takeOutC H1.out HW.out I1.out HS.out b hc1 hcN E0.out hpl (by omega)).mono ?_
        rintro e w2 ⟨rfl, H2, I2, G2⟩
        have H2' : Hid _ := H2
        have I2' : Hid _ := I2
        have G2' : Hid _ := G2
        clear H2 G2 I2
        go_wp2_with fail
        refine (insertF H2'.out p b (s.bhd b) (by omega) (by omega) (by omega) (by omega) (fun h => Nat.lt_succ_of_le (X3.out h)) pl1 pl2).mono ?_
        rintro e w3 ⟨rfl, H3, G3⟩
        have H3' : Hid _ := H3
        have G3' : Hid _ := G3
        clear H3 G3
        go_wp2_with fail
        go_ret
        refine ⟨0, rfl, (G1.out.trans G2'.out).trans (G3'.out.mono (fun i hi => hi.imp id .inl)), HQ.out, .inr ⟨rfl, p, b, b, rfl, rfl, rfl, by rw [EO.out, EM.out, ER.out]; exact H3'.out, ?_⟩⟩
        rw [EI.out]
        exact I2'.out.fr G3'.out (fun g hg => by rintro (e | e); exact (HAp.out g hg).1 e; exact (HAp.out g hg).2 e)
      · have em : markOf s c b = b := by unfold markOf; rw [if_neg ec]
        have ec' : ((b : Int) == (c : Int)) = false := by simp; omega
        have EM : Hid (markOf s c b = b) := em
        have x1 : b ≤ N := by rw [← em]; exact hm1
        have X3 : Hid (b ≠ 0 → (s.remove c).ahd b ≤ N) := by have h := HM2.out; rw [em, EO.out] at h; exact h
        clear em ec hm1 HM2
        go_wp2_with fail
        refine (parentF H1.out c (by omega)).mono ?_
        rintro e w1 ⟨rfl, rfl⟩
        go_wp2_with fail
        refine (takeOutC H1.out HW.out I1.out HS.out c hc1 hcN E0.out hpl (by omega)).mono ?_
        rintro e w2 ⟨rfl, H2, I2, G2⟩
        have H2' : Hid _ := H2
        have I2' : Hid _ := I2
        have G2' : Hid _ := G2
        clear H2 G2 I2
        go_wp2_with fail
        refine (insertF H2'.out p c b (by omega) (by omega) (by omega) (by omega) (fun h => Nat.lt_succ_of_le (X3.out h)) pl1 pl2).mono ?_
        rintro e w3 ⟨rfl, H3, G3⟩
        have H3' : Hid _ := H3
        have G3' : Hid _ := G3
        clear H3 G3
        go_wp2_with fail
        go_ret
        refine ⟨0, rfl, (G1.out.trans G2'.out).trans (G3'.out.mono (fun i hi => hi.imp id .inl)), HQ.out, .inr ⟨rfl, p, c, b, rfl, rfl, rfl, by rw [EO.out, EM.out, ER.out]; exact H3'.out, ?_⟩⟩
        rw [EI.out]
        exact I2'.out.fr G3'.out (fun g hg => by rintro (e | e); exact (HAp.out g hg).1 e; exact (HAp.out g hg).2 e)
  · have q0' : (q != 0) = true := by simp [q0]
    have Q0 : Hid (q ≠ 0) := q0
    clear q0
    go_wp2_with fail
    go_ret
    exact ⟨q, rfl, G1.out, HQ.out, .inl ⟨Q0.out, H1.out, I1.out⟩⟩

set_option maxRecDepth 100000 in
set_option maxHeartbeats 1000000 in
theorem takeC (h : Held w B gb nb cap (N + 1) s kd r) (hwf : WF N s K) (hI : Its w B r.iv its) (hs : ∀ it, it ∈ its → it.Sound N s) (c : Int) (hpl : 0 ≤ r.pl) (hpl2 : r.pl + 1 ≤ 4611686018427387904) :
    Calls Tryd.prog 30 #[.pointer (some ⟨gb, 0, none⟩), .int .i64 c] w fun e w' => ∃ q : Int, e = .returned (.int .i64 q) ∧ Fr (gset gb nb r.iv) w w' ∧
      ((q = 5 ∧ hasB (N + 1) c = false ∧ w' = w) ∨ ∃ c' : Nat, c = c' ∧ 1 ≤ c' ∧ c' ≤ N ∧ ((q = 8 ∧ s.par c' = 0 ∧ w' = w) ∨ (q = 0 ∧ s.par c' ≠ 0 ∧ Held w' B gb nb cap (N + 1) (s.remove c') kd r.more ∧ Its w' B r.iv (its.map (It.leave N s c'))))) := by
  have HH : Hid (Held w B gb nb cap (N + 1) s kd r) := h
  have HW : Hid (WF N s K) := hwf
  have HI : Hid (Its w B r.iv its) := hI
  have HS : Hid (∀ it, it ∈ its → it.Sound N s) := hs
  have hL := h.hL
  clear h hwf hI hs
  go_enter Tryd.func30, Tryd.ntmps30
  go_wp2_with fail
  refine (hasF HH.out c).mono ?_
  rintro e w ⟨rfl, rfl⟩
  cases hc : hasB (N + 1) c with
  | false =>
    have HC : Hid (hasB (N + 1) c = false) := hc
    clear hc
    go_wp2_with fail
    go_ret
    exact ⟨5, rfl, Fr.refl _ _, .inl ⟨rfl, HC.out, rfl⟩⟩
  | true =>
    obtain ⟨c, rfl, hc1, hcN⟩ := has_nat hc
    clear hc
    go_wp2_with fail
    refine (parentF HH.out c (by omega)).mono ?_
    rintro e w ⟨rfl, rfl⟩
    by_cases e0 : s.par c = 0
    · have e0' : (((s.par c : Nat) : Int) == 0) = true := by simp [e0]
      have E0 : Hid (s.par c = 0) := e0
      clear e0
      go_wp2_with fail
      go_ret
      exact ⟨8, rfl, Fr.refl _ _, .inr ⟨c, rfl, hc1, hcN, .inl ⟨rfl, E0.out, rfl⟩⟩⟩
    · have e0' : (((s.par c : Nat) : Int) == 0) = false := by simp; omega
      have E0 : Hid (s.par c ≠ 0) := e0
      clear e0
      go_wp2_with fail
      refine (takeOutC HH.out HW.out HI.out HS.out c hc1 hcN E0.out hpl (by omega)).mono ?_
      rintro e w2 ⟨rfl, H2, I2, G2⟩
      have H2' : Hid _ := H2
      have I2' : Hid _ := I2
      have G2' : Hid _ := G2
      clear H2 G2 I2
      go_wp2_with fail
      go_ret
      exact ⟨0, rfl, G2'.out, .inr ⟨c, rfl, hc1, hcN, .inr ⟨rfl, E0.out, H2'.out, I2'.out⟩⟩⟩
end
end Go.Proofs.YtcedebpoihcbdaaDoor
