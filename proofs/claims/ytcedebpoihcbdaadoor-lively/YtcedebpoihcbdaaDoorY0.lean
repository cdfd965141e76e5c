/-
  A grove as a state, and what the law's 'change' makes of it (no node is a root).
-/
import Derived.Test.YtcedebpoihcbdaaDoorX3
import Derived.Test.YtcedebpoihcbdaaDoorMath6
namespace Go.Proofs.YtcedebpoihcbdaaDoor
open Go.RowKit Gv

/-- What is seen of a grove by its trees and its iterators. -/
structure St where
  s : Fo
  K : Nat → List Nat
  its : List It

def St.take (N : Nat) (σ : St) (n : Nat) : St := if σ.s.par n = 0 then σ else { s := σ.s.remove n, K := dropK σ.K n, its := σ.its.map (It.leave N σ.s n) }

def St.put (N : Nat) (kk : Nat → Nat) (σ : St) (p c b : Nat) : St :=
  if kk p ≤ 2 ∧ withF σ.s N p c = false then { s := (Fo.out σ.s c).insert p c (markOf σ.s c b), K := chK σ.K p c (markOf σ.s c b), its := itsOut N σ.s c σ.its } else σ

/-- The mark that 'change' takes. -/
def befF (K : Nat → List Nat) (p : Nat) (c : Int) : Nat := if 0 < (K p).length ∧ 0 < pickF c 3 then (K p).getD (pickF (c.tdiv 3) (K p).length) 0 else 0

def St.change (N : Nat) (kk : Nat → Nat) (σ : St) (a b c : Int) : St :=
  if pickF c 4 = 0 then σ.take N (1 + pickF a N) else σ.put N kk (1 + pickF b N) (1 + pickF a N) (befF σ.K (1 + pickF b N) c)

structure Gro (B : Nat) (w : World) (gb nb cap N : Nat) (kk : Nat → Nat) (tg : Nat → ByteArray) (kd : Nat → Value) (mp : Nat → Nat) (σ : St) (r : Re) : Prop where
  held : Held w B gb nb cap (N + 1) σ.s kd r
  wf : WF N σ.s σ.K
  kinds : Kinds N kk kd
  its : Its w B r.iv σ.its
  sound : ∀ it, it ∈ σ.its → it.Sound N σ.s
  els : ∀ i, 1 ≤ i → i ≤ N → kk i = 2 → El w B (kd i) (tg i) (mp i)

/-- Of what is not nodes only the count of changes may be another. -/
def Re.like (r r' : Re) (m : Nat) : Prop := r'.cl = r.cl ∧ r'.lv = r.lv ∧ r'.iv = r.iv ∧ r'.wv = r.wv ∧ r.pl ≤ r'.pl ∧ r'.pl ≤ r.pl + m

theorem Re.like_refl (r : Re) (m : Nat) : r.like r m := ⟨rfl, rfl, rfl, rfl, Int.le_refl _, by omega⟩
theorem Re.like_more (r : Re) : r.like r.more 1 := ⟨rfl, rfl, rfl, rfl, by show r.pl ≤ r.pl + 1; omega, by show r.pl + 1 ≤ r.pl + ((1 : Nat) : Int); omega⟩
theorem Re.like_put (r : Re) (s : Fo) (c : Nat) : r.like (r.outed s c).more 2 := by
  unfold Re.outed
  split
  · exact ⟨rfl, rfl, rfl, rfl, by show r.pl ≤ r.pl + 1; omega, by show r.pl + 1 ≤ r.pl + ((2 : Nat) : Int); omega⟩
  · exact ⟨rfl, rfl, rfl, rfl, by show r.pl ≤ r.pl + 1 + 1; omega, by show r.pl + 1 + 1 ≤ r.pl + ((2 : Nat) : Int); omega⟩
theorem Re.put_more (r : Re) (s : Fo) (c : Nat) : (r.outed s c).more.pl ≠ r.pl := by
  unfold Re.outed
  split
  · show r.pl + 1 ≠ r.pl; omega
  · show r.pl + 1 + 1 ≠ r.pl; omega
theorem Re.like.up {r r' : Re} {m n : Nat} (h : r.like r' m) (hn : m ≤ n) : r.like r' n := ⟨h.1, h.2.1, h.2.2.1, h.2.2.2.1, h.2.2.2.2.1, by have := h.2.2.2.2.2; omega⟩

section
variable {B : Nat} {w w' : World} {gb nb cap N : Nat} {kk : Nat → Nat} {tg : Nat → ByteArray} {kd : Nat → Value} {mp : Nat → Nat} {σ : St} {r : Re}

theorem Gro.since (h : Gro B w gb nb cap N kk tg kd mp σ r) (hb : Below w.heap.size w w') : Gro B w' gb nb cap N kk tg kd mp σ r :=
  ⟨h.held.since hb, h.wf, h.kinds, h.its.since hb, h.sound, fun i h1 hN h2 => (h.els i h1 hN h2).since hb⟩

/-- The blocks that a change may turn are no elements. -/
theorem Gro.noEl (h : Gro B w gb nb cap N kk tg kd mp σ r) : ∀ i cs fr, gset gb nb r.iv i → w.heap[i]? ≠ some (.cells cs 98 fr) := by
  rintro i cs fr (hi | hi | hi) e
  · exact h.held.noEl i cs fr (.inl hi) e
  · exact h.held.noEl i cs fr (.inr hi) e
  · exact row_apart h.its.row e (by decide) hi

theorem Gro.setB (h : Gro B w gb nb cap N kk tg kd mp σ r) : ∀ i, gset gb nb r.iv i → B ≤ i := by
  rintro i (hi | hi | hi)
  · exact h.held.gnB i (.inl hi)
  · exact h.held.gnB i (.inr hi)
  · exact (h.its.row.lt i hi).1

theorem Gro.setlt (h : Gro B w gb nb cap N kk tg kd mp σ r) : ∀ i, gset gb nb r.iv i → i < w.heap.size := by
  rintro i (hi | hi | hi)
  · rw [hi]; exact h.held.ltg
  · rw [hi]; exact h.held.ltn
  · exact (h.its.row.lt i hi).2

theorem Gro.N1 (h : Gro B w gb nb cap N kk tg kd mp σ r) : N ≤ 300 := by have := h.held.hL; omega

theorem Gro.els' (h : Gro B w gb nb cap N kk tg kd mp σ r) (hf : Fr (gset gb nb r.iv) w w') : ∀ i, 1 ≤ i → i ≤ N → kk i = 2 → El w' B (kd i) (tg i) (mp i) :=
  fun i h1 hN h2 => (h.els i h1 hN h2).fr hf h.noEl

theorem takeS2 (h : Gro B w gb nb cap N kk tg kd mp σ r) (hpl : 0 ≤ r.pl) (hpl2 : r.pl ≤ 1000000) (n : Nat) (h1 : 1 ≤ n) (hn : n ≤ N) :
    Calls Tryd.prog 30 #[.pointer (some ⟨gb, 0, none⟩), .int .i64 n] w fun e w' => e = .returned (.int .i64 (if σ.s.par n = 0 then 8 else 0)) ∧ ∃ r', Gro B w' gb nb cap N kk tg kd mp (σ.take N n) r' ∧ r.like r' 2 ∧ Fr (gset gb nb r.iv) w w' ∧ (r'.pl = r.pl → σ.take N n = σ) := by
  refine (takeC h.held h.wf h.its h.sound n hpl (by omega)).mono ?_
  rintro e w' ⟨q, rfl, hF, hcase⟩
  rcases hcase with ⟨_, hb, _⟩ | ⟨n', e1, _, _, hcase⟩
  · rw [hasB_nat h1 hn] at hb; cases hb
  · obtain rfl : n = n' := by omega
    rcases hcase with ⟨rfl, h0, rfl⟩ | ⟨rfl, h0, hH, hI⟩
    · refine ⟨by rw [if_pos h0], r, ?_, r.like_refl 2, hF, fun _ => by unfold St.take; rw [if_pos h0]⟩
      unfold St.take
      rw [if_pos h0]
      exact h
    · refine ⟨by rw [if_neg h0], _, ?_, (r.like_more).up (by omega), hF, fun e => absurd e (by show r.pl + 1 ≠ r.pl; omega)⟩
      unfold St.take
      rw [if_neg h0]
      have hwf := out_wf h.wf h1 hn
      have ho : Fo.out σ.s n = σ.s.remove n := by unfold Fo.out; rw [if_neg h0]
      rw [ho] at hwf
      refine ⟨hH, hwf, h.kinds, hI, fun it hit => ?_, h.els' hF⟩
      obtain ⟨it0, h2, rfl⟩ := List.mem_map.1 hit
      have := leave_sound h.wf (by omega) (h.sound it0 h2) h1 hn
      rw [ho] at this
      exact this

theorem putS2 (h : Gro B w gb nb cap N kk tg kd mp σ r) (hno : ∀ i, kk i ≠ 1) (hpl : 0 ≤ r.pl) (hpl2 : r.pl ≤ 1000000) (p c b : Nat) (h1 : 1 ≤ p) (hn : p ≤ N) (hc1 : 1 ≤ c) (hcN : c ≤ N) (hb : b = 0 ∨ b ∈ σ.K p) :
    Calls Tryd.prog 6 #[.pointer (some ⟨gb, 0, none⟩), .int .i64 p, .int .i64 c, .int .i64 b] w fun e w' => ∃ (q : Int) (r' : Re), e = .returned (.int .i64 q) ∧ (q = 0 ↔ kk p ≤ 2 ∧ withF σ.s N p c = false) ∧ Gro B w' gb nb cap N kk tg kd mp (σ.put N kk p c b) r' ∧ r.like r' 2 ∧ Fr (gset gb nb r.iv) w w' ∧ (r'.pl = r.pl → σ.put N kk p c b = σ) := by
  refine (putC h.held h.wf h.kinds h.its h.sound p c b hpl (by omega)).mono ?_
  rintro e w' ⟨q, rfl, hF, hq, hcase⟩
  have hq' := putErr_leafy h.wf hno h1 hn hc1 hcN hb hq
  have hw := Gv.within_iff h.wf (n := p) (t := c) hn hc1
  rcases hcase with ⟨hq0, hH, hI⟩ | ⟨hq0, p', c', b', e1, e2, e3, hH, hI⟩
  · have hnot : ¬ (kk p ≤ 2 ∧ withF σ.s N p c = false) := by
      rintro ⟨k1, k2⟩
      rcases hq' with ⟨h, _⟩ | ⟨_, h' | h'⟩
      · exact hq0 h
      · rw [hw.2 h'] at k2; cases k2
      · omega
    refine ⟨q, r, rfl, ⟨fun h => absurd h hq0, fun h => absurd h hnot⟩, ?_, r.like_refl 2, hF, fun _ => by unfold St.put; rw [if_neg hnot]⟩
    unfold St.put
    rw [if_neg hnot]
    exact ⟨hH, h.wf, h.kinds, hI, h.sound, h.els' hF⟩
  · obtain rfl : p = p' := by omega
    obtain rfl : c = c' := by omega
    obtain rfl : b = b' := by omega
    subst hq0
    obtain ⟨p2, c2, b2, f1, f2, f3, _, _, _, _, k1, _, k3, _⟩ := putErr_zero h.wf hq
    obtain rfl : p = p2 := by omega
    obtain rfl : c = c2 := by omega
    have hyes : kk p ≤ 2 ∧ withF σ.s N p c = false := by
      refine ⟨k1, ?_⟩
      cases e : withF σ.s N p c with
      | false => rfl
      | true => exact absurd (hw.1 e) k3
    refine ⟨0, _, rfl, ⟨fun _ => hyes, fun _ => rfl⟩, ?_, r.like_put σ.s c, hF, fun e => absurd e (Re.put_more r σ.s c)⟩
    unfold St.put
    rw [if_pos hyes]
    have hwf := put_chK h.wf hc1 hcN h1 hn k3 hb
    have hiv : (r.outed σ.s c).more.iv = r.iv := by show (r.outed σ.s c).iv = r.iv; exact r.outed_iv σ.s c
    refine ⟨hH, hwf, h.kinds, by rw [hiv]; exact hI, fun it hit => ?_, h.els' hF⟩
    have hout : ∀ it, it ∈ itsOut N σ.s c σ.its → it.Sound N (Fo.out σ.s c) := by
      intro it hit
      unfold itsOut at hit
      by_cases h0 : σ.s.par c = 0
      · rw [if_pos h0] at hit
        have ho : Fo.out σ.s c = σ.s := by unfold Fo.out; rw [if_pos h0]
        rw [ho]
        exact h.sound it hit
      · rw [if_neg h0] at hit
        obtain ⟨it0, h2, rfl⟩ := List.mem_map.1 hit
        exact leave_sound h.wf (by omega) (h.sound it0 h2) hc1 hcN
    obtain ⟨g1, g2, g3, g4, g5⟩ := hout it hit
    exact ⟨g1, g2, g3, g4, insert_within (out_wf h.wf hc1 hcN) (by rw [out_par, up_same]) hc1 g1 g5⟩

theorem takeS (h : Gro B w gb nb cap N kk tg kd mp σ r) (hpl : 0 ≤ r.pl) (hpl2 : r.pl ≤ 1000000) (n : Nat) (h1 : 1 ≤ n) (hn : n ≤ N) :
    Calls Tryd.prog 30 #[.pointer (some ⟨gb, 0, none⟩), .int .i64 n] w fun e w' => e = .returned (.int .i64 (if σ.s.par n = 0 then 8 else 0)) ∧ ∃ r', Gro B w' gb nb cap N kk tg kd mp (σ.take N n) r' ∧ r.like r' 2 ∧ Fr (gset gb nb r.iv) w w' :=
  (takeS2 h hpl hpl2 n h1 hn).mono fun _ _ ⟨a, r', b, c, d, _⟩ => ⟨a, r', b, c, d⟩

theorem putS (h : Gro B w gb nb cap N kk tg kd mp σ r) (hno : ∀ i, kk i ≠ 1) (hpl : 0 ≤ r.pl) (hpl2 : r.pl ≤ 1000000) (p c b : Nat) (h1 : 1 ≤ p) (hn : p ≤ N) (hc1 : 1 ≤ c) (hcN : c ≤ N) (hb : b = 0 ∨ b ∈ σ.K p) :
    Calls Tryd.prog 6 #[.pointer (some ⟨gb, 0, none⟩), .int .i64 p, .int .i64 c, .int .i64 b] w fun e w' => ∃ (q : Int) (r' : Re), e = .returned (.int .i64 q) ∧ (q = 0 ↔ kk p ≤ 2 ∧ withF σ.s N p c = false) ∧ Gro B w' gb nb cap N kk tg kd mp (σ.put N kk p c b) r' ∧ r.like r' 2 ∧ Fr (gset gb nb r.iv) w w' :=
  (putS2 h hno hpl hpl2 p c b h1 hn hc1 hcN hb).mono fun _ _ ⟨q, r', a, b, c, d, e, _⟩ => ⟨q, r', a, b, c, d, e⟩

theorem tdiv3_bounds {c : Int} (h1 : -9223372036854775808 ≤ c) (h2 : c ≤ 9223372036854775807) : -9223372036854775808 ≤ c.tdiv 3 ∧ c.tdiv 3 ≤ 9223372036854775807 := by
  by_cases h0 : 0 ≤ c
  · rw [Int.tdiv_eq_ediv_of_nonneg h0]; omega
  · have e : c.tdiv 3 = -((-c) / 3) := by
      have := Int.neg_tdiv (-c) 3
      rw [Int.neg_neg] at this
      rw [this, Int.tdiv_eq_ediv_of_nonneg (by omega)]
    rw [e]; omega

theorem befF_ok (K : Nat → List Nat) (p : Nat) (c : Int) : befF K p c = 0 ∨ befF K p c ∈ K p := by
  unfold befF
  split
  · rename_i hh
    right
    have hlt := pickF_lt (c.tdiv 3) (n := (K p).length) (by omega)
    rw [List.getD_eq_getElem?_getD, List.getElem?_eq_getElem hlt]
    exact List.getElem_mem _
  · exact .inl rfl

set_option maxRecDepth 100000 in
set_option maxHeartbeats 1000000 in
theorem changeS2 (h : Gro B w gb nb cap N kk tg kd mp σ r) (hno : ∀ i, kk i ≠ 1) (hpl : 0 ≤ r.pl) (hpl2 : r.pl ≤ 1000000) (hN : 1 ≤ N) (a b c : Int) (ha : -9223372036854775808 ≤ a ∧ a ≤ 9223372036854775807) (hb : -9223372036854775808 ≤ b ∧ b ≤ 9223372036854775807) (hc : -9223372036854775808 ≤ c ∧ c ≤ 9223372036854775807) :
    Calls Tryd.prog 11 #[.pointer (some ⟨gb, 0, none⟩), .int .i64 N, .int .i64 a, .int .i64 b, .int .i64 c] w fun e w' => e = .returned (.tuple #[]) ∧ ∃ r', Gro B w' gb nb cap N kk tg kd mp (σ.change N kk a b c) r' ∧ r.like r' 2 ∧ Fr (gset gb nb r.iv) w w' ∧ (r'.pl = r.pl → σ.change N kk a b c = σ) := by
  have HG : Hid (Gro B w gb nb cap N kk tg kd mp σ r) := h
  have HNo : Hid (∀ i, kk i ≠ 1) := hno
  have hN3 := h.N1
  have hfew : (σ.K (1 + pickF b N)).length ≤ N := h.wf.few _
  have pa := pickF_lt a (n := N) hN
  have pb := pickF_lt b (n := N) hN
  clear h hno
  go_enter Tryd.func11, Tryd.ntmps11
  go_wp2_with fail
  refine (pickX a N w hN (by omega) ha.1 ha.2).mono ?_
  rintro e w ⟨rfl, rfl⟩
  go_wp2_with fail
  refine (pickX b N w hN (by omega) hb.1 hb.2).mono ?_
  rintro e w ⟨rfl, rfl⟩
  go_wp2_with fail
  have HCH : Hid (σ.change N kk a b c = if pickF c 4 = 0 then σ.take N (1 + pickF a N) else σ.put N kk (1 + pickF b N) (1 + pickF a N) (befF σ.K (1 + pickF b N) c)) := rfl
  rw [show (1 + ((pickF a N : Nat) : Int)) = ((1 + pickF a N : Nat) : Int) from by omega, show (1 + ((pickF b N : Nat) : Int)) = ((1 + pickF b N : Nat) : Int) from by omega]
  have n1 : 1 ≤ 1 + pickF a N ∧ 1 + pickF a N ≤ N := by omega
  have p1 : 1 ≤ 1 + pickF b N ∧ 1 + pickF b N ≤ N := by omega
  clear pa pb
  generalize 1 + pickF a N = n at *
  generalize 1 + pickF b N = p at *
  refine (pickX c 4 w (by omega) (by omega) hc.1 hc.2).mono ?_
  rintro e w ⟨rfl, rfl⟩
  by_cases c4 : pickF c 4 = 0
  · have c4' : (((pickF c 4 : Nat) : Int) == 0) = true := by simp [c4]
    have HC : Hid (σ.change N kk a b c = σ.take N n) := by show σ.change N kk a b c = _; rw [HCH.out, if_pos c4]
    clear c4 HCH
    go_wp2_with fail
    refine (takeS2 HG.out hpl hpl2 n n1.1 n1.2).mono ?_
    rintro e w1 ⟨rfl, r', G1, L1, F1, X1⟩
    generalize (if σ.s.par n = 0 then (8 : Int) else 0) = q8
    have G1' : Hid _ := G1
    have L1' : Hid _ := L1
    have F1' : Hid _ := F1
    have X1' : Hid _ := X1
    clear G1 L1 F1 X1
    go_wp2_with fail
    (try simp only [Exit.inBlock, Exit.then])
    refine bodyPost_ret (results_none rfl _ _ _) rfl ?_
    exact ⟨rfl, r', by rw [HC.out]; exact G1'.out, L1'.out, F1'.out, fun e => by rw [HC.out]; exact X1'.out e⟩
  · have c4' : (((pickF c 4 : Nat) : Int) == 0) = false := by simp; omega
    have HC : Hid (σ.change N kk a b c = σ.put N kk p n (befF σ.K p c)) := by show σ.change N kk a b c = _; rw [HCH.out, if_neg c4]
    have HBok : Hid (befF σ.K p c = 0 ∨ befF σ.K p c ∈ σ.K p) := befF_ok σ.K p c
    clear c4 HCH
    go_wp2_with fail
    refine (kidsG HG.out.held HG.out.wf p p1.1 p1.2).mono ?_
    rintro e w1 ⟨kv, rfl, hkown, hkbel⟩
    obtain ⟨_, kao, kcap, hkv, hkc, hkn⟩ := nums_of hkown
    subst hkv
    have HKN : Hid (Nums w1 kao (σ.K p).length (σ.K p)) := hkn
    have G1 : Hid (Gro B w1 gb nb cap N kk tg kd mp σ r) := HG.out.since hkbel
    have F1 : Hid (Fr (gset gb nb r.iv) w w1) := Fr.of_below hkbel
    clear hkown hkbel hkn
    by_cases hl : 0 < (σ.K p).length
    · have hl' : (0 : Int) < (((σ.K p).length : Nat) : Int) := by omega
      go_wp2_with fail
      refine (pickX c 3 w1 (by omega) (by omega) hc.1 hc.2).mono ?_
      rintro e w1 ⟨rfl, rfl⟩
      by_cases c3 : 0 < pickF c 3
      · have c3' : (0 : Int) < ((pickF c 3 : Nat) : Int) := by omega
        have HBf : Hid (befF σ.K p c = (σ.K p).getD (pickF (c.tdiv 3) (σ.K p).length) 0) := by show befF σ.K p c = _; unfold befF; rw [if_pos ⟨hl, c3⟩]
        have hd3 := tdiv3_bounds hc.1 hc.2
        clear c3
        go_wp2_with fail
        refine (pickX (c.tdiv 3) (σ.K p).length w1 (by omega) (by omega) hd3.1 hd3.2).mono ?_
        rintro e w1 ⟨rfl, rfl⟩
        have pk := pickF_lt (c.tdiv 3) (n := (σ.K p).length) (by omega)
        rcases HKN.out with h0 | ⟨kg, hkg, hkgs, hkc'⟩
        · omega
        subst hkg
        have hcell := hkc' _ pk
        clear hkc'
        have HBf2 : Hid (befF σ.K p c = (σ.K p).getD (pickF (c.tdiv 3) (σ.K p).length) 0) := HBf.out
        clear HBf
        generalize (σ.K p).getD (pickF (c.tdiv 3) (σ.K p).length) 0 = bf at *
        generalize pickF (c.tdiv 3) (σ.K p).length = ix at *
        have ixl : (ix : Int) < (((σ.K p).length : Nat) : Int) := by omega
        go_wp2_with fail
        refine (putS2 G1.out HNo.out hpl hpl2 p n bf p1.1 p1.2 n1.1 n1.2 (by rw [← HBf2.out]; exact HBok.out)).mono ?_
        rintro e w2 ⟨q, r', rfl, -, G2, L2, F2, X2⟩
        have G2' : Hid _ := G2
        have L2' : Hid _ := L2
        have F2' : Hid _ := F2
        have X2' : Hid _ := X2
        clear G2 L2 F2 X2
        go_wp2_with fail
        go_end0
        exact ⟨rfl, r', by rw [HC.out, HBf2.out]; exact G2'.out, L2'.out, F1.out.trans F2'.out, fun e => by rw [HC.out, HBf2.out]; exact X2'.out e⟩
      · have c3' : ¬ (0 : Int) < ((pickF c 3 : Nat) : Int) := by omega
        have HBf : Hid (befF σ.K p c = 0) := by show befF σ.K p c = _; unfold befF; rw [if_neg (fun h => c3 h.2)]
        clear c3
        go_wp2_with fail
        refine (putS2 G1.out HNo.out hpl hpl2 p n 0 p1.1 p1.2 n1.1 n1.2 (.inl rfl)).mono ?_
        rintro e w2 ⟨q, r', rfl, -, G2, L2, F2, X2⟩
        have G2' : Hid _ := G2
        have L2' : Hid _ := L2
        have F2' : Hid _ := F2
        have X2' : Hid _ := X2
        clear G2 L2 F2 X2
        go_wp2_with fail
        go_end0
        exact ⟨rfl, r', by rw [HC.out, HBf.out]; exact G2'.out, L2'.out, F1.out.trans F2'.out, fun e => by rw [HC.out, HBf.out]; exact X2'.out e⟩
    · have hl' : ¬ (0 : Int) < (((σ.K p).length : Nat) : Int) := by omega
      have HBf : Hid (befF σ.K p c = 0) := by show befF σ.K p c = _; unfold befF; rw [if_neg (fun h => hl h.1)]
      clear hl
      go_wp2_with fail
      refine (putS2 G1.out HNo.out hpl hpl2 p n 0 p1.1 p1.2 n1.1 n1.2 (.inl rfl)).mono ?_
      rintro e w2 ⟨q, r', rfl, -, G2, L2, F2, X2⟩
      have G2' : Hid _ := G2
      have L2' : Hid _ := L2
      have F2' : Hid _ := F2
      have X2' : Hid _ := X2
      clear G2 L2 F2 X2
      go_wp2_with fail
      go_end0
      exact ⟨rfl, r', by rw [HC.out, HBf.out]; exact G2'.out, L2'.out, F1.out.trans F2'.out, fun e => by rw [HC.out, HBf.out]; exact X2'.out e⟩

theorem changeS (h : Gro B w gb nb cap N kk tg kd mp σ r) (hno : ∀ i, kk i ≠ 1) (hpl : 0 ≤ r.pl) (hpl2 : r.pl ≤ 1000000) (hN : 1 ≤ N) (a b c : Int) (ha : -9223372036854775808 ≤ a ∧ a ≤ 9223372036854775807) (hb : -9223372036854775808 ≤ b ∧ b ≤ 9223372036854775807) (hc : -9223372036854775808 ≤ c ∧ c ≤ 9223372036854775807) :
    Calls Tryd.prog 11 #[.pointer (some ⟨gb, 0, none⟩), .int .i64 N, .int .i64 a, .int .i64 b, .int .i64 c] w fun e w' => e = .returned (.tuple #[]) ∧ ∃ r', Gro B w' gb nb cap N kk tg kd mp (σ.change N kk a b c) r' ∧ r.like r' 2 ∧ Fr (gset gb nb r.iv) w w' :=
  (changeS2 h hno hpl hpl2 hN a b c ha hb hc).mono fun _ _ ⟨x, r', y, z, t, _⟩ => ⟨x, r', y, z, t⟩
end
end Go.Proofs.YtcedebpoihcbdaaDoor
