/-
  The walk of the law 'Stepped'.
-/
import Derived.Test.YtcedebpoihcbdaaY5
import Derived.Deep.CutBlock
import Derived.Deep.DeepCutAuto
import Derived.Deep.RegionHeld
namespace Go.Proofs.Ytcedebpoihcbdaa
open Go.RowKit Gv

theorem no_desc_12' : ¬ Desc zeroF.par 1 2 := by
  rintro ⟨m, hm⟩
  cases m with
  | zero => simp [anc] at hm
  | succ m =>
    have e : anc zeroF.par (m + 1) 1 = anc zeroF.par m 0 := rfl
    rw [e, anc_zero rfl] at hm
    omega

def st0 : St := { s := zeroF, K := fun _ => [], its := [] }

theorem Made.gro {B : Nat} {w : World} {gb nb c N : Nat} {kk : Nat → Nat} {tg : Nat → ByteArray} {kd : Nat → Value} {mp : Nat → Nat} (h : Made B w gb nb c N kk tg kd mp) : Gro B w gb nb c N kk tg kd mp st0 re0 :=
  ⟨h.held, loose_wf N, h.kinds, its_none w B, fun it hit => by simp [st0] at hit, fun i h1 hN h2 => (h.els i h1 hN h2).1⟩

theorem seeB30 {k : Nat} (h1 : 1 ≤ k) (h4 : k ≤ 4) : seeB 30 k = true := by
  obtain rfl | rfl | rfl | rfl : k = 1 ∨ k = 2 ∨ k = 3 ∨ k = 4 := by omega
  · decide +kernel
  · decide +kernel
  · decide +kernel
  · decide +kernel

theorem KV.bound {k : Nat} {v : Value} (h : KV k v) : 1 ≤ k ∧ k ≤ 4 := by
  rcases h with ⟨rfl, _⟩ | ⟨rfl, _⟩ | ⟨rfl, _⟩ | ⟨rfl, _⟩ <;> omega

section
variable {B : Nat} {w : World} {gb nb cap N : Nat} {kk : Nat → Nat} {tg : Nat → ByteArray} {kd : Nat → Value} {mp : Nat → Nat} {σ : St} {r : Re}

/-- A filter that shows all, and has no rules, accepts all. -/
theorem Gro.accAll (h : Gro B w gb nb cap N kk tg kd mp σ r) (n : Nat) (h1 : 1 ≤ n) (hn : n ≤ N) : accB kk tg 30 [] n = true := by
  have hb := (h.kinds n h1 hn).bound
  simp [accB, saysF, seeB30 hb.1 hb.2, tagSays]

/-- What a step answers where all is shown. -/
def mF (s : Fo) (N : Nat) (i : Spot) (back : Bool) : Nat := if i.ahead = back then besF s N i.place i.root back else i.place

theorem stepOne (h : Gro B w gb nb cap N kk tg kd mp σ r) {it : It} (hits : σ.its = [it]) (hsee : it.see = 30) (hru : it.rules = .slice none 0 0) (back : Bool) :
    Calls Try.prog 17 #[.pointer (some ⟨gb, 0, none⟩), .int .i64 1, .bool back] w fun e w' => ∃ it' : It, e = .returned (.tuple #[.int .i64 (mF σ.s N it.spot back : Nat), .int .i64 0]) ∧ Gro B w' gb nb cap N kk tg kd mp { σ with its := [it'] } r ∧ Fr (gset gb nb r.iv) w w' ∧ it'.spot.root = it.spot.root ∧ it'.see = 30 ∧ it'.rules = .slice none 0 0 ∧ (mF σ.s N it.spot back = 0 → it' = it) ∧ (mF σ.s N it.spot back ≠ 0 → it'.spot.place = mF σ.s N it.spot back ∧ it'.spot.ahead = back) := by
  have hi : σ.its[0]? = some it := by rw [hits]; rfl
  have hR : Rls w B it.rules [] := by rw [hru]; exact rls_none w B
  obtain ⟨s1, s2, s3, s4, s5⟩ := h.sound it (by rw [hits]; simp)
  have hN1 : 1 ≤ N := by omega
  have hm : stepTo N σ.K (accB kk tg it.see []) it.spot back = mF σ.s N it.spot back := by
    rw [hsee, stepTo_all h.wf (fun n h1 hn => h.accAll n h1 hn) it.spot s1 s2 back]
    exact (seq_start h.wf hN1 it.spot s1 s2 ((P_mem h.wf hN1 s3 s4 s1).2 s5) back).symm
  refine (stepS h (i := 0) hi hR back).mono ?_
  rintro e w' ⟨rfl, hG, hF⟩
  rw [hm]
  have hset : σ.its.set 0 { it with spot := it.spot.stepped N σ.K (accB kk tg it.see []) back } = [{ it with spot := it.spot.stepped N σ.K (accB kk tg it.see []) back }] := by rw [hits]; rfl
  rw [hset] at hG
  refine ⟨_, rfl, hG, hF, ?_, hsee, hru, fun h0 => ?_, fun h0 => ?_⟩
  · show (it.spot.stepped N σ.K (accB kk tg it.see []) back).root = it.spot.root
    unfold Spot.stepped; split <;> rfl
  · unfold Spot.stepped; rw [hm, if_pos h0]
  · unfold Spot.stepped; rw [hm, if_neg h0]; exact ⟨rfl, rfl⟩

theorem mF_turn (s : Fo) (N : Nat) (i : Spot) (back : Bool) (h : i.ahead = !back) : mF s N i back = i.place := by
  unfold mF; rw [h, if_neg (by cases back <;> simp)]

theorem tdiv_bounds {c d : Int} (hd : 1 ≤ d) (h1 : -9223372036854775808 ≤ c) (h2 : c ≤ 9223372036854775807) : -9223372036854775808 ≤ c.tdiv d ∧ c.tdiv d ≤ 9223372036854775807 := by
  by_cases h0 : 0 ≤ c
  · rw [Int.tdiv_eq_ediv_of_nonneg h0]
    have a := Int.ediv_nonneg h0 (by omega : 0 ≤ d)
    have b := Int.ediv_le_self d h0
    omega
  · have e : c.tdiv d = -((-c) / d) := by
      have := Int.neg_tdiv (-c) d
      rw [Int.neg_neg] at this
      rw [this, Int.tdiv_eq_ediv_of_nonneg (by omega)]
    have a := Int.ediv_nonneg (by omega : 0 ≤ -c) (by omega : 0 ≤ d)
    have b := Int.ediv_le_self d (by omega : 0 ≤ -c)
    rw [e]; omega

/-- What 'change' does to one iterator: it keeps its root. -/
theorem change_one (N : Nat) (kk : Nat → Nat) (σ : St) (a b c : Int) {it : It} (h : σ.its = [it]) : ∃ it' : It, (σ.change N kk a b c).its = [it'] ∧ it'.spot.root = it.spot.root ∧ it'.see = it.see ∧ it'.rules = it.rules := by
  have key : ∀ (s : Fo) (n : Nat), ∃ it' : It, σ.its.map (It.leave N s n) = [it'] ∧ it'.spot.root = it.spot.root ∧ it'.see = it.see ∧ it'.rules = it.rules := by
    intro s n
    rw [h]
    exact ⟨_, rfl, Spot.leave_root N s n it.spot, rfl, rfl⟩
  unfold St.change
  split
  · unfold St.take
    split
    · exact ⟨it, h, rfl, rfl, rfl⟩
    · exact key _ _
  · unfold St.put
    split
    · show ∃ it' : It, itsOut N σ.s _ σ.its = [it'] ∧ _
      unfold itsOut
      split
      · exact ⟨it, h, rfl, rfl, rfl⟩
      · exact key _ _
    · exact ⟨it, h, rfl, rfl, rfl⟩

theorem change_none (N : Nat) (kk : Nat → Nat) (σ : St) (a b c : Int) (h : σ.its = []) : (σ.change N kk a b c).its = [] := by
  unfold St.change St.take St.put
  split
  · split
    · exact h
    · show σ.its.map _ = []; rw [h]; rfl
  · split
    · show itsOut N σ.s _ σ.its = []; unfold itsOut; rw [h]; split <;> rfl
    · exact h

theorem take_one (N : Nat) (σ : St) (n : Nat) {it : It} (h : σ.its = [it]) : ∃ it' : It, (σ.take N n).its = [it'] ∧ it'.spot.root = it.spot.root ∧ it'.see = it.see ∧ it'.rules = it.rules := by
  unfold St.take
  split
  · exact ⟨it, h, rfl, rfl, rfl⟩
  · rw [h]
    exact ⟨_, rfl, Spot.leave_root N σ.s n it.spot, rfl, rfl⟩
end

theorem Gro.drews {B : Nat} {w : World} {gb nb cap N : Nat} {kk : Nat → Nat} {tg : Nat → ByteArray} {kd : Nat → Value} {mp : Nat → Nat} {σ : St} {r : Re} (h : Gro B w gb nb cap N kk tg kd mp σ r) (w' : World) (hh : w'.heap = w.heap) : Gro B w' gb nb cap N kk tg kd mp σ r :=
  ⟨h.held.drews w' hh, h.wf, h.kinds, h.its.same (fun _ _ => by rw [hh]), h.sound, fun i h1 hN h2 => (h.els i h1 hN h2).drews w' hh⟩

theorem below_undrew {D : Nat} {a b : World} (h : Below D a.drew b) : Below D a b := ⟨h.os, h.tape, h.output, h.size, h.block⟩

set_option maxRecDepth 100000 in
set_option maxHeartbeats 16000000 in
theorem steppedWalk (a0 : Int) (a1 : Option Addr) (len1 cap1 : Nat) (z1 : List Int) (a2 : Option Addr) (len2 cap2 : Nat) (z2 : List Int) (w : World)
    (hlo : -9223372036854775808 ≤ a0) (hhi : a0 ≤ 9223372036854775807) (hl1 : len1 ≤ maxLen) (hr1 : RawIs w a1 len1 z1) (hr2 : RawIs w a2 len2 z2) :
    Calls Try.prog 4 #[.int .i64 a0, .slice a1 len1 cap1, .slice a2 len2 cap2] w fun e w' => e = .returned (.bool true) ∧ Below w.heap.size w w' := by
  have HL1 : Hid (len1 ≤ maxLen) := hl1
  have HR1 : Hid (RawIs w a1 len1 z1) := hr1
  have HR2 : Hid (RawIs w a2 len2 z2) := hr2
  clear hl1 hr1 hr2
  go_enter Try.func4, Try.ntmps4
  go_wp2_with fail
  refine (pickL a0 12 w (by omega) (by omega) hlo hhi).mono ?_
  rintro e w ⟨r, hr, rfl, rfl⟩
  clear hlo hhi
  go_wp2_with fail
  have hN : (2 + (r : Int)) = ((2 + r : Nat) : Int) := by omega
  rw [hN]
  clear hN
  have hN1 : 2 ≤ 2 + r := by omega
  have hN2 : 2 + r ≤ 13 := by omega
  clear hr
  generalize 2 + r = N at *
  refine (madeL w N a1 len1 cap1 z1 (by omega) HL1.out HR1.out).mono ?_
  rintro e w1 ⟨gb, nb, c, kd, mp, rfl, hM, hB⟩
  have HG0 : Hid (Gro w.heap.size w1 gb nb c N (kkR len1 z1) (tgR len1 z1) kd mp st0 re0) := hM.gro
  have HNo : Hid (∀ i, kkR len1 z1 i ≠ 1) := kkR_ne len1 z1
  have HK1 : Hid (kkR len1 z1 1 = 2) := kkR_one len1 z1
  have HB0 : Hid (Below w.heap.size w w1) := hB
  have hlen : len1 ≤ maxLen := HL1.out
  unfold maxLen at hlen
  clear hM hB HL1
  generalize kkR len1 z1 = kk at *
  generalize tgR len1 z1 = tg at *
  go_wp2_with fail
  refine (putS HG0.out HNo.out (by decide) (by decide) 1 2 0 (by omega) (by omega) (by omega) (by omega) (.inl rfl)).mono ?_
  rintro e w2 ⟨q, r0, rfl, hq, hG, hL, hF⟩
  have hq0 : q = 0 := by
    refine hq.2 ⟨by have := HK1.out; omega, ?_⟩
    cases e : withF st0.s N 1 2 with
    | false => rfl
    | true => exact absurd ((Gv.within_iff (loose_wf N) (by omega) (by omega)).1 e) no_desc_12'
  subst hq0
  have HITS : Hid ((St.put N kk st0 1 2 0).its = []) := by
    show (St.put N kk st0 1 2 0).its = []
    unfold St.put
    split
    · show itsOut N st0.s 2 st0.its = []
      unfold itsOut
      split <;> rfl
    · rfl
  have rp : 0 ≤ r0.pl ∧ r0.pl ≤ 2 := by
    have h1 := hL.2.2.2.2.1
    have h2 := hL.2.2.2.2.2
    have e : re0.pl = 0 := rfl
    omega
  have HG2 : Hid (Gro w.heap.size w2 gb nb c N kk tg kd mp (St.put N kk st0 1 2 0) r0) := hG
  have HB2 : Hid (Below w.heap.size w w2) := HB0.out.trans (hF.below HB0.out.size HG0.out.setB)
  have HRP : Hid (0 ≤ r0.pl ∧ r0.pl ≤ 2) := rp
  clear hq hG hL hF HG0 HB0 HK1 rp
  generalize St.put N kk st0 1 2 0 = σ0 at *
  go_upto_block 0 with fail
  go_cut [9] from 44 to 62 (fun s9 wx => ∃ (j : Nat) (σ : St) (r : Re), s9 = .int .i64 j ∧ Gro w.heap.size wx gb nb c N kk tg kd mp σ r ∧ σ.its = [] ∧ 0 ≤ r.pl ∧ r.pl ≤ 60 ∧ Below w.heap.size w wx)
  case first =>
    go_wp2_with fail
    go_loopw [9] (fun i wr => ∃ (k : Nat) (σ : St) (r : Re), k ≤ 13 ∧ k ≤ N ∧ i = .int .i64 k ∧ Gro w.heap.size wr gb nb c N kk tg kd mp σ r ∧ σ.its = [] ∧ 0 ≤ r.pl ∧ r.pl ≤ 2 + 2 * k ∧ Below w.heap.size w wr) (fun i _ => 20 - (intOf i).toNat)
    case atStart => exact ⟨0, σ0, r0, by omega, by omega, rfl, HG2.out, HITS.out, HRP.out.1, by have := HRP.out.2; omega, HB2.out⟩
    case round =>
      obtain ⟨k, σ, r, hk, hkN, rfl, hG, hits, hp0, hp1, hbel⟩ := hrel
      have G : Hid (Gro w.heap.size wr gb nb c N kk tg kd mp σ r) := hG
      have HIT : Hid (σ.its = []) := hits
      have HB : Hid (Below w.heap.size w wr) := hbel
      clear hG hits hbel HG2 HITS HB2 HRP
      by_cases hkl : k < len1
      · by_cases hkn : k < N
        · have t1 : (k : Int) < (len1 : Int) := by omega
          have t2 : (k : Int) < (N : Int) := by omega
          rcases HR1.out with h0 | ⟨b1, off, ha1, hbs, hcs⟩
          · omega
          subst ha1
          have d0 : wr.cell? ⟨b1, off + k, none⟩ = some (.int .i64 (z1.getD k 0)) := (HB.out.cell (p := ⟨b1, off + k, none⟩) hbs).trans (hcs k hkl).1
          have e0 := (hcs k hkl).2
          clear hcs
          generalize z1.getD k 0 = x0 at *
          go_wp2_with fail
          refine (changeS G.out HNo.out hp0 (by omega) (by omega) k x0 1 (by omega) e0 (by omega)).mono ?_
          rintro e w3 ⟨rfl, r3, g3, l3, f3⟩
          have G3 : Hid (Gro w.heap.size w3 gb nb c N kk tg kd mp (σ.change N kk k x0 1) r3) := g3
          have I3 : Hid ((σ.change N kk k x0 1).its = []) := change_none N kk σ k x0 1 HIT.out
          have p3 : 0 ≤ r3.pl ∧ r3.pl ≤ r.pl + 2 := ⟨by have := l3.2.2.2.2.1; omega, l3.2.2.2.2.2⟩
          have B3 : Hid (Below w.heap.size w w3) := HB.out.trans (f3.below HB.out.size G.out.setB)
          clear g3 l3 f3 d0
          go_wp2_with fail
          go_roundw
          case rel => exact ⟨k + 1, _, r3, by omega, hkn, by go_num, G3.out, I3.out, p3.1, by omega, B3.out⟩
          case measure => simp [intOf]; omega
        · have t1 : (k : Int) < (len1 : Int) := by omega
          have t2 : ¬ (k : Int) < (N : Int) := by omega
          go_wp2_with fail
          go_meet
          case rel => exact ⟨k, σ, r, rfl, G.out, HIT.out, hp0, by omega, HB.out⟩
      · have t1 : ¬ (k : Int) < (len1 : Int) := by omega
        go_wp2_with fail
        go_meet
        case rel => exact ⟨k, σ, r, rfl, G.out, HIT.out, hp0, by omega, HB.out⟩
  case rest =>
    obtain ⟨j0, σ, r, rfl, hG, hits, hp0, hp1, hbel⟩ := hcut
    have G : Hid (Gro w.heap.size wc gb nb c N kk tg kd mp σ r) := hG
    have HIT : Hid (σ.its = []) := hits
    have HB : Hid (Below w.heap.size w wc) := hbel
    clear hG hits hbel HG2 HITS HB2 HRP
    go_wp2_with fail
    refine (iterNil G.out (by rw [HIT.out]; simp) 1 (by omega) (by omega) 30 (by omega) (by omega)).mono ?_
    rintro e w3 ⟨rfl, iv, g3, f3⟩
    have GI : Hid (Gro w.heap.size w3 gb nb c N kk tg kd mp { σ with its := σ.its ++ [It.new 1 30 (.slice none 0 0)] } (r.setIv iv)) := g3
    have BI : Hid (Below w.heap.size w w3) := HB.out.trans (f3.below HB.out.size (fun i hi => G.out.setB i (hi.imp id .inr)))
    have ip : 0 ≤ (r.setIv iv).pl ∧ (r.setIv iv).pl ≤ 100 := ⟨hp0, by show r.pl ≤ 100; omega⟩
    have IE : Hid (({ σ with its := σ.its ++ [It.new 1 30 (.slice none 0 0)] } : St).its = [It.new 1 30 (.slice none 0 0)]) := by show σ.its ++ _ = _; rw [HIT.out]; rfl
    have HLEN : Hid (σ.its.length = 0) := by show σ.its.length = 0; rw [HIT.out]; rfl
    rw [HLEN.out]
    clear g3 f3 G HB hp0 hp1 HIT HLEN
    generalize ({ σ with its := σ.its ++ [It.new 1 30 (.slice none 0 0)] } : St) = σi at *
    generalize r.setIv iv = ri at *
    go_wp2_with fail
    go_loopw [12] (fun i wr => ∃ (k : Nat) (σ : St) (r : Re) (it : It), k ≤ 92 ∧ i = .int .i64 k ∧ Gro w.heap.size wr gb nb c N kk tg kd mp σ r ∧ σ.its = [it] ∧ it.spot.root = 1 ∧ it.see = 30 ∧ it.rules = .slice none 0 0 ∧ 0 ≤ r.pl ∧ r.pl ≤ 100 + 2 * k ∧ Below w.heap.size w wr) (fun i _ => 100 - (intOf i).toNat)
    case atStart => exact ⟨0, σi, ri, _, by omega, rfl, GI.out, IE.out, rfl, rfl, rfl, ip.1, by omega, BI.out⟩
    case round =>
      obtain ⟨k, σ, r, it, hk, rfl, hG, hits, hroot, hsee, hrul, hp0, hp1, hbel⟩ := hrel
      have G : Hid (Gro w.heap.size wr gb nb c N kk tg kd mp σ r) := hG
      have HIT : Hid (σ.its = [it]) := hits
      have HRT : Hid (it.spot.root = 1) := hroot
      have HSE : Hid (it.see = 30) := hsee
      have HRU : Hid (it.rules = .slice none 0 0) := hrul
      have HB : Hid (Below w.heap.size w wr) := hbel
      have hI0 : Hid (σ.its[0]? = some it) := by show σ.its[0]? = some it; rw [hits]; rfl
      obtain ⟨sr1, srN, sp1, spN, sd⟩ := hG.sound it (by rw [hits]; simp)
      have hmem : it.spot.place ∈ P N σ.K 1 := by have := (P_mem hG.wf (by omega) sp1 spN sr1).2 sd; rwa [hroot] at this
      obtain ⟨ix, hix⟩ := List.getElem?_of_mem hmem
      have HIX : Hid ((P N σ.K 1)[ix]? = some it.spot.place) := hix
      have HND : Hid ((P N σ.K 1).Nodup) := P_nodup hG.wf (by omega) (by omega)
      have hlen := P_len hG.wf (x := 1) (by omega) (by omega)
      have hixl := (List.getElem?_eq_some_iff.1 hix).1
      have HNB : Hid ((prevF σ.s N it.spot.place 1 = if ix = 0 then 0 else (P N σ.K 1).getD (ix - 1) 0) ∧ nextF σ.s (N + 1) it.spot.place 1 = (P N σ.K 1).getD (ix + 1) 0) := nb_fact hG.wf (by omega) (by omega) (by omega) hix
      have HPOS : Hid (∀ i, i < (P N σ.K 1).length → 1 ≤ (P N σ.K 1).getD i 0) := by
        intro i hi
        rw [List.getD_eq_getElem?_getD, List.getElem?_eq_getElem hi]
        exact (pre_le hG.wf N 1 _ (by omega) (by omega) (List.getElem_mem _)).1
      clear hG hits hroot hsee hrul hbel GI BI IE ip hmem hix sr1 srN sd
      by_cases hk2 : k + 2 < len2
      · by_cases hk90 : k < 90
        · have t1 : (k : Int) + 2 < (len2 : Int) := by omega
          have t2 : (k : Int) < 90 := by omega
          rcases HR2.out with h0 | ⟨b2, off, ha2, hbs, hcs⟩
          · omega
          subst ha2
          have D0' : Hid (w.cell? ⟨b2, off + k, none⟩ = some (.int .i64 (z2.getD k 0))) := (hcs k (by omega)).1
          have D1' : Hid (w.cell? ⟨b2, off + (k + 1), none⟩ = some (.int .i64 (z2.getD (k + 1) 0))) := (hcs (k + 1) (by omega)).1
          have D2 : Hid (w.cell? ⟨b2, off + (k + 2), none⟩ = some (.int .i64 (z2.getD (k + 2) 0))) := (hcs (k + 2) (by omega)).1
          have e1 := (hcs (k + 1) (by omega)).2
          have e2 := (hcs (k + 2) (by omega)).2
          have e0 := (hcs k (by omega)).2
          clear hcs
          generalize z2.getD k 0 = x0 at *
          generalize z2.getD (k + 1) 0 = x1 at *
          generalize z2.getD (k + 2) 0 = x2 at *
          have hrp : 0 ≤ r.pl ∧ r.pl ≤ 1000000 := by omega
          go_wp2_with fail
          refine (withinS G.out 1 (by omega) (by omega)).mono ?_
          rintro e w1 ⟨lg, lc, rfl, l1, hlc, b1⟩
          have G1 : Hid (Gro w.heap.size w1 gb nb c N kk tg kd mp σ r) := G.out.since b1
          have L1 : Hid (Lst w1 wr.heap.size lg (P N σ.K 1)) := l1
          have B1 : Hid (Below w.heap.size w w1) := HB.out.trans (b1.mono HB.out.size)
          clear l1 b1 G HB
          go_wp2_with fail
          refine (atC G1.out (i := 0) hI0.out).mono ?_
          rintro e w2 ⟨rfl, b2'⟩
          have G2 : Hid (Gro w.heap.size w2 gb nb c N kk tg kd mp σ r) := G1.out.since b2'
          have L2 : Hid (Lst w2 wr.heap.size lg (P N σ.K 1)) := L1.out.since b2'
          have B2 : Hid (Below w.heap.size w w2) := B1.out.trans (b2'.mono B1.out.size)
          clear b2' G1 L1 B1
          go_wp2_with fail
          refine (atS w2 (c := lc) L2.out HND.out (by omega) HIX.out).mono ?_
          rintro e w2 ⟨rfl, rfl⟩
          have d0 : w2.cell? ⟨b2, off + k, none⟩ = some (.int .i64 x0) := (B2.out.cell (p := ⟨b2, off + k, none⟩) hbs).trans D0'.out
          cases hbk : (x0.tmod 2 == 0) with
          | true =>
            cases hah : it.spot.ahead with
            | true =>
              by_cases i0 : ix = 0
              · have i0' : ¬ (0 : Int) < (ix : Int) := by omega
                -- nothing is answered
                have HM : Hid (mF σ.s N it.spot true = 0) := by
                  show mF σ.s N it.spot true = 0
                  unfold mF besF; rw [if_pos hah, if_pos rfl, HRT.out, HNB.out.1, if_pos i0]
                go_wp2_with fail
                refine (stepOne G2.out HIT.out HSE.out HRU.out true).mono ?_
                rintro e w3 ⟨itc, rfl, g3, f3, q1, q2, q3, q4, -⟩
                rw [HM.out]
                have GC : Hid (Gro w.heap.size w3 gb nb c N kk tg kd mp { σ with its := [itc] } r) := g3
                have BC : Hid (Below w.heap.size w w3) := B2.out.trans (f3.below B2.out.size G2.out.setB)
                have HROOT : Hid (itc.spot.root = 1) := by show itc.spot.root = 1; rw [q1]; exact HRT.out
                have HSEE : Hid (itc.see = 30) := q2
                have HRUL : Hid (itc.rules = .slice none 0 0) := q3
                clear g3 f3 q1 q2 q3 q4
                have D1 : Hid (w.cell? ⟨b2, off + (k + 1), none⟩ = some (.int .i64 x1)) := D1'.out
                have d1 : w3.cell? ⟨b2, off + (k + 1), none⟩ = some (.int .i64 x1) := (BC.out.cell (p := ⟨b2, off + (k + 1), none⟩) hbs).trans D1.out
                go_wp2_with fail
                have hpk := pickF_lt x1 (n := N - 1) (by omega)
                rw [show ((N : Int) - 1) = ((N - 1 : Nat) : Int) from by omega]
                refine (pickX x1 (N - 1) w3 (by omega) (by omega) e1.1 e1.2).mono ?_
                rintro e w3 ⟨rfl, rfl⟩
                go_wp2_with fail
                rw [show (2 + ((pickF x1 (N - 1) : Nat) : Int)) = ((2 + pickF x1 (N - 1) : Nat) : Int) from by omega]
                refine (goneS GC.out hrp.1 hrp.2 (it := itc) rfl HROOT.out (2 + pickF x1 (N - 1)) (by omega) (by omega)).mono ?_
                rintro e wg ⟨rfl, rg, gg, lg, fg⟩
                have GG : Hid (Gro w.heap.size wg gb nb c N kk tg kd mp (St.take N { σ with its := [itc] } (2 + pickF x1 (N - 1))) rg) := gg
                obtain ⟨itd, hd1, hd2, hd3, hd4⟩ := take_one N { σ with its := [itc] } (2 + pickF x1 (N - 1)) (it := itc) rfl
                have HD : Hid ((St.take N { σ with its := [itc] } (2 + pickF x1 (N - 1))).its = [itd] ∧ itd.spot.root = 1 ∧ itd.see = 30 ∧ itd.rules = .slice none 0 0) := ⟨hd1, by rw [hd2]; exact HROOT.out, by rw [hd3]; exact HSEE.out, by rw [hd4]; exact HRUL.out⟩
                have rgp : 0 ≤ rg.pl ∧ rg.pl ≤ r.pl + 2 := ⟨by have := lg.2.2.2.2.1; omega, lg.2.2.2.2.2⟩
                have BG : Hid (Below w.heap.size w wg) := BC.out.trans (fg.below BC.out.size GC.out.setB)
                clear gg lg fg hd1 hd2 hd3 hd4 hpk
                generalize St.take N { σ with its := [itc] } (2 + pickF x1 (N - 1)) = σ2 at *
                have d1 : wg.cell? ⟨b2, off + (k + 1), none⟩ = some (.int .i64 x1) := (BG.out.cell (p := ⟨b2, off + (k + 1), none⟩) hbs).trans D1.out
                have d2 : wg.cell? ⟨b2, off + (k + 2), none⟩ = some (.int .i64 x2) := (BG.out.cell (p := ⟨b2, off + (k + 2), none⟩) hbs).trans D2.out
                have t7 := tdiv_bounds (c := x1) (d := 7) (by omega) e1.1 e1.2
                have rgq : rg.pl ≤ 1000000 := by omega
                have v1 : (k : Int) + 1 < (len2 : Int) := by omega
                have v2 : (0 : Int) ≤ (k : Int) + 1 := by omega
                have v3 : (0 : Int) ≤ (k : Int) + 2 := by omega
                have v4 : ((k : Int) + 1).toNat = k + 1 := by omega
                have v5 : ((k : Int) + 2).toNat = k + 2 := by omega
                have v6 : IntKind.i64.wrap ((k : Int) + 1) = (k : Int) + 1 := IntWalk.i64_in _ (by omega)
                have v7 : IntKind.i64.wrap ((k : Int) + 2) = (k : Int) + 2 := IntWalk.i64_in _ (by omega)
                have v8 : IntKind.i64.wrap (x1.tdiv 7) = x1.tdiv 7 := IntWalk.i64_quo' x1 7 (by omega)
                go_wp2_with fail
                go_region_held (fun wx => wx.cell? ⟨b2, off + (k + 1), none⟩ = some (.int .i64 x1) ∧ wx.cell? ⟨b2, off + (k + 2), none⟩ = some (.int .i64 x2)) (first | exact ⟨y1, y2⟩ | exact ⟨d1, d2⟩ | go_keep) ((go_at_call 14; refine (changeS (w := wg.drew) (GG.out.drews wg.drew rfl) HNo.out rgp.1 rgq (by omega) x1 x2 (x1.tdiv 7) e1 e2 t7).mono ?_; rintro e wh ⟨rfl, rh, gh, lh, fh⟩; have BH : Below w.heap.size w wh := BG.out.trans (below_undrew (Fr.below (D := w.heap.size) fh BG.out.size (GG.out.drews wg.drew rfl).setB)); have y1 : wh.cell? ⟨b2, off + (k + 1), none⟩ = some (.int .i64 x1) := (BH.cell (p := ⟨b2, off + (k + 1), none⟩) hbs).trans D1.out; have y2 : wh.cell? ⟨b2, off + (k + 2), none⟩ = some (.int .i64 x2) := (BH.cell (p := ⟨b2, off + (k + 2), none⟩) hbs).trans D2.out))
                all_goals
                  obtain ⟨ite, he1, he2, he3, he4⟩ := change_one N kk σ2 x1 x2 (x1.tdiv 7) HD.out.1
                  have GH : Hid _ := gh
                  have HE : Hid ((St.change N kk σ2 x1 x2 (x1.tdiv 7)).its = [ite] ∧ ite.spot.root = 1 ∧ ite.see = 30 ∧ ite.rules = .slice none 0 0) := ⟨he1, by rw [he2]; exact HD.out.2.1, by rw [he3]; exact HD.out.2.2.1, by rw [he4]; exact HD.out.2.2.2⟩
                  have rhp : 0 ≤ rh.pl ∧ rh.pl ≤ rg.pl + 2 := ⟨by have := lh.2.2.2.2.1; omega, lh.2.2.2.2.2⟩
                  have BH' : Hid (Below w.heap.size w wh) := BG.out.trans (below_undrew (Fr.below (D := w.heap.size) fh BG.out.size (GG.out.drews wg.drew rfl).setB))
                  clear gh lh fh he1 he2 he3 he4 d1 d2
                  go_wp2_with fail
                  go_roundw
                  case rel => exact ⟨k + 3, _, rh, ite, by omega, by go_num, GH.out, HE.out.1, HE.out.2.1, HE.out.2.2.1, HE.out.2.2.2, rhp.1, by omega, BH'.out⟩
                  case measure => simp [intOf]; omega
              · have i0' : (0 : Int) < (ix : Int) := by omega
                have cell1 : w2.cell? ⟨lg, ix - 1, none⟩ = some (.int .i64 ((P N σ.K 1).getD (ix - 1) 0 : Nat)) := L2.out.2.2 (ix - 1) (by omega)
                have mpos := HPOS.out (ix - 1) (by omega)
                have HMV : Hid (mF σ.s N it.spot true = (P N σ.K 1).getD (ix - 1) 0) := by
                  show mF σ.s N it.spot true = _
                  unfold mF besF; rw [if_pos hah, if_pos rfl, HRT.out, HNB.out.1, if_neg i0]
                have ixe : ((ix : Int) - 1).toNat = ix - 1 := by omega
                have ixf : ((ix : Int) - 1) = ((ix - 1 : Nat) : Int) := by omega
                generalize (P N σ.K 1).getD (ix - 1) 0 = mv at *
                have HM : Hid (mF σ.s N it.spot true = mv) := by
                  show mF σ.s N it.spot true = mv
                  exact HMV.out
                clear hah
                go_wp2_with fail
                refine (stepOne G2.out HIT.out HSE.out HRU.out true).mono ?_
                rintro e w3 ⟨ita, rfl, g3, f3, q1, q2, q3, -, q5⟩
                rw [HM.out] at q5 ⊢
                obtain ⟨q6, q7⟩ := q5 (by omega)
                have GA : Hid (Gro w.heap.size w3 gb nb c N kk tg kd mp { σ with its := [ita] } r) := g3
                have BA : Hid (Below w.heap.size w w3) := B2.out.trans (f3.below B2.out.size G2.out.setB)
                have RA : Hid (ita.spot.root = 1) := by show ita.spot.root = 1; rw [q1]; exact HRT.out
                have SA : Hid (ita.see = 30) := q2
                have UA : Hid (ita.rules = .slice none 0 0) := q3
                have MA : Hid (mF σ.s N ita.spot false = mv) := by show mF σ.s N ita.spot false = mv; rw [mF_turn _ _ _ _ (by rw [q7]; rfl), q6]
                clear g3 f3 q1 q2 q3 q6 q7
                go_wp2_with fail
                refine (stepOne (σ := { σ with its := [ita] }) GA.out (it := ita) rfl SA.out UA.out false).mono ?_
                rintro e w4 ⟨itb, rfl, g3, f3, q1, q2, q3, -, q5⟩
                have MA' : mF ({ σ with its := [ita] } : St).s N ita.spot false = mv := MA.out
                rw [MA'] at q5 ⊢
                obtain ⟨q6, q7⟩ := q5 (by omega)
                have GB : Hid (Gro w.heap.size w4 gb nb c N kk tg kd mp { σ with its := [itb] } r) := g3
                have BB : Hid (Below w.heap.size w w4) := BA.out.trans (f3.below BA.out.size GA.out.setB)
                have RB : Hid (itb.spot.root = 1) := by show itb.spot.root = 1; rw [q1]; exact RA.out
                have SB : Hid (itb.see = 30) := q2
                have UB : Hid (itb.rules = .slice none 0 0) := q3
                have MB : Hid (mF σ.s N itb.spot true = mv) := by show mF σ.s N itb.spot true = mv; rw [mF_turn _ _ _ _ (by rw [q7]; rfl), q6]
                clear g3 f3 q1 q2 q3 q6 q7 MA'
                go_wp2_with fail
                refine (stepOne (σ := { σ with its := [itb] }) GB.out (it := itb) rfl SB.out UB.out true).mono ?_
                rintro e w5 ⟨itc, rfl, g3, f3, q1, q2, q3, -, -⟩
                have MB' : mF ({ σ with its := [itb] } : St).s N itb.spot true = mv := MB.out
                rw [MB']
                have GC : Hid (Gro w.heap.size w5 gb nb c N kk tg kd mp { σ with its := [itc] } r) := g3
                have BC : Hid (Below w.heap.size w w5) := BB.out.trans (f3.below BB.out.size GB.out.setB)
                have HROOT : Hid (itc.spot.root = 1) := by show itc.spot.root = 1; rw [q1]; exact RB.out
                have HSEE : Hid (itc.see = 30) := q2
                have HRUL : Hid (itc.rules = .slice none 0 0) := q3
                clear g3 f3 q1 q2 q3 MB'
                have D1 : Hid (w.cell? ⟨b2, off + (k + 1), none⟩ = some (.int .i64 x1)) := D1'.out
                have d1 : w5.cell? ⟨b2, off + (k + 1), none⟩ = some (.int .i64 x1) := (BC.out.cell (p := ⟨b2, off + (k + 1), none⟩) hbs).trans D1.out
                go_wp2_with fail
                have hpk := pickF_lt x1 (n := N - 1) (by omega)
                rw [show ((N : Int) - 1) = ((N - 1 : Nat) : Int) from by omega]
                refine (pickX x1 (N - 1) w5 (by omega) (by omega) e1.1 e1.2).mono ?_
                rintro e w5 ⟨rfl, rfl⟩
                go_wp2_with fail
                rw [show (2 + ((pickF x1 (N - 1) : Nat) : Int)) = ((2 + pickF x1 (N - 1) : Nat) : Int) from by omega]
                refine (goneS GC.out hrp.1 hrp.2 (it := itc) rfl HROOT.out (2 + pickF x1 (N - 1)) (by omega) (by omega)).mono ?_
                rintro e wg ⟨rfl, rg, gg, lg, fg⟩
                have GG : Hid (Gro w.heap.size wg gb nb c N kk tg kd mp (St.take N { σ with its := [itc] } (2 + pickF x1 (N - 1))) rg) := gg
                obtain ⟨itd, hd1, hd2, hd3, hd4⟩ := take_one N { σ with its := [itc] } (2 + pickF x1 (N - 1)) (it := itc) rfl
                have HD : Hid ((St.take N { σ with its := [itc] } (2 + pickF x1 (N - 1))).its = [itd] ∧ itd.spot.root = 1 ∧ itd.see = 30 ∧ itd.rules = .slice none 0 0) := ⟨hd1, by rw [hd2]; exact HROOT.out, by rw [hd3]; exact HSEE.out, by rw [hd4]; exact HRUL.out⟩
                have rgp : 0 ≤ rg.pl ∧ rg.pl ≤ r.pl + 2 := ⟨by have := lg.2.2.2.2.1; omega, lg.2.2.2.2.2⟩
                have BG : Hid (Below w.heap.size w wg) := BC.out.trans (fg.below BC.out.size GC.out.setB)
                clear gg lg fg hd1 hd2 hd3 hd4 hpk
                generalize St.take N { σ with its := [itc] } (2 + pickF x1 (N - 1)) = σ2 at *
                have d1 : wg.cell? ⟨b2, off + (k + 1), none⟩ = some (.int .i64 x1) := (BG.out.cell (p := ⟨b2, off + (k + 1), none⟩) hbs).trans D1.out
                have d2 : wg.cell? ⟨b2, off + (k + 2), none⟩ = some (.int .i64 x2) := (BG.out.cell (p := ⟨b2, off + (k + 2), none⟩) hbs).trans D2.out
                have t7 := tdiv_bounds (c := x1) (d := 7) (by omega) e1.1 e1.2
                have rgq : rg.pl ≤ 1000000 := by omega
                have v1 : (k : Int) + 1 < (len2 : Int) := by omega
                have v2 : (0 : Int) ≤ (k : Int) + 1 := by omega
                have v3 : (0 : Int) ≤ (k : Int) + 2 := by omega
                have v4 : ((k : Int) + 1).toNat = k + 1 := by omega
                have v5 : ((k : Int) + 2).toNat = k + 2 := by omega
                have v6 : IntKind.i64.wrap ((k : Int) + 1) = (k : Int) + 1 := IntWalk.i64_in _ (by omega)
                have v7 : IntKind.i64.wrap ((k : Int) + 2) = (k : Int) + 2 := IntWalk.i64_in _ (by omega)
                have v8 : IntKind.i64.wrap (x1.tdiv 7) = x1.tdiv 7 := IntWalk.i64_quo' x1 7 (by omega)
                go_wp2_with fail
                go_region_held (fun wx => wx.cell? ⟨b2, off + (k + 1), none⟩ = some (.int .i64 x1) ∧ wx.cell? ⟨b2, off + (k + 2), none⟩ = some (.int .i64 x2)) (first | exact ⟨y1, y2⟩ | exact ⟨d1, d2⟩ | go_keep) ((go_at_call 14; refine (changeS (w := wg.drew) (GG.out.drews wg.drew rfl) HNo.out rgp.1 rgq (by omega) x1 x2 (x1.tdiv 7) e1 e2 t7).mono ?_; rintro e wh ⟨rfl, rh, gh, lh, fh⟩; have BH : Below w.heap.size w wh := BG.out.trans (below_undrew (Fr.below (D := w.heap.size) fh BG.out.size (GG.out.drews wg.drew rfl).setB)); have y1 : wh.cell? ⟨b2, off + (k + 1), none⟩ = some (.int .i64 x1) := (BH.cell (p := ⟨b2, off + (k + 1), none⟩) hbs).trans D1.out; have y2 : wh.cell? ⟨b2, off + (k + 2), none⟩ = some (.int .i64 x2) := (BH.cell (p := ⟨b2, off + (k + 2), none⟩) hbs).trans D2.out))
                all_goals
                  obtain ⟨ite, he1, he2, he3, he4⟩ := change_one N kk σ2 x1 x2 (x1.tdiv 7) HD.out.1
                  have GH : Hid _ := gh
                  have HE : Hid ((St.change N kk σ2 x1 x2 (x1.tdiv 7)).its = [ite] ∧ ite.spot.root = 1 ∧ ite.see = 30 ∧ ite.rules = .slice none 0 0) := ⟨he1, by rw [he2]; exact HD.out.2.1, by rw [he3]; exact HD.out.2.2.1, by rw [he4]; exact HD.out.2.2.2⟩
                  have rhp : 0 ≤ rh.pl ∧ rh.pl ≤ rg.pl + 2 := ⟨by have := lh.2.2.2.2.1; omega, lh.2.2.2.2.2⟩
                  have BH' : Hid (Below w.heap.size w wh) := BG.out.trans (below_undrew (Fr.below (D := w.heap.size) fh BG.out.size (GG.out.drews wg.drew rfl).setB))
                  clear gh lh fh he1 he2 he3 he4 d1 d2
                  go_wp2_with fail
                  go_roundw
                  case rel => exact ⟨k + 3, _, rh, ite, by omega, by go_num, GH.out, HE.out.1, HE.out.2.1, HE.out.2.2.1, HE.out.2.2.2, rhp.1, by omega, BH'.out⟩
                  case measure => simp [intOf]; omega
            | false =>
              have mpos := sp1
              have HMV : Hid (mF σ.s N it.spot true = it.spot.place) := by show mF σ.s N it.spot true = _; unfold mF; rw [hah, if_neg (by simp)]
              generalize it.spot.place = mv at *
              have HM : Hid (mF σ.s N it.spot true = mv) := by
                show mF σ.s N it.spot true = mv
                exact HMV.out
              clear hah
              go_wp2_with fail
              refine (stepOne G2.out HIT.out HSE.out HRU.out true).mono ?_
              rintro e w3 ⟨ita, rfl, g3, f3, q1, q2, q3, -, q5⟩
              rw [HM.out] at q5 ⊢
              obtain ⟨q6, q7⟩ := q5 (by omega)
              have GA : Hid (Gro w.heap.size w3 gb nb c N kk tg kd mp { σ with its := [ita] } r) := g3
              have BA : Hid (Below w.heap.size w w3) := B2.out.trans (f3.below B2.out.size G2.out.setB)
              have RA : Hid (ita.spot.root = 1) := by show ita.spot.root = 1; rw [q1]; exact HRT.out
              have SA : Hid (ita.see = 30) := q2
              have UA : Hid (ita.rules = .slice none 0 0) := q3
              have MA : Hid (mF σ.s N ita.spot false = mv) := by show mF σ.s N ita.spot false = mv; rw [mF_turn _ _ _ _ (by rw [q7]; rfl), q6]
              clear g3 f3 q1 q2 q3 q6 q7
              go_wp2_with fail
              refine (stepOne (σ := { σ with its := [ita] }) GA.out (it := ita) rfl SA.out UA.out false).mono ?_
              rintro e w4 ⟨itb, rfl, g3, f3, q1, q2, q3, -, q5⟩
              have MA' : mF ({ σ with its := [ita] } : St).s N ita.spot false = mv := MA.out
              rw [MA'] at q5 ⊢
              obtain ⟨q6, q7⟩ := q5 (by omega)
              have GB : Hid (Gro w.heap.size w4 gb nb c N kk tg kd mp { σ with its := [itb] } r) := g3
              have BB : Hid (Below w.heap.size w w4) := BA.out.trans (f3.below BA.out.size GA.out.setB)
              have RB : Hid (itb.spot.root = 1) := by show itb.spot.root = 1; rw [q1]; exact RA.out
              have SB : Hid (itb.see = 30) := q2
              have UB : Hid (itb.rules = .slice none 0 0) := q3
              have MB : Hid (mF σ.s N itb.spot true = mv) := by show mF σ.s N itb.spot true = mv; rw [mF_turn _ _ _ _ (by rw [q7]; rfl), q6]
              clear g3 f3 q1 q2 q3 q6 q7 MA'
              go_wp2_with fail
              refine (stepOne (σ := { σ with its := [itb] }) GB.out (it := itb) rfl SB.out UB.out true).mono ?_
              rintro e w5 ⟨itc, rfl, g3, f3, q1, q2, q3, -, -⟩
              have MB' : mF ({ σ with its := [itb] } : St).s N itb.spot true = mv := MB.out
              rw [MB']
              have GC : Hid (Gro w.heap.size w5 gb nb c N kk tg kd mp { σ with its := [itc] } r) := g3
              have BC : Hid (Below w.heap.size w w5) := BB.out.trans (f3.below BB.out.size GB.out.setB)
              have HROOT : Hid (itc.spot.root = 1) := by show itc.spot.root = 1; rw [q1]; exact RB.out
              have HSEE : Hid (itc.see = 30) := q2
              have HRUL : Hid (itc.rules = .slice none 0 0) := q3
              clear g3 f3 q1 q2 q3 MB'
              have D1 : Hid (w.cell? ⟨b2, off + (k + 1), none⟩ = some (.int .i64 x1)) := D1'.out
              have d1 : w5.cell? ⟨b2, off + (k + 1), none⟩ = some (.int .i64 x1) := (BC.out.cell (p := ⟨b2, off + (k + 1), none⟩) hbs).trans D1.out
              go_wp2_with fail
              have hpk := pickF_lt x1 (n := N - 1) (by omega)
              rw [show ((N : Int) - 1) = ((N - 1 : Nat) : Int) from by omega]
              refine (pickX x1 (N - 1) w5 (by omega) (by omega) e1.1 e1.2).mono ?_
              rintro e w5 ⟨rfl, rfl⟩
              go_wp2_with fail
              rw [show (2 + ((pickF x1 (N - 1) : Nat) : Int)) = ((2 + pickF x1 (N - 1) : Nat) : Int) from by omega]
              refine (goneS GC.out hrp.1 hrp.2 (it := itc) rfl HROOT.out (2 + pickF x1 (N - 1)) (by omega) (by omega)).mono ?_
              rintro e wg ⟨rfl, rg, gg, lg, fg⟩
              have GG : Hid (Gro w.heap.size wg gb nb c N kk tg kd mp (St.take N { σ with its := [itc] } (2 + pickF x1 (N - 1))) rg) := gg
              obtain ⟨itd, hd1, hd2, hd3, hd4⟩ := take_one N { σ with its := [itc] } (2 + pickF x1 (N - 1)) (it := itc) rfl
              have HD : Hid ((St.take N { σ with its := [itc] } (2 + pickF x1 (N - 1))).its = [itd] ∧ itd.spot.root = 1 ∧ itd.see = 30 ∧ itd.rules = .slice none 0 0) := ⟨hd1, by rw [hd2]; exact HROOT.out, by rw [hd3]; exact HSEE.out, by rw [hd4]; exact HRUL.out⟩
              have rgp : 0 ≤ rg.pl ∧ rg.pl ≤ r.pl + 2 := ⟨by have := lg.2.2.2.2.1; omega, lg.2.2.2.2.2⟩
              have BG : Hid (Below w.heap.size w wg) := BC.out.trans (fg.below BC.out.size GC.out.setB)
              clear gg lg fg hd1 hd2 hd3 hd4 hpk
              generalize St.take N { σ with its := [itc] } (2 + pickF x1 (N - 1)) = σ2 at *
              have d1 : wg.cell? ⟨b2, off + (k + 1), none⟩ = some (.int .i64 x1) := (BG.out.cell (p := ⟨b2, off + (k + 1), none⟩) hbs).trans D1.out
              have d2 : wg.cell? ⟨b2, off + (k + 2), none⟩ = some (.int .i64 x2) := (BG.out.cell (p := ⟨b2, off + (k + 2), none⟩) hbs).trans D2.out
              have t7 := tdiv_bounds (c := x1) (d := 7) (by omega) e1.1 e1.2
              have rgq : rg.pl ≤ 1000000 := by omega
              have v1 : (k : Int) + 1 < (len2 : Int) := by omega
              have v2 : (0 : Int) ≤ (k : Int) + 1 := by omega
              have v3 : (0 : Int) ≤ (k : Int) + 2 := by omega
              have v4 : ((k : Int) + 1).toNat = k + 1 := by omega
              have v5 : ((k : Int) + 2).toNat = k + 2 := by omega
              have v6 : IntKind.i64.wrap ((k : Int) + 1) = (k : Int) + 1 := IntWalk.i64_in _ (by omega)
              have v7 : IntKind.i64.wrap ((k : Int) + 2) = (k : Int) + 2 := IntWalk.i64_in _ (by omega)
              have v8 : IntKind.i64.wrap (x1.tdiv 7) = x1.tdiv 7 := IntWalk.i64_quo' x1 7 (by omega)
              go_wp2_with fail
              go_region_held (fun wx => wx.cell? ⟨b2, off + (k + 1), none⟩ = some (.int .i64 x1) ∧ wx.cell? ⟨b2, off + (k + 2), none⟩ = some (.int .i64 x2)) (first | exact ⟨y1, y2⟩ | exact ⟨d1, d2⟩ | go_keep) ((go_at_call 14; refine (changeS (w := wg.drew) (GG.out.drews wg.drew rfl) HNo.out rgp.1 rgq (by omega) x1 x2 (x1.tdiv 7) e1 e2 t7).mono ?_; rintro e wh ⟨rfl, rh, gh, lh, fh⟩; have BH : Below w.heap.size w wh := BG.out.trans (below_undrew (Fr.below (D := w.heap.size) fh BG.out.size (GG.out.drews wg.drew rfl).setB)); have y1 : wh.cell? ⟨b2, off + (k + 1), none⟩ = some (.int .i64 x1) := (BH.cell (p := ⟨b2, off + (k + 1), none⟩) hbs).trans D1.out; have y2 : wh.cell? ⟨b2, off + (k + 2), none⟩ = some (.int .i64 x2) := (BH.cell (p := ⟨b2, off + (k + 2), none⟩) hbs).trans D2.out))
              all_goals
                obtain ⟨ite, he1, he2, he3, he4⟩ := change_one N kk σ2 x1 x2 (x1.tdiv 7) HD.out.1
                have GH : Hid _ := gh
                have HE : Hid ((St.change N kk σ2 x1 x2 (x1.tdiv 7)).its = [ite] ∧ ite.spot.root = 1 ∧ ite.see = 30 ∧ ite.rules = .slice none 0 0) := ⟨he1, by rw [he2]; exact HD.out.2.1, by rw [he3]; exact HD.out.2.2.1, by rw [he4]; exact HD.out.2.2.2⟩
                have rhp : 0 ≤ rh.pl ∧ rh.pl ≤ rg.pl + 2 := ⟨by have := lh.2.2.2.2.1; omega, lh.2.2.2.2.2⟩
                have BH' : Hid (Below w.heap.size w wh) := BG.out.trans (below_undrew (Fr.below (D := w.heap.size) fh BG.out.size (GG.out.drews wg.drew rfl).setB))
                clear gh lh fh he1 he2 he3 he4 d1 d2
                go_wp2_with fail
                go_roundw
                case rel => exact ⟨k + 3, _, rh, ite, by omega, by go_num, GH.out, HE.out.1, HE.out.2.1, HE.out.2.2.1, HE.out.2.2.2, rhp.1, by omega, BH'.out⟩
                case measure => simp [intOf]; omega
          | false =>
            cases hah : it.spot.ahead with
            | true =>
              have mpos := sp1
              have HMV : Hid (mF σ.s N it.spot false = it.spot.place) := by show mF σ.s N it.spot false = _; unfold mF; rw [hah, if_neg (by simp)]
              generalize it.spot.place = mv at *
              have HM : Hid (mF σ.s N it.spot false = mv) := by
                show mF σ.s N it.spot false = mv
                exact HMV.out
              clear hah
              go_wp2_with fail
              refine (stepOne G2.out HIT.out HSE.out HRU.out false).mono ?_
              rintro e w3 ⟨ita, rfl, g3, f3, q1, q2, q3, -, q5⟩
              rw [HM.out] at q5 ⊢
              obtain ⟨q6, q7⟩ := q5 (by omega)
              have GA : Hid (Gro w.heap.size w3 gb nb c N kk tg kd mp { σ with its := [ita] } r) := g3
              have BA : Hid (Below w.heap.size w w3) := B2.out.trans (f3.below B2.out.size G2.out.setB)
              have RA : Hid (ita.spot.root = 1) := by show ita.spot.root = 1; rw [q1]; exact HRT.out
              have SA : Hid (ita.see = 30) := q2
              have UA : Hid (ita.rules = .slice none 0 0) := q3
              have MA : Hid (mF σ.s N ita.spot true = mv) := by show mF σ.s N ita.spot true = mv; rw [mF_turn _ _ _ _ (by rw [q7]; rfl), q6]
              clear g3 f3 q1 q2 q3 q6 q7
              go_wp2_with fail
              refine (stepOne (σ := { σ with its := [ita] }) GA.out (it := ita) rfl SA.out UA.out true).mono ?_
              rintro e w4 ⟨itb, rfl, g3, f3, q1, q2, q3, -, q5⟩
              have MA' : mF ({ σ with its := [ita] } : St).s N ita.spot true = mv := MA.out
              rw [MA'] at q5 ⊢
              obtain ⟨q6, q7⟩ := q5 (by omega)
              have GB : Hid (Gro w.heap.size w4 gb nb c N kk tg kd mp { σ with its := [itb] } r) := g3
              have BB : Hid (Below w.heap.size w w4) := BA.out.trans (f3.below BA.out.size GA.out.setB)
              have RB : Hid (itb.spot.root = 1) := by show itb.spot.root = 1; rw [q1]; exact RA.out
              have SB : Hid (itb.see = 30) := q2
              have UB : Hid (itb.rules = .slice none 0 0) := q3
              have MB : Hid (mF σ.s N itb.spot false = mv) := by show mF σ.s N itb.spot false = mv; rw [mF_turn _ _ _ _ (by rw [q7]; rfl), q6]
              clear g3 f3 q1 q2 q3 q6 q7 MA'
              go_wp2_with fail
              refine (stepOne (σ := { σ with its := [itb] }) GB.out (it := itb) rfl SB.out UB.out false).mono ?_
              rintro e w5 ⟨itc, rfl, g3, f3, q1, q2, q3, -, -⟩
              have MB' : mF ({ σ with its := [itb] } : St).s N itb.spot false = mv := MB.out
              rw [MB']
              have GC : Hid (Gro w.heap.size w5 gb nb c N kk tg kd mp { σ with its := [itc] } r) := g3
              have BC : Hid (Below w.heap.size w w5) := BB.out.trans (f3.below BB.out.size GB.out.setB)
              have HROOT : Hid (itc.spot.root = 1) := by show itc.spot.root = 1; rw [q1]; exact RB.out
              have HSEE : Hid (itc.see = 30) := q2
              have HRUL : Hid (itc.rules = .slice none 0 0) := q3
              clear g3 f3 q1 q2 q3 MB'
              have D1 : Hid (w.cell? ⟨b2, off + (k + 1), none⟩ = some (.int .i64 x1)) := D1'.out
              have d1 : w5.cell? ⟨b2, off + (k + 1), none⟩ = some (.int .i64 x1) := (BC.out.cell (p := ⟨b2, off + (k + 1), none⟩) hbs).trans D1.out
              go_wp2_with fail
              have hpk := pickF_lt x1 (n := N - 1) (by omega)
              rw [show ((N : Int) - 1) = ((N - 1 : Nat) : Int) from by omega]
              refine (pickX x1 (N - 1) w5 (by omega) (by omega) e1.1 e1.2).mono ?_
              rintro e w5 ⟨rfl, rfl⟩
              go_wp2_with fail
              rw [show (2 + ((pickF x1 (N - 1) : Nat) : Int)) = ((2 + pickF x1 (N - 1) : Nat) : Int) from by omega]
              refine (goneS GC.out hrp.1 hrp.2 (it := itc) rfl HROOT.out (2 + pickF x1 (N - 1)) (by omega) (by omega)).mono ?_
              rintro e wg ⟨rfl, rg, gg, lg, fg⟩
              have GG : Hid (Gro w.heap.size wg gb nb c N kk tg kd mp (St.take N { σ with its := [itc] } (2 + pickF x1 (N - 1))) rg) := gg
              obtain ⟨itd, hd1, hd2, hd3, hd4⟩ := take_one N { σ with its := [itc] } (2 + pickF x1 (N - 1)) (it := itc) rfl
              have HD : Hid ((St.take N { σ with its := [itc] } (2 + pickF x1 (N - 1))).its = [itd] ∧ itd.spot.root = 1 ∧ itd.see = 30 ∧ itd.rules = .slice none 0 0) := ⟨hd1, by rw [hd2]; exact HROOT.out, by rw [hd3]; exact HSEE.out, by rw [hd4]; exact HRUL.out⟩
              have rgp : 0 ≤ rg.pl ∧ rg.pl ≤ r.pl + 2 := ⟨by have := lg.2.2.2.2.1; omega, lg.2.2.2.2.2⟩
              have BG : Hid (Below w.heap.size w wg) := BC.out.trans (fg.below BC.out.size GC.out.setB)
              clear gg lg fg hd1 hd2 hd3 hd4 hpk
              generalize St.take N { σ with its := [itc] } (2 + pickF x1 (N - 1)) = σ2 at *
              have d1 : wg.cell? ⟨b2, off + (k + 1), none⟩ = some (.int .i64 x1) := (BG.out.cell (p := ⟨b2, off + (k + 1), none⟩) hbs).trans D1.out
              have d2 : wg.cell? ⟨b2, off + (k + 2), none⟩ = some (.int .i64 x2) := (BG.out.cell (p := ⟨b2, off + (k + 2), none⟩) hbs).trans D2.out
              have t7 := tdiv_bounds (c := x1) (d := 7) (by omega) e1.1 e1.2
              have rgq : rg.pl ≤ 1000000 := by omega
              have v1 : (k : Int) + 1 < (len2 : Int) := by omega
              have v2 : (0 : Int) ≤ (k : Int) + 1 := by omega
              have v3 : (0 : Int) ≤ (k : Int) + 2 := by omega
              have v4 : ((k : Int) + 1).toNat = k + 1 := by omega
              have v5 : ((k : Int) + 2).toNat = k + 2 := by omega
              have v6 : IntKind.i64.wrap ((k : Int) + 1) = (k : Int) + 1 := IntWalk.i64_in _ (by omega)
              have v7 : IntKind.i64.wrap ((k : Int) + 2) = (k : Int) + 2 := IntWalk.i64_in _ (by omega)
              have v8 : IntKind.i64.wrap (x1.tdiv 7) = x1.tdiv 7 := IntWalk.i64_quo' x1 7 (by omega)
              go_wp2_with fail
              go_region_held (fun wx => wx.cell? ⟨b2, off + (k + 1), none⟩ = some (.int .i64 x1) ∧ wx.cell? ⟨b2, off + (k + 2), none⟩ = some (.int .i64 x2)) (first | exact ⟨y1, y2⟩ | exact ⟨d1, d2⟩ | go_keep) ((go_at_call 14; refine (changeS (w := wg.drew) (GG.out.drews wg.drew rfl) HNo.out rgp.1 rgq (by omega) x1 x2 (x1.tdiv 7) e1 e2 t7).mono ?_; rintro e wh ⟨rfl, rh, gh, lh, fh⟩; have BH : Below w.heap.size w wh := BG.out.trans (below_undrew (Fr.below (D := w.heap.size) fh BG.out.size (GG.out.drews wg.drew rfl).setB)); have y1 : wh.cell? ⟨b2, off + (k + 1), none⟩ = some (.int .i64 x1) := (BH.cell (p := ⟨b2, off + (k + 1), none⟩) hbs).trans D1.out; have y2 : wh.cell? ⟨b2, off + (k + 2), none⟩ = some (.int .i64 x2) := (BH.cell (p := ⟨b2, off + (k + 2), none⟩) hbs).trans D2.out))
              all_goals
                obtain ⟨ite, he1, he2, he3, he4⟩ := change_one N kk σ2 x1 x2 (x1.tdiv 7) HD.out.1
                have GH : Hid _ := gh
                have HE : Hid ((St.change N kk σ2 x1 x2 (x1.tdiv 7)).its = [ite] ∧ ite.spot.root = 1 ∧ ite.see = 30 ∧ ite.rules = .slice none 0 0) := ⟨he1, by rw [he2]; exact HD.out.2.1, by rw [he3]; exact HD.out.2.2.1, by rw [he4]; exact HD.out.2.2.2⟩
                have rhp : 0 ≤ rh.pl ∧ rh.pl ≤ rg.pl + 2 := ⟨by have := lh.2.2.2.2.1; omega, lh.2.2.2.2.2⟩
                have BH' : Hid (Below w.heap.size w wh) := BG.out.trans (below_undrew (Fr.below (D := w.heap.size) fh BG.out.size (GG.out.drews wg.drew rfl).setB))
                clear gh lh fh he1 he2 he3 he4 d1 d2
                go_wp2_with fail
                go_roundw
                case rel => exact ⟨k + 3, _, rh, ite, by omega, by go_num, GH.out, HE.out.1, HE.out.2.1, HE.out.2.2.1, HE.out.2.2.2, rhp.1, by omega, BH'.out⟩
                case measure => simp [intOf]; omega
            | false =>
              by_cases i1 : ix + 1 < (P N σ.K 1).length
              · have i1' : (ix : Int) + 1 < (((P N σ.K 1).length : Nat) : Int) := by omega
                have cell1 : w2.cell? ⟨lg, ix + 1, none⟩ = some (.int .i64 ((P N σ.K 1).getD (ix + 1) 0 : Nat)) := L2.out.2.2 (ix + 1) (by omega)
                have mpos := HPOS.out (ix + 1) i1
                have HMV : Hid (mF σ.s N it.spot false = (P N σ.K 1).getD (ix + 1) 0) := by
                  show mF σ.s N it.spot false = _
                  unfold mF besF; rw [if_pos hah, if_neg (by simp), HRT.out, HNB.out.2]
                generalize (P N σ.K 1).getD (ix + 1) 0 = mv at *
                have HM : Hid (mF σ.s N it.spot false = mv) := by
                  show mF σ.s N it.spot false = mv
                  exact HMV.out
                clear hah
                go_wp2_with fail
                refine (stepOne G2.out HIT.out HSE.out HRU.out false).mono ?_
                rintro e w3 ⟨ita, rfl, g3, f3, q1, q2, q3, -, q5⟩
                rw [HM.out] at q5 ⊢
                obtain ⟨q6, q7⟩ := q5 (by omega)
                have GA : Hid (Gro w.heap.size w3 gb nb c N kk tg kd mp { σ with its := [ita] } r) := g3
                have BA : Hid (Below w.heap.size w w3) := B2.out.trans (f3.below B2.out.size G2.out.setB)
                have RA : Hid (ita.spot.root = 1) := by show ita.spot.root = 1; rw [q1]; exact HRT.out
                have SA : Hid (ita.see = 30) := q2
                have UA : Hid (ita.rules = .slice none 0 0) := q3
                have MA : Hid (mF σ.s N ita.spot true = mv) := by show mF σ.s N ita.spot true = mv; rw [mF_turn _ _ _ _ (by rw [q7]; rfl), q6]
                clear g3 f3 q1 q2 q3 q6 q7
                go_wp2_with fail
                refine (stepOne (σ := { σ with its := [ita] }) GA.out (it := ita) rfl SA.out UA.out true).mono ?_
                rintro e w4 ⟨itb, rfl, g3, f3, q1, q2, q3, -, q5⟩
                have MA' : mF ({ σ with its := [ita] } : St).s N ita.spot true = mv := MA.out
                rw [MA'] at q5 ⊢
                obtain ⟨q6, q7⟩ := q5 (by omega)
                have GB : Hid (Gro w.heap.size w4 gb nb c N kk tg kd mp { σ with its := [itb] } r) := g3
                have BB : Hid (Below w.heap.size w w4) := BA.out.trans (f3.below BA.out.size GA.out.setB)
                have RB : Hid (itb.spot.root = 1) := by show itb.spot.root = 1; rw [q1]; exact RA.out
                have SB : Hid (itb.see = 30) := q2
                have UB : Hid (itb.rules = .slice none 0 0) := q3
                have MB : Hid (mF σ.s N itb.spot false = mv) := by show mF σ.s N itb.spot false = mv; rw [mF_turn _ _ _ _ (by rw [q7]; rfl), q6]
                clear g3 f3 q1 q2 q3 q6 q7 MA'
                go_wp2_with fail
                refine (stepOne (σ := { σ with its := [itb] }) GB.out (it := itb) rfl SB.out UB.out false).mono ?_
                rintro e w5 ⟨itc, rfl, g3, f3, q1, q2, q3, -, -⟩
                have MB' : mF ({ σ with its := [itb] } : St).s N itb.spot false = mv := MB.out
                rw [MB']
                have GC : Hid (Gro w.heap.size w5 gb nb c N kk tg kd mp { σ with its := [itc] } r) := g3
                have BC : Hid (Below w.heap.size w w5) := BB.out.trans (f3.below BB.out.size GB.out.setB)
                have HROOT : Hid (itc.spot.root = 1) := by show itc.spot.root = 1; rw [q1]; exact RB.out
                have HSEE : Hid (itc.see = 30) := q2
                have HRUL : Hid (itc.rules = .slice none 0 0) := q3
                clear g3 f3 q1 q2 q3 MB'
                have D1 : Hid (w.cell? ⟨b2, off + (k + 1), none⟩ = some (.int .i64 x1)) := D1'.out
                have d1 : w5.cell? ⟨b2, off + (k + 1), none⟩ = some (.int .i64 x1) := (BC.out.cell (p := ⟨b2, off + (k + 1), none⟩) hbs).trans D1.out
                go_wp2_with fail
                have hpk := pickF_lt x1 (n := N - 1) (by omega)
                rw [show ((N : Int) - 1) = ((N - 1 : Nat) : Int) from by omega]
                refine (pickX x1 (N - 1) w5 (by omega) (by omega) e1.1 e1.2).mono ?_
                rintro e w5 ⟨rfl, rfl⟩
                go_wp2_with fail
                rw [show (2 + ((pickF x1 (N - 1) : Nat) : Int)) = ((2 + pickF x1 (N - 1) : Nat) : Int) from by omega]
                refine (goneS GC.out hrp.1 hrp.2 (it := itc) rfl HROOT.out (2 + pickF x1 (N - 1)) (by omega) (by omega)).mono ?_
                rintro e wg ⟨rfl, rg, gg, lg, fg⟩
                have GG : Hid (Gro w.heap.size wg gb nb c N kk tg kd mp (St.take N { σ with its := [itc] } (2 + pickF x1 (N - 1))) rg) := gg
                obtain ⟨itd, hd1, hd2, hd3, hd4⟩ := take_one N { σ with its := [itc] } (2 + pickF x1 (N - 1)) (it := itc) rfl
                have HD : Hid ((St.take N { σ with its := [itc] } (2 + pickF x1 (N - 1))).its = [itd] ∧ itd.spot.root = 1 ∧ itd.see = 30 ∧ itd.rules = .slice none 0 0) := ⟨hd1, by rw [hd2]; exact HROOT.out, by rw [hd3]; exact HSEE.out, by rw [hd4]; exact HRUL.out⟩
                have rgp : 0 ≤ rg.pl ∧ rg.pl ≤ r.pl + 2 := ⟨by have := lg.2.2.2.2.1; omega, lg.2.2.2.2.2⟩
                have BG : Hid (Below w.heap.size w wg) := BC.out.trans (fg.below BC.out.size GC.out.setB)
                clear gg lg fg hd1 hd2 hd3 hd4 hpk
                generalize St.take N { σ with its := [itc] } (2 + pickF x1 (N - 1)) = σ2 at *
                have d1 : wg.cell? ⟨b2, off + (k + 1), none⟩ = some (.int .i64 x1) := (BG.out.cell (p := ⟨b2, off + (k + 1), none⟩) hbs).trans D1.out
                have d2 : wg.cell? ⟨b2, off + (k + 2), none⟩ = some (.int .i64 x2) := (BG.out.cell (p := ⟨b2, off + (k + 2), none⟩) hbs).trans D2.out
                have t7 := tdiv_bounds (c := x1) (d := 7) (by omega) e1.1 e1.2
                have rgq : rg.pl ≤ 1000000 := by omega
                have v1 : (k : Int) + 1 < (len2 : Int) := by omega
                have v2 : (0 : Int) ≤ (k : Int) + 1 := by omega
                have v3 : (0 : Int) ≤ (k : Int) + 2 := by omega
                have v4 : ((k : Int) + 1).toNat = k + 1 := by omega
                have v5 : ((k : Int) + 2).toNat = k + 2 := by omega
                have v6 : IntKind.i64.wrap ((k : Int) + 1) = (k : Int) + 1 := IntWalk.i64_in _ (by omega)
                have v7 : IntKind.i64.wrap ((k : Int) + 2) = (k : Int) + 2 := IntWalk.i64_in _ (by omega)
                have v8 : IntKind.i64.wrap (x1.tdiv 7) = x1.tdiv 7 := IntWalk.i64_quo' x1 7 (by omega)
                go_wp2_with fail
                go_region_held (fun wx => wx.cell? ⟨b2, off + (k + 1), none⟩ = some (.int .i64 x1) ∧ wx.cell? ⟨b2, off + (k + 2), none⟩ = some (.int .i64 x2)) (first | exact ⟨y1, y2⟩ | exact ⟨d1, d2⟩ | go_keep) ((go_at_call 14; refine (changeS (w := wg.drew) (GG.out.drews wg.drew rfl) HNo.out rgp.1 rgq (by omega) x1 x2 (x1.tdiv 7) e1 e2 t7).mono ?_; rintro e wh ⟨rfl, rh, gh, lh, fh⟩; have BH : Below w.heap.size w wh := BG.out.trans (below_undrew (Fr.below (D := w.heap.size) fh BG.out.size (GG.out.drews wg.drew rfl).setB)); have y1 : wh.cell? ⟨b2, off + (k + 1), none⟩ = some (.int .i64 x1) := (BH.cell (p := ⟨b2, off + (k + 1), none⟩) hbs).trans D1.out; have y2 : wh.cell? ⟨b2, off + (k + 2), none⟩ = some (.int .i64 x2) := (BH.cell (p := ⟨b2, off + (k + 2), none⟩) hbs).trans D2.out))
                all_goals
                  obtain ⟨ite, he1, he2, he3, he4⟩ := change_one N kk σ2 x1 x2 (x1.tdiv 7) HD.out.1
                  have GH : Hid _ := gh
                  have HE : Hid ((St.change N kk σ2 x1 x2 (x1.tdiv 7)).its = [ite] ∧ ite.spot.root = 1 ∧ ite.see = 30 ∧ ite.rules = .slice none 0 0) := ⟨he1, by rw [he2]; exact HD.out.2.1, by rw [he3]; exact HD.out.2.2.1, by rw [he4]; exact HD.out.2.2.2⟩
                  have rhp : 0 ≤ rh.pl ∧ rh.pl ≤ rg.pl + 2 := ⟨by have := lh.2.2.2.2.1; omega, lh.2.2.2.2.2⟩
                  have BH' : Hid (Below w.heap.size w wh) := BG.out.trans (below_undrew (Fr.below (D := w.heap.size) fh BG.out.size (GG.out.drews wg.drew rfl).setB))
                  clear gh lh fh he1 he2 he3 he4 d1 d2
                  go_wp2_with fail
                  go_roundw
                  case rel => exact ⟨k + 3, _, rh, ite, by omega, by go_num, GH.out, HE.out.1, HE.out.2.1, HE.out.2.2.1, HE.out.2.2.2, rhp.1, by omega, BH'.out⟩
                  case measure => simp [intOf]; omega
              · have i1' : ¬ (ix : Int) + 1 < (((P N σ.K 1).length : Nat) : Int) := by omega
                -- nothing is answered
                have HM : Hid (mF σ.s N it.spot false = 0) := by
                  show mF σ.s N it.spot false = 0
                  unfold mF besF; rw [if_pos hah, if_neg (by simp), HRT.out, HNB.out.2, List.getD_eq_getElem?_getD, List.getElem?_eq_none (by omega)]; rfl
                go_wp2_with fail
                refine (stepOne G2.out HIT.out HSE.out HRU.out false).mono ?_
                rintro e w3 ⟨itc, rfl, g3, f3, q1, q2, q3, q4, -⟩
                rw [HM.out]
                have GC : Hid (Gro w.heap.size w3 gb nb c N kk tg kd mp { σ with its := [itc] } r) := g3
                have BC : Hid (Below w.heap.size w w3) := B2.out.trans (f3.below B2.out.size G2.out.setB)
                have HROOT : Hid (itc.spot.root = 1) := by show itc.spot.root = 1; rw [q1]; exact HRT.out
                have HSEE : Hid (itc.see = 30) := q2
                have HRUL : Hid (itc.rules = .slice none 0 0) := q3
                clear g3 f3 q1 q2 q3 q4
                have D1 : Hid (w.cell? ⟨b2, off + (k + 1), none⟩ = some (.int .i64 x1)) := D1'.out
                have d1 : w3.cell? ⟨b2, off + (k + 1), none⟩ = some (.int .i64 x1) := (BC.out.cell (p := ⟨b2, off + (k + 1), none⟩) hbs).trans D1.out
                go_wp2_with fail
                have hpk := pickF_lt x1 (n := N - 1) (by omega)
                rw [show ((N : Int) - 1) = ((N - 1 : Nat) : Int) from by omega]
                refine (pickX x1 (N - 1) w3 (by omega) (by omega) e1.1 e1.2).mono ?_
                rintro e w3 ⟨rfl, rfl⟩
                go_wp2_with fail
                rw [show (2 + ((pickF x1 (N - 1) : Nat) : Int)) = ((2 + pickF x1 (N - 1) : Nat) : Int) from by omega]
                refine (goneS GC.out hrp.1 hrp.2 (it := itc) rfl HROOT.out (2 + pickF x1 (N - 1)) (by omega) (by omega)).mono ?_
                rintro e wg ⟨rfl, rg, gg, lg, fg⟩
                have GG : Hid (Gro w.heap.size wg gb nb c N kk tg kd mp (St.take N { σ with its := [itc] } (2 + pickF x1 (N - 1))) rg) := gg
                obtain ⟨itd, hd1, hd2, hd3, hd4⟩ := take_one N { σ with its := [itc] } (2 + pickF x1 (N - 1)) (it := itc) rfl
                have HD : Hid ((St.take N { σ with its := [itc] } (2 + pickF x1 (N - 1))).its = [itd] ∧ itd.spot.root = 1 ∧ itd.see = 30 ∧ itd.rules = .slice none 0 0) := ⟨hd1, by rw [hd2]; exact HROOT.out, by rw [hd3]; exact HSEE.out, by rw [hd4]; exact HRUL.out⟩
                have rgp : 0 ≤ rg.pl ∧ rg.pl ≤ r.pl + 2 := ⟨by have := lg.2.2.2.2.1; omega, lg.2.2.2.2.2⟩
                have BG : Hid (Below w.heap.size w wg) := BC.out.trans (fg.below BC.out.size GC.out.setB)
                clear gg lg fg hd1 hd2 hd3 hd4 hpk
                generalize St.take N { σ with its := [itc] } (2 + pickF x1 (N - 1)) = σ2 at *
                have d1 : wg.cell? ⟨b2, off + (k + 1), none⟩ = some (.int .i64 x1) := (BG.out.cell (p := ⟨b2, off + (k + 1), none⟩) hbs).trans D1.out
                have d2 : wg.cell? ⟨b2, off + (k + 2), none⟩ = some (.int .i64 x2) := (BG.out.cell (p := ⟨b2, off + (k + 2), none⟩) hbs).trans D2.out
                have t7 := tdiv_bounds (c := x1) (d := 7) (by omega) e1.1 e1.2
                have rgq : rg.pl ≤ 1000000 := by omega
                have v1 : (k : Int) + 1 < (len2 : Int) := by omega
                have v2 : (0 : Int) ≤ (k : Int) + 1 := by omega
                have v3 : (0 : Int) ≤ (k : Int) + 2 := by omega
                have v4 : ((k : Int) + 1).toNat = k + 1 := by omega
                have v5 : ((k : Int) + 2).toNat = k + 2 := by omega
                have v6 : IntKind.i64.wrap ((k : Int) + 1) = (k : Int) + 1 := IntWalk.i64_in _ (by omega)
                have v7 : IntKind.i64.wrap ((k : Int) + 2) = (k : Int) + 2 := IntWalk.i64_in _ (by omega)
                have v8 : IntKind.i64.wrap (x1.tdiv 7) = x1.tdiv 7 := IntWalk.i64_quo' x1 7 (by omega)
                go_wp2_with fail
                go_region_held (fun wx => wx.cell? ⟨b2, off + (k + 1), none⟩ = some (.int .i64 x1) ∧ wx.cell? ⟨b2, off + (k + 2), none⟩ = some (.int .i64 x2)) (first | exact ⟨y1, y2⟩ | exact ⟨d1, d2⟩ | go_keep) ((go_at_call 14; refine (changeS (w := wg.drew) (GG.out.drews wg.drew rfl) HNo.out rgp.1 rgq (by omega) x1 x2 (x1.tdiv 7) e1 e2 t7).mono ?_; rintro e wh ⟨rfl, rh, gh, lh, fh⟩; have BH : Below w.heap.size w wh := BG.out.trans (below_undrew (Fr.below (D := w.heap.size) fh BG.out.size (GG.out.drews wg.drew rfl).setB)); have y1 : wh.cell? ⟨b2, off + (k + 1), none⟩ = some (.int .i64 x1) := (BH.cell (p := ⟨b2, off + (k + 1), none⟩) hbs).trans D1.out; have y2 : wh.cell? ⟨b2, off + (k + 2), none⟩ = some (.int .i64 x2) := (BH.cell (p := ⟨b2, off + (k + 2), none⟩) hbs).trans D2.out))
                all_goals
                  obtain ⟨ite, he1, he2, he3, he4⟩ := change_one N kk σ2 x1 x2 (x1.tdiv 7) HD.out.1
                  have GH : Hid _ := gh
                  have HE : Hid ((St.change N kk σ2 x1 x2 (x1.tdiv 7)).its = [ite] ∧ ite.spot.root = 1 ∧ ite.see = 30 ∧ ite.rules = .slice none 0 0) := ⟨he1, by rw [he2]; exact HD.out.2.1, by rw [he3]; exact HD.out.2.2.1, by rw [he4]; exact HD.out.2.2.2⟩
                  have rhp : 0 ≤ rh.pl ∧ rh.pl ≤ rg.pl + 2 := ⟨by have := lh.2.2.2.2.1; omega, lh.2.2.2.2.2⟩
                  have BH' : Hid (Below w.heap.size w wh) := BG.out.trans (below_undrew (Fr.below (D := w.heap.size) fh BG.out.size (GG.out.drews wg.drew rfl).setB))
                  clear gh lh fh he1 he2 he3 he4 d1 d2
                  go_wp2_with fail
                  go_roundw
                  case rel => exact ⟨k + 3, _, rh, ite, by omega, by go_num, GH.out, HE.out.1, HE.out.2.1, HE.out.2.2.1, HE.out.2.2.2, rhp.1, by omega, BH'.out⟩
                  case measure => simp [intOf]; omega
        · have t1 : (k : Int) + 2 < (len2 : Int) := by omega
          have t2 : ¬ (k : Int) < 90 := by omega
          go_wp2_with fail
          refine (atC G.out (i := 0) hI0.out).mono ?_
          rintro e w2 ⟨rfl, b2'⟩
          have G2 : Hid (Gro w.heap.size w2 gb nb c N kk tg kd mp σ r) := G.out.since b2'
          have B2 : Hid (Below w.heap.size w w2) := HB.out.trans (b2'.mono HB.out.size)
          clear b2'
          go_wp2_with fail
          refine (withinS G2.out 1 (by omega) (by omega)).mono ?_
          rintro e w3 ⟨lg, lc, rfl, l1, hlc, b1⟩
          have L1 : Hid (Lst w3 w2.heap.size lg (P N σ.K 1)) := l1
          have B3 : Hid (Below w.heap.size w w3) := B2.out.trans (b1.mono B2.out.size)
          clear l1 b1
          go_wp2_with fail
          refine (atS w3 (c := lc) L1.out HND.out (by omega) HIX.out).mono ?_
          rintro e w3 ⟨rfl, rfl⟩
          go_wp2_with fail
          go_ret
          exact ⟨by simp, B3.out⟩
      · have t1 : ¬ (k : Int) + 2 < (len2 : Int) := by omega
        go_wp2_with fail
        refine (atC G.out (i := 0) hI0.out).mono ?_
        rintro e w2 ⟨rfl, b2'⟩
        have G2 : Hid (Gro w.heap.size w2 gb nb c N kk tg kd mp σ r) := G.out.since b2'
        have B2 : Hid (Below w.heap.size w w2) := HB.out.trans (b2'.mono HB.out.size)
        clear b2'
        go_wp2_with fail
        refine (withinS G2.out 1 (by omega) (by omega)).mono ?_
        rintro e w3 ⟨lg, lc, rfl, l1, hlc, b1⟩
        have L1 : Hid (Lst w3 w2.heap.size lg (P N σ.K 1)) := l1
        have B3 : Hid (Below w.heap.size w w3) := B2.out.trans (b1.mono B2.out.size)
        clear l1 b1
        go_wp2_with fail
        refine (atS w3 (c := lc) L1.out HND.out (by omega) HIX.out).mono ?_
        rintro e w3 ⟨rfl, rfl⟩
        go_wp2_with fail
        go_ret
        exact ⟨by simp, B3.out⟩
end Go.Proofs.Ytcedebpoihcbdaa
