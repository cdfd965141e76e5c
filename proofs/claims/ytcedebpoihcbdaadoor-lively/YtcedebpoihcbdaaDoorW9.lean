/-
  What the law's 'tag' and 'made' do: a grove of so many nodes, none of which stands anywhere, the first an element, none a root.
-/
import Derived.Test.YtcedebpoihcbdaaDoorW6
import Derived.Test.YtcedebpoihcbdaaDoorW8
import Derived.OpenShut
namespace Go.Proofs.YtcedebpoihcbdaaDoor
open Go.RowKit Gv

/-- A slice of numbers that came in: empty, or so many cells, each within int's bounds. -/
def RawIs (w : World) (a : Option Addr) (n : Nat) (zs : List Int) : Prop :=
  n = 0 ∨ ∃ b off, a = some ⟨b, off, none⟩ ∧ b < w.heap.size ∧ ∀ i, i < n → w.cell? ⟨b, off + i, none⟩ = some (.int .i64 (zs.getD i 0)) ∧ -9223372036854775808 ≤ zs.getD i 0 ∧ zs.getD i 0 ≤ 9223372036854775807

theorem RawIs.below {w w' : World} {a : Option Addr} {n : Nat} {zs : List Int} (h : RawIs w a n zs) (hb : Below w.heap.size w w') : RawIs w' a n zs := by
  rcases h with h | ⟨b, off, e, hlt, hc⟩
  · exact .inl h
  · exact .inr ⟨b, off, e, Nat.lt_of_lt_of_le hlt hb.size, fun i hi => ⟨(hb.cell (p := ⟨b, off + i, none⟩) hlt).trans (hc i hi).1, (hc i hi).2⟩⟩

def strA : ByteArray := ⟨#[97]⟩
def strB : ByteArray := ⟨#[98]⟩
def strC : ByteArray := ⟨#[99]⟩

/-- The tags. -/
def tagS (i : Nat) : ByteArray := if i = 0 then strA else if i = 1 then strB else strC

theorem tagS_ok (i : Nat) : nameB (tagS i).data.toList = true ∧ (tagS i).size ≤ 8 := by
  unfold tagS
  split
  · exact ⟨by decide, by decide⟩
  · split
    · exact ⟨by decide, by decide⟩
    · exact ⟨by decide, by decide⟩

theorem tagX (c : Nat) (hc : c ≤ 1000) (w : World) :
    Calls Tryd.prog 15 #[.int .i64 c] w fun e w' => e = .returned (.string (tagS (c % 3))) ∧ Below w.heap.size w w' := by
  have hp : pickF c 3 = c % 3 := by unfold pickF; rw [if_neg (by omega)]; simp
  have HP : Hid (pickF c 3 = c % 3) := hp
  clear hp
  go_enter Tryd.func15, Tryd.ntmps15
  go_wp2_with fail
  refine (pickX c 3 _ (by omega) (by omega) (by omega) (by omega)).mono ?_
  rintro e w' ⟨rfl, rfl⟩
  rw [HP.out]
  obtain h | h | h : c % 3 = 0 ∨ c % 3 = 1 ∨ c % 3 = 2 := by omega
  all_goals
    rw [h]
    have HC : Hid (c % 3 = _) := h
    clear h HP
    go_wp2_with fail
    go_ret
    exact ⟨by rw [HC.out]; rfl, (Below.refl _ _).alloc (Nat.le_refl _) _⟩

theorem zeroF_lift (L : Nat) : zeroF.lift L 0 0 = zeroF := by
  have e : ∀ i, up (fun _ : Nat => (0 : Nat)) i 0 = fun _ => 0 := by intro i; funext x; simp [up]
  simp [Fo.lift, zeroF, e]

/-- None stands anywhere. -/
theorem loose_wf (N : Nat) : WF N zeroF (fun _ => []) := by
  refine ⟨rfl, ?_, ?_, ?_, ?_, ?_, ?_, ?_, ?_⟩
  · intro p k hk; simp at hk
  · intro k _ _ h; exact absurd rfl h
  · intro p; simp
  · intro p _ _; rfl
  · intro p _ _; rfl
  · intro p; trivial
  · intro k _; exact ⟨1, rfl⟩
  · simp only [List.length_nil, zeroF, if_true]

/-- The raw number of a node, from 0 on; what kind it makes, and what tag. -/
def rawAt (len : Nat) (zs : List Int) (k : Nat) : Nat := if k < len then pickF (zs.getD k 0) 12 else 0
def kkR (len : Nat) (zs : List Int) (i : Nat) : Nat := if i ≤ 1 ∨ rawAt len zs (i - 1) % 4 ≠ 3 then 2 else 3 + rawAt len zs (i - 1) / 4 % 2
def tgR (len : Nat) (zs : List Int) (i : Nat) : ByteArray := tagS (rawAt len zs (i - 1) % 3)

/-- A grove that has just been made: so many nodes, none stands anywhere. -/
structure Made (B : Nat) (w : World) (gb nb c k : Nat) (kk : Nat → Nat) (tg : Nat → ByteArray) (kd : Nat → Value) (mp : Nat → Nat) : Prop where
  held : Held w B gb nb c (k + 1) zeroF kd re0
  kinds : Kinds k kk kd
  els : ∀ i, 1 ≤ i → i ≤ k → kk i = 2 → El w B (kd i) (tg i) (mp i) ∧ B ≤ mp i ∧ w.heap[mp i]? = some (.map #[] 0)
  inj : ∀ i j, 1 ≤ i → i ≤ k → 1 ≤ j → j ≤ k → kk i = 2 → kk j = 2 → mp i = mp j → i = j

theorem Made.step {B : Nat} {w w3 w4 : World} {gb nb c k nb4 c4 : Nat} {kk : Nat → Nat} {tg : Nat → ByteArray} {kd : Nat → Value} {mp : Nat → Nat} {v : Value}
    (h : Made B w gb nb c k kk tg kd mp) (h3 : Below w.heap.size w w3) (h4 : Held w4 B gb nb4 c4 (k + 1 + 1) (zeroF.lift (k + 1) 0 0) (up kd (k + 1) v) re0) (hf : Fr (gn gb nb) w3 w4) (hv : NewVal w3 w4 (kk (k + 1)) (tg (k + 1)) v) (hB : B ≤ w3.heap.size) :
    ∃ mp', Made B w4 gb nb4 c4 (k + 1) kk tg (up kd (k + 1) v) mp' := by
  have hh3 := h.held.since h3
  have old : ∀ i, 1 ≤ i → i ≤ k → kk i = 2 → El w4 B (kd i) (tg i) (mp i) ∧ B ≤ mp i ∧ w4.heap[mp i]? = some (.map #[] 0) ∧ mp i < w3.heap.size := by
    intro i h1 hk hi
    obtain ⟨e1, e2, e3⟩ := h.els i h1 hk hi
    have e3' : w3.heap[mp i]? = some (.map #[] 0) := by rw [h3.block _ (lt_of_block e3)]; exact e3
    refine ⟨(e1.since h3).fr hf hh3.noEl, e2, ?_, lt_of_block e3'⟩
    rw [hf.block _ (lt_of_block e3') ?_]
    · exact e3'
    · obtain ⟨cur, hn, _⟩ := hh3.block
      rintro (e | e)
      · rw [e, hh3.g] at e3'; simp at e3'
      · rw [e, hn] at e3'; simp at e3'
  rw [zeroF_lift] at h4
  have kinds : Kinds (k + 1) kk (up kd (k + 1) v) := by
    intro i h1 h2
    by_cases e : i = k + 1
    · subst e; rw [up_same]; exact hv.1
    · rw [up_other _ _ _ e]; exact h.kinds i h1 (by omega)
  by_cases k2 : kk (k + 1) = 2
  · obtain ⟨mb, e1, e2, e3⟩ := hv.2 k2
    refine ⟨up mp (k + 1) mb, h4, kinds, fun i h1 hk hi => ?_, fun i j i1 ik j1 jk hi hj he => ?_⟩
    · by_cases e : i = k + 1
      · subst e
        rw [up_same, up_same]
        obtain ⟨eb, a1, a2, a3⟩ := e1
        exact ⟨⟨eb, a1, a2, by omega⟩, by omega, e3⟩
      · rw [up_other _ _ _ e, up_other _ _ _ e]
        have := old i h1 (by omega) hi
        exact ⟨this.1, this.2.1, this.2.2.1⟩
    · by_cases e : i = k + 1
      · by_cases e' : j = k + 1
        · omega
        · have := old j j1 (by omega) hj
          rw [e, up_same, up_other _ _ _ e'] at he
          omega
      · by_cases e' : j = k + 1
        · have := old i i1 (by omega) hi
          rw [e', up_same, up_other _ _ _ e] at he
          omega
        · rw [up_other _ _ _ e, up_other _ _ _ e'] at he
          exact h.inj i j i1 (by omega) j1 (by omega) hi hj he
  · have ne : ∀ i, kk i = 2 → i ≠ k + 1 := fun i hi e => k2 (e ▸ hi)
    refine ⟨mp, h4, kinds, fun i h1 hk hi => ?_, fun i j i1 ik j1 jk hi hj he => ?_⟩
    · have e := ne i hi
      have := old i h1 (by omega) hi
      rw [up_other _ _ _ e]
      exact ⟨this.1, this.2.1, this.2.2.1⟩
    · have e := ne i hi
      have e' := ne j hj
      exact h.inj i j i1 (by omega) j1 (by omega) hi hj he

theorem made_ok {w w' : World} {B gb nb L : Nat} {s : Fo} {kd : Nat → Value} {r : Re} {kind : Int} {t : ByteArray} {e : Ending}
    (h : (kindErr kind t ≠ 0 ∧ w' = w ∧ e = .returned (.tuple #[.int .i64 0, .int .i64 (kindErr kind t)])) ∨
      (kindErr kind t = 0 ∧ L = 301 ∧ Below w.heap.size w w' ∧ e = .returned (.tuple #[.int .i64 0, .int .i64 4])) ∨
      (kindErr kind t = 0 ∧ L ≤ 300 ∧ e = .returned (.tuple #[.int .i64 L, .int .i64 0]) ∧ ∃ (k nb' cap' : Nat) (v : Value), kind = k ∧ Held w' B gb nb' cap' (L + 1) (s.lift L 0 0) (up kd L v) r ∧ Fr (gn gb nb) w w' ∧ (nb' = nb ∨ w.heap.size ≤ nb') ∧ NewVal w w' k t v))
    (hk : kindErr kind t = 0) (hL : L ≤ 300) :
    e = .returned (.tuple #[.int .i64 L, .int .i64 0]) ∧ ∃ (k nb' cap' : Nat) (v : Value), kind = k ∧ Held w' B gb nb' cap' (L + 1) (s.lift L 0 0) (up kd L v) r ∧ Fr (gn gb nb) w w' ∧ (nb' = nb ∨ w.heap.size ≤ nb') ∧ NewVal w w' k t v := by
  rcases h with h | h | h
  · exact absurd hk h.1
  · omega
  · exact h.2.2

set_option maxRecDepth 100000 in
set_option maxHeartbeats 4000000 in
theorem madeL (w : World) (n : Nat) (a : Option Addr) (len cap : Nat) (zs : List Int) (hn : n ≤ 100) (hlen : len ≤ maxLen) (hr : RawIs w a len zs) :
    Calls Tryd.prog 5 #[.int .i64 n, .slice a len cap] w fun e w' => ∃ gb nb c kd mp, e = .returned (.pointer (some ⟨gb, 0, none⟩)) ∧ Made w.heap.size w' gb nb c n (kkR len zs) (tgR len zs) kd mp ∧ Below w.heap.size w w' := by
  unfold maxLen at hlen
  have HR : Hid (RawIs w a len zs) := hr
  clear hr
  go_enter Tryd.func5, Tryd.ntmps5
  go_wp2_with fail
  refine (newG w).mono ?_
  rintro e w1 ⟨gb, nb0, rfl, H0, B0⟩
  have HH0 : Hid _ := H0
  have HB0 : Hid _ := B0
  clear H0 B0
  go_wp2_with fail
  go_loopw [6] (fun i wr => ∃ (k nb c : Nat) (kd : Nat → Value) (mp : Nat → Nat), k ≤ n ∧ i = .int .i64 k ∧ Made w.heap.size wr gb nb c k (kkR len zs) (tgR len zs) kd mp ∧ Below w.heap.size w wr) (fun i _ => n - (intOf i).toNat)
  case atStart => exact ⟨0, nb0, 1, noKind, fun _ => 0, Nat.zero_le _, rfl, ⟨HH0.out, fun i h1 h2 => by omega, fun i h1 h2 => by omega, fun i j h1 h2 => by omega⟩, HB0.out⟩
  case round =>
    obtain ⟨k, nb, c, kd, mp, hk, rfl, hM, hbel⟩ := hrel
    have HM : Hid _ := hM
    have HB : Hid (Below w.heap.size w wr) := hbel
    clear hM hbel HH0 HB0
    by_cases hkn : k < n
    · by_cases hkl : k < len
      · rcases HR.out with h0 | ⟨b, off, ha, hbs, hcs⟩
        · omega
        subst ha
        have hcell : wr.cell? ⟨b, off + k, none⟩ = some (.int .i64 (zs.getD k 0)) := (HB.out.cell (p := ⟨b, off + k, none⟩) hbs).trans (hcs k hkl).1
        have hbd := (hcs k hkl).2
        have hra : rawAt len zs k = pickF (zs.getD k 0) 12 := by unfold rawAt; rw [if_pos hkl]
        have RA0 : Hid (rawAt len zs k = pickF (zs.getD k 0) 12) := hra
        clear hcs hra
        have hi : (k : Int) < (len : Int) := by omega
        have hr := pickF_lt (zs.getD k 0) (n := 12) (by omega)
        go_wp2_with fail
        refine (pickX (zs.getD k 0) 12 wr (by omega) (by omega) hbd.1 hbd.2).mono ?_
        rintro e wr ⟨rfl, rfl⟩
        clear hcell hbd
        generalize pickF (zs.getD k 0) 12 = r at *
        have RA : Hid (rawAt len zs k = r) := RA0.out
        clear RA0
        by_cases k0 : k = 0
        · have k0' : decide (0 < (k : Int)) = false := by simp; omega
          go_wp2_with fail
          refine (tagX r (by omega) wr).mono ?_
          rintro e w3 ⟨rfl, hb3⟩
          have HM3 : Hid (Below wr.heap.size wr w3) := hb3
          clear hb3
          have HKK : Hid (kkR len zs (k + 1) = 2) := by
            show kkR len zs (k + 1) = 2
            simp [kkR, k0]
          have HTG : Hid (tgR len zs (k + 1) = tagS (r % 3)) := by
            show tgR len zs (k + 1) = _
            simp only [tgR, Nat.add_sub_cancel, RA.out]
          have ts := tagS_ok (r % 3)
          have HE : Hid (kindErr 2 (tagS (r % 3)) = 0) := by
            show kindErr 2 (tagS (r % 3)) = 0
            simp [kindErr, ts.1]
          have HTS : Hid ((tagS (r % 3)).size ≤ maxLen) := by show (tagS (r % 3)).size ≤ maxLen; unfold maxLen; omega
          clear ts
          generalize htt : tagS (r % 3) = t at *
          go_wp2_with fail
          refine (makeC (HM.out.held.since HM3.out) (by omega) 2 t HTS.out).mono ?_
          rintro e w4 hc
          obtain ⟨rfl, k2, nb4, c4, v, hk2, H4, F4, -, V4⟩ := made_ok hc HE.out (by omega)
          obtain rfl : k2 = 2 := by omega
          obtain ⟨mp4, HM4⟩ := HM.out.step HM3.out H4 F4 (by rw [HKK.out, HTG.out]; exact V4) (Nat.le_trans HB.out.size HM3.out.size)
          have HM4' : Hid _ := HM4
          have HB4 : Hid (Below w.heap.size w w4) := (HB.out.trans (HM3.out.mono HB.out.size)).trans (F4.below (Nat.le_trans HB.out.size HM3.out.size) (HM.out.held.since HM3.out).gnB)
          clear H4 F4 V4 HM4 hk2 hc
          go_wp2_with fail
          go_roundw
          case rel => exact ⟨k + 1, nb4, c4, _, mp4, hkn, by go_num, HM4'.out, HB4.out⟩
          case measure => simp [intOf]; omega
        · have k0' : decide (0 < (k : Int)) = true := by simp; omega
          by_cases m3 : r % 4 = 3
          · have m3' : ((r : Int) % 4 == 3) = true := by simp; omega
            obtain q2 | q2 : r / 4 % 2 = 0 ∨ r / 4 % 2 = 1 := by omega
            · have e1 : ((r : Int) / 4 % 2) = 0 := by omega
              have HK3 : Hid (kkR len zs (k + 1) = 3) := by show kkR len zs (k + 1) = 3; simp [kkR, RA.out, m3, q2, k0]
              clear q2 m3
              go_wp2_with fail
              refine (tagX r (by omega) wr).mono ?_
              rintro e w3 ⟨rfl, hb3⟩
              have HM3 : Hid (Below wr.heap.size wr w3) := hb3
              clear hb3
              have HKK : Hid (kkR len zs (k + 1) = 3) := by
                show kkR len zs (k + 1) = 3
                exact HK3.out
              have HTG : Hid (tgR len zs (k + 1) = tagS (r % 3)) := by
                show tgR len zs (k + 1) = _
                simp only [tgR, Nat.add_sub_cancel, RA.out]
              have ts := tagS_ok (r % 3)
              have HE : Hid (kindErr 3 (tagS (r % 3)) = 0) := by
                show kindErr 3 (tagS (r % 3)) = 0
                simp [kindErr]; omega
              have HTS : Hid ((tagS (r % 3)).size ≤ maxLen) := by show (tagS (r % 3)).size ≤ maxLen; unfold maxLen; omega
              clear ts
              generalize htt : tagS (r % 3) = t at *
              go_wp2_with fail
              refine (makeC (HM.out.held.since HM3.out) (by omega) 3 t HTS.out).mono ?_
              rintro e w4 hc
              obtain ⟨rfl, k2, nb4, c4, v, hk2, H4, F4, -, V4⟩ := made_ok hc HE.out (by omega)
              obtain rfl : k2 = 3 := by omega
              obtain ⟨mp4, HM4⟩ := HM.out.step HM3.out H4 F4 (by rw [HKK.out, HTG.out]; exact V4) (Nat.le_trans HB.out.size HM3.out.size)
              have HM4' : Hid _ := HM4
              have HB4 : Hid (Below w.heap.size w w4) := (HB.out.trans (HM3.out.mono HB.out.size)).trans (F4.below (Nat.le_trans HB.out.size HM3.out.size) (HM.out.held.since HM3.out).gnB)
              clear H4 F4 V4 HM4 hk2 hc
              go_wp2_with fail
              go_roundw
              case rel => exact ⟨k + 1, nb4, c4, _, mp4, hkn, by go_num, HM4'.out, HB4.out⟩
              case measure => simp [intOf]; omega
            · have e1 : ((r : Int) / 4 % 2) = 1 := by omega
              have HK3 : Hid (kkR len zs (k + 1) = 4) := by show kkR len zs (k + 1) = 4; simp [kkR, RA.out, m3, q2, k0]
              clear q2 m3
              go_wp2_with fail
              refine (tagX r (by omega) wr).mono ?_
              rintro e w3 ⟨rfl, hb3⟩
              have HM3 : Hid (Below wr.heap.size wr w3) := hb3
              clear hb3
              have HKK : Hid (kkR len zs (k + 1) = 4) := by
                show kkR len zs (k + 1) = 4
                exact HK3.out
              have HTG : Hid (tgR len zs (k + 1) = tagS (r % 3)) := by
                show tgR len zs (k + 1) = _
                simp only [tgR, Nat.add_sub_cancel, RA.out]
              have ts := tagS_ok (r % 3)
              have HE : Hid (kindErr 4 (tagS (r % 3)) = 0) := by
                show kindErr 4 (tagS (r % 3)) = 0
                simp [kindErr]; omega
              have HTS : Hid ((tagS (r % 3)).size ≤ maxLen) := by show (tagS (r % 3)).size ≤ maxLen; unfold maxLen; omega
              clear ts
              generalize htt : tagS (r % 3) = t at *
              go_wp2_with fail
              refine (makeC (HM.out.held.since HM3.out) (by omega) 4 t HTS.out).mono ?_
              rintro e w4 hc
              obtain ⟨rfl, k2, nb4, c4, v, hk2, H4, F4, -, V4⟩ := made_ok hc HE.out (by omega)
              obtain rfl : k2 = 4 := by omega
              obtain ⟨mp4, HM4⟩ := HM.out.step HM3.out H4 F4 (by rw [HKK.out, HTG.out]; exact V4) (Nat.le_trans HB.out.size HM3.out.size)
              have HM4' : Hid _ := HM4
              have HB4 : Hid (Below w.heap.size w w4) := (HB.out.trans (HM3.out.mono HB.out.size)).trans (F4.below (Nat.le_trans HB.out.size HM3.out.size) (HM.out.held.since HM3.out).gnB)
              clear H4 F4 V4 HM4 hk2 hc
              go_wp2_with fail
              go_roundw
              case rel => exact ⟨k + 1, nb4, c4, _, mp4, hkn, by go_num, HM4'.out, HB4.out⟩
              case measure => simp [intOf]; omega
          · have m3' : ((r : Int) % 4 == 3) = false := by simp; omega
            have HK3 : Hid (kkR len zs (k + 1) = 2) := by show kkR len zs (k + 1) = 2; simp [kkR, RA.out, m3]
            clear m3
            go_wp2_with fail
            refine (tagX r (by omega) wr).mono ?_
            rintro e w3 ⟨rfl, hb3⟩
            have HM3 : Hid (Below wr.heap.size wr w3) := hb3
            clear hb3
            have HKK : Hid (kkR len zs (k + 1) = 2) := by
              show kkR len zs (k + 1) = 2
              exact HK3.out
            have HTG : Hid (tgR len zs (k + 1) = tagS (r % 3)) := by
              show tgR len zs (k + 1) = _
              simp only [tgR, Nat.add_sub_cancel, RA.out]
            have ts := tagS_ok (r % 3)
            have HE : Hid (kindErr 2 (tagS (r % 3)) = 0) := by
              show kindErr 2 (tagS (r % 3)) = 0
              simp [kindErr, ts.1]
            have HTS : Hid ((tagS (r % 3)).size ≤ maxLen) := by show (tagS (r % 3)).size ≤ maxLen; unfold maxLen; omega
            clear ts
            generalize htt : tagS (r % 3) = t at *
            go_wp2_with fail
            refine (makeC (HM.out.held.since HM3.out) (by omega) 2 t HTS.out).mono ?_
            rintro e w4 hc
            obtain ⟨rfl, k2, nb4, c4, v, hk2, H4, F4, -, V4⟩ := made_ok hc HE.out (by omega)
            obtain rfl : k2 = 2 := by omega
            obtain ⟨mp4, HM4⟩ := HM.out.step HM3.out H4 F4 (by rw [HKK.out, HTG.out]; exact V4) (Nat.le_trans HB.out.size HM3.out.size)
            have HM4' : Hid _ := HM4
            have HB4 : Hid (Below w.heap.size w w4) := (HB.out.trans (HM3.out.mono HB.out.size)).trans (F4.below (Nat.le_trans HB.out.size HM3.out.size) (HM.out.held.since HM3.out).gnB)
            clear H4 F4 V4 HM4 hk2 hc
            go_wp2_with fail
            go_roundw
            case rel => exact ⟨k + 1, nb4, c4, _, mp4, hkn, by go_num, HM4'.out, HB4.out⟩
            case measure => simp [intOf]; omega
      · have hi : ¬ (k : Int) < (len : Int) := by omega
        have RA : Hid (rawAt len zs k = 0) := by show rawAt len zs k = 0; unfold rawAt; rw [if_neg hkl]
        by_cases k0 : k = 0
        · have k0' : decide (0 < (k : Int)) = false := by simp; omega
          go_wp2_with fail
          refine (tagX 0 (by omega) wr).mono ?_
          rintro e w3 ⟨rfl, hb3⟩
          have HM3 : Hid (Below wr.heap.size wr w3) := hb3
          clear hb3
          have HKK : Hid (kkR len zs (k + 1) = 2) := by
            show kkR len zs (k + 1) = 2
            simp [kkR, k0]
          have HTG : Hid (tgR len zs (k + 1) = tagS (0 % 3)) := by
            show tgR len zs (k + 1) = _
            simp only [tgR, Nat.add_sub_cancel, RA.out]
          have ts := tagS_ok (0 % 3)
          have HE : Hid (kindErr 2 (tagS (0 % 3)) = 0) := by
            show kindErr 2 (tagS (0 % 3)) = 0
            simp [kindErr, ts.1]
          have HTS : Hid ((tagS (0 % 3)).size ≤ maxLen) := by show (tagS (0 % 3)).size ≤ maxLen; unfold maxLen; omega
          clear ts
          generalize htt : tagS (0 % 3) = t at *
          go_wp2_with fail
          refine (makeC (HM.out.held.since HM3.out) (by omega) 2 t HTS.out).mono ?_
          rintro e w4 hc
          obtain ⟨rfl, k2, nb4, c4, v, hk2, H4, F4, -, V4⟩ := made_ok hc HE.out (by omega)
          obtain rfl : k2 = 2 := by omega
          obtain ⟨mp4, HM4⟩ := HM.out.step HM3.out H4 F4 (by rw [HKK.out, HTG.out]; exact V4) (Nat.le_trans HB.out.size HM3.out.size)
          have HM4' : Hid _ := HM4
          have HB4 : Hid (Below w.heap.size w w4) := (HB.out.trans (HM3.out.mono HB.out.size)).trans (F4.below (Nat.le_trans HB.out.size HM3.out.size) (HM.out.held.since HM3.out).gnB)
          clear H4 F4 V4 HM4 hk2 hc
          go_wp2_with fail
          go_roundw
          case rel => exact ⟨k + 1, nb4, c4, _, mp4, hkn, by go_num, HM4'.out, HB4.out⟩
          case measure => simp [intOf]; omega
        · have k0' : decide (0 < (k : Int)) = true := by simp; omega
          go_wp2_with fail
          refine (tagX 0 (by omega) wr).mono ?_
          rintro e w3 ⟨rfl, hb3⟩
          have HM3 : Hid (Below wr.heap.size wr w3) := hb3
          clear hb3
          have HKK : Hid (kkR len zs (k + 1) = 2) := by
            show kkR len zs (k + 1) = 2
            simp [kkR, RA.out]
          have HTG : Hid (tgR len zs (k + 1) = tagS (0 % 3)) := by
            show tgR len zs (k + 1) = _
            simp only [tgR, Nat.add_sub_cancel, RA.out]
          have ts := tagS_ok (0 % 3)
          have HE : Hid (kindErr 2 (tagS (0 % 3)) = 0) := by
            show kindErr 2 (tagS (0 % 3)) = 0
            simp [kindErr, ts.1]
          have HTS : Hid ((tagS (0 % 3)).size ≤ maxLen) := by show (tagS (0 % 3)).size ≤ maxLen; unfold maxLen; omega
          clear ts
          generalize htt : tagS (0 % 3) = t at *
          go_wp2_with fail
          refine (makeC (HM.out.held.since HM3.out) (by omega) 2 t HTS.out).mono ?_
          rintro e w4 hc
          obtain ⟨rfl, k2, nb4, c4, v, hk2, H4, F4, -, V4⟩ := made_ok hc HE.out (by omega)
          obtain rfl : k2 = 2 := by omega
          obtain ⟨mp4, HM4⟩ := HM.out.step HM3.out H4 F4 (by rw [HKK.out, HTG.out]; exact V4) (Nat.le_trans HB.out.size HM3.out.size)
          have HM4' : Hid _ := HM4
          have HB4 : Hid (Below w.heap.size w w4) := (HB.out.trans (HM3.out.mono HB.out.size)).trans (F4.below (Nat.le_trans HB.out.size HM3.out.size) (HM.out.held.since HM3.out).gnB)
          clear H4 F4 V4 HM4 hk2 hc
          go_wp2_with fail
          go_roundw
          case rel => exact ⟨k + 1, nb4, c4, _, mp4, hkn, by go_num, HM4'.out, HB4.out⟩
          case measure => simp [intOf]; omega
    · obtain rfl : k = n := by omega
      go_wp2_with fail
      go_ret
      exact ⟨gb, nb, c, kd, mp, rfl, HM.out, HB.out⟩
end Go.Proofs.YtcedebpoihcbdaaDoor
