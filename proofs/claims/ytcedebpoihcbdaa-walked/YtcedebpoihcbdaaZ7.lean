/-
  The walk of the law 'Walked'.
-/
import Derived.Test.YtcedebpoihcbdaaZ6
import Derived.Deep.CutBlock
import Derived.Deep.DeepCutAuto
import Derived.Deep.RegionHeld
namespace Go.Proofs.Ytcedebpoihcbdaa
open Go.RowKit Gv

theorem no_desc_12' : ¬ Desc zeroF.par 1 2 := by
  rintro ⟨m, hm⟩
  cases m with
  | zero => simp [anc] at hm
  | succ m =>
    have e : anc zeroF.par (m + 1) 1 = anc zeroF.par m 0 := rfl
    rw [e, anc_zero rfl] at hm
    omega

def st0 : St := { s := zeroF, K := fun _ => [], its := [] }

theorem Made.gro {B : Nat} {w : World} {gb nb c N : Nat} {kk : Nat → Nat} {tg : Nat → ByteArray} {kd : Nat → Value} {mp : Nat → Nat} (h : Made B w gb nb c N kk tg kd mp) : Gro B w gb nb c N kk tg kd mp st0 re0 :=
  ⟨h.held, loose_wf N, h.kinds, its_none w B, fun it hit => by simp [st0] at hit, fun i h1 hN h2 => (h.els i h1 hN h2).1⟩

theorem Gro.drews {B : Nat} {w : World} {gb nb cap N : Nat} {kk : Nat → Nat} {tg : Nat → ByteArray} {kd : Nat → Value} {mp : Nat → Nat} {σ : St} {r : Re} (h : Gro B w gb nb cap N kk tg kd mp σ r) (w' : World) (hh : w'.heap = w.heap) : Gro B w' gb nb cap N kk tg kd mp σ r :=
  ⟨h.held.drews w' hh, h.wf, h.kinds, h.its.same (fun _ _ => by rw [hh]), h.sound, fun i h1 hN h2 => (h.els i h1 hN h2).drews w' hh⟩

theorem below_undrew {D : Nat} {a b : World} (h : Below D a.drew b) : Below D a b := ⟨h.os, h.tape, h.output, h.size, h.block⟩

theorem wks_none (w : World) (B : Nat) : Wks w B (.slice none 0 0) [] := ⟨World.ownsRow_nil _ _ _ _, by simp⟩

section
variable {N : Nat} {s : Fo} {K : Nat → List Nat}

theorem on_step (h : WF N s K) (hN : 1 ≤ N) {i : Nat} (h1 : 1 ≤ i) (hi : i ≤ (P N K 1).length) : nextF s (N + 1) ((P N K 1).getD (i - 1) 0) 1 = (P N K 1).getD i 0 := by
  have hk : (P N K 1)[i - 1]? = some ((P N K 1).getD (i - 1) 0) := by rw [List.getD_eq_getElem?_getD, List.getElem?_eq_getElem (by omega)]; rfl
  rw [(nb_fact h hN (by omega) hN hk).2, show i - 1 + 1 = i by omega]

theorem back_step (h : WF N s K) (hN : 1 ≤ N) {t : Nat} (h1 : 1 ≤ t) (ht : t ≤ (P N K 1).length) : prevF s N ((P N K 1).getD (t - 1) 0) 1 = if t = 1 then 0 else (P N K 1).getD (t - 2) 0 := by
  have hk : (P N K 1)[t - 1]? = some ((P N K 1).getD (t - 1) 0) := by rw [List.getD_eq_getElem?_getD, List.getElem?_eq_getElem (by omega)]; rfl
  rw [(nb_fact h hN (by omega) hN hk).1]
  by_cases e : t = 1
  · rw [if_pos (by omega), if_pos e]
  · rw [if_neg (by omega), if_neg e, show t - 1 - 1 = t - 2 by omega]

theorem P_get (h : WF N s K) (hN : 1 ≤ N) {i : Nat} (hi : i < (P N K 1).length) : 1 ≤ (P N K 1).getD i 0 ∧ (P N K 1).getD i 0 ≤ N ∧ Desc s.par ((P N K 1).getD i 0) 1 := by
  have hm : (P N K 1).getD i 0 ∈ P N K 1 := by rw [List.getD_eq_getElem?_getD, List.getElem?_eq_getElem hi]; exact List.getElem_mem _
  have hb := pre_le h N 1 _ (by omega) hN hm
  exact ⟨hb.1, hb.2, pre_desc h N 1 _ hm⟩

theorem P_zero {i : Nat} (hi : (P N K 1).length ≤ i) : (P N K 1).getD i 0 = 0 := by
  rw [List.getD_eq_getElem?_getD, List.getElem?_eq_none hi]; rfl
end

set_option maxRecDepth 100000 in
set_option maxHeartbeats 16000000 in
theorem walkedWalk (a0 : Int) (a1 : Option Addr) (len1 cap1 : Nat) (z1 : List Int) (a2 : Option Addr) (len2 cap2 : Nat) (z2 : List Int) (a3 : Int) (w : World)
    (hlo : -9223372036854775808 ≤ a0) (hhi : a0 ≤ 9223372036854775807) (hlo3 : -9223372036854775808 ≤ a3) (hhi3 : a3 ≤ 9223372036854775807) (hl1 : len1 ≤ maxLen) (hr1 : RawIs w a1 len1 z1) (hr2 : RawIs w a2 len2 z2) :
    Calls Try.prog 5 #[.int .i64 a0, .slice a1 len1 cap1, .slice a2 len2 cap2, .int .i64 a3] w fun e w' => e = .returned (.bool true) ∧ Below w.heap.size w w' := by
  have HL1 : Hid (len1 ≤ maxLen) := hl1
  have HR1 : Hid (RawIs w a1 len1 z1) := hr1
  have HR2 : Hid (RawIs w a2 len2 z2) := hr2
  clear hl1 hr1 hr2
  go_enter Try.func5, Try.ntmps5
  go_wp2_with fail
  refine (pickL a0 12 w (by omega) (by omega) hlo hhi).mono ?_
  rintro e w ⟨r, hr, rfl, rfl⟩
  clear hlo hhi
  go_wp2_with fail
  have hN : (2 + (r : Int)) = ((2 + r : Nat) : Int) := by omega
  rw [hN]
  clear hN
  have hN1 : 2 ≤ 2 + r := by omega
  have hN2 : 2 + r ≤ 13 := by omega
  clear hr
  generalize 2 + r = N at *
  refine (madeL w N a1 len1 cap1 z1 (by omega) HL1.out HR1.out).mono ?_
  rintro e w1 ⟨gb, nb, c, kd, mp, rfl, hM, hB⟩
  have HG0 : Hid (Gro w.heap.size w1 gb nb c N (kkR len1 z1) (tgR len1 z1) kd mp st0 re0) := hM.gro
  have HNo : Hid (∀ i, kkR len1 z1 i ≠ 1) := kkR_ne len1 z1
  have HK1 : Hid (kkR len1 z1 1 = 2) := kkR_one len1 z1
  have HB0 : Hid (Below w.heap.size w w1) := hB
  clear hM hB HL1 HR1
  generalize kkR len1 z1 = kk at *
  generalize tgR len1 z1 = tg at *
  go_wp2_with fail
  refine (putS HG0.out HNo.out (by decide) (by decide) 1 2 0 (by omega) (by omega) (by omega) (by omega) (.inl rfl)).mono ?_
  rintro e w2 ⟨q, r0, rfl, hq, hG, hL, hF⟩
  have hq0 : q = 0 := by
    refine hq.2 ⟨by have := HK1.out; omega, ?_⟩
    cases e : withF st0.s N 1 2 with
    | false => rfl
    | true => exact absurd ((Gv.within_iff (loose_wf N) (by omega) (by omega)).1 e) no_desc_12'
  subst hq0
  have rp : 0 ≤ r0.pl ∧ r0.pl ≤ 2 := by
    have h1 := hL.2.2.2.2.1
    have h2 := hL.2.2.2.2.2
    have e : re0.pl = 0 := rfl
    omega
  have rw0 : r0.wv = .slice none 0 0 := hL.2.2.2.1
  have HG2 : Hid (Gro w.heap.size w2 gb nb c N kk tg kd mp (St.put N kk st0 1 2 0) r0) := hG
  have HB2 : Hid (Below w.heap.size w w2) := HB0.out.trans (hF.below HB0.out.size HG0.out.setB)
  have HRP : Hid (0 ≤ r0.pl ∧ r0.pl ≤ 2) := rp
  have HRW : Hid (r0.wv = .slice none 0 0) := rw0
  clear hq hG hL hF HG0 HB0 HK1 rp rw0
  generalize St.put N kk st0 1 2 0 = σ0 at *
  go_upto_block 0 with fail
  go_cut [11] from 37 to 64 (fun s11 wx => ∃ (j : Nat) (σ : St) (r : Re), s11 = .int .i64 j ∧ Gro w.heap.size wx gb nb c N kk tg kd mp σ r ∧ r.wv = .slice none 0 0 ∧ Below w.heap.size w wx)
  case first =>
    go_wp2_with fail
    go_loopw [11] (fun i wr => ∃ (k : Nat) (σ : St) (r : Re), k ≤ 92 ∧ i = .int .i64 k ∧ Gro w.heap.size wr gb nb c N kk tg kd mp σ r ∧ r.wv = .slice none 0 0 ∧ 0 ≤ r.pl ∧ r.pl ≤ 2 + k ∧ Below w.heap.size w wr) (fun i _ => 100 - (intOf i).toNat)
    case atStart => exact ⟨0, σ0, r0, by omega, rfl, HG2.out, HRW.out, HRP.out.1, by have := HRP.out.2; omega, HB2.out⟩
    case round =>
      obtain ⟨k, σ, r, hk, rfl, hG, hrw, hp0, hp1, hbel⟩ := hrel
      have G : Hid (Gro w.heap.size wr gb nb c N kk tg kd mp σ r) := hG
      have HW : Hid (r.wv = .slice none 0 0) := hrw
      have HB : Hid (Below w.heap.size w wr) := hbel
      clear hG hrw hbel HG2 HB2 HRP HRW
      by_cases hk2 : k + 2 < len2
      · by_cases hk90 : k < 90
        · have t1 : (k : Int) + 2 < (len2 : Int) := by omega
          have t2 : (k : Int) < 90 := by omega
          rcases HR2.out with h0 | ⟨b2, off, ha2, hbs, hcs⟩
          · omega
          subst ha2
          have D0 : Hid (w.cell? ⟨b2, off + k, none⟩ = some (.int .i64 (z2.getD k 0))) := (hcs k (by omega)).1
          have D1 : Hid (w.cell? ⟨b2, off + (k + 1), none⟩ = some (.int .i64 (z2.getD (k + 1) 0))) := (hcs (k + 1) (by omega)).1
          have D2 : Hid (w.cell? ⟨b2, off + (k + 2), none⟩ = some (.int .i64 (z2.getD (k + 2) 0))) := (hcs (k + 2) (by omega)).1
          have e0 := (hcs k (by omega)).2
          have e1 := (hcs (k + 1) (by omega)).2
          have e2 := (hcs (k + 2) (by omega)).2
          clear hcs
          generalize z2.getD k 0 = x0 at *
          generalize z2.getD (k + 1) 0 = x1 at *
          generalize z2.getD (k + 2) 0 = x2 at *
          have d0 : wr.cell? ⟨b2, off + k, none⟩ = some (.int .i64 x0) := (HB.out.cell (p := ⟨b2, off + k, none⟩) hbs).trans D0.out
          have d1 : wr.cell? ⟨b2, off + (k + 1), none⟩ = some (.int .i64 x1) := (HB.out.cell (p := ⟨b2, off + (k + 1), none⟩) hbs).trans D1.out
          have d2 : wr.cell? ⟨b2, off + (k + 2), none⟩ = some (.int .i64 x2) := (HB.out.cell (p := ⟨b2, off + (k + 2), none⟩) hbs).trans D2.out
          have hq : r.pl ≤ 1000000 := by omega
          have v0 : (k : Int) < (len2 : Int) := by omega
          have v1 : (k : Int) + 1 < (len2 : Int) := by omega
          have v2 : (0 : Int) ≤ (k : Int) + 1 := by omega
          have v3 : (0 : Int) ≤ (k : Int) + 2 := by omega
          have v4 : ((k : Int) + 1).toNat = k + 1 := by omega
          have v5 : ((k : Int) + 2).toNat = k + 2 := by omega
          have v6 : IntKind.i64.wrap ((k : Int) + 1) = (k : Int) + 1 := IntWalk.i64_in _ (by omega)
          have v7 : IntKind.i64.wrap ((k : Int) + 2) = (k : Int) + 2 := IntWalk.i64_in _ (by omega)
          go_wp2_with fail
          go_region_held (fun wx => wx.cell? ⟨b2, off + k, none⟩ = some (.int .i64 x0) ∧ wx.cell? ⟨b2, off + (k + 1), none⟩ = some (.int .i64 x1) ∧ wx.cell? ⟨b2, off + (k + 2), none⟩ = some (.int .i64 x2)) (first | exact ⟨y0, y1, y2⟩ | exact ⟨d0, d1, d2⟩ | go_keep) ((go_at_call 14; refine (changeS (w := wr.drew) (G.out.drews wr.drew rfl) HNo.out hp0 hq (by omega) x0 x1 x2 e0 e1 e2).mono ?_; rintro e wh ⟨rfl, rh, gh, lh, fh⟩; have BH : Below w.heap.size w wh := HB.out.trans (below_undrew (Fr.below (D := w.heap.size) fh HB.out.size (G.out.drews wr.drew rfl).setB)); have y0 : wh.cell? ⟨b2, off + k, none⟩ = some (.int .i64 x0) := (BH.cell (p := ⟨b2, off + k, none⟩) hbs).trans D0.out; have y1 : wh.cell? ⟨b2, off + (k + 1), none⟩ = some (.int .i64 x1) := (BH.cell (p := ⟨b2, off + (k + 1), none⟩) hbs).trans D1.out; have y2 : wh.cell? ⟨b2, off + (k + 2), none⟩ = some (.int .i64 x2) := (BH.cell (p := ⟨b2, off + (k + 2), none⟩) hbs).trans D2.out))
          all_goals
            have GH : Hid (Gro w.heap.size wh gb nb c N kk tg kd mp (St.change N kk σ x0 x1 x2) rh) := gh
            have rhp : 0 ≤ rh.pl ∧ rh.pl ≤ r.pl + 2 := ⟨by have := lh.2.2.2.2.1; omega, lh.2.2.2.2.2⟩
            have RW : Hid (rh.wv = .slice none 0 0) := by show rh.wv = _; rw [lh.2.2.2.1]; exact HW.out
            have BH' : Hid (Below w.heap.size w wh) := HB.out.trans (below_undrew (Fr.below (D := w.heap.size) fh HB.out.size (G.out.drews wr.drew rfl).setB))
            clear gh lh fh d0 d1 d2
            go_wp2_with fail
            go_roundw
            case rel => exact ⟨k + 3, _, rh, by omega, by go_num, GH.out, RW.out, rhp.1, by omega, BH'.out⟩
            case measure => simp [intOf]; omega
        · have t1 : (k : Int) + 2 < (len2 : Int) := by omega
          have t2 : ¬ (k : Int) < 90 := by omega
          go_wp2_with fail
          go_meet
          case rel => exact ⟨k, σ, r, rfl, G.out, HW.out, HB.out⟩
      · have t1 : ¬ (k : Int) + 2 < (len2 : Int) := by omega
        go_wp2_with fail
        go_meet
        case rel => exact ⟨k, σ, r, rfl, G.out, HW.out, HB.out⟩
  case rest =>
    obtain ⟨j0, σ, r, rfl, hG, hrw, hbel⟩ := hcut
    have G : Hid (Gro w.heap.size wc gb nb c N kk tg kd mp σ r) := hG
    have HB : Hid (Below w.heap.size w wc) := hbel
    have HWN : Hid (Wks wc w.heap.size r.wv []) := by rw [hrw]; exact wks_none wc w.heap.size
    have HSW : Hid (∀ i, (i = gb ∨ r.wv.ownBlock = some i) → w.heap.size ≤ i) := by
      rintro i (hi | hi)
      · rw [hi]; exact hG.held.hB
      · rw [hrw] at hi; simp [Value.ownBlock] at hi
    clear hG hbel hrw HG2 HB2 HRP HRW
    go_wp2_with fail
    refine (walkerNil G.out HWN.out (by simp) 1 (by omega) (by omega) 30 (by omega) (by omega)).mono ?_
    rintro e w3 ⟨rfl, wv, g3, ws3, f3⟩
    have W3 : Hid (Wg w.heap.size w3 gb nb c N kk tg kd mp σ (r.setWv wv) 1) := ⟨g3, ws3, by omega, by omega⟩
    have B3 : Hid (Below w.heap.size w w3) := HB.out.trans (f3.below HB.out.size HSW.out)
    have HWF : Hid (WF N σ.s σ.K) := g3.wf
    have hlen := P_len g3.wf (x := 1) (by omega) (by omega)
    have hpos : 1 ≤ (P N σ.K 1).length := by obtain ⟨t, ht⟩ := P_head N σ.K 1; rw [ht]; simp
    have HHd : Hid ((P N σ.K 1).getD 0 0 = 1) := by show (P N σ.K 1).getD 0 0 = 1; obtain ⟨t, ht⟩ := P_head N σ.K 1; rw [ht]; rfl
    clear g3 ws3 f3 G HB HWN HSW
    generalize r.setWv wv = r1 at *
    simp only [List.length_nil, Nat.zero_add]
    go_wp2_with fail
    refine (withinS W3.out.gro 1 (by omega) (by omega)).mono ?_
    rintro e w4 ⟨lg, lc, rfl, l4, hlc, b4⟩
    have W4 : Hid (Wg w.heap.size w4 gb nb c N kk tg kd mp σ r1 1) := W3.out.since b4
    have B4 : Hid (Below w.heap.size w w4) := B3.out.trans (b4.mono B3.out.size)
    have L4 : Hid (Lst w4 w3.heap.size lg (P N σ.K 1)) := l4
    have HNW : Hid (¬ r1.wv.ownBlock = some lg) := fun e => by have := W3.out.setlt lg e; have := l4.1; omega
    have HSB : Hid (∀ j, r1.wv.ownBlock = some j → w.heap.size ≤ j) := W3.out.setB
    have HS3 : Hid (∀ j, r1.wv.ownBlock = some j → j < w3.heap.size) := W3.out.setlt
    have s34 := b4.size
    clear l4 b4 W3 B3
    go_wp2_with fail
    go_loopw [15] (fun i wr => ∃ k : Nat, 1 ≤ k ∧ k ≤ (P N σ.K 1).length + 1 ∧ i = .int .i64 k ∧ Wg w.heap.size wr gb nb c N kk tg kd mp σ r1 ((P N σ.K 1).getD (min (k - 1) ((P N σ.K 1).length - 1)) 0) ∧ Fr (fun j => r1.wv.ownBlock = some j) w4 wr) (fun i _ => (P N σ.K 1).length + 1 - (intOf i).toNat)
    case atStart => exact ⟨1, by omega, by omega, rfl, by rw [show min (1 - 1) ((P N σ.K 1).length - 1) = 0 by omega, HHd.out]; exact W4.out, Fr.refl _ _⟩
    case round =>
      obtain ⟨k, hk1, hk, rfl, hW, hF⟩ := hrel
      by_cases hkl : k ≤ (P N σ.K 1).length
      · have W : Hid (Wg w.heap.size wr gb nb c N kk tg kd mp σ r1 ((P N σ.K 1).getD (k - 1) 0)) := by have := hW; rw [show min (k - 1) ((P N σ.K 1).length - 1) = k - 1 by omega] at this; exact this
        have F : Hid (Fr (fun j => r1.wv.ownBlock = some j) w4 wr) := hF
        have HOn : Hid (nextF σ.s (N + 1) ((P N σ.K 1).getD (k - 1) 0) 1 = (P N σ.K 1).getD k 0) := on_step HWF.out (by omega) hk1 hkl
        have k1' : (k : Int) ≤ (((P N σ.K 1).length : Nat) : Int) := by omega
        clear hW hF
        by_cases hkk : k < (P N σ.K 1).length
        · have hx := P_get HWF.out (by omega) hkk
          have k2' : (k : Int) < (((P N σ.K 1).length : Nat) : Int) := by omega
          have k3' : ((k : Int) == (((P N σ.K 1).length : Nat) : Int)) = false := by simp; omega
          go_wp2_with fail
          refine (onS W.out (by rw [HOn.out]; exact hx.2.1)).mono ?_
          rw [HOn.out]
          rintro e w5 ⟨rfl, hg5, hf5⟩
          have W5 : Hid (Wg w.heap.size w5 gb nb c N kk tg kd mp σ r1 ((P N σ.K 1).getD (min (k + 1 - 1) ((P N σ.K 1).length - 1)) 0)) := by
            rw [show min (k + 1 - 1) ((P N σ.K 1).length - 1) = k by omega]
            have := hg5
            unfold hereTo at this
            rw [if_neg (by omega)] at this
            exact this
          have F5 : Hid (Fr (fun j => r1.wv.ownBlock = some j) w4 w5) := F.out.trans hf5
          have cell : w5.cell? ⟨lg, k, none⟩ = some (.int .i64 ((P N σ.K 1).getD k 0 : Nat)) := (L4.out.fr F5.out HNW.out).2.2 k hkk
          clear hg5 hf5 hx HOn
          generalize (P N σ.K 1).getD k 0 = v at *
          go_wp2_with fail
          go_roundw
          case rel => exact ⟨k + 1, by omega, by omega, by go_num, W5.out, F5.out⟩
          case measure => simp [intOf]; omega
        · have k2' : ¬ (k : Int) < (((P N σ.K 1).length : Nat) : Int) := by omega
          have k3' : ((k : Int) == (((P N σ.K 1).length : Nat) : Int)) = true := by simp; omega
          have hz : (P N σ.K 1).getD k 0 = 0 := P_zero (by omega)
          have HOn0 : Hid (nextF σ.s (N + 1) ((P N σ.K 1).getD (k - 1) 0) 1 = 0) := by show nextF σ.s (N + 1) ((P N σ.K 1).getD (k - 1) 0) 1 = 0; rw [HOn.out, hz]
          clear hz HOn
          go_wp2_with fail
          refine (onS W.out (by rw [HOn0.out]; omega)).mono ?_
          rw [HOn0.out]
          rintro e w5 ⟨rfl, hg5, hf5⟩
          have W5 : Hid (Wg w.heap.size w5 gb nb c N kk tg kd mp σ r1 ((P N σ.K 1).getD (min (k + 1 - 1) ((P N σ.K 1).length - 1)) 0)) := by
            rw [show min (k + 1 - 1) ((P N σ.K 1).length - 1) = k - 1 by omega]
            exact hg5
          have F5 : Hid (Fr (fun j => r1.wv.ownBlock = some j) w4 w5) := F.out.trans hf5
          clear hg5 hf5
          go_wp2_with fail
          go_roundw
          case rel => exact ⟨k + 1, by omega, by omega, by go_num, W5.out, F5.out⟩
          case measure => simp [intOf]; omega
      · have k1' : ¬ (k : Int) ≤ (((P N σ.K 1).length : Nat) : Int) := by omega
        have W5 : Hid (Wg w.heap.size wr gb nb c N kk tg kd mp σ r1 ((P N σ.K 1).getD ((P N σ.K 1).length - 1) 0)) := by have := hW; rw [show min (k - 1) ((P N σ.K 1).length - 1) = (P N σ.K 1).length - 1 by omega] at this; exact this
        have F5 : Hid (Fr (fun j => r1.wv.ownBlock = some j) w4 wr) := hF
        obtain ⟨w5, rfl⟩ : ∃ w5 : World, w5 = wr := ⟨_, rfl⟩
        clear hW hF hk hk1 hkl W4
        go_wp2_with fail
        go_loopw [18] (fun i wr => ∃ t : Nat, t ≤ (P N σ.K 1).length ∧ i = .int .i64 ((t : Int) - 2) ∧ Wg w.heap.size wr gb nb c N kk tg kd mp σ r1 ((P N σ.K 1).getD (t - 1) 0) ∧ Fr (fun j => r1.wv.ownBlock = some j) w4 wr) (fun i _ => (intOf i + 2).toNat)
        case atStart => exact ⟨(P N σ.K 1).length, Nat.le_refl _, rfl, W5.out, F5.out⟩
        case round =>
          obtain ⟨t, ht, rfl, hW, hF⟩ := hrel
          have W : Hid (Wg w.heap.size wr gb nb c N kk tg kd mp σ r1 ((P N σ.K 1).getD (t - 1) 0)) := hW
          have F : Hid (Fr (fun j => r1.wv.ownBlock = some j) w4 wr) := hF
          clear hW hF
          by_cases ht1 : 1 ≤ t
          · have i1' : (-1 : Int) ≤ (t : Int) - 2 := by omega
            have HBk : Hid (prevF σ.s N ((P N σ.K 1).getD (t - 1) 0) 1 = if t = 1 then 0 else (P N σ.K 1).getD (t - 2) 0) := back_step HWF.out (by omega) ht1 ht
            have hg1 := P_get HWF.out (by omega) (i := t - 1) (by omega)
            have HPar : Hid ((P N σ.K 1).getD (t - 1) 0 ≠ 1 → σ.s.par ((P N σ.K 1).getD (t - 1) 0) ≠ 0) := fun hne => par_of_under HWF.out.z hg1.2.2 (by omega) hne
            clear hg1
            by_cases t1 : t = 1
            · have HBk0 : Hid (prevF σ.s N ((P N σ.K 1).getD (t - 1) 0) 1 = 0) := by have := HBk.out; rw [if_pos t1] at this; exact this
              have i2' : ¬ (0 : Int) ≤ (t : Int) - 2 := by omega
              have i3' : (t : Int) - 2 < 0 := by omega
              go_wp2_with fail
              refine (backS W.out HPar.out (by rw [HBk0.out]; omega)).mono ?_
              rw [HBk0.out]
              rintro e w6 ⟨rfl, hg6, hf6⟩
              have W6 : Hid (Wg w.heap.size w6 gb nb c N kk tg kd mp σ r1 ((P N σ.K 1).getD (t - 1 - 1) 0)) := by
                rw [show t - 1 - 1 = t - 1 by omega]; exact hg6
              have F6 : Hid (Fr (fun j => r1.wv.ownBlock = some j) w4 w6) := F.out.trans hf6
              clear hg6 hf6
              go_wp2_with fail
              go_roundw
              case rel => exact ⟨t - 1, by omega, by congr 1; omega, W6.out, F6.out⟩
              case measure => simp [intOf]; omega
            · have HBk0 : Hid (prevF σ.s N ((P N σ.K 1).getD (t - 1) 0) 1 = (P N σ.K 1).getD (t - 2) 0) := by have := HBk.out; rw [if_neg t1] at this; exact this
              have hx := P_get HWF.out (by omega) (i := t - 2) (by omega)
              have i2' : (0 : Int) ≤ (t : Int) - 2 := by omega
              have i3' : ¬ (t : Int) - 2 < 0 := by omega
              have i4' : ((t : Int) - 2) = ((t - 2 : Nat) : Int) := by omega
              have i5' : (t : Int) - 2 < (((P N σ.K 1).length : Nat) : Int) := by omega
              go_wp2_with fail
              refine (backS W.out HPar.out (by rw [HBk0.out]; exact hx.2.1)).mono ?_
              rw [HBk0.out]
              rintro e w6 ⟨rfl, hg6, hf6⟩
              have W6 : Hid (Wg w.heap.size w6 gb nb c N kk tg kd mp σ r1 ((P N σ.K 1).getD (t - 1 - 1) 0)) := by
                rw [show t - 1 - 1 = t - 2 by omega]
                have := hg6
                unfold hereTo at this
                rw [if_neg (by omega)] at this
                exact this
              have F6 : Hid (Fr (fun j => r1.wv.ownBlock = some j) w4 w6) := F.out.trans hf6
              have cell : w6.cell? ⟨lg, t - 2, none⟩ = some (.int .i64 ((P N σ.K 1).getD (t - 2) 0 : Nat)) := (L4.out.fr F6.out HNW.out).2.2 (t - 2) (by omega)
              have tn : ((t : Int) - 2).toNat = t - 2 := by omega
              clear hg6 hf6 hx HBk0 HBk i4'
              generalize hv : (P N σ.K 1).getD (t - 2) 0 = v at *
              have HV2 : Hid ((P N σ.K 1).getD (t - 2) 0 = v) := hv
              clear hv
              go_wp2_with fail
              go_roundw
              case rel => exact ⟨t - 1, by omega, by congr 1; omega, by rw [show t - 1 - 1 = t - 2 by omega, HV2.out]; exact W6.out, F6.out⟩
              case measure => simp [intOf]; omega
          · have i1' : ¬ (-1 : Int) ≤ (t : Int) - 2 := by omega
            obtain ⟨w6, rfl⟩ : ∃ w6 : World, w6 = wr := ⟨_, rfl⟩
            have pk := pickF_lt a3 (n := (P N σ.K 1).length) hpos
            have hx := P_get HWF.out (by omega) pk
            have cell : w6.cell? ⟨lg, pickF a3 (P N σ.K 1).length, none⟩ = some (.int .i64 ((P N σ.K 1).getD (pickF a3 (P N σ.K 1).length) 0 : Nat)) := (L4.out.fr F.out HNW.out).2.2 _ pk
            have HDx : Hid (Desc σ.s.par ((P N σ.K 1).getD (pickF a3 (P N σ.K 1).length) 0) 1) := hx.2.2
            have x1 := hx.1
            have xN := hx.2.1
            clear hx
            go_wp2_with fail
            refine (pickX a3 (P N σ.K 1).length w6 hpos (by omega) hlo3 hhi3).mono ?_
            rintro e w6 ⟨rfl, rfl⟩
            have pki : ((pickF a3 (P N σ.K 1).length : Nat) : Int) < (((P N σ.K 1).length : Nat) : Int) := by omega
            generalize (P N σ.K 1).getD (pickF a3 (P N σ.K 1).length) 0 = x at *
            generalize pickF a3 (P N σ.K 1).length = ix at *
            go_wp2_with fail
            refine (kidsG W.out.gro.held HWF.out x x1 xN).mono ?_
            rintro e w7 ⟨kv, rfl, hkown, hkbel⟩
            obtain ⟨_, kao, kcap, hkv, hkc, h4⟩ := ints_shape hkown
            subst hkv
            have W7 : Hid (Wg w.heap.size w7 gb nb c N kk tg kd mp σ r1 ((P N σ.K 1).getD (t - 1) 0)) := W.out.since hkbel
            have B7 : Hid (Below w.heap.size w w7) := (B4.out.trans (F.out.below B4.out.size HSB.out)).trans (hkbel.mono (by have := B4.out.size; have := F.out.size; omega))
            have s46 := F.out.size
            have HD6 : Hid (∀ j, r1.wv.ownBlock = some j → j < w6.heap.size) := fun j hj => by have := HS3.out j hj; omega
            have KL : Hid ((σ.K x).length = 0 ∨ ∃ kg, kao = some ⟨kg, 0, none⟩ ∧ Lst w7 w6.heap.size kg (σ.K x)) := by
              rcases h4 with h4 | ⟨kg, e1, e2, e3, e4⟩
              · exact .inl h4
              · exact .inr ⟨kg, e1, e2, e3, e4⟩
            clear hkown hkbel h4 cell
            go_wp2_with fail
            refine (rangedF W7.out x x1 xN HDx.out (D := w6.heap.size) (kcap := kcap) HD6.out KL.out).mono ?_
            rintro e w8 ⟨rfl, h8, hg8, hf8⟩
            have W8 : Hid (Wg w.heap.size w8 gb nb c N kk tg kd mp σ r1 h8) := hg8
            have B8 : Hid (Below w.heap.size w w8) := B7.out.trans (hf8.below B7.out.size HSB.out)
            have KL8 : Hid ((σ.K x).length = 0 ∨ ∃ kg, kao = some ⟨kg, 0, none⟩ ∧ Lst w8 w6.heap.size kg (σ.K x)) := by
              rcases KL.out with h | ⟨kg, e1, e2⟩
              · exact .inl h
              · exact .inr ⟨kg, e1, e2.fr hf8 (fun hs => by have := HD6.out _ hs; have := e2.1; omega)⟩
            clear hg8 hf8
            go_wp2_with fail
            refine (rangedT W8.out x x1 xN HDx.out (D := w6.heap.size) (kcap := kcap) HD6.out KL8.out).mono ?_
            rintro e w9 ⟨rfl, h9, hg9, hf9⟩
            have B9 : Hid (Below w.heap.size w w9) := B8.out.trans (hf9.below B8.out.size HSB.out)
            clear hg9 hf9
            go_wp2_with fail
            go_ret
            exact ⟨by simp, B9.out⟩
end Go.Proofs.Ytcedebpoihcbdaa
