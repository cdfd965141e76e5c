/-
  The document's own answer: 'leaving': what changes in its iterators ahead of a node's being taken.
-/
import Derived.Test.YtcedebpoihcbdaaGreatDoorR3
import Derived.Deep.QuietTactic
import Derived.BigQuiet
namespace Go.Proofs.YtcedebpoihcbdaaGreatDoor
open Go.RowKit Gv

section
variable {w w' : World} {r : Rx} {s : Fo} {K : Nat → List Nat}

/-- Its iterators, when the first k have left. -/
def Rx.left (r : Rx) (s : Fo) (c k : Nat) : Rx := { r with il := leftTo r.N s c r.il k }

theorem Rx.left_own (r : Rx) (s : Fo) (c k : Nat) {b : Nat} (hb : (r.left s c k).own b) : r.own b := by
  rcases hb with h | h | h | h | h | h | h | ⟨x, hx, h⟩ | h
  · exact .inl h
  · exact .inr (.inl h)
  · exact .inr (.inr (.inl h))
  · exact .inr (.inr (.inr (.inl h)))
  · exact Rx.own_w h
  · exact Rx.own_i h
  · exact Rx.own_q h
  · have hx' : x ∈ leftTo r.N s c r.il k := hx
    unfold leftTo at hx'
    rcases List.mem_append.1 hx' with hx' | hx'
    · obtain ⟨y, hy, rfl⟩ := List.mem_map.1 hx'
      exact Rx.own_ir (List.mem_of_mem_take hy) h
    · exact Rx.own_ir (List.mem_of_mem_drop hx') h
  · exact .inr (.inr (.inr (.inr (.inr (.inr (.inr (.inr h)))))))

theorem alloc5 (w : World) (a b c d e : Value) (t : TypeId) (j : Nat) : (w.alloc (.cells #[a, b, c, d, e] t)).cell? ⟨w.heap.size, j, none⟩ = #[a, b, c, d, e][j]? := by simp

theorem Rx.left_set {r : Rx} {s : Fo} {c k : Nat} {l : List It} (h : l = (r.left s c (k + 1)).il) : { r.left s c k with il := l } = r.left s c (k + 1) := by rw [h]; rfl

theorem idx_same {l : List Nat} {x i j : Nat} (hn : l.Nodup) (hi : l[i]? = some x) (hj : l[j]? = some x) : i = j := by
  obtain ⟨h1, e1⟩ := List.getElem?_eq_some_iff.1 hi
  obtain ⟨h2, e2⟩ := List.getElem?_eq_some_iff.1 hj
  exact (List.getElem_inj hn).1 (e1.trans e2.symm)

set_option maxRecDepth 100000 in
set_option maxHeartbeats 1000000 in
theorem refLeaving (h : RefOK w r) (hp : r.par = s.par) (hK : r.K = K) (hwf : WF r.N s K) (hs : ∀ x, x ∈ r.il → x.Sound r.N s) (c : Nat) (hc1 : 1 ≤ c) (hcN : c ≤ r.N) :
    Calls Tryz.prog 145 #[.pointer (some ⟨r.rb, 0, none⟩), .int .i64 c] w fun e w' => e = .returned (.tuple #[]) ∧ RefOK w' { r with il := r.il.map (It.leave r.N s c) } ∧ Fr r.own w w' := by
  have HH : Hid (RefOK w r) := h
  have HP : Hid (r.par = s.par) := hp
  have HK : Hid (r.K = K) := hK
  have HW : Hid (WF r.N s K) := hwf
  have HS : Hid (∀ x, x ∈ r.il → x.Sound r.N s) := hs
  have hN := h.hN
  have h50 := h.ifew
  obtain ⟨iao, icap, hiv, hic, hiF⟩ := rowForm h.its
  have HIV : Hid (r.iv = .slice iao r.il.length icap) := hiv
  have HIF : Hid (r.il.length = 0 ∨ ∃ g, iao = some ⟨g, 0, none⟩) := by
    rcases hiF with h0 | ⟨g, hg, _⟩
    · exact .inl h0
    · exact .inr ⟨g, hg⟩
  clear h hp hK hwf hs hiv hiF
  go_enter Tryz.func145, Tryz.ntmps145
  go_wp2_with fail
  go_loopw [4] (fun i wr => ∃ k : Nat, k ≤ r.il.length ∧ i = .int .i64 k ∧ RefOK wr (r.left s c k) ∧ Fr r.own w wr) (fun i _ => r.il.length - (intOf i).toNat)
  case atStart => exact ⟨0, Nat.zero_le _, rfl, by unfold Rx.left; rw [leftTo_zero]; exact HH.out, Fr.refl _ _⟩
  case round =>
    obtain ⟨k, hk, rfl, hR, hF⟩ := hrel
    obtain ⟨w1, rfl⟩ : ∃ w1 : World, w1 = wr := ⟨_, rfl⟩
    have c2 : w1.cell? ⟨r.rb, 2, none⟩ = some (.slice iao r.il.length icap) := by rw [← HIV.out]; exact hR.c2
    have HR : Hid (RefOK w1 (r.left s c k)) := hR
    have HF : Hid (Fr r.own w w1) := hF
    clear hR hF
    by_cases hkl : k < r.il.length
    · obtain ⟨it, hit⟩ : ∃ it, r.il[k]? = some it := ⟨_, List.getElem?_eq_getElem hkl⟩
      have hat := leftTo_at r.N s c hit
      have hset := leftTo_set r.N s c hit
      have hso := HS.out it (List.mem_of_getElem? hit)
      rcases HIF.out with h0 | ⟨ig, rfl⟩
      · omega
      obtain ⟨rao, rcap, hrv, _, _⟩ := rowForm (HR.out.irl it (List.mem_of_getElem? hat)).1
      have k0 : w1.cell? ⟨ig, k * 5, none⟩ = some (.int .i64 it.spot.root) := HR.out.itCell HIV.out hat (j := 0) (by omega)
      have k1 : w1.cell? ⟨ig, k * 5 + 1, none⟩ = some (.int .i64 it.see) := HR.out.itCell HIV.out hat (j := 1) (by omega)
      have k2 : w1.cell? ⟨ig, k * 5 + 2, none⟩ = some (.slice rao it.rl.length rcap) := by rw [← hrv]; exact HR.out.itCell HIV.out hat (j := 2) (by omega)
      have k3 : w1.cell? ⟨ig, k * 5 + 3, none⟩ = some (.int .i64 it.spot.place) := HR.out.itCell HIV.out hat (j := 3) (by omega)
      have k4 : w1.cell? ⟨ig, k * 5 + 4, none⟩ = some (.bool it.spot.ahead) := HR.out.itCell HIV.out hat (j := 4) (by omega)
      have HAT : Hid ((r.left s c k).il[k]? = some it) := hat
      have HSET : Hid ((r.left s c k).il.set k (it.leave r.N s c) = (r.left s c (k + 1)).il) := hset
      have HSO : Hid (it.Sound r.N s) := hso
      have ib : (k : Int) < (r.il.length : Int) := by omega
      have hpN : it.spot.place ≤ r.N := hso.2.2.2.1
      have hrN : it.spot.root ≤ r.N := hso.2.1
      have hr1 : 1 ≤ it.spot.root := hso.1
      clear hat hset hso hit hrv
      go_wp2_with fail
      have a0 : (w1.alloc (.cells #[.int .i64 it.spot.root, .int .i64 it.see, .slice rao it.rl.length rcap, .int .i64 it.spot.place, .bool it.spot.ahead] 206)).cell? ⟨w1.heap.size, 0, none⟩ = some (.int .i64 it.spot.root) := alloc5 _ _ _ _ _ _ _ 0
      have a3 : (w1.alloc (.cells #[.int .i64 it.spot.root, .int .i64 it.see, .slice rao it.rl.length rcap, .int .i64 it.spot.place, .bool it.spot.ahead] 206)).cell? ⟨w1.heap.size, 3, none⟩ = some (.int .i64 it.spot.place) := alloc5 _ _ _ _ _ _ _ 3
      have a4 : (w1.alloc (.cells #[.int .i64 it.spot.root, .int .i64 it.see, .slice rao it.rl.length rcap, .int .i64 it.spot.place, .bool it.spot.ahead] 206)).cell? ⟨w1.heap.size, 4, none⟩ = some (.bool it.spot.ahead) := alloc5 _ _ _ _ _ _ _ 4
      have hbA : Below w1.heap.size w1 (w1.alloc (.cells #[.int .i64 it.spot.root, .int .i64 it.see, .slice rao it.rl.length rcap, .int .i64 it.spot.place, .bool it.spot.ahead] 206)) := (Below.refl _ _).alloc (Nat.le_refl _) _
      have hlA : w1.heap.size < (w1.alloc (.cells #[.int .i64 it.spot.root, .int .i64 it.see, .slice rao it.rl.length rcap, .int .i64 it.spot.place, .bool it.spot.ahead] 206)).heap.size := by simp
      generalize w1.alloc (.cells #[.int .i64 it.spot.root, .int .i64 it.see, .slice rao it.rl.length rcap, .int .i64 it.spot.place, .bool it.spot.ahead] 206) = W1 at *
      have R1 : Hid (RefOK W1 (r.left s c k)) := HR.out.since hbA
      have F1 : Hid (Fr r.own w W1) := HF.out.trans (Fr.of_below hbA)
      have A0 : Hid (W1.cell? ⟨w1.heap.size, 0, none⟩ = some (.int .i64 it.spot.root)) := a0
      have A4 : Hid (W1.cell? ⟨w1.heap.size, 4, none⟩ = some (.bool it.spot.ahead)) := a4
      clear k0 k1 k2 k3 k4 c2 HR HF hbA
      generalize w1.heap.size = xb at *
      refine (refIn R1.out HP.out HW.out it.spot.place c hpN hc1).mono ?_
      rintro e W0 ⟨b1, rfl, hb1, hW2⟩
      subst hW2
      have HB1 : Hid (b1 = true ↔ Desc s.par it.spot.place c) := hb1
      clear hb1
      go_wp2_with fail
      refine (refIn R1.out HP.out HW.out it.spot.root c hrN hc1).mono ?_
      rintro e W1 ⟨b2, rfl, hb2, hW3⟩
      subst hW3
      have HB2 : Hid (b2 = true ↔ Desc s.par it.spot.root c) := hb2
      clear hb2
      cases b1 with
      | false =>
        have HE : Hid (it.leave r.N s c = it) := leave_stays HW.out hc1 HSO.out (fun e => by have := HB1.out.2 e.1; cases this)
        go_wp2_with fail
        go_roundw
        case rel => exact ⟨k + 1, hkl, by go_num, by
          have e1 : r.left s c (k + 1) = r.left s c k := by
            have := HSET.out
            rw [HE.out, set_self HAT.out] at this
            unfold Rx.left at this ⊢
            rw [show leftTo r.N s c r.il (k + 1) = leftTo r.N s c r.il k from this.symm]
          rw [e1]; exact R1.out, F1.out⟩
        case measure => simp [intOf]; omega
      | true =>
        cases b2 with
        | true =>
          have HE : Hid (it.leave r.N s c = it) := leave_stays HW.out hc1 HSO.out (fun e => e.2 (HB2.out.1 rfl))
          go_wp2_with fail
          go_roundw
          case rel => exact ⟨k + 1, hkl, by go_num, by
            have e1 : r.left s c (k + 1) = r.left s c k := by
              have := HSET.out
              rw [HE.out, set_self HAT.out] at this
              unfold Rx.left at this ⊢
              rw [show leftTo r.N s c r.il (k + 1) = leftTo r.N s c r.il k from this.symm]
            rw [e1]; exact R1.out, F1.out⟩
          case measure => simp [intOf]; omega
        | false =>
          obtain ⟨q, q1, q2, q3, q4, q5⟩ := leave_goes HW.out hc1 hcN HSO.out (HB1.out.1 rfl) (fun e => by have := HB2.out.2 e; cases this)
          have Q1 : Hid _ := q1
          have Q4 : Hid _ := q4
          have Q5 : Hid _ := q5
          have hPl := P_len HW.out hr1 hrN
          clear q1 q4 q5 HB1 HB2
          go_wp2_with fail
          have CW : Hid (Calls Tryz.prog 153 #[.pointer (some ⟨r.rb, 0, none⟩), .int .i64 it.spot.root] W1 fun e w' => ∃ v, e = .returned v ∧ w'.ownsRow W1.heap.size 3 1 v (P r.N K it.spot.root).length (ints (P r.N K it.spot.root)) ∧ Below W1.heap.size W1 w') := refWithin R1.out HW.out HK.out it.spot.root hr1 hrN
          refine Calls.mono CW.out ?_
          rintro e W2 ⟨lv, rfl, hlv, hb2⟩
          have R2 : Hid (RefOK W2 (r.left s c k)) := R1.out.since hb2
          have F2 : Hid (Fr r.own w W2) := F1.out.trans (Fr.of_below hb2)
          have a0 : W2.cell? ⟨xb, 0, none⟩ = some (.int .i64 it.spot.root) := (hb2.cell (p := ⟨xb, 0, none⟩) hlA).trans A0.out
          have a4 : W2.cell? ⟨xb, 4, none⟩ = some (.bool it.spot.ahead) := (hb2.cell (p := ⟨xb, 4, none⟩) hlA).trans A4.out
          have A4' : Hid (W2.cell? ⟨xb, 4, none⟩ = some (.bool it.spot.ahead)) := a4
          have hl2 : xb < W2.heap.size := Nat.lt_of_lt_of_le hlA hb2.size
          obtain ⟨lao, lcap, hlf, _, hlc⟩ := rowForm hlv
          rw [hlf] at hlv ⊢
          have HLV : Hid (W2.ownsRow W1.heap.size 3 1 (.slice lao (P r.N K it.spot.root).length lcap) (P r.N K it.spot.root).length (ints (P r.N K it.spot.root))) := hlv
          have hmem : c ∈ P r.N K it.spot.root := List.mem_of_getElem? Q1.out
          have HM : Hid (c ∈ P r.N K it.spot.root) := hmem
          clear hb2 R1 F1 A0 A4 hlv hmem hlf hlc
          go_wp2_with fail
          refine (refAt W2 _ (P r.N K it.spot.root) c _ HLV.out rfl (by omega) HM.out).mono ?_
          rintro e W4 ⟨hW3, q', _, hq', rfl⟩
          subst hW3
          obtain rfl : q' = q := idx_same (P_nodup HW.out hr1 hrN) hq' Q1.out
          clear hq'
          go_wp2_with fail
          have CW2 : Hid (Calls Tryz.prog 153 #[.pointer (some ⟨r.rb, 0, none⟩), .int .i64 c] W4 fun e w' => ∃ v, e = .returned v ∧ w'.ownsRow W4.heap.size 3 1 v (P r.N K c).length (ints (P r.N K c)) ∧ Below W4.heap.size W4 w') := refWithin R2.out HW.out HK.out c hc1 hcN
          refine Calls.mono CW2.out ?_
          rintro e W3 ⟨cv, rfl, hcv, hb3⟩
          obtain ⟨cao, ccap, hcf, _, _⟩ := rowForm hcv
          rw [hcf]
          have R3 : Hid (RefOK W3 (r.left s c k)) := R2.out.since hb3
          have F3 : Hid (Fr r.own w W3) := F2.out.trans (Fr.of_below hb3)
          have a4 : W3.cell? ⟨xb, 4, none⟩ = some (.bool it.spot.ahead) := (hb3.cell (p := ⟨xb, 4, none⟩) hl2).trans A4'.out
          have L3 : Hid (W3.ownsRow W1.heap.size 3 1 (.slice lao (P r.N K it.spot.root).length lcap) (P r.N K it.spot.root).length (ints (P r.N K it.spot.root))) := row_keep HLV.out (fun b hb => hb3.block b (HLV.out.lt b hb).2)
          have c2 : W3.cell? ⟨r.rb, 2, none⟩ = some (.slice (some ⟨ig, 0, none⟩) r.il.length icap) := by rw [← HIV.out]; exact R3.out.c2
          have k3 : W3.cell? ⟨ig, k * 5 + 3, none⟩ = some (.int .i64 it.spot.place) := R3.out.itCell HIV.out HAT.out (j := 3) (by omega)
          have k4 : W3.cell? ⟨ig, k * 5 + 4, none⟩ = some (.bool it.spot.ahead) := R3.out.itCell HIV.out HAT.out (j := 4) (by omega)
          have f3 : ∀ j, W3.frozen? ⟨ig, j, none⟩ = false := R3.out.ifree HIV.out
          obtain ⟨_, lao', lcap', hlf, _, hlN⟩ := nums_of L3.out
          simp only [Value.slice.injEq, true_and] at hlf
          obtain ⟨rfl, rfl⟩ := hlf
          rcases hlN with h0 | ⟨lg, rfl, hlgs, hlc⟩
          · omega
          have HLC : Hid (∀ j, j < (P r.N K it.spot.root).length → W3.cell? ⟨lg, j, none⟩ = some (.int .i64 ((P r.N K it.spot.root).getD j 0 : Nat))) := hlc
          clear hb3 hcv hcf R2 F2 A4' HLV HM hlc CW CW2
          generalize (P r.N K it.spot.root).length = pl at *
          generalize (P r.N K c).length = pc at *
          have hq : (((q' : Int) - 1)).toNat = q' - 1 := by omega
          by_cases ha : it.spot.ahead = true
          · by_cases hlt : q' + pc < pl
            · have HE := Q4.out ha hlt
              have HEE : Hid (it.leave r.N s c = { it with spot := { it.spot with place := (P r.N K it.spot.root).getD (q' + pc) 0 } }) := HE
              have cl := HLC.out (q' + pc) hlt
              generalize (P r.N K it.spot.root).getD (q' + pc) 0 = y at *
              have R4 : Hid (RefOK (W3.setCell ⟨ig, k * 5 + 3, none⟩ (.int .i64 y)) { r.left s c k with il := (r.left s c k).il.set k { it with spot := { it.spot with place := y } } }) := R3.out.putIt HIV.out HAT.out (j := 3) (by omega) rfl ⟨rfl, rfl⟩
              have F4 : Hid (Fr r.own w (W3.setCell ⟨ig, k * 5 + 3, none⟩ (.int .i64 y))) := F3.out.setCell (p := ⟨ig, k * 5 + 3, none⟩) (Rx.own_i (by rw [HIV.out]; rfl)) _
              rw [ha] at a4 k4
              have i1 : ((q' : Int) + (pc : Int)) < (pl : Int) := by omega
              clear HE Q4 Q5 HLC L3 R3 F3 ha
              go_wp2_with fail
              go_region
              go_wp2_with fail
              go_roundw
              case rel => exact ⟨k + 1, hkl, by go_num, by
                have hs := HSET.out
                rw [HEE.out] at hs
                rw [← Rx.left_set hs]
                exact R4.out.drew, F4.out.drew⟩
              case measure => simp [intOf]; omega
            · have HEE : Hid (it.leave r.N s c = { it with spot := { it.spot with place := (P r.N K it.spot.root).getD (q' - 1) 0, ahead := false } }) := Q5.out (fun e => hlt e.2)
              have cl := HLC.out (q' - 1) (by omega)
              generalize (P r.N K it.spot.root).getD (q' - 1) 0 = y at *
              have R4 : Hid (RefOK (W3.setCell ⟨ig, k * 5 + 4, none⟩ (.bool false)) { r.left s c k with il := (r.left s c k).il.set k { it with spot := { it.spot with ahead := false } } }) := R3.out.putIt HIV.out HAT.out (j := 4) (by omega) rfl ⟨rfl, rfl⟩
              have F4 : Hid (Fr r.own w (W3.setCell ⟨ig, k * 5 + 4, none⟩ (.bool false))) := F3.out.setCell (p := ⟨ig, k * 5 + 4, none⟩) (Rx.own_i (by rw [HIV.out]; rfl)) _
              have hat2 : ((r.left s c k).il.set k { it with spot := { it.spot with ahead := false } })[k]? = some { it with spot := { it.spot with ahead := false } } := by
                rw [List.getElem?_set, if_pos rfl, if_pos (List.getElem?_eq_some_iff.1 HAT.out).1]
              have R5 := R4.out.putIt HIV.out hat2 (j := 3) (it' := { it with spot := { it.spot with place := y, ahead := false } }) (v := .int .i64 y) (by omega) rfl ⟨rfl, rfl⟩
              rw [List.set_set] at R5
              have R6 : Hid (RefOK ((W3.setCell ⟨ig, k * 5 + 4, none⟩ (.bool false)).setCell ⟨ig, k * 5 + 3, none⟩ (.int .i64 y)) { r.left s c k with il := (r.left s c k).il.set k { it with spot := { it.spot with place := y, ahead := false } } }) := R5
              have F6 : Hid (Fr r.own w ((W3.setCell ⟨ig, k * 5 + 4, none⟩ (.bool false)).setCell ⟨ig, k * 5 + 3, none⟩ (.int .i64 y))) := F4.out.setCell (p := ⟨ig, k * 5 + 3, none⟩) (Rx.own_i (by rw [HIV.out]; rfl)) _
              have c2' : (W3.setCell ⟨ig, k * 5 + 4, none⟩ (.bool false)).cell? ⟨r.rb, 2, none⟩ = some (.slice (some ⟨ig, 0, none⟩) r.il.length icap) := by rw [← HIV.out]; exact R4.out.c2
              have k3' : (W3.setCell ⟨ig, k * 5 + 4, none⟩ (.bool false)).cell? ⟨ig, k * 5 + 3, none⟩ = some (.int .i64 it.spot.place) := R4.out.itCell (it := { it with spot := { it.spot with ahead := false } }) HIV.out hat2 (j := 3) (by omega)
              have f3' : ∀ j, (W3.setCell ⟨ig, k * 5 + 4, none⟩ (.bool false)).frozen? ⟨ig, j, none⟩ = false := R4.out.ifree HIV.out
              have hlg : lg ≠ ig := by
                intro e
                obtain ⟨cs1, h1⟩ := row_block L3.out rfl
                have h2 := R3.out.its
                rw [show (r.left s c k).iv = r.iv from rfl, HIV.out] at h2
                exact row_ne h2 h1 (by decide) (by rw [e]; rfl)
              have cl' : (W3.setCell ⟨ig, k * 5 + 4, none⟩ (.bool false)).cell? ⟨lg, q' - 1, none⟩ = some (.int .i64 (y : Nat)) := (World.cell?_of_block (w := W3) (Below.heap_setCell _ _ _ _ hlg)).trans cl
              rw [ha] at a4 k4
              have i1 : ((q' : Int) - 1) < (pl : Int) := by omega
              have i2 : 0 ≤ ((q' : Int) - 1) := by omega
              have hlt' : decide ((q' : Int) + (pc : Int) < (pl : Int)) = false := by simp; omega
              clear hlt
              clear Q4 Q5 HLC L3 R3 F3 R4 F4 R5 hat2 cl
              go_wp2_with fail
              clear a4 k3 k4 c2 f3
              generalize W3.setCell ⟨ig, k * 5 + 4, none⟩ (.bool false) = W6 at *
              go_region
              go_wp2_with fail
              go_roundw
              case rel => exact ⟨k + 1, hkl, by go_num, by
                have hs := HSET.out
                rw [HEE.out] at hs
                rw [← Rx.left_set hs]
                exact R6.out.drew, F6.out.drew⟩
              case measure => simp [intOf]; omega
          · have ha' : it.spot.ahead = false := by simpa using ha
            have HEE : Hid (it.leave r.N s c = { it with spot := { it.spot with place := (P r.N K it.spot.root).getD (q' - 1) 0, ahead := false } }) := Q5.out (fun e => ha e.1)
            have cl := HLC.out (q' - 1) (by omega)
            generalize (P r.N K it.spot.root).getD (q' - 1) 0 = y at *
            have R4 : Hid (RefOK (W3.setCell ⟨ig, k * 5 + 4, none⟩ (.bool false)) { r.left s c k with il := (r.left s c k).il.set k { it with spot := { it.spot with ahead := false } } }) := R3.out.putIt HIV.out HAT.out (j := 4) (by omega) rfl ⟨rfl, rfl⟩
            have F4 : Hid (Fr r.own w (W3.setCell ⟨ig, k * 5 + 4, none⟩ (.bool false))) := F3.out.setCell (p := ⟨ig, k * 5 + 4, none⟩) (Rx.own_i (by rw [HIV.out]; rfl)) _
            have hat2 : ((r.left s c k).il.set k { it with spot := { it.spot with ahead := false } })[k]? = some { it with spot := { it.spot with ahead := false } } := by
              rw [List.getElem?_set, if_pos rfl, if_pos (List.getElem?_eq_some_iff.1 HAT.out).1]
            have R5 := R4.out.putIt HIV.out hat2 (j := 3) (it' := { it with spot := { it.spot with place := y, ahead := false } }) (v := .int .i64 y) (by omega) rfl ⟨rfl, rfl⟩
            rw [List.set_set] at R5
            have R6 : Hid (RefOK ((W3.setCell ⟨ig, k * 5 + 4, none⟩ (.bool false)).setCell ⟨ig, k * 5 + 3, none⟩ (.int .i64 y)) { r.left s c k with il := (r.left s c k).il.set k { it with spot := { it.spot with place := y, ahead := false } } }) := R5
            have F6 : Hid (Fr r.own w ((W3.setCell ⟨ig, k * 5 + 4, none⟩ (.bool false)).setCell ⟨ig, k * 5 + 3, none⟩ (.int .i64 y))) := F4.out.setCell (p := ⟨ig, k * 5 + 3, none⟩) (Rx.own_i (by rw [HIV.out]; rfl)) _
            have c2' : (W3.setCell ⟨ig, k * 5 + 4, none⟩ (.bool false)).cell? ⟨r.rb, 2, none⟩ = some (.slice (some ⟨ig, 0, none⟩) r.il.length icap) := by rw [← HIV.out]; exact R4.out.c2
            have k3' : (W3.setCell ⟨ig, k * 5 + 4, none⟩ (.bool false)).cell? ⟨ig, k * 5 + 3, none⟩ = some (.int .i64 it.spot.place) := R4.out.itCell (it := { it with spot := { it.spot with ahead := false } }) HIV.out hat2 (j := 3) (by omega)
            have f3' : ∀ j, (W3.setCell ⟨ig, k * 5 + 4, none⟩ (.bool false)).frozen? ⟨ig, j, none⟩ = false := R4.out.ifree HIV.out
            have hlg : lg ≠ ig := by
              intro e
              obtain ⟨cs1, h1⟩ := row_block L3.out rfl
              have h2 := R3.out.its
              rw [show (r.left s c k).iv = r.iv from rfl, HIV.out] at h2
              exact row_ne h2 h1 (by decide) (by rw [e]; rfl)
            have cl' : (W3.setCell ⟨ig, k * 5 + 4, none⟩ (.bool false)).cell? ⟨lg, q' - 1, none⟩ = some (.int .i64 (y : Nat)) := (World.cell?_of_block (w := W3) (Below.heap_setCell _ _ _ _ hlg)).trans cl
            rw [ha'] at a4 k4
            have i1 : ((q' : Int) - 1) < (pl : Int) := by omega
            have i2 : 0 ≤ ((q' : Int) - 1) := by omega
            clear ha
            clear Q4 Q5 HLC L3 R3 F3 R4 F4 R5 hat2 cl
            go_wp2_with fail
            clear a4 k3 k4 c2 f3
            generalize W3.setCell ⟨ig, k * 5 + 4, none⟩ (.bool false) = W6 at *
            go_region
            go_wp2_with fail
            go_roundw
            case rel => exact ⟨k + 1, hkl, by go_num, by
              have hs := HSET.out
              rw [HEE.out] at hs
              rw [← Rx.left_set hs]
              exact R6.out.drew, F6.out.drew⟩
            case measure => simp [intOf]; omega
    · have e1 : r.il.length = k := by omega
      subst e1
      have E1 : Hid (r.left s c r.il.length = { r with il := r.il.map (It.leave r.N s c) }) := by show r.left s c r.il.length = _; unfold Rx.left; rw [leftTo_all]
      go_wp2_with fail
      go_end0
      exact ⟨rfl, by rw [← E1.out]; exact HR.out, HF.out⟩
end
end Go.Proofs.YtcedebpoihcbdaaGreatDoor
