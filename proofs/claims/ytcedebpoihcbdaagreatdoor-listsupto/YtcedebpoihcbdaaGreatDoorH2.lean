/-
  The lists that a law holds: what 'dry' and 'waits' answer: true.
-/
import Derived.Test.YtcedebpoihcbdaaGreatDoorH1
import Derived.Deep.QuietTactic
import Derived.BigQuiet
namespace Go.Proofs.YtcedebpoihcbdaaGreatDoor
open Go.RowKit Gv

abbrev Ent := Value × Nat × Int
def entsCells (es : List Ent) : List Value := es.flatMap (fun x => [x.1, .int .i64 x.2.2])

theorem ents_at {es : List Ent} {k : Nat} {x : Ent} (h : es[k]? = some x) : (entsCells es)[k * 2]? = some x.1 ∧ (entsCells es)[k * 2 + 1]? = some (.int .i64 x.2.2) := by
  induction es generalizing k with
  | nil => simp at h
  | cons y ys ih =>
    have e : entsCells (y :: ys) = y.1 :: .int .i64 y.2.2 :: entsCells ys := by simp [entsCells]
    cases k with
    | zero => simp at h; subst h; rw [e]; simp
    | succ k =>
      have h' := ih (k := k) (by simpa using h)
      rw [e, show (k + 1) * 2 = k * 2 + 2 from by omega]
      simpa using h'

theorem rowForm {W : World} {D e size n : Nat} {v : Value} {xs : List Value} (h : W.ownsRow D e size v n xs) : ∃ ao cap, v = .slice ao n cap ∧ n ≤ cap ∧ (n = 0 ∨ ∃ g, ao = some ⟨g, 0, none⟩ ∧ g < W.heap.size ∧ ∀ j, j < n * size → W.cell? ⟨g, j, none⟩ = xs[j]?) := by
  rcases h.2 with ⟨rfl, rfl⟩ | ⟨g, cap, cur, rfl, hb, hg, h1, _⟩
  · exact ⟨none, 0, rfl, Nat.le_refl _, .inl rfl⟩
  · exact ⟨_, cap, rfl, h1, .inr ⟨g, rfl, lt_of_block hg, fun j hj => h.cellAt j hj⟩⟩

theorem below_drewN' {D : Nat} {a b : World} (h : Below D a b) (m : Nat) : Below D a (b.drewN m) := ⟨h.os, h.tape, h.output, h.size, h.block⟩

/-- The word 'mark'. -/
def markS : ByteArray := ⟨#[109, 97, 114, 107]⟩

/-- A slice of rules, each of which is the mark m. -/
def MarkedR (W : World) (v : Value) (n : Nat) (m : Int) : Prop :=
  ∃ ao cap, v = .slice ao n cap ∧ (n = 0 ∨ ∃ g, ao = some ⟨g, 0, none⟩ ∧ g < W.heap.size ∧ ∀ i, i < n → W.cell? ⟨g, i * 2, none⟩ = some (.string markS) ∧ W.cell? ⟨g, i * 2 + 1, none⟩ = some (.int .i64 m))

theorem MarkedR.keep {W W' : World} {v : Value} {n : Nat} {m : Int} (h : MarkedR W v n m) (hk : ∀ b, v.ownBlock = some b → b < W.heap.size → W'.heap[b]? = W.heap[b]?) (hs : W.heap.size ≤ W'.heap.size) : MarkedR W' v n m := by
  obtain ⟨ao, cap, rfl, h⟩ := h
  refine ⟨ao, cap, rfl, ?_⟩
  rcases h with h | ⟨g, rfl, hg, hc⟩
  · exact .inl h
  · have e := hk g rfl hg
    exact .inr ⟨g, rfl, Nat.lt_of_lt_of_le hg hs, fun i hi => ⟨(World.cell?_of_block (w := W) e).trans (hc i hi).1, (World.cell?_of_block (w := W) e).trans (hc i hi).2⟩⟩

/-- The blocks that rules which the law holds lie in. -/
def QOwn (qv : Value) (qs : List Ent) (b : Nat) : Prop := qv.ownBlock = some b ∨ ∃ x, x ∈ qs ∧ x.1.ownBlock = some b

/-- The rules that the law holds. -/
structure QInv (W : World) (D : Nat) (qv : Value) (qs : List Ent) : Prop where
  row : W.ownsRow D 174 2 qv qs.length (entsCells qs)
  ent : ∀ x, x ∈ qs → MarkedR W x.1 x.2.1 x.2.2 ∧ x.2.1 ≤ 10000000
  few : qs.length ≤ 1000000000000
  blk : ∀ b, QOwn qv qs b → ∃ cs t, W.heap[b]? = some (.cells cs t (0, 0)) ∧ (t = 174 ∨ t = 32)

theorem QInv.keep {W W' : World} {D : Nat} {qv : Value} {qs : List Ent} (h : QInv W D qv qs) (hk : ∀ b, QOwn qv qs b → b < W.heap.size → W'.heap[b]? = W.heap[b]?) (hs : W.heap.size ≤ W'.heap.size) : QInv W' D qv qs :=
  ⟨row_keep h.row (fun b hb => hk b (.inl hb) (h.row.lt b hb).2), fun x hx => ⟨(h.ent x hx).1.keep (fun b hb hl => hk b (.inr ⟨x, hx, hb⟩) hl) hs, (h.ent x hx).2⟩, h.few, fun b hb => by
    obtain ⟨cs, t, hc, ht⟩ := h.blk b hb
    exact ⟨cs, t, by rw [hk b hb (lt_of_block hc)]; exact hc, ht⟩⟩

theorem QInv.nil (W : World) (D : Nat) : QInv W D (.slice none 0 0) [] :=
  ⟨World.ownsRow_nil _ _ _ _, fun x hx => by simp at hx, by simp, fun b hb => by
    rcases hb with hb | ⟨x, hx, _⟩
    · simp [Value.ownBlock] at hb
    · simp at hx⟩

set_option maxRecDepth 100000 in
set_option maxHeartbeats 1000000 in
theorem dry {W : World} {D wb n : Nat} {gsv : Value × Value} {rsv iv wv ev : Value} {es qs : List Ent} (hQ : QInv W D gsv.2 qs) (hW : W.heap[wb]? = some (.cells (lawCells gsv rsv n iv wv ev) 55 (0, 0))) (hI : W.ownsRow D 172 2 iv es.length (entsCells es)) (hE : ∀ x, x ∈ es → Marked W x.1 x.2.1 x.2.2) (hk : es.length ≤ 1000000000000) (hl : ∀ x, x ∈ es → x.2.1 ≤ 100000) :
    Calls Tryz.prog 64 #[.pointer (some ⟨wb, 2, none⟩)] W fun e W' => e = .returned (.bool true) ∧ Below W.heap.size W W' := by
  have hwb := lt_of_block hW
  have HW : Hid (W.heap[wb]? = some (.cells (lawCells gsv rsv n iv wv ev) 55 (0, 0))) := hW
  obtain ⟨iao, icap, rfl, hic, hIc⟩ := rowForm hI
  have HIc : Hid _ := hIc
  have HE : Hid (∀ x, x ∈ es → Marked W x.1 x.2.1 x.2.2) := hE
  have HL : Hid (∀ x, x ∈ es → x.2.1 ≤ 100000) := hl
  have HQ : Hid (QInv W D gsv.2 qs) := hQ
  have hqn := hQ.few
  obtain ⟨qao, qcap, hqv, hqc, hQc⟩ := rowForm hQ.row
  have HQc : Hid _ := hQc
  clear hW hI hIc hE hl hQ hQc
  go_enter Tryz.func64, Tryz.ntmps64
  go_wp2_with fail
  go_loopw [3] (fun i wr => ∃ k : Nat, k ≤ es.length ∧ i = .int .i64 k ∧ Below W.heap.size W wr) (fun i _ => es.length - (intOf i).toNat)
  case atStart => exact ⟨0, Nat.zero_le _, rfl, Below.refl _ _⟩
  case round =>
    obtain ⟨k, hkl, rfl, hbel⟩ := hrel
    obtain ⟨w1, rfl⟩ : ∃ w1 : World, w1 = wr := ⟨_, rfl⟩
    have hW1 : w1.heap[wb]? = some (.cells (lawCells gsv rsv n (.slice iao es.length icap) wv ev) 55 (0, 0)) := (hbel.block wb hwb).trans HW.out
    have c3 : w1.cell? ⟨wb, 3, none⟩ = some (.slice iao es.length icap) := law_cell hW1 3
    have c4 : w1.cell? ⟨wb, 4, none⟩ = some (.slice qao qs.length qcap) := by rw [← hqv]; exact law_cell hW1 4
    have HB : Hid (Below W.heap.size W w1) := hbel
    clear hW1 hbel
    by_cases hlt : k < es.length
    · rcases HIc.out with h0 | ⟨ig, rfl, higs, hic'⟩
      · omega
      obtain ⟨x, hx⟩ : ∃ x, es[k]? = some x := ⟨_, List.getElem?_eq_getElem hlt⟩
      have hxa := ents_at hx
      have hmem : x ∈ es := List.mem_of_getElem? hx
      have hM := HE.out x hmem
      have hL := HL.out x hmem
      obtain ⟨xv, xn, xm⟩ := x
      obtain ⟨xao, xcap, hxv, hxc⟩ := hM
      simp only at hxv hxc hL hxa
      subst hxv
      have d0 : w1.cell? ⟨ig, k * 2, none⟩ = some (.slice xao xn xcap) := (HB.out.cell (p := ⟨ig, k * 2, none⟩) higs).trans ((hic' _ (by omega)).trans hxa.1)
      have d1 : w1.cell? ⟨ig, k * 2 + 1, none⟩ = some (.int .i64 xm) := (HB.out.cell (p := ⟨ig, k * 2 + 1, none⟩) higs).trans ((hic' _ (by omega)).trans hxa.2)
      have HX : Hid _ := hxc
      clear hxc hxa hmem hx hic'
      have hs1 := HB.out.size
      go_wp2_with fail
      go_loopw [5] (fun i wr => ∃ j : Nat, j ≤ xn ∧ i = .int .i64 j ∧ Below w1.heap.size w1 wr ∧ wr.cell? ⟨w1.heap.size, 0, none⟩ = some (.slice xao xn xcap) ∧ wr.cell? ⟨w1.heap.size, 1, none⟩ = some (.int .i64 xm)) (fun i _ => xn - (intOf i).toNat)
      case atStart => exact ⟨0, Nat.zero_le _, rfl, (Below.refl _ _).alloc (Nat.le_refl _) _, by simp, by simp⟩
      case round =>
        obtain ⟨j, hj, rfl, hb2, q0, q1⟩ := hrel
        obtain ⟨w2, rfl⟩ : ∃ w2 : World, w2 = wr := ⟨_, rfl⟩
        have HB2 : Hid (Below w1.heap.size w1 w2) := hb2
        clear hb2
        by_cases hjl : j < xn
        · rcases HX.out with h0 | ⟨g, rfl, ⟨cs, hg⟩, hc⟩
          · omega
          have hgs : g < W.heap.size := lt_of_block hg
          have cj : w2.cell? ⟨g, j, none⟩ = some (.int .i64 xm) := (HB2.out.cell (p := ⟨g, j, none⟩) (by exact Nat.lt_of_lt_of_le hgs hs1)).trans ((HB.out.cell (p := ⟨g, j, none⟩) hgs).trans (hc j hjl))
          have ib : (j : Int) < (xn : Int) := by omega
          clear hc hg
          have Q0 : Hid (w2.cell? ⟨w1.heap.size, 0, none⟩ = some (.slice (some ⟨g, 0, none⟩) xn xcap)) := q0
          have Q1 : Hid (w2.cell? ⟨w1.heap.size, 1, none⟩ = some (.int .i64 xm)) := q1
          go_wp2_with fail
          go_quiet (fail)
          go_wp2_with fail
          go_roundw
          case rel => exact ⟨j + 1, hjl, by go_num, below_drewN' HB2.out nq, Q0.out, Q1.out⟩
          case measure => simp [intOf]; omega
        · have hB3 : Hid (Below W.heap.size W w2) := HB.out.trans (HB2.out.mono HB.out.size)
          go_wp2_with fail
          go_roundw
          case rel => exact ⟨k + 1, hlt, by go_num, hB3.out⟩
          case measure => simp [intOf]; omega
    · have hkk : ¬ (k : Int) < (es.length : Int) := by omega
      go_wp2_with fail
      clear c3 c4
      go_loopw [6] (fun i wr => ∃ k : Nat, k ≤ qs.length ∧ i = .int .i64 k ∧ Below W.heap.size W wr) (fun i _ => qs.length - (intOf i).toNat)
      case atStart => exact ⟨0, Nat.zero_le _, rfl, HB.out⟩
      case round =>
        clear HB
        obtain ⟨k, hkl, rfl, hbel⟩ := hrel
        obtain ⟨w1, rfl⟩ : ∃ w1 : World, w1 = wr := ⟨_, rfl⟩
        have hW1 : w1.heap[wb]? = some (.cells (lawCells gsv rsv n (.slice iao es.length icap) wv ev) 55 (0, 0)) := (hbel.block wb hwb).trans HW.out
        have c4 : w1.cell? ⟨wb, 4, none⟩ = some (.slice qao qs.length qcap) := by rw [← hqv]; exact law_cell hW1 4
        have HB : Hid (Below W.heap.size W w1) := hbel
        clear hW1 hbel
        by_cases hlt : k < qs.length
        · rcases HQc.out with h0 | ⟨ig, rfl, higs, hic'⟩
          · omega
          obtain ⟨x, hx⟩ : ∃ x, qs[k]? = some x := ⟨_, List.getElem?_eq_getElem hlt⟩
          have hxa := ents_at hx
          have hmem : x ∈ qs := List.mem_of_getElem? hx
          have hM := (HQ.out.ent x hmem).1
          have hL := (HQ.out.ent x hmem).2
          obtain ⟨xv, xn, xm⟩ := x
          obtain ⟨xao, xcap, hxv, hxc⟩ := hM
          simp only at hxv hxc hL hxa
          subst hxv
          have d0 : w1.cell? ⟨ig, k * 2, none⟩ = some (.slice xao xn xcap) := (HB.out.cell (p := ⟨ig, k * 2, none⟩) higs).trans ((hic' _ (by omega)).trans hxa.1)
          have d1 : w1.cell? ⟨ig, k * 2 + 1, none⟩ = some (.int .i64 xm) := (HB.out.cell (p := ⟨ig, k * 2 + 1, none⟩) higs).trans ((hic' _ (by omega)).trans hxa.2)
          have HX : Hid _ := hxc
          clear hxc hxa hmem hx hic'
          have hs1 := HB.out.size
          go_wp2_with fail
          go_loopw [8] (fun i wr => ∃ j : Nat, j ≤ xn ∧ i = .int .i64 j ∧ Below w1.heap.size w1 wr ∧ wr.cell? ⟨w1.heap.size, 0, none⟩ = some (.slice xao xn xcap) ∧ wr.cell? ⟨w1.heap.size, 1, none⟩ = some (.int .i64 xm)) (fun i _ => xn - (intOf i).toNat)
          case atStart => exact ⟨0, Nat.zero_le _, rfl, (Below.refl _ _).alloc (Nat.le_refl _) _, by simp, by simp⟩
          case round =>
            obtain ⟨j, hj, rfl, hb2, q0, q1⟩ := hrel
            obtain ⟨w2, rfl⟩ : ∃ w2 : World, w2 = wr := ⟨_, rfl⟩
            have HB2 : Hid (Below w1.heap.size w1 w2) := hb2
            clear hb2
            by_cases hjl : j < xn
            · rcases HX.out with h0 | ⟨g, rfl, hgs, hc⟩
              · omega
              have cj : w2.cell? ⟨g, j * 2, none⟩ = some (.string markS) := (HB2.out.cell (p := ⟨g, j * 2, none⟩) (by exact Nat.lt_of_lt_of_le hgs hs1)).trans ((HB.out.cell (p := ⟨g, j * 2, none⟩) hgs).trans (hc j hjl).1)
              have cj1 : w2.cell? ⟨g, j * 2 + 1, none⟩ = some (.int .i64 xm) := (HB2.out.cell (p := ⟨g, j * 2 + 1, none⟩) (by exact Nat.lt_of_lt_of_le hgs hs1)).trans ((HB.out.cell (p := ⟨g, j * 2 + 1, none⟩) hgs).trans (hc j hjl).2)
              have ib : (j : Int) < (xn : Int) := by omega
              clear hc
              unfold markS at cj
              have Q0 : Hid (w2.cell? ⟨w1.heap.size, 0, none⟩ = some (.slice (some ⟨g, 0, none⟩) xn xcap)) := q0
              have Q1 : Hid (w2.cell? ⟨w1.heap.size, 1, none⟩ = some (.int .i64 xm)) := q1
              go_wp2_with fail
              go_quiet (fail)
              go_wp2_with fail
              go_roundw
              case rel => exact ⟨j + 1, hjl, by go_num, below_drewN' HB2.out nq, Q0.out, Q1.out⟩
              case measure => simp [intOf]; omega
            · have hB3 : Hid (Below W.heap.size W w2) := HB.out.trans (HB2.out.mono HB.out.size)
              go_wp2_with fail
              go_roundw
              case rel => exact ⟨k + 1, hlt, by go_num, hB3.out⟩
              case measure => simp [intOf]; omega
        · have hkk : ¬ (k : Int) < (qs.length : Int) := by omega
          go_wp2_with fail
          go_ret
          exact ⟨rfl, HB.out⟩

abbrev Wait := Value × Value × List Nat

theorem nums_form {W : World} {D n : Nat} {v : Value} {l : List Nat} (h : W.ownsRow D 3 1 v n (ints l)) (hn : n = l.length) : ∃ ao cap, v = .slice ao n cap ∧ (n = 0 ∨ ∃ g, ao = some ⟨g, 0, none⟩ ∧ g < W.heap.size ∧ ∀ j, j < n → W.cell? ⟨g, j, none⟩ = some (.int .i64 (l.getD j 0 : Nat))) := by
  obtain ⟨ao, cap, hv, _, hc⟩ := rowForm h
  refine ⟨ao, cap, hv, ?_⟩
  rcases hc with hc | ⟨g, e, hg, hc⟩
  · exact .inl hc
  · refine .inr ⟨g, e, hg, fun j hj => ?_⟩
    rw [hc j (by omega)]
    simp only [ints, List.getElem?_map]
    rw [List.getElem?_eq_getElem (by omega), List.getD_eq_getElem?_getD, List.getElem?_eq_getElem (by omega)]
    rfl

set_option maxRecDepth 100000 in
set_option maxHeartbeats 1000000 in
theorem waitsL {W : World} {D wb n : Nat} {gsv : Value × Value} {rsv iv wv ev : Value} {ws : List Wait} (hW : W.heap[wb]? = some (.cells (lawCells gsv rsv n iv wv ev) 55 (0, 0))) (hT : W.ownsRow D 25 1 wv ws.length (ws.map (·.1))) (hE : W.ownsRow D 25 1 ev ws.length (ws.map (·.2.1)))
    (hL : ∀ x, x ∈ ws → W.ownsRow D 3 1 x.1 x.2.2.length (ints x.2.2) ∧ W.ownsRow D 3 1 x.2.1 x.2.2.length (ints x.2.2) ∧ x.2.2.length ≤ 100000) (hk : ws.length ≤ 1000000000000) :
    Calls Tryz.prog 63 #[.pointer (some ⟨wb, 2, none⟩)] W fun e W' => e = .returned (.bool true) ∧ Below W.heap.size W W' := by
  have hwb := lt_of_block hW
  have HW : Hid (W.heap[wb]? = some (.cells (lawCells gsv rsv n iv wv ev) 55 (0, 0))) := hW
  obtain ⟨tao, tcap, rfl, _, hTc⟩ := rowForm hT
  obtain ⟨eao, ecap, rfl, _, hEc⟩ := rowForm hE
  have HTc : Hid _ := hTc
  have HEc : Hid _ := hEc
  have HL : Hid (∀ x, x ∈ ws → W.ownsRow D 3 1 x.1 x.2.2.length (ints x.2.2) ∧ W.ownsRow D 3 1 x.2.1 x.2.2.length (ints x.2.2) ∧ x.2.2.length ≤ 100000) := hL
  clear hW hT hE hTc hEc hL
  go_enter Tryz.func63, Tryz.ntmps63
  go_wp2_with fail
  go_loopw [3, 4] (fun o i wr => ∃ k : Nat, k ≤ ws.length ∧ o = .bool true ∧ i = .int .i64 k ∧ Below W.heap.size W wr) (fun _ i _ => ws.length - (intOf i).toNat)
  case atStart => exact ⟨0, Nat.zero_le _, rfl, rfl, Below.refl _ _⟩
  case round =>
    obtain ⟨k, hkl, rfl, rfl, hbel⟩ := hrel
    obtain ⟨w1, rfl⟩ : ∃ w1 : World, w1 = wr := ⟨_, rfl⟩
    have hW1 : w1.heap[wb]? = some (.cells (lawCells gsv rsv n iv (.slice tao ws.length tcap) (.slice eao ws.length ecap)) 55 (0, 0)) := (hbel.block wb hwb).trans HW.out
    have c5 : w1.cell? ⟨wb, 5, none⟩ = some (.slice tao ws.length tcap) := law_cell hW1 5
    have HB : Hid (Below W.heap.size W w1) := hbel
    clear hW1 hbel
    by_cases hlt : k < ws.length
    · rcases HTc.out with h0 | ⟨tg, rfl, htgs, htc⟩
      · omega
      rcases HEc.out with h0 | ⟨eg, rfl, hegs, hec⟩
      · omega
      obtain ⟨x, hx⟩ : ∃ x, ws[k]? = some x := ⟨_, List.getElem?_eq_getElem hlt⟩
      have hmem : x ∈ ws := List.mem_of_getElem? hx
      have hxl := HL.out x hmem
      obtain ⟨xv, yv, l⟩ := x
      simp only at hxl
      obtain ⟨xao, xcap, hxv, hxc⟩ := nums_form hxl.1 rfl
      obtain ⟨yao, ycap, hyv, hyc⟩ := nums_form hxl.2.1 rfl
      have hll := hxl.2.2
      subst hxv
      subst hyv
      have D0 : Hid (W.cell? ⟨tg, k, none⟩ = some (.slice xao l.length xcap)) := by
        show W.cell? ⟨tg, k, none⟩ = _
        rw [htc k (by omega), List.getElem?_map, hx]; rfl
      have D1 : Hid (W.cell? ⟨eg, k, none⟩ = some (.slice yao l.length ycap)) := by
        show W.cell? ⟨eg, k, none⟩ = _
        rw [hec k (by omega), List.getElem?_map, hx]; rfl
      have HX : Hid _ := hxc
      have HY : Hid _ := hyc
      clear hxl hxc hyc hmem hx htc hec
      have ibk : (k : Int) < (ws.length : Int) := by omega
      go_wp2_with fail
      go_loopw [3, 5] (fun o i wr => ∃ j : Nat, j ≤ l.length ∧ o = .bool true ∧ i = .int .i64 j ∧ Below W.heap.size W wr) (fun _ i _ => l.length - (intOf i).toNat)
      case atStart => exact ⟨0, Nat.zero_le _, rfl, rfl, HB.out⟩
      case round =>
        obtain ⟨j, hj, rfl, rfl, hb2⟩ := hrel
        obtain ⟨w2, rfl⟩ : ∃ w2 : World, w2 = wr := ⟨_, rfl⟩
        have hW2 : w2.heap[wb]? = some (.cells (lawCells gsv rsv n iv (.slice (some ⟨tg, 0, none⟩) ws.length tcap) (.slice (some ⟨eg, 0, none⟩) ws.length ecap)) 55 (0, 0)) := (hb2.block wb hwb).trans HW.out
        have c5' : w2.cell? ⟨wb, 5, none⟩ = some (.slice (some ⟨tg, 0, none⟩) ws.length tcap) := law_cell hW2 5
        have c6' : w2.cell? ⟨wb, 6, none⟩ = some (.slice (some ⟨eg, 0, none⟩) ws.length ecap) := law_cell hW2 6
        have d0 : w2.cell? ⟨tg, k, none⟩ = some (.slice xao l.length xcap) := (hb2.cell (p := ⟨tg, k, none⟩) htgs).trans D0.out
        have d1 : w2.cell? ⟨eg, k, none⟩ = some (.slice yao l.length ycap) := (hb2.cell (p := ⟨eg, k, none⟩) hegs).trans D1.out
        have HB2 : Hid (Below W.heap.size W w2) := hb2
        clear hb2 hW2
        by_cases hjl : j < l.length
        · rcases HX.out with h0 | ⟨g, rfl, hgs, hc⟩
          · omega
          rcases HY.out with h0 | ⟨g', rfl, hgs', hc'⟩
          · omega
          have x1 : w2.cell? ⟨g, j, none⟩ = some (.int .i64 (l.getD j 0 : Nat)) := (HB2.out.cell (p := ⟨g, j, none⟩) hgs).trans (hc j hjl)
          have x2 : w2.cell? ⟨g', j, none⟩ = some (.int .i64 (l.getD j 0 : Nat)) := (HB2.out.cell (p := ⟨g', j, none⟩) hgs').trans (hc' j hjl)
          generalize l.getD j 0 = y at *
          have ib : (j : Int) < (l.length : Int) := by omega
          clear hc hc'
          go_wp2_with fail
          go_quiet (fail)
          go_wp2_with fail
          go_roundw
          case rel => exact ⟨j + 1, hjl, by simp, by go_num, below_drewN' HB2.out nq⟩
          case measure => simp [intOf]; omega
        · have hjj : ¬ (j : Int) < (l.length : Int) := by omega
          go_wp2_with fail
          go_roundw
          case rel => exact ⟨k + 1, hlt, rfl, by go_num, HB2.out⟩
          case measure => simp [intOf]; omega
    · have hkk : ¬ (k : Int) < (ws.length : Int) := by omega
      go_wp2_with fail
      go_ret
      exact ⟨rfl, HB.out⟩
end Go.Proofs.YtcedebpoihcbdaaGreatDoor
