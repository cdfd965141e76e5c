/-
  What a list's nodes does: it looks anew where its stamp is not that of now.
-/
import Derived.Test.YtcedebpoihcbdaaDoorL10
namespace Go.Proofs.YtcedebpoihcbdaaDoor
open Go.RowKit Gv

/-- The list as it is when it has just looked. -/
def Ls.fresh (x : Ls) (v : Value) (l : List Nat) (r : Re) : Ls := { x with fv := v, fd := l, pl := r.pl, cl := nowCl x.how r }

theorem Lss.store {w : World} {B g cap n : Nat} {ls : List Ls} (h : Lss w B (.slice (some ⟨g, 0, none⟩) n cap) ls) {i j : Nat} {x x' : Ls} {v : Value} (hi : ls[i]? = some x) (hj : j < 6) (hs : x'.row = x.row.set j v) (hf : w.ownsRow B 3 1 x'.fv x'.fd.length (ints x'.fd)) :
    Lss (w.setCell ⟨g, i * 6 + j, none⟩ v) B (.slice (some ⟨g, 0, none⟩) n cap) (ls.set i x') := by
  obtain ⟨cur, hc⟩ : ∃ cur, w.heap[g]? = some (.cells cur 54 (0, 0)) := by
    rcases row_form h.row with ⟨e, _⟩ | ⟨g', c', e, _, _, hc, _⟩
    · simp at e
    · simp at e; rw [e.1]; exact hc
  obtain rfl := row_n h.row
  have hst := (h.row.stored (i * 6 + j) v).1
  rw [flat_set Ls.row_len hi hj hs] at hst
  have hF : Fr (fun k => k = g) w (w.setCell ⟨g, i * 6 + j, none⟩ v) := (Fr.refl (fun k => k = g) w).setCell (p := ⟨g, i * 6 + j, none⟩) rfl v
  have keep : ∀ y : Ls, w.ownsRow B 3 1 y.fv y.fd.length (ints y.fd) → (w.setCell ⟨g, i * 6 + j, none⟩ v).ownsRow B 3 1 y.fv y.fd.length (ints y.fd) := fun y hy =>
    ownsRow_fr hy hF (fun k hk e => by subst e; exact row_apart hy hc (by decide) hk)
  refine ⟨by rw [List.length_set]; exact hst, by rw [List.length_set]; exact h.few, fun y hy => ?_⟩
  rcases List.mem_or_eq_of_mem_set hy with hy | rfl
  · exact keep y (h.found y hy)
  · exact keep _ hf

theorem row_slice {w : World} {base : Nat} {e : TypeId} {size : Nat} {v : Value} {n : Nat} {xs : List Value} (h : w.ownsRow base e size v n xs) : ∃ fo fn fc, v = .slice fo fn fc := by
  rcases row_form h with ⟨e, _⟩ | ⟨g, cp, e, _⟩
  · exact ⟨_, _, _, e⟩
  · exact ⟨_, _, _, e⟩

theorem keepS {W : World} {b lb k : Nat} {p q v : Value} (hne : b ≠ lb) (h : W.cell? ⟨b, 0, none⟩ = some p ∧ W.cell? ⟨b, 1, none⟩ = some q) : (W.setCell ⟨lb, k, none⟩ v).cell? ⟨b, 0, none⟩ = some p ∧ (W.setCell ⟨lb, k, none⟩ v).cell? ⟨b, 1, none⟩ = some q := by
  have hb : (W.setCell ⟨lb, k, none⟩ v).heap[b]? = W.heap[b]? := Below.heap_setCell _ _ _ _ hne
  exact ⟨(World.cell?_of_block (a := ⟨b, 0, none⟩) hb).trans h.1, (World.cell?_of_block (a := ⟨b, 1, none⟩) hb).trans h.2⟩

theorem fr_set3 {w w4 : World} {lb a b c : Nat} {u v t : Value} (h : Below w.heap.size w w4) : Fr (fun k => k = lb) w (((w4.setCell ⟨lb, a, none⟩ u).setCell ⟨lb, b, none⟩ v).setCell ⟨lb, c, none⟩ t) := by
  have h0 : Fr (fun k => k = lb) w w4 := Fr.of_below h
  have h1 := h0.setCell (p := ⟨lb, a, none⟩) rfl u
  have h2 := h1.setCell (p := ⟨lb, b, none⟩) rfl v
  exact h2.setCell (p := ⟨lb, c, none⟩) rfl t

theorem set_same {α : Type} {l : List α} {i : Nat} {x : α} (h : l[i]? = some x) : l.set i x = l := by
  apply List.ext_getElem?
  intro k
  rw [List.getElem?_set]
  split
  · rename_i e
    subst e
    split
    · exact h.symm
    · rename_i hl; rw [List.getElem?_eq_none (by omega)]
  · rfl

theorem Lss.stamped {w : World} {B g cap n : Nat} {ls : List Ls} (h : Lss w B (.slice (some ⟨g, 0, none⟩) n cap) ls) {i : Nat} {x : Ls} (hi : ls[i]? = some x) {v : Value} {l : List Nat} (r : Re) (hf : w.ownsRow B 3 1 v l.length (ints l)) :
    Lss (((w.setCell ⟨g, i * 6 + 3, none⟩ v).setCell ⟨g, i * 6 + 4, none⟩ (.int .i64 r.pl)).setCell ⟨g, i * 6 + 5, none⟩ (.int .i64 (nowCl x.how r))) B (.slice (some ⟨g, 0, none⟩) n cap) (ls.set i (x.fresh v l r)) := by
  have hl : i < ls.length := (List.getElem?_eq_some_iff.1 hi).1
  have s1 := h.store (j := 3) (x' := { x with fv := v, fd := l }) hi (by omega) rfl hf
  have i1 : (ls.set i { x with fv := v, fd := l })[i]? = some { x with fv := v, fd := l } := by rw [List.getElem?_set]; simp [hl]
  have s2 := s1.store (j := 4) (x' := { x with fv := v, fd := l, pl := r.pl }) (v := .int .i64 r.pl) i1 (by omega) rfl (s1.found { x with fv := v, fd := l } (List.mem_of_getElem? i1))
  rw [List.set_set] at s2
  have i2 : (ls.set i { x with fv := v, fd := l, pl := r.pl })[i]? = some { x with fv := v, fd := l, pl := r.pl } := by rw [List.getElem?_set]; simp [hl]
  have s3 := s2.store (j := 5) (x' := x.fresh v l r) (v := .int .i64 (nowCl x.how r)) i2 (by omega) rfl (s2.found { x with fv := v, fd := l, pl := r.pl } (List.mem_of_getElem? i2))
  rw [List.set_set] at s3
  exact s3

section
variable {B : Nat} {w w' : World} {gb nb cap N : Nat} {kk : Nat → Nat} {tg : Nat → ByteArray} {kd : Nat → Value} {mp : Nat → Nat} {σ : St} {r : Re} {A : Nat → ByteArray → Option ByteArray}

/-- A list of the grove: what it may be, and that it has found what there is where its stamp is that of now. -/
structure Ls.OK (N : Nat) (kk : Nat → Nat) (tg : Nat → ByteArray) (A : Nat → ByteArray → Option ByteArray) (K : Nat → List Nat) (r : Re) (x : Ls) : Prop where
  root : 1 ≤ x.root ∧ x.root ≤ N
  how : 1 ≤ x.how ∧ x.how ≤ 4
  pl : x.pl ≤ r.pl
  cl : x.how = 2 → x.cl ≤ r.cl
  right : x.pl = r.pl → x.cl = nowCl x.how r → x.fd = lookF N kk tg A K x.root x.how x.what

set_option maxRecDepth 100000 in
set_option maxHeartbeats 1000000 in
theorem nodesC (h : Gro B w gb nb cap N kk tg kd mp σ r) (hA : Ats w B N kk mp A) (hN : 1 ≤ N) {lb n c i : Nat} {ls : List Ls} {x : Ls} (hL : Lss w B (.slice (some ⟨lb, 0, none⟩) n c) ls) (hi : ls[i]? = some x) (hx : x.OK N kk tg A σ.K r) :
    Calls Tryd.prog 50 #[.pointer (some ⟨lb, i * 6, none⟩), .pointer (some ⟨gb, 0, none⟩)] w fun e w' => ∃ v, e = .returned v ∧ Lss w' B (.slice (some ⟨lb, 0, none⟩) n c) (ls.set i (x.fresh v (lookF N kk tg A σ.K x.root x.how x.what) r)) ∧ Fr (fun k => k = lb) w w' := by
  have hlb : lb < w.heap.size := by
    rcases row_form hL.row with ⟨e, _⟩ | ⟨g', c', e, _, hlt, _⟩
    · simp at e
    · simp at e; rw [e.1]; exact hlt
  have c1 : w.cell? ⟨lb, i * 6 + 1, none⟩ = some (.int .i64 x.how) := hL.cellAt (j := 1) hi (by omega)
  have HNow : Hid _ := nowF h.held x.how hlb c1
  have HG : Hid _ := h
  have HA : Hid _ := hA
  have HLs : Hid _ := hL
  clear h hA hL
  go_enter Tryd.func50, Tryd.ntmps50
  go_wp2_with fail
  refine Calls.mono HNow.out ?_
  rintro e w1 ⟨rfl, hB1⟩
  have HB1 : Hid (Below w.heap.size w w1) := hB1
  clear hB1 HNow c1
  go_wp2_with fail
  obtain ⟨W2, hW2⟩ : ∃ W2, W2 = w1.alloc (.cells #[.int .i64 r.pl, .int .i64 (nowCl x.how r)] 41) := ⟨_, rfl⟩
  have HB2 : Hid (Below w.heap.size w W2) := by show Below _ _ _; rw [hW2]; exact HB1.out.alloc HB1.out.size _
  have b1 : W2.cell? ⟨w1.heap.size, 0, none⟩ = some (.int .i64 r.pl) := by rw [hW2, World.cell?_alloc_at _ _ _ _ rfl]; rfl
  have b2 : W2.cell? ⟨w1.heap.size, 1, none⟩ = some (.int .i64 (nowCl x.how r)) := by rw [hW2, World.cell?_alloc_at _ _ _ _ rfl]; rfl
  rw [← hW2]
  have HL2 : Hid (Lss W2 B (.slice (some ⟨lb, 0, none⟩) n c) ls) := HLs.out.since HB2.out
  have a4 : W2.cell? ⟨lb, i * 6 + 4, none⟩ = some (.int .i64 x.pl) := HL2.out.cellAt (j := 4) hi (by omega)
  have a5 : W2.cell? ⟨lb, i * 6 + 5, none⟩ = some (.int .i64 x.cl) := HL2.out.cellAt (j := 5) hi (by omega)
  clear hW2
  obtain ⟨fo, fn, fc, hfv⟩ : ∃ fo fn fc, x.fv = .slice fo fn fc := row_slice (HL2.out.found x (List.mem_of_getElem? hi))
  have a3 : W2.cell? ⟨lb, i * 6 + 3, none⟩ = some (.slice fo fn fc) := by rw [HL2.out.cellAt (j := 3) hi (by omega), ← hfv]; rfl
  have HFV : Hid (x.fv = .slice fo fn fc) := hfv
  have HX : Hid (x.OK N kk tg A σ.K r) := hx
  have HI : Hid (ls[i]? = some x) := hi
  clear hfv hx hi
  have hnb : w1.heap.size ≠ lb := fun e => by have := HB1.out.size; omega
  by_cases hp : x.pl = r.pl
  · by_cases hc : x.cl = nowCl x.how r
    · rw [hp] at a4
      rw [hc] at a5
      have HP : Hid (x.pl = r.pl) := hp
      have HC : Hid (x.cl = nowCl x.how r) := hc
      clear hp hc
      have HFr : Hid (x.fresh (.slice fo fn fc) (lookF N kk tg A σ.K x.root x.how x.what) r = x) := by
        show x.fresh _ _ _ = x
        rw [← HFV.out, ← HX.out.right HP.out HC.out]
        unfold Ls.fresh
        rw [← HC.out, ← HP.out]
      generalize hq : nowCl x.how r = q at b2 a5 ⊢
      generalize hpp : r.pl = p at b1 a4 ⊢
      clear hq hpp
      go_region_held3 (fun wx => wx.cell? ⟨w1.heap.size, 0, none⟩ = some (.int .i64 p) ∧ wx.cell? ⟨w1.heap.size, 1, none⟩ = some (.int .i64 q) ∧ wx.cell? ⟨lb, i * 6 + 4, none⟩ = some (.int .i64 p) ∧ wx.cell? ⟨lb, i * 6 + 5, none⟩ = some (.int .i64 q)) (first | exact ⟨b1, b2, a4, a5⟩ | go_keep) (fail)
      go_wp2_with fail
      go_ret
      refine ⟨_, rfl, ?_, ?_⟩
      · show Lss W2.drew B _ (ls.set i (x.fresh (.slice fo fn fc) _ r))
        rw [HFr.out, set_same HI.out]
        exact HL2.out.since (Below.refl _ _).drew
      · exact (Fr.of_below HB2.out).drew
    · have hne : (x.cl == nowCl x.how r) = false := by simpa using hc
      rw [hp] at a4
      go_region_held3 (fun wx => wx.cell? ⟨w1.heap.size, 0, none⟩ = some (.int .i64 r.pl) ∧ wx.cell? ⟨w1.heap.size, 1, none⟩ = some (.int .i64 (nowCl x.how r)) ∧ wx.cell? ⟨lb, i * 6 + 4, none⟩ = some (.int .i64 r.pl) ∧ wx.cell? ⟨lb, i * 6 + 5, none⟩ = some (.int .i64 x.cl)) (first | exact ⟨b1, b2, a4, a5⟩ | go_keep) (fail)
      go_wp2_with fail
      have HB3 : Hid (Below w.heap.size w W2.drew) := HB2.out.drew
      have lw1 : w1.heap.size < W2.drew.heap.size := World.block_lt_of_cell? W2 ⟨w1.heap.size, 0, none⟩ b1
      have HLook : Hid _ := lookC (w := W2.drew.drew) (HG.out.since HB3.out.drew) (HA.out.since HB3.out.drew) hN x.root x.how HX.out.how x.what HX.out.root.1 HX.out.root.2 (lb := lb) (o := i * 6) ((HB3.out.drew.cell (p := ⟨lb, i * 6, none⟩) hlb).trans (HLs.out.cellAt (j := 0) HI.out (by omega))) ((HB3.out.drew.cell (p := ⟨lb, i * 6 + 1, none⟩) hlb).trans (HLs.out.cellAt (j := 1) HI.out (by omega))) ((HB3.out.drew.cell (p := ⟨lb, i * 6 + 2, none⟩) hlb).trans (HLs.out.cellAt (j := 2) HI.out (by omega))) (Nat.lt_of_lt_of_le hlb HB3.out.drew.size)
      have d1 : W2.drew.cell? ⟨w1.heap.size, 0, none⟩ = some (.int .i64 r.pl) := b1
      have d2 : W2.drew.cell? ⟨w1.heap.size, 1, none⟩ = some (.int .i64 (nowCl x.how r)) := b2
      go_region_held3 (fun wx => wx.cell? ⟨w1.heap.size, 0, none⟩ = some (.int .i64 r.pl) ∧ wx.cell? ⟨w1.heap.size, 1, none⟩ = some (.int .i64 (nowCl x.how r))) (first | exact ⟨d1, d2⟩ | exact ⟨y1, y2⟩ | exact keepS hnb ⟨y1, y2⟩ | exact keepS hnb (keepS hnb ⟨y1, y2⟩) | exact keepS hnb (keepS hnb (keepS hnb ⟨y1, y2⟩)) | go_keep) ((go_at_call 60; refine Calls.mono HLook.out ?_; rintro e w4 ⟨v, rfl, hv, hB4⟩; obtain ⟨vo, vn, vc, hvv⟩ := row_slice hv; subst hvv; have HV : Hid _ := hv; have HB4 : Hid (Below W2.drew.heap.size W2.drew w4) := (Below.refl _ W2.drew).drew.trans hB4; have y1 : w4.cell? ⟨w1.heap.size, 0, none⟩ = some (.int .i64 r.pl) := (HB4.out.cell (p := ⟨w1.heap.size, 0, none⟩) lw1).trans b1; have y2 : w4.cell? ⟨w1.heap.size, 1, none⟩ = some (.int .i64 (nowCl x.how r)) := (HB4.out.cell (p := ⟨w1.heap.size, 1, none⟩) lw1).trans b2; have HL4 : Hid (Lss w4 B (.slice (some ⟨lb, 0, none⟩) n c) ls) := HL2.out.since ((Below.refl _ W2).drew.trans HB4.out); have f3 : w4.cell? ⟨lb, i * 6 + 3, none⟩ = some (.slice fo fn fc) := (HL4.out.cellAt (j := 3) HI.out (by omega)).trans (by rw [← HFV.out]; rfl); have f4 : w4.cell? ⟨lb, i * 6 + 4, none⟩ = some (.int .i64 x.pl) := HL4.out.cellAt (j := 4) HI.out (by omega); have f5 : w4.cell? ⟨lb, i * 6 + 5, none⟩ = some (.int .i64 x.cl) := HL4.out.cellAt (j := 5) HI.out (by omega); have g3 := HL4.out.free (i * 6 + 3); have g4 := HL4.out.free (i * 6 + 4); have g5 := HL4.out.free (i * 6 + 5); clear hv hB4))
      obtain ⟨W5, hW5⟩ : ∃ W5, W5 = ((w4.setCell ⟨lb, i * 6 + 3, none⟩ (.slice vo vn vc)).setCell ⟨lb, i * 6 + 4, none⟩ (.int .i64 r.pl)).setCell ⟨lb, i * 6 + 5, none⟩ (.int .i64 (nowCl x.how r)) := ⟨_, rfl⟩
      have HF5 : Hid (Fr (fun k => k = lb) w W5) := by
        show Fr _ _ _
        rw [hW5]
        exact fr_set3 (HB3.out.trans (HB4.out.mono HB3.out.size))
      have HL5 : Hid (Lss W5 B (.slice (some ⟨lb, 0, none⟩) n c) (ls.set i (x.fresh (.slice vo vn vc) (lookF N kk tg A σ.K x.root x.how x.what) r))) := by
        show Lss _ _ _ _
        rw [hW5]
        exact HL4.out.stamped HI.out r (ownsRow_base HV.out (Nat.le_trans (HG.out.held.hB) (Nat.le_trans (Nat.le_of_lt HG.out.held.ltg) HB3.out.drew.size)))
      have hl : i < ls.length := (List.getElem?_eq_some_iff.1 HI.out).1
      have z3 : W5.cell? ⟨lb, i * 6 + 3, none⟩ = some (.slice vo vn vc) := HL5.out.cellAt (j := 3) (x := x.fresh (.slice vo vn vc) (lookF N kk tg A σ.K x.root x.how x.what) r) (by rw [List.getElem?_set]; simp [hl]) (by omega)
      rw [← hW5]
      clear hW5 f3 f4 f5 g3 g4 g5 y1 y2 d1 d2 HLook a3 a4 a5 b1 b2
      go_wp2_with fail
      go_ret
      exact ⟨_, rfl, HL5.out, HF5.out⟩
  · have hne : (x.pl == r.pl) = false := by simpa using hp
    go_region_held3 (fun wx => wx.cell? ⟨w1.heap.size, 0, none⟩ = some (.int .i64 r.pl) ∧ wx.cell? ⟨w1.heap.size, 1, none⟩ = some (.int .i64 (nowCl x.how r)) ∧ wx.cell? ⟨lb, i * 6 + 4, none⟩ = some (.int .i64 x.pl) ∧ wx.cell? ⟨lb, i * 6 + 5, none⟩ = some (.int .i64 x.cl)) (first | exact ⟨b1, b2, a4, a5⟩ | go_keep) (fail)
    go_wp2_with fail
    have HB3 : Hid (Below w.heap.size w W2.drew) := HB2.out.drew
    have lw1 : w1.heap.size < W2.drew.heap.size := World.block_lt_of_cell? W2 ⟨w1.heap.size, 0, none⟩ b1
    have HLook : Hid _ := lookC (w := W2.drew.drew) (HG.out.since HB3.out.drew) (HA.out.since HB3.out.drew) hN x.root x.how HX.out.how x.what HX.out.root.1 HX.out.root.2 (lb := lb) (o := i * 6) ((HB3.out.drew.cell (p := ⟨lb, i * 6, none⟩) hlb).trans (HLs.out.cellAt (j := 0) HI.out (by omega))) ((HB3.out.drew.cell (p := ⟨lb, i * 6 + 1, none⟩) hlb).trans (HLs.out.cellAt (j := 1) HI.out (by omega))) ((HB3.out.drew.cell (p := ⟨lb, i * 6 + 2, none⟩) hlb).trans (HLs.out.cellAt (j := 2) HI.out (by omega))) (Nat.lt_of_lt_of_le hlb HB3.out.drew.size)
    have d1 : W2.drew.cell? ⟨w1.heap.size, 0, none⟩ = some (.int .i64 r.pl) := b1
    have d2 : W2.drew.cell? ⟨w1.heap.size, 1, none⟩ = some (.int .i64 (nowCl x.how r)) := b2
    go_region_held3 (fun wx => wx.cell? ⟨w1.heap.size, 0, none⟩ = some (.int .i64 r.pl) ∧ wx.cell? ⟨w1.heap.size, 1, none⟩ = some (.int .i64 (nowCl x.how r))) (first | exact ⟨d1, d2⟩ | exact ⟨y1, y2⟩ | exact keepS hnb ⟨y1, y2⟩ | exact keepS hnb (keepS hnb ⟨y1, y2⟩) | exact keepS hnb (keepS hnb (keepS hnb ⟨y1, y2⟩)) | go_keep) ((go_at_call 60; refine Calls.mono HLook.out ?_; rintro e w4 ⟨v, rfl, hv, hB4⟩; obtain ⟨vo, vn, vc, hvv⟩ := row_slice hv; subst hvv; have HV : Hid _ := hv; have HB4 : Hid (Below W2.drew.heap.size W2.drew w4) := (Below.refl _ W2.drew).drew.trans hB4; have y1 : w4.cell? ⟨w1.heap.size, 0, none⟩ = some (.int .i64 r.pl) := (HB4.out.cell (p := ⟨w1.heap.size, 0, none⟩) lw1).trans b1; have y2 : w4.cell? ⟨w1.heap.size, 1, none⟩ = some (.int .i64 (nowCl x.how r)) := (HB4.out.cell (p := ⟨w1.heap.size, 1, none⟩) lw1).trans b2; have HL4 : Hid (Lss w4 B (.slice (some ⟨lb, 0, none⟩) n c) ls) := HL2.out.since ((Below.refl _ W2).drew.trans HB4.out); have f3 : w4.cell? ⟨lb, i * 6 + 3, none⟩ = some (.slice fo fn fc) := (HL4.out.cellAt (j := 3) HI.out (by omega)).trans (by rw [← HFV.out]; rfl); have f4 : w4.cell? ⟨lb, i * 6 + 4, none⟩ = some (.int .i64 x.pl) := HL4.out.cellAt (j := 4) HI.out (by omega); have f5 : w4.cell? ⟨lb, i * 6 + 5, none⟩ = some (.int .i64 x.cl) := HL4.out.cellAt (j := 5) HI.out (by omega); have g3 := HL4.out.free (i * 6 + 3); have g4 := HL4.out.free (i * 6 + 4); have g5 := HL4.out.free (i * 6 + 5); clear hv hB4))
    obtain ⟨W5, hW5⟩ : ∃ W5, W5 = ((w4.setCell ⟨lb, i * 6 + 3, none⟩ (.slice vo vn vc)).setCell ⟨lb, i * 6 + 4, none⟩ (.int .i64 r.pl)).setCell ⟨lb, i * 6 + 5, none⟩ (.int .i64 (nowCl x.how r)) := ⟨_, rfl⟩
    have HF5 : Hid (Fr (fun k => k = lb) w W5) := by
      show Fr _ _ _
      rw [hW5]
      exact fr_set3 (HB3.out.trans (HB4.out.mono HB3.out.size))
    have HL5 : Hid (Lss W5 B (.slice (some ⟨lb, 0, none⟩) n c) (ls.set i (x.fresh (.slice vo vn vc) (lookF N kk tg A σ.K x.root x.how x.what) r))) := by
      show Lss _ _ _ _
      rw [hW5]
      exact HL4.out.stamped HI.out r (ownsRow_base HV.out (Nat.le_trans (HG.out.held.hB) (Nat.le_trans (Nat.le_of_lt HG.out.held.ltg) HB3.out.drew.size)))
    have hl : i < ls.length := (List.getElem?_eq_some_iff.1 HI.out).1
    have z3 : W5.cell? ⟨lb, i * 6 + 3, none⟩ = some (.slice vo vn vc) := HL5.out.cellAt (j := 3) (x := x.fresh (.slice vo vn vc) (lookF N kk tg A σ.K x.root x.how x.what) r) (by rw [List.getElem?_set]; simp [hl]) (by omega)
    rw [← hW5]
    clear hW5 f3 f4 f5 g3 g4 g5 y1 y2 d1 d2 HLook a3 a4 a5 b1 b2
    go_wp2_with fail
    go_ret
    exact ⟨_, rfl, HL5.out, HF5.out⟩
end
end Go.Proofs.YtcedebpoihcbdaaDoor
