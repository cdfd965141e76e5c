/-
  A walker at the grove: Move, Go, Here, where its filter shows all; its root is the node 1.
-/
import Derived.Test.YtcedebpoihcbdaaZ3
namespace Go.Proofs.Ytcedebpoihcbdaa
open Go.RowKit Gv

def wk1 (here : Nat) : Wk := { root := 1, see := 30, rules := .slice none 0 0, here := here }

/-- Where it is then. -/
def hereTo (here x : Nat) : Nat := if x = 0 then here else x

structure Wg (B : Nat) (w : World) (gb nb cap N : Nat) (kk : Nat → Nat) (tg : Nat → ByteArray) (kd : Nat → Value) (mp : Nat → Nat) (σ : St) (r : Re) (here : Nat) : Prop where
  gro : Gro B w gb nb cap N kk tg kd mp σ r
  wks : Wks w B r.wv [wk1 here]
  h1 : 1 ≤ here
  hN : here ≤ N

section
variable {B : Nat} {w w' : World} {gb nb cap N : Nat} {kk : Nat → Nat} {tg : Nat → ByteArray} {kd : Nat → Value} {mp : Nat → Nat} {σ : St} {r : Re} {here : Nat}

theorem Wg.since (h : Wg B w gb nb cap N kk tg kd mp σ r here) (hb : Below w.heap.size w w') : Wg B w' gb nb cap N kk tg kd mp σ r here := ⟨h.gro.since hb, h.wks.since hb, h.h1, h.hN⟩

theorem Wg.form (h : Wg B w gb nb cap N kk tg kd mp σ r here) : ∃ wb wc, r.wv = .slice (some ⟨wb, 0, none⟩) 1 wc ∧ Wc w wb 0 1 here ∧ B ≤ wb ∧ wb < w.heap.size := by
  rcases row_form h.wks.row with ⟨_, hn⟩ | ⟨wb, wc, hv, hb, hs, _, _⟩
  · simp at hn
  · have hw := h.wks
    rw [hv] at hw
    have h0 : ([wk1 here] : List Wk)[0]? = some (wk1 here) := rfl
    have k0 := hw.cellAt (i := 0) (j := 0) h0 (by omega)
    have k1 := hw.cellAt (i := 0) (j := 1) h0 (by omega)
    have k2 := hw.cellAt (i := 0) (j := 2) h0 (by omega)
    have k3 := hw.cellAt (i := 0) (j := 3) h0 (by omega)
    simp at k0 k1 k2 k3
    exact ⟨wb, wc, hv, ⟨k0, k1, k2, k3, hs⟩, hb, hs⟩

/-- A store of where it is. -/
theorem Wg.go (h : Wg B w gb nb cap N kk tg kd mp σ r here) {wb wc : Nat} (hv : r.wv = .slice (some ⟨wb, 0, none⟩) 1 wc) (x : Nat) (h1 : 1 ≤ x) (hN : x ≤ N) : Wg B (w.setCell ⟨wb, 3, none⟩ (.int .i64 x)) gb nb cap N kk tg kd mp σ r x := by
  have hf : Fr (fun j => r.wv.ownBlock = some j) w (w.setCell ⟨wb, 3, none⟩ (.int .i64 x)) := (Fr.refl _ _).setCell (by rw [hv]; rfl) _
  obtain ⟨cur, hn, _⟩ := h.gro.held.block
  have n1 : r.wv.ownBlock ≠ some gb := row_apart h.wks.row h.gro.held.g (by decide)
  have n2 : r.wv.ownBlock ≠ some nb := row_apart h.wks.row hn (by decide)
  have hits : Its (w.setCell ⟨wb, 3, none⟩ (.int .i64 x)) B r.iv σ.its := h.gro.its.fr hf (by
    intro g' hg' e
    rcases h.wks.row.2 with ⟨h', _⟩ | ⟨g2, cap2, cur2, h', _, hg2, _⟩
    · rw [h'] at e; simp [Value.ownBlock] at e
    · rw [h'] at e
      simp [Value.ownBlock] at e
      subst e
      exact row_apart h.gro.its.row hg2 (by decide) hg')
  refine ⟨⟨h.gro.held.fr hf n1 n2, h.gro.wf, h.gro.kinds, hits, h.gro.sound, fun i i1 iN i2 => (h.gro.els i i1 iN i2).fr hf (fun i cs fr hi e => row_apart h.wks.row e (by decide) hi)⟩, ?_, h1, hN⟩
  have hw := h.wks
  rw [hv] at hw ⊢
  have := hw.store (i := 0) (j := 3) (wk := wk1 here) (wk' := wk1 x) (v := .int .i64 x) rfl (by omega) rfl
  simpa using this

theorem Wg.setB (h : Wg B w gb nb cap N kk tg kd mp σ r here) : ∀ j, r.wv.ownBlock = some j → B ≤ j := fun j hj => (h.wks.row.lt j hj).1
theorem Wg.setlt (h : Wg B w gb nb cap N kk tg kd mp σ r here) : ∀ j, r.wv.ownBlock = some j → j < w.heap.size := fun j hj => (h.wks.row.lt j hj).2

theorem numberedW (w : World) (ib icap : Nat) :
    Calls Try.prog 39 #[.slice (some ⟨ib, 0, none⟩) 1 icap, .int .i64 1] w fun e w' => e = .returned (.pointer (some ⟨ib, 0, none⟩)) ∧ w' = w := by
  go_enter Try.func39, Try.ntmps39
  go_wp2
  go_ret
  exact ⟨rfl, rfl⟩

set_option maxRecDepth 100000 in
theorem wMove {how f x wb : Nat} (hf : Finds how f) (hcf : ∀ w : World, (callFunc f #[.pointer (some ⟨wb, 0, none⟩), .pointer (some ⟨gb, 0, none⟩)]).run Try.prog w = .ok (.enter f #[.pointer (some ⟨wb, 0, none⟩), .pointer (some ⟨gb, 0, none⟩)]) w) (hc : Wc w wb 0 1 here) (hfr : ∀ w' : World, Below w.heap.size w w' → w'.frozen? ⟨wb, 3, none⟩ = false)
    (hm : ∀ w1 : World, Below w.heap.size w w1 → Calls Try.prog f #[.pointer (some ⟨wb, 0, none⟩), .pointer (some ⟨gb, 0, none⟩)] w1 fun e w' => e = .returned (.int .i64 x) ∧ Below w1.heap.size w1 w') :
    Calls Try.prog 40 #[.pointer (some ⟨wb, 0, none⟩), .pointer (some ⟨gb, 0, none⟩), .int .i64 how] w fun e w' => e = .returned (.tuple #[.int .i64 x, .int .i64 0]) ∧ ∃ w1, Below w.heap.size w w1 ∧ ((x = 0 ∧ w' = w1) ∨ (x ≠ 0 ∧ w' = w1.setCell ⟨wb, 3, none⟩ (.int .i64 x))) := by
  have HF : Hid (Finds how f) := hf
  have HC : Hid (Wc w wb 0 1 here) := hc
  have HFr : Hid (∀ w' : World, Below w.heap.size w w' → w'.frozen? ⟨wb, 3, none⟩ = false) := hfr
  have HM : Hid (∀ w1 : World, Below w.heap.size w w1 → Calls Try.prog f #[.pointer (some ⟨wb, 0, none⟩), .pointer (some ⟨gb, 0, none⟩)] w1 fun e w' => e = .returned (.int .i64 x) ∧ Below w1.heap.size w1 w') := hm
  have he : ∀ w : World, (binOp BinOp.eql 103 (.func (.func f) #[] #[]) .nilFunc).run Try.prog w = .ok (.bool false) w := fun _ => by kernel_rfl
  clear hf hc hfr hm
  go_enter Try.func40, Try.ntmps40
  go_wp2_with fail
  refine (HF.out w).mono ?_
  rintro e w1 ⟨rfl, hb1⟩
  have HB1 : Hid (Below w.heap.size w w1) := hb1
  clear hb1
  go_wp2_with fail
  refine (HM.out w1 HB1.out).mono ?_
  rintro e w2 ⟨rfl, hb2⟩
  have HB2 : Hid (Below w.heap.size w w2) := HB1.out.trans (hb2.mono HB1.out.size)
  clear hb2
  by_cases hx0 : x = 0
  · have hx0' : ((x : Int) != 0) = false := by simp [hx0]
    have HX : Hid (x = 0) := hx0
    clear hx0
    go_wp2_with fail
    go_ret2
    exact ⟨rfl, w2, HB2.out, .inl ⟨HX.out, rfl⟩⟩
  · have hx0' : ((x : Int) != 0) = true := by simp; omega
    have HX : Hid (x ≠ 0) := hx0
    have q3 := (HC.out.since HB2.out).c3
    have f3 := HFr.out w2 HB2.out
    clear hx0
    simp only [Nat.zero_add] at q3
    go_wp2_with fail
    go_ret2
    exact ⟨rfl, w2, HB2.out, .inr ⟨HX.out, rfl⟩⟩

theorem moveS (h : Wg B w gb nb cap N kk tg kd mp σ r here) {how f x : Nat} (hf : Finds how f) (hcf : ∀ (wb : Nat) (w : World), (callFunc f #[.pointer (some ⟨wb, 0, none⟩), .pointer (some ⟨gb, 0, none⟩)]).run Try.prog w = .ok (.enter f #[.pointer (some ⟨wb, 0, none⟩), .pointer (some ⟨gb, 0, none⟩)]) w)
    (hm : ∀ (wb : Nat) (w1 : World), Gro B w1 gb nb cap N kk tg kd mp σ r → Wc w1 wb 0 1 here → Calls Try.prog f #[.pointer (some ⟨wb, 0, none⟩), .pointer (some ⟨gb, 0, none⟩)] w1 fun e w' => e = .returned (.int .i64 x) ∧ Below w1.heap.size w1 w') (hx : x ≤ N) :
    Calls Try.prog 20 #[.pointer (some ⟨gb, 0, none⟩), .int .i64 1, .int .i64 how] w fun e w' => e = .returned (.tuple #[.int .i64 x, .int .i64 0]) ∧ Wg B w' gb nb cap N kk tg kd mp σ r (hereTo here x) ∧ Fr (fun j => r.wv.ownBlock = some j) w w' := by
  obtain ⟨wb, wc, hv, hc, -, hs⟩ := h.form
  have gwv := h.gro.held.gwv
  rw [hv] at gwv
  have HG : Hid (Wg B w gb nb cap N kk tg kd mp σ r here) := h
  have HF : Hid (Finds how f) := hf
  have HC : Hid (Wc w wb 0 1 here) := hc
  have HV : Hid (r.wv = .slice (some ⟨wb, 0, none⟩) 1 wc) := hv
  have HM : Hid (∀ (wb : Nat) (w1 : World), Gro B w1 gb nb cap N kk tg kd mp σ r → Wc w1 wb 0 1 here → Calls Try.prog f #[.pointer (some ⟨wb, 0, none⟩), .pointer (some ⟨gb, 0, none⟩)] w1 fun e w' => e = .returned (.int .i64 x) ∧ Below w1.heap.size w1 w') := hm
  have HCF : Hid (∀ (wb : Nat) (w : World), (callFunc f #[.pointer (some ⟨wb, 0, none⟩), .pointer (some ⟨gb, 0, none⟩)]).run Try.prog w = .ok (.enter f #[.pointer (some ⟨wb, 0, none⟩), .pointer (some ⟨gb, 0, none⟩)]) w) := hcf
  clear h hf hcf hm hc hv
  go_enter Try.func20, Try.ntmps20
  go_wp2_with fail
  refine (numberedW w wb wc).mono ?_
  rintro e w ⟨rfl, rfl⟩
  go_wp2_with fail
  refine (wMove HF.out (HCF.out wb) HC.out (fun w' hb => by have := (HG.out.wks.since hb); rw [HV.out] at this; exact this.free 3) (fun w1 hb => HM.out wb w1 (HG.out.gro.since hb) (HC.out.since hb))).mono ?_
  rintro e w2 ⟨rfl, w1, hb1, hcase⟩
  have HB1 : Hid (Below w.heap.size w w1) := hb1
  have HCa : Hid ((x = 0 ∧ w2 = w1) ∨ (x ≠ 0 ∧ w2 = w1.setCell ⟨wb, 3, none⟩ (.int .i64 x))) := hcase
  clear hb1 hcase
  go_wp2_with fail
  go_ret2
  refine ⟨rfl, ?_⟩
  have hG1 := HG.out.since HB1.out
  rcases HCa.out with ⟨h0, rfl⟩ | ⟨h0, rfl⟩
  · unfold hereTo
    rw [if_pos h0]
    exact ⟨hG1, Fr.of_below HB1.out⟩
  · unfold hereTo
    rw [if_neg h0]
    exact ⟨hG1.go HV.out x (by omega) hx, (Fr.of_below HB1.out).setCell (by rw [HV.out]; rfl) _⟩

theorem hereS (h : Wg B w gb nb cap N kk tg kd mp σ r here) :
    Calls Try.prog 42 #[.pointer (some ⟨gb, 0, none⟩), .int .i64 1] w fun e w' => e = .returned (.tuple #[.int .i64 here, .int .i64 0]) ∧ w' = w := by
  obtain ⟨wb, wc, hv, hc, -, hs⟩ := h.form
  have gwv := h.gro.held.gwv
  rw [hv] at gwv
  have c3 := hc.c3
  simp only [Nat.zero_add] at c3
  clear h hc hv
  go_enter Try.func42, Try.ntmps42
  go_wp2_with fail
  refine (numberedW w wb wc).mono ?_
  rintro e w ⟨rfl, rfl⟩
  go_wp2
  go_ret2
  exact ⟨rfl, rfl⟩

theorem goS (h : Wg B w gb nb cap N kk tg kd mp σ r here) (x : Nat) (h1 : 1 ≤ x) (hN : x ≤ N) :
    Calls Try.prog 41 #[.pointer (some ⟨gb, 0, none⟩), .int .i64 1, .int .i64 x] w fun e w' => e = .returned (.int .i64 0) ∧ Wg B w' gb nb cap N kk tg kd mp σ r x ∧ Fr (fun j => r.wv.ownBlock = some j) w w' := by
  obtain ⟨wb, wc, hv, hc, -, hs⟩ := h.form
  have gwv := h.gro.held.gwv
  rw [hv] at gwv
  have c3 := hc.c3
  simp only [Nat.zero_add] at c3
  have hfz : w.frozen? ⟨wb, 3, none⟩ = false := by have := h.wks; rw [hv] at this; exact this.free 3
  have HG : Hid (Wg B w gb nb cap N kk tg kd mp σ r here) := h
  have HV : Hid (r.wv = .slice (some ⟨wb, 0, none⟩) 1 wc) := hv
  have hb : hasB (N + 1) x = true := hasB_nat h1 hN
  clear h hc hv
  go_enter Try.func41, Try.ntmps41
  go_wp2_with fail
  refine (numberedW w wb wc).mono ?_
  rintro e w ⟨rfl, rfl⟩
  go_wp2_with fail
  refine (hasF HG.out.gro.held x).mono ?_
  rintro e w ⟨rfl, rfl⟩
  rw [hb]
  go_wp2
  go_end0
  go_wp2
  go_ret
  exact ⟨rfl, HG.out.go HV.out x h1 hN, (Fr.refl _ _).setCell (by rw [HV.out]; rfl) _⟩
end
end Go.Proofs.Ytcedebpoihcbdaa
