/-
  The seven moves at the grove; the law's 'ranged'.
-/
import Derived.Test.YtcedebpoihcbdaaZ4
namespace Go.Proofs.Ytcedebpoihcbdaa
open Go.RowKit Gv

section
variable {B : Nat} {w w' : World} {gb nb cap N : Nat} {kk : Nat → Nat} {tg : Nat → ByteArray} {kd : Nat → Value} {mp : Nat → Nat} {σ : St} {r : Re} {here wb o root : Nat}

theorem wFirst (h : Gro B w gb nb cap N kk tg kd mp σ r) (hc : Wc w wb o root here) (hh : here ≤ N) (hx : outF σ.s here false ≤ N) :
    Calls Try.prog 75 #[.pointer (some ⟨wb, o, none⟩), .pointer (some ⟨gb, 0, none⟩)] w fun e w' => e = .returned (.int .i64 (outF σ.s here false : Nat)) ∧ Below w.heap.size w w' := by
  have HG : Hid (Gro B w gb nb cap N kk tg kd mp σ r) := h
  have HC : Hid (Wc w wb o root here) := hc
  clear h hc
  go_enter Try.func75, Try.ntmps75
  go_wp2_with fail
  refine (wKid HG.out HC.out hh false hx).mono ?_
  rintro e w1 ⟨rfl, hb⟩
  have HB : Hid (Below w.heap.size w w1) := hb
  clear hb
  go_wp2_with fail
  go_ret
  exact ⟨rfl, HB.out⟩

theorem wLast (h : Gro B w gb nb cap N kk tg kd mp σ r) (hc : Wc w wb o root here) (hh : here ≤ N) (hx : outF σ.s here true ≤ N) :
    Calls Try.prog 76 #[.pointer (some ⟨wb, o, none⟩), .pointer (some ⟨gb, 0, none⟩)] w fun e w' => e = .returned (.int .i64 (outF σ.s here true : Nat)) ∧ Below w.heap.size w w' := by
  have HG : Hid (Gro B w gb nb cap N kk tg kd mp σ r) := h
  have HC : Hid (Wc w wb o root here) := hc
  clear h hc
  go_enter Try.func76, Try.ntmps76
  go_wp2_with fail
  refine (wKid HG.out HC.out hh true hx).mono ?_
  rintro e w1 ⟨rfl, hb⟩
  have HB : Hid (Below w.heap.size w w1) := hb
  clear hb
  go_wp2_with fail
  go_ret
  exact ⟨rfl, HB.out⟩

theorem wNext (h : Gro B w gb nb cap N kk tg kd mp σ r) (hc : Wc w wb o root here) (h1 : 1 ≤ here) (hh : here ≤ N) (hne : here ≠ root) (hp : σ.s.par here ≠ 0) :
    Calls Try.prog 78 #[.pointer (some ⟨wb, o, none⟩), .pointer (some ⟨gb, 0, none⟩)] w fun e w' => e = .returned (.int .i64 (sibF σ.s here false : Nat)) ∧ Below w.heap.size w w' := by
  have HG : Hid (Gro B w gb nb cap N kk tg kd mp σ r) := h
  have HC : Hid (Wc w wb o root here) := hc
  have HN : Hid (here ≠ root) := hne
  have HP : Hid (σ.s.par here ≠ 0) := hp
  clear h hc hne hp
  go_enter Try.func78, Try.ntmps78
  go_wp2_with fail
  refine (wSib HG.out HC.out h1 hh HN.out HP.out false).mono ?_
  rintro e w1 ⟨rfl, hb⟩
  have HB : Hid (Below w.heap.size w w1) := hb
  clear hb
  go_wp2_with fail
  go_ret
  exact ⟨rfl, HB.out⟩

theorem wPrev (h : Gro B w gb nb cap N kk tg kd mp σ r) (hc : Wc w wb o root here) (h1 : 1 ≤ here) (hh : here ≤ N) (hne : here ≠ root) (hp : σ.s.par here ≠ 0) :
    Calls Try.prog 77 #[.pointer (some ⟨wb, o, none⟩), .pointer (some ⟨gb, 0, none⟩)] w fun e w' => e = .returned (.int .i64 (sibF σ.s here true : Nat)) ∧ Below w.heap.size w w' := by
  have HG : Hid (Gro B w gb nb cap N kk tg kd mp σ r) := h
  have HC : Hid (Wc w wb o root here) := hc
  have HN : Hid (here ≠ root) := hne
  have HP : Hid (σ.s.par here ≠ 0) := hp
  clear h hc hne hp
  go_enter Try.func77, Try.ntmps77
  go_wp2_with fail
  refine (wSib HG.out HC.out h1 hh HN.out HP.out true).mono ?_
  rintro e w1 ⟨rfl, hb⟩
  have HB : Hid (Below w.heap.size w w1) := hb
  clear hb
  go_wp2_with fail
  go_ret
  exact ⟨rfl, HB.out⟩

abbrev MoveSays (gb : Nat) (how : Int) (w : World) (x : Nat) (R : World → Prop) : Prop :=
  Calls Try.prog 20 #[.pointer (some ⟨gb, 0, none⟩), .int .i64 1, .int .i64 how] w fun e w' => e = .returned (.tuple #[.int .i64 x, .int .i64 0]) ∧ R w'

theorem onS (h : Wg B w gb nb cap N kk tg kd mp σ r here) (hx : nextF σ.s (N + 1) here 1 ≤ N) :
    MoveSays gb 7 w (nextF σ.s (N + 1) here 1) fun w' => Wg B w' gb nb cap N kk tg kd mp σ r (hereTo here (nextF σ.s (N + 1) here 1)) ∧ Fr (fun j => r.wv.ownBlock = some j) w w' :=
  moveS h finds7 (fun _ _ => by kernel_rfl) (fun _ _ g c => wOn g c h.hN (by have := h.h1; have := h.hN; omega) hx) hx

theorem backS (h : Wg B w gb nb cap N kk tg kd mp σ r here) (hp : here ≠ 1 → σ.s.par here ≠ 0) (hx : prevF σ.s N here 1 ≤ N) :
    MoveSays gb 6 w (prevF σ.s N here 1) fun w' => Wg B w' gb nb cap N kk tg kd mp σ r (hereTo here (prevF σ.s N here 1)) ∧ Fr (fun j => r.wv.ownBlock = some j) w w' :=
  moveS h finds6 (fun _ _ => by kernel_rfl) (fun _ _ g c => wBack g c h.h1 h.hN hp) hx

theorem firstS (h : Wg B w gb nb cap N kk tg kd mp σ r here) (hx : outF σ.s here false ≤ N) :
    MoveSays gb 2 w (outF σ.s here false) fun w' => Wg B w' gb nb cap N kk tg kd mp σ r (hereTo here (outF σ.s here false)) ∧ Fr (fun j => r.wv.ownBlock = some j) w w' :=
  moveS h finds2 (fun _ _ => by kernel_rfl) (fun _ _ g c => wFirst g c h.hN hx) hx

theorem lastS (h : Wg B w gb nb cap N kk tg kd mp σ r here) (hx : outF σ.s here true ≤ N) :
    MoveSays gb 3 w (outF σ.s here true) fun w' => Wg B w' gb nb cap N kk tg kd mp σ r (hereTo here (outF σ.s here true)) ∧ Fr (fun j => r.wv.ownBlock = some j) w w' :=
  moveS h finds3 (fun _ _ => by kernel_rfl) (fun _ _ g c => wLast g c h.hN hx) hx

theorem sib_le (h : Wg B w gb nb cap N kk tg kd mp σ r here) (hp : σ.s.par here ≠ 0) (back : Bool) : sibF σ.s here back ≤ N := by
  have := ahd_le h.gro.wf h.h1 h.hN hp
  unfold sibF; split; exact this.1; exact this.2

theorem nextSibS (h : Wg B w gb nb cap N kk tg kd mp σ r here) (hne : here ≠ 1) (hp : σ.s.par here ≠ 0) :
    MoveSays gb 5 w (sibF σ.s here false) fun w' => Wg B w' gb nb cap N kk tg kd mp σ r (hereTo here (sibF σ.s here false)) ∧ Fr (fun j => r.wv.ownBlock = some j) w w' :=
  moveS h finds5 (fun _ _ => by kernel_rfl) (fun _ _ g c => wNext g c h.h1 h.hN hne hp) (sib_le h hp false)

theorem prevSibS (h : Wg B w gb nb cap N kk tg kd mp σ r here) (hne : here ≠ 1) (hp : σ.s.par here ≠ 0) :
    MoveSays gb 4 w (sibF σ.s here true) fun w' => Wg B w' gb nb cap N kk tg kd mp σ r (hereTo here (sibF σ.s here true)) ∧ Fr (fun j => r.wv.ownBlock = some j) w w' :=
  moveS h finds4 (fun _ _ => by kernel_rfl) (fun _ _ g c => wPrev g c h.h1 h.hN hne hp) (sib_le h hp true)

theorem parS (h : Wg B w gb nb cap N kk tg kd mp σ r here) (hne : here ≠ 1) (hp : σ.s.par here ≠ 0) :
    MoveSays gb 1 w (σ.s.par here) fun w' => Wg B w' gb nb cap N kk tg kd mp σ r (hereTo here (σ.s.par here)) ∧ Fr (fun j => r.wv.ownBlock = some j) w w' :=
  moveS h finds1 (fun _ _ => by kernel_rfl) (fun _ _ g c => wPar g c h.hN hne hp) (h.gro.wf.parLe here h.hN)

/-! ### kids, one way and the other -/
def wayK (K : Nat → List Nat) (x : Nat) (back : Bool) : List Nat := if back = true then (K x).reverse else K x

theorem wayK_len (K : Nat → List Nat) (x : Nat) (back : Bool) : (wayK K x back).length = (K x).length := by unfold wayK; split <;> simp

theorem wayK_out {s : Fo} {K : Nat → List Nat} (h : WF N s K) {x : Nat} (h1 : 1 ≤ x) (hN : x ≤ N) (back : Bool) : outF s x back = (wayK K x back).getD 0 0 := by
  cases back with
  | false =>
    simp only [outF, wayK, Bool.false_eq_true, if_false]
    rw [h.fst x h1 hN]
    cases K x <;> simp
  | true =>
    simp only [outF, wayK, if_true]
    rw [h.lst x h1 hN, List.getLastD_eq_getLast?, List.getLast?_eq_head?_reverse]
    cases (K x).reverse <;> simp

theorem wayK_sib {s : Fo} {K : Nat → List Nat} (h : WF N s K) {x i : Nat} (back : Bool) (hi : i < (K x).length) : sibF s ((wayK K x back).getD i 0) back = (wayK K x back).getD (i + 1) 0 := by
  cases back with
  | false =>
    simp only [sibF, wayK, Bool.false_eq_true, if_false]
    have e : K x = (K x).take i ++ (K x).getD i 0 :: (K x).drop (i + 1) := by
      conv => lhs; rw [← List.take_append_drop i (K x), List.drop_eq_getElem_cons hi]
      rw [List.getD_eq_getElem?_getD, List.getElem?_eq_getElem hi]; rfl
    rw [(h.sides e).2]
    rw [List.getD_eq_getElem?_getD, ← Nat.add_zero (i + 1), ← List.getElem?_drop]
    cases (K x).drop (i + 1 + 0) <;> simp
  | true =>
    simp only [sibF, wayK, if_true]
    have hr : (K x).reverse = (K x).reverse.take i ++ (K x).reverse.getD i 0 :: (K x).reverse.drop (i + 1) := by
      conv => lhs; rw [← List.take_append_drop i (K x).reverse, List.drop_eq_getElem_cons (by simpa using hi)]
      rw [List.getD_eq_getElem?_getD, List.getElem?_eq_getElem (by simpa using hi)]; rfl
    generalize (K x).reverse.getD i 0 = y at *
    have e : K x = ((K x).reverse.drop (i + 1)).reverse ++ y :: ((K x).reverse.take i).reverse := by
      have := congrArg List.reverse hr
      rw [List.reverse_reverse] at this
      exact this.trans (by simp)
    rw [(h.sides e).1]
    rw [List.getLastD_eq_getLast?, List.getLast?_reverse]
    rw [List.getD_eq_getElem?_getD]
    have h0 : (K x).reverse[i + 1]? = ((K x).reverse.drop (i + 1))[0]? := by rw [List.getElem?_drop]
    rw [h0]
    cases (K x).reverse.drop (i + 1) <;> simp

theorem wayK_mem {K : Nat → List Nat} {x i : Nat} (back : Bool) (hi : i < (K x).length) : (wayK K x back).getD i 0 ∈ K x := by
  have hl : i < (wayK K x back).length := by rw [wayK_len]; exact hi
  have hm : (wayK K x back).getD i 0 ∈ wayK K x back := by rw [List.getD_eq_getElem?_getD, List.getElem?_eq_getElem hl]; exact List.getElem_mem _
  unfold wayK at hm ⊢
  split at hm
  · rename_i hb; rw [if_pos hb]; exact List.mem_reverse.1 hm
  · rename_i hb; rw [if_neg hb]; exact hm
end
end Go.Proofs.Ytcedebpoihcbdaa
