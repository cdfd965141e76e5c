/-
  What a walker's moves do where its filter shows all and has no rules.
-/
import Derived.Test.YtcedebpoihcbdaaY4
namespace Go.Proofs.Ytcedebpoihcbdaa
open Go.RowKit Gv

/-- A walker in memory: its root, a filter that shows all, where it is. -/
structure Wc (w : World) (wb o root here : Nat) : Prop where
  c0 : w.cell? ⟨wb, o, none⟩ = some (.int .i64 root)
  c1 : w.cell? ⟨wb, o + 1, none⟩ = some (.int .i64 30)
  c2 : w.cell? ⟨wb, o + 1 + 1, none⟩ = some (.slice none 0 0)
  c3 : w.cell? ⟨wb, o + 3, none⟩ = some (.int .i64 here)
  lt : wb < w.heap.size

theorem Wc.since {w w' : World} {wb o root here : Nat} (h : Wc w wb o root here) (hb : Below w.heap.size w w') : Wc w' wb o root here :=
  ⟨(hb.cell (p := ⟨wb, o, none⟩) h.lt).trans h.c0, (hb.cell (p := ⟨wb, o + 1, none⟩) h.lt).trans h.c1, (hb.cell (p := ⟨wb, o + 1 + 1, none⟩) h.lt).trans h.c2, (hb.cell (p := ⟨wb, o + 3, none⟩) h.lt).trans h.c3, Nat.lt_of_lt_of_le h.lt hb.size⟩

theorem seeB30' {k : Nat} (h1 : 1 ≤ k) (h4 : k ≤ 4) : seeB 30 k = true := by
  obtain rfl | rfl | rfl | rfl : k = 1 ∨ k = 2 ∨ k = 3 ∨ k = 4 := by omega
  · decide +kernel
  · decide +kernel
  · decide +kernel
  · decide +kernel

theorem KV.bound' {k : Nat} {v : Value} (h : KV k v) : 1 ≤ k ∧ k ≤ 4 := by
  rcases h with ⟨rfl, _⟩ | ⟨rfl, _⟩ | ⟨rfl, _⟩ | ⟨rfl, _⟩ <;> omega

theorem Held.drewN' {w : World} {B gb nb cap L : Nat} {s : Fo} {kd : Nat → Value} {r : Re} (h : Held w B gb nb cap L s kd r) (n : Nat) : Held (w.drewN n) B gb nb cap L s kd r := h.drews (w.drewN n) rfl

section
variable {B : Nat} {w : World} {gb nb cap N : Nat} {kk : Nat → Nat} {tg : Nat → ByteArray} {kd : Nat → Value} {mp : Nat → Nat} {σ : St} {r : Re} {wb o root here : Nat}

set_option maxRecDepth 100000 in
theorem wSays (h : Gro B w gb nb cap N kk tg kd mp σ r) (hc : Wc w wb o root here) (n : Nat) (h1 : 1 ≤ n) (hn : n ≤ N) :
    Calls Try.prog 87 #[.pointer (some ⟨wb, o, none⟩), .pointer (some ⟨gb, 0, none⟩), .int .i64 n] w fun e w' => e = .returned (.int .i64 1) ∧ Below w.heap.size w w' := by
  have HG : Hid (Gro B w gb nb cap N kk tg kd mp σ r) := h
  have hN3 := h.N1
  have hKV := h.kinds n h1 hn
  obtain ⟨ty, vx, hkd⟩ := hKV.form
  have HKD : Hid (kd n = .iface ty vx) := hkd
  have HKV : Hid (KV (kk n) (.iface ty vx)) := by have := hKV; rw [hkd] at this; exact this
  have HS : Hid (saysF 30 [] (kk n) (tg n) = 1) := by
    have hb := hKV.bound'
    show saysF 30 [] (kk n) (tg n) = 1
    simp [saysF, seeB30' hb.1 hb.2, tagSays]
  have HEl : Hid (kk n = 2 → ∃ mb, El w B (.iface ty vx) (tg n) mb) := fun h2 => ⟨mp n, by have := h.els n h1 hn h2; rw [hkd] at this; exact this⟩
  have c1 := hc.c1
  have C2 : Hid (w.cell? ⟨wb, o + 1 + 1, none⟩ = some (.slice none 0 0)) := hc.c2
  clear h hKV hkd hc
  go_enter Try.func87, Try.ntmps87
  go_wp2_with fail
  go_region_with (first
    | (go_at_call 47; refine (kindF HG.out.held.drew n (by omega) HKD.out).mono ?_; rintro e w2 ⟨rfl, rfl⟩)
    | (go_at_call 58; refine (saysC HKV.out (w := w.drew) (B := B) (rv := .slice none 0 0) (rules := []) (t := tg n) wb (o + 1) 30 c1 C2.out (rls_none _ B) (fun h2 => (HEl.out h2).imp fun mb he => he.drews w.drew rfl)).mono ?_; rintro e w3 ⟨rfl, hb3⟩))
  all_goals
    have HB3 : Hid (Below w.heap.size w w3) := ⟨hb3.os, hb3.tape, hb3.output, hb3.size, hb3.block⟩
    clear hb3
    rw [HS.out]
    go_wp2_with fail
    go_ret
    exact ⟨rfl, HB3.out⟩

theorem wAcc (h : Gro B w gb nb cap N kk tg kd mp σ r) (hc : Wc w wb o root here) (n : Nat) (h1 : 1 ≤ n) (hn : n ≤ N) :
    Calls Try.prog 83 #[.pointer (some ⟨wb, o, none⟩), .pointer (some ⟨gb, 0, none⟩), .int .i64 n] w fun e w' => e = .returned (.bool true) ∧ Below w.heap.size w w' := by
  have HG : Hid (Gro B w gb nb cap N kk tg kd mp σ r) := h
  have HC : Hid (Wc w wb o root here) := hc
  clear h hc
  go_enter Try.func83, Try.ntmps83
  go_wp2_with fail
  refine (wSays HG.out HC.out n h1 hn).mono ?_
  rintro e w1 ⟨rfl, hb⟩
  have HB : Hid (Below w.heap.size w w1) := hb
  clear hb
  go_wp2_with fail
  go_ret
  exact ⟨rfl, HB.out⟩

set_option maxRecDepth 100000 in
theorem wOn (h : Gro B w gb nb cap N kk tg kd mp σ r) (hc : Wc w wb o root here) (hh : here ≤ N) (hr : root ≤ N) (hx : nextF σ.s (N + 1) here root ≤ N) :
    Calls Try.prog 80 #[.pointer (some ⟨wb, o, none⟩), .pointer (some ⟨gb, 0, none⟩)] w fun e w' => e = .returned (.int .i64 (nextF σ.s (N + 1) here root : Nat)) ∧ Below w.heap.size w w' := by
  have HG : Hid (Gro B w gb nb cap N kk tg kd mp σ r) := h
  have HC : Hid (Wc w wb o root here) := hc
  have c0 := hc.c0
  have c3 := hc.c3
  clear h hc
  go_enter Try.func80, Try.ntmps80
  go_wp2_with fail
  go_quiet ((go_at_call 71; exact Calls.quiet_of_same (nextC (HG.out.held.drewN' _) HG.out.wf here root hh hr)))
  go_wp2_with fail
  go_loopw [5] (fun n wr => n = .int .i64 (nextF σ.s (N + 1) here root : Nat) ∧ Below w.heap.size w wr) (fun _ _ => 0)
  case atStart => exact ⟨rfl, ⟨rfl, rfl, rfl, Nat.le_refl _, fun _ _ => rfl⟩⟩
  case round =>
    obtain ⟨rfl, hbel⟩ := hrel
    have HB : Hid (Below w.heap.size w wr) := hbel
    clear hbel
    obtain ⟨x, hxe⟩ : ∃ x, nextF σ.s (N + 1) here root = x := ⟨_, rfl⟩
    have HXE : Hid (nextF σ.s (N + 1) here root = x) := hxe
    rw [hxe] at hx ⊢
    clear hxe
    by_cases hx0 : x = 0
    · subst hx0
      go_wp2_with fail
      go_ret
      exact ⟨ret_int (by rw [HXE.out]; rfl), HB.out⟩
    · have hx0' : ((x : Int) != 0) = true := by simp; omega
      have hx1 : 1 ≤ x := by omega
      clear hx0
      go_wp2_with fail
      refine (wSays (HG.out.since HB.out) (HC.out.since HB.out) x hx1 hx).mono ?_
      rintro e w1 ⟨rfl, hb⟩
      have HB1 : Hid (Below w.heap.size w w1) := HB.out.trans (hb.mono HB.out.size)
      clear hb
      go_wp2_with fail
      go_ret
      exact ⟨ret_int (by rw [HXE.out]), HB1.out⟩

set_option maxRecDepth 100000 in
theorem wInmost (h : Gro B w gb nb cap N kk tg kd mp σ r) (hc : Wc w wb o root here) (n : Nat) (h1 : 1 ≤ n) (hn : n ≤ N) :
    Calls Try.prog 86 #[.pointer (some ⟨wb, o, none⟩), .pointer (some ⟨gb, 0, none⟩), .int .i64 n] w fun e w' => e = .returned (.int .i64 (inmF σ.s N n : Nat)) ∧ Below w.heap.size w w' ∧ 1 ≤ inmF σ.s N n ∧ inmF σ.s N n ≤ N := by
  have HG : Hid (Gro B w gb nb cap N kk tg kd mp σ r) := h
  have HC : Hid (Wc w wb o root here) := hc
  have hN3 := h.N1
  have HD : Hid (Deep σ.K N n) := h.wf.deepN h1 (by omega)
  clear h hc
  go_enter Try.func86, Try.ntmps86
  go_wp2_with fail
  go_loopg [2] N (fun m i wr => ∃ x : Nat, i = .int .i64 x ∧ 1 ≤ x ∧ x ≤ N ∧ Deep σ.K m x ∧ inmF σ.s N n = inmF σ.s m x ∧ Below w.heap.size w wr)
  case atStart => exact ⟨n, rfl, h1, hn, HD.out, rfl, Below.refl _ _⟩
  case round =>
    obtain ⟨x, rfl, hx1, hxN, hdp, he, hbel⟩ := hrel
    have HDp : Hid (Deep σ.K gk x) := hdp
    have HE : Hid (inmF σ.s N n = inmF σ.s gk x) := he
    have HB : Hid (Below w.heap.size w wr) := hbel
    clear hdp he hbel
    go_wp2_with fail
    refine (lastF (HG.out.since HB.out).held x (by omega)).mono ?_
    rintro e wr ⟨rfl, rfl⟩
    by_cases hl : σ.s.lst x = 0
    · have hl' : (((σ.s.lst x : Nat) : Int) != 0) = false := by simp [hl]
      have HR : Hid (inmF σ.s N n = x) := by show inmF σ.s N n = x; rw [HE.out, inm_end hl]
      clear hl
      go_wp2_with fail
      go_ret
      exact ⟨ret_int (by rw [HR.out]), HB.out, by rw [HR.out]; exact hx1, by rw [HR.out]; exact hxN⟩
    · have hl' : (((σ.s.lst x : Nat) : Int) != 0) = true := by simp; omega
      have hk := kid_of_lst HG.out.wf hx1 hxN hl
      have hkk := HG.out.wf.kid x _ hk
      have HKm : Hid (σ.s.lst x ∈ σ.K x) := hk
      have HL : Hid (σ.s.lst x ≠ 0) := hl
      have y1 := hkk.2.2.1
      have yN := hkk.2.2.2.1
      clear hl hk hkk
      go_wp2_with fail
      refine (wSays (HG.out.since HB.out) (HC.out.since HB.out) x hx1 hxN).mono ?_
      rintro e w1 ⟨rfl, hb⟩
      have HB1 : Hid (Below w.heap.size w w1) := HB.out.trans (hb.mono HB.out.size)
      clear hb
      go_wp2_with fail
      refine (lastF (HG.out.since HB1.out).held x (by omega)).mono ?_
      rintro e w1 ⟨rfl, rfl⟩
      go_wp2_with fail
      cases gk with
      | zero =>
        exfalso
        have h0 : σ.K x = [] := HDp.out
        have := HKm.out
        rw [h0] at this
        simp at this
      | succ m =>
        go_roundg m
        case measure => omega
        case rel => exact ⟨σ.s.lst x, rfl, y1, yN, HDp.out _ HKm.out, by rw [HE.out, inm_on HL.out], HB1.out⟩

set_option maxRecDepth 100000 in
set_option maxHeartbeats 1000000 in
theorem wBack (h : Gro B w gb nb cap N kk tg kd mp σ r) (hc : Wc w wb o root here) (h1 : 1 ≤ here) (hh : here ≤ N) (hp : here ≠ root → σ.s.par here ≠ 0) :
    Calls Try.prog 79 #[.pointer (some ⟨wb, o, none⟩), .pointer (some ⟨gb, 0, none⟩)] w fun e w' => e = .returned (.int .i64 (prevF σ.s N here root : Nat)) ∧ Below w.heap.size w w' := by
  have HG : Hid (Gro B w gb nb cap N kk tg kd mp σ r) := h
  have HC : Hid (Wc w wb o root here) := hc
  have hN3 := h.N1
  have c0 := hc.c0
  have c3 := hc.c3
  have HP : Hid (here ≠ root → σ.s.par here ≠ 0) := hp
  clear h hc hp
  by_cases er : here = root
  · have HR : Hid (prevF σ.s N here root = 0) := by show prevF σ.s N here root = 0; simp [prevF, er]
    subst er
    go_enter Try.func79, Try.ntmps79
    go_wp2_with fail
    go_loopw [5] (fun n wr => n = .int .i64 here ∧ wr = w) (fun _ _ => 0)
    case atStart => exact ⟨rfl, rfl⟩
    case round =>
      obtain ⟨rfl, rfl⟩ := hrel
      obtain ⟨w, rfl⟩ : ∃ w : World, w = wr := ⟨_, rfl⟩
      go_wp2_with fail
      go_ret
      exact ⟨ret_int (by rw [HR.out]; rfl), Below.refl _ _⟩
  · have er' : ((here : Int) != (root : Int)) = true := by simp; omega
    have er2 : ((here : Int) == (root : Int)) = false := by simp; omega
    have hpp := HP.out er
    have hpN := HG.out.wf.parLe here hh
    have hb := (ahd_le HG.out.wf h1 hh hpp).1
    have ER : Hid (here ≠ root) := er
    have pp : 1 ≤ σ.s.par here := by omega
    clear er hpp
    by_cases ha : σ.s.ahd here = 0
    · have HR : Hid (prevF σ.s N here root = σ.s.par here) := by show prevF σ.s N here root = _; simp [prevF, ER.out, ha]
      have ha' : (((σ.s.ahd here : Nat) : Int) != 0) = false := by simp [ha]
      have hp0 : (((σ.s.par here : Nat) : Int) == 0) = false := by simp; omega
      clear ha
      go_enter Try.func79, Try.ntmps79
      go_wp2_with fail
      go_loopw [5] (fun n wr => n = .int .i64 here ∧ wr = w) (fun _ _ => 0)
      case atStart => exact ⟨rfl, rfl⟩
      case round =>
        obtain ⟨rfl, rfl⟩ := hrel
        obtain ⟨w, rfl⟩ : ∃ w : World, w = wr := ⟨_, rfl⟩
        go_wp2_with fail
        refine (aheadF HG.out.held here (by omega)).mono ?_
        rintro e w ⟨rfl, rfl⟩
        go_wp2_with fail
        go_loopw [5, 6] (fun n s2 wr => n = .int .i64 here ∧ s2 = .int .i64 (σ.s.ahd here) ∧ wr = w) (fun _ _ _ => 0)
        case atStart => exact ⟨rfl, rfl, rfl⟩
        case round =>
          obtain ⟨rfl, rfl, rfl⟩ := hrel
          obtain ⟨w, rfl⟩ : ∃ w : World, w = wr := ⟨_, rfl⟩
          go_wp2_with fail
          refine (parentF HG.out.held here (by omega)).mono ?_
          rintro e w ⟨rfl, rfl⟩
          go_wp2_with fail
          refine (wAcc HG.out HC.out (σ.s.par here) pp hpN).mono ?_
          rintro e w1 ⟨rfl, hb1⟩
          have HB1 : Hid (Below w.heap.size w w1) := hb1
          clear hb1
          go_wp2_with fail
          go_ret
          exact ⟨ret_int (by rw [HR.out]), HB1.out⟩
    · have HR : Hid (prevF σ.s N here root = inmF σ.s N (σ.s.ahd here)) := by show prevF σ.s N here root = _; simp [prevF, ER.out, ha]
      have ha' : (((σ.s.ahd here : Nat) : Int) != 0) = true := by simp; omega
      have ha1 : 1 ≤ σ.s.ahd here := by omega
      clear ha
      go_enter Try.func79, Try.ntmps79
      go_wp2_with fail
      go_loopw [5] (fun n wr => n = .int .i64 here ∧ wr = w) (fun _ _ => 0)
      case atStart => exact ⟨rfl, rfl⟩
      case round =>
        obtain ⟨rfl, rfl⟩ := hrel
        obtain ⟨w, rfl⟩ : ∃ w : World, w = wr := ⟨_, rfl⟩
        go_wp2_with fail
        refine (aheadF HG.out.held here (by omega)).mono ?_
        rintro e w ⟨rfl, rfl⟩
        go_wp2_with fail
        go_loopw [5, 6] (fun n s2 wr => n = .int .i64 here ∧ s2 = .int .i64 (σ.s.ahd here) ∧ wr = w) (fun _ _ _ => 0)
        case atStart => exact ⟨rfl, rfl, rfl⟩
        case round =>
          obtain ⟨rfl, rfl, rfl⟩ := hrel
          obtain ⟨w, rfl⟩ : ∃ w : World, w = wr := ⟨_, rfl⟩
          go_wp2_with fail
          refine (wInmost HG.out HC.out (σ.s.ahd here) ha1 hb).mono ?_
          rintro e w1 ⟨rfl, hb1, i1, iN⟩
          have HB1 : Hid (Below w.heap.size w w1) := hb1
          clear hb1
          generalize inmF σ.s N (σ.s.ahd here) = y at *
          go_wp2_with fail
          refine (wAcc (HG.out.since HB1.out) (HC.out.since HB1.out) y i1 iN).mono ?_
          rintro e w2 ⟨rfl, hb2⟩
          have HB2 : Hid (Below w.heap.size w w2) := HB1.out.trans (hb2.mono HB1.out.size)
          clear hb2
          go_wp2_with fail
          go_ret
          exact ⟨ret_int (by rw [HR.out]), HB2.out⟩
end
end Go.Proofs.Ytcedebpoihcbdaa
