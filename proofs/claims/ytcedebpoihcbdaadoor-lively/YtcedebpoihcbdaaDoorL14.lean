/-
  Watch: one list more.
-/
import Derived.Test.YtcedebpoihcbdaaDoorL13
namespace Go.Proofs.YtcedebpoihcbdaaDoor
open Go.RowKit Go.Shelf Gv

section
variable {B : Nat} {w w' : World} {gb nb cap N : Nat} {kk : Nat → Nat} {tg : Nat → ByteArray} {kd : Nat → Value} {mp : Nat → Nat} {σ : St} {r : Re} {A : Nat → ByteArray → Option ByteArray} {ls : List Ls}

theorem Grl.since (h : Grl B w gb nb cap N kk tg kd mp σ r A ls) (hb : Below w.heap.size w w') : Grl B w' gb nb cap N kk tg kd mp σ r A ls :=
  ⟨h.gro.since hb, h.ats.since hb, h.lss.since hb, h.ok⟩

theorem cell_same' {w w' : World} {g : Nat} (h : w'.heap[g]? = w.heap[g]?) (j : Nat) : w'.cell? ⟨g, j, none⟩ = w.cell? ⟨g, j, none⟩ := by simp [World.cell?, h]
theorem frozen_same' {w w' : World} {g : Nat} (h : w'.heap[g]? = w.heap[g]?) (j : Nat) : w'.frozen? ⟨g, j, none⟩ = w.frozen? ⟨g, j, none⟩ := by simp [World.frozen?, h]

/-- A list more: all is as it was else. -/
theorem Grl.watched {w2 w3 : World} {v : Value} {x : Ls} (h : Grl B w2 gb nb cap N kk tg kd mp σ r A ls) (h1 : Held w3 B gb nb cap (N + 1) σ.s kd (r.setLv v)) (h2 : Lss w3 B v (ls ++ [x])) (hF : Fr (fun i => i = gb ∨ r.lv.ownBlock = some i) w2 w3) (hx : x.OK N kk tg A σ.K r) :
    Grl B w3 gb nb cap N kk tg kd mp σ (r.setLv v) A (ls ++ [x]) := by
  have hcells : ∀ i cs t fr, (i = gb ∨ r.lv.ownBlock = some i) → w2.heap[i]? = some (.cells cs t fr) → t = 48 ∨ t = 54 := by
    rintro i cs t fr (rfl | hi) e
    · rw [h.gro.held.g] at e
      simp only [Option.some.injEq, Obj.cells.injEq] at e
      exact .inl e.2.1.symm
    · by_cases ht : t = 54
      · exact .inr ht
      · exact absurd hi (row_apart h.lss.row e (fun e' => ht e'.symm))
  have hmaps : ∀ i es c, (i = gb ∨ r.lv.ownBlock = some i) → w2.heap[i]? ≠ some (.map es c) := by
    rintro i es c (rfl | hi) e
    · rw [h.gro.held.g] at e; cases e
    · rcases row_form h.lss.row with ⟨e', _⟩ | ⟨g', c', e', _, _, ⟨cur, hc⟩, _⟩
      · rw [e'] at hi; simp [Value.ownBlock] at hi
      · rw [e'] at hi
        simp only [Value.ownBlock, Option.some.injEq] at hi
        subst hi
        rw [hc] at e; cases e
  refine ⟨⟨h1, h.gro.wf, h.gro.kinds, h.gro.its.fr hF (fun g hg e => ?_), h.gro.sound, fun k k1 k2 k3 => (h.gro.els k k1 k2 k3).fr hF (fun i cs fr hi e => ?_)⟩, h.ats.fr hF hmaps, h2, fun y hy => ?_⟩
  · rcases row_form h.gro.its.row with ⟨e', _⟩ | ⟨g', c', e', _, _, ⟨cur, hc⟩, _⟩
    · rw [e'] at hg; simp [Value.ownBlock] at hg
    · rw [e'] at hg
      simp only [Value.ownBlock, Option.some.injEq] at hg
      subst hg
      rcases hcells _ _ _ _ e hc with h' | h' <;> exact absurd h' (by decide)
  · rcases hcells _ _ _ _ hi e with h' | h' <;> exact absurd h' (by decide)
  · rcases List.mem_append.1 hy with hy | hy
    · obtain ⟨a1, a2, a3, a4, a5⟩ := h.ok y hy
      exact ⟨a1, a2, a3, a4, a5⟩
    · simp only [List.mem_singleton] at hy
      subst hy
      obtain ⟨a1, a2, a3, a4, a5⟩ := hx
      exact ⟨a1, a2, a3, a4, a5⟩

theorem new_ok {root how : Nat} {what : ByteArray} (hm : mayAsk how what) (h1 : 1 ≤ root) (hN : root ≤ N) (hp : 1 ≤ r.pl) (hc : 0 ≤ r.cl) : (Ls.new root how what).OK N kk tg A σ.K r := by
  have h4 : 1 ≤ how ∧ how ≤ 4 := by obtain ⟨_, ⟨rfl, _⟩ | ⟨rfl, _⟩ | rfl | rfl⟩ := hm <;> omega
  refine ⟨⟨h1, hN⟩, h4, ?_, fun _ => hc, fun e => ?_⟩
  · show (0 : Int) ≤ r.pl; omega
  · have e' : (0 : Int) = r.pl := e
    omega

set_option maxRecDepth 100000 in
set_option maxHeartbeats 2000000 in
theorem watchS (h : Grl B w gb nb cap N kk tg kd mp σ r A ls) (h50 : ls.length < 50) (hp : 1 ≤ r.pl) (hc : 0 ≤ r.cl) (root how : Nat) (what : ByteArray) (hm : mayAsk how what) (h1 : 1 ≤ root) (hN : root ≤ N) :
    Calls Tryd.prog 7 #[.pointer (some ⟨gb, 0, none⟩), .int .i64 root, .int .i64 how, .string what] w fun e w' => e = .returned (.tuple #[.int .i64 (ls.length + 1 : Nat), .int .i64 0]) ∧ ∃ v, Grl B w' gb nb cap N kk tg kd mp σ (r.setLv v) A (ls ++ [Ls.new root how what]) ∧ Fr (fun i => i = gb ∨ r.lv.ownBlock = some i) w w' := by
  have HOK : Hid ((Ls.new root how what).OK N kk tg A σ.K r) := new_ok hm h1 hN hp hc
  have HG : Hid _ := h
  have HM : Hid (mayAsk how what) := hm
  have hBs : B ≤ w.heap.size := by have := h.gro.held.hB; have := h.gro.held.ltg; omega
  have glv := h.gro.held.glv
  have hltg := h.gro.held.ltg
  have hhas : hasB (N + 1) (root : Int) = true := hasB_nat h1 hN
  obtain ⟨iao, icap, hwv⟩ : ∃ iao icap, r.lv = .slice iao ls.length icap := by
    rcases row_form h.lss.row with ⟨hv, hn⟩ | ⟨g, c, hv, _⟩
    · exact ⟨none, 0, by rw [hv, hn]⟩
    · exact ⟨_, _, hv⟩
  have HV : Hid (r.lv = .slice iao ls.length icap) := hwv
  rw [hwv] at glv
  clear h hwv hm
  go_enter Tryd.func7, Tryd.ntmps7
  go_wp2_with fail
  refine (hasF HG.out.gro.held root).mono ?_
  rintro e w ⟨rfl, rfl⟩
  rw [hhas]
  go_wp2_with fail
  refine (newListC root how what w HM.out).mono ?_
  rintro e w1 ⟨rfl, hb1⟩
  have G1 : Hid (Grl B w1 gb nb cap N kk tg kd mp σ r A ls) := HG.out.since hb1
  have B1 : Hid (Below w.heap.size w w1) := hb1
  have s1 := hb1.size
  have glv1 : w1.cell? ⟨gb, 3, none⟩ = some (.slice iao ls.length icap) := (hb1.cell (p := ⟨gb, 3, none⟩) hltg).trans glv
  clear hb1 glv
  have hb2 : Below w1.heap.size w1 (w1.alloc (.cells #[.int .i64 root, .int .i64 how, .string what, .slice none 0 0, .int .i64 0, .int .i64 0] 54)) := (Below.refl _ _).alloc (Nat.le_refl _) _
  have G2 : Hid (Grl B (w1.alloc (.cells #[.int .i64 root, .int .i64 how, .string what, .slice none 0 0, .int .i64 0, .int .i64 0] 54)) gb nb cap N kk tg kd mp σ r A ls) := G1.out.since hb2
  have B2 : Hid (Below w.heap.size w (w1.alloc (.cells #[.int .i64 root, .int .i64 how, .string what, .slice none 0 0, .int .i64 0, .int .i64 0] 54))) := B1.out.trans (hb2.mono s1)
  have glv2 : (w1.alloc (.cells #[.int .i64 root, .int .i64 how, .string what, .slice none 0 0, .int .i64 0, .int .i64 0] 54)).cell? ⟨gb, 3, none⟩ = some (.slice iao ls.length icap) := (hb2.cell (p := ⟨gb, 3, none⟩) (by show gb < _; omega)).trans glv1
  go_wp2_with fail
  have f0 : (w1.alloc (.cells #[.int .i64 root, .int .i64 how, .string what, .slice none 0 0, .int .i64 0, .int .i64 0] 54)).cell? ⟨w1.heap.size, 0, none⟩ = some (.int .i64 root) := by simp [World.cell?_alloc_at]
  have f1 : (w1.alloc (.cells #[.int .i64 root, .int .i64 how, .string what, .slice none 0 0, .int .i64 0, .int .i64 0] 54)).cell? ⟨w1.heap.size, 1, none⟩ = some (.int .i64 how) := by simp [World.cell?_alloc_at]
  have f2 : (w1.alloc (.cells #[.int .i64 root, .int .i64 how, .string what, .slice none 0 0, .int .i64 0, .int .i64 0] 54)).cell? ⟨w1.heap.size, 2, none⟩ = some (.string what) := by simp [World.cell?_alloc_at]
  have f3 : (w1.alloc (.cells #[.int .i64 root, .int .i64 how, .string what, .slice none 0 0, .int .i64 0, .int .i64 0] 54)).cell? ⟨w1.heap.size, 3, none⟩ = some (.slice none 0 0) := by simp [World.cell?_alloc_at]
  have f4 : (w1.alloc (.cells #[.int .i64 root, .int .i64 how, .string what, .slice none 0 0, .int .i64 0, .int .i64 0] 54)).cell? ⟨w1.heap.size, 4, none⟩ = some (.int .i64 0) := by simp [World.cell?_alloc_at]
  have f5 : (w1.alloc (.cells #[.int .i64 root, .int .i64 how, .string what, .slice none 0 0, .int .i64 0, .int .i64 0] 54)).cell? ⟨w1.heap.size, 5, none⟩ = some (.int .i64 0) := by simp [World.cell?_alloc_at]
  have lt2 : w1.heap.size < (w1.alloc (.cells #[.int .i64 root, .int .i64 how, .string what, .slice none 0 0, .int .i64 0, .int .i64 0] 54)).heap.size := by simp
  clear glv1 G1 B1 hb2
  generalize w1.alloc (.cells #[.int .i64 root, .int .i64 how, .string what, .slice none 0 0, .int .i64 0, .int .i64 0] 54) = w2 at *
  have hz := G2.out.lss.row
  rw [HV.out] at hz
  have HZ : Hid (w2.ownsRow B 54 6 (.slice iao ls.length icap) ls.length (ls.flatMap Ls.row)) := hz
  have ltg2 : gb < w2.heap.size := G2.out.gro.held.ltg
  clear hz
  have ltg3 : gb < w2.heap.size + 1 := by omega
  have gne : gb ≠ w2.heap.size := by omega
  have hfr2 : ∀ j, w2.frozen? ⟨gb, j, none⟩ = false := fun j => G2.out.gro.held.gfree j
  go_region_law (first
    | (refine step_watch_append (w := w2) (B := B) (n := ls.length) (icap := icap) (iao := iao) (ls := ls) (i := Ls.new root how what) rfl (.tmp 38) (.tmp 40) rfl (by simp [Act.eval]) (by simp [Act.eval]) rfl HZ.out h50 (by omega) ?_
       intro g ic w3 hown3 hgrow3 hat3 hlt3
       have hal : Below w2.heap.size w2 (w2.alloc (.cells (Ls.new root how what).row.toArray 54)).drew := ((Below.refl _ w2).alloc (Nat.le_refl _) _).drew
       have RR := watch_end G2.out.gro.held G2.out.lss h50 (Fr.of_below hal) ⟨rfl, rfl⟩ (by exact hown3) (by rw [HV.out]; exact hgrow3) (by rw [HV.out]; exact hat3.imp id (fun e => by simpa using e))
       have q0 : w3.heap[gb]? = w2.heap[gb]? := (hgrow3.block gb (by simp; omega) (by intro e; exact row_apart G2.out.lss.row G2.out.gro.held.g (by decide) (by rw [HV.out]; exact e.symm))).trans (hal.block gb ltg2)
       have q1 : w3.cell? ⟨gb, 3, none⟩ = some (.slice iao ls.length icap) := (cell_same' q0 3).trans glv2
       have q2 : w3.frozen? ⟨gb, 3, none⟩ = false := (frozen_same' q0 3).trans (hfr2 3)
       have R3 : Hid _ := RR
       clear RR q0 hown3 hgrow3 hat3 hlt3 hal))
  all_goals
    go_wp2_with fail
    go_ret2
    exact ⟨rfl, .slice (some ⟨g, 0, none⟩) (ls.length + 1) ic, G2.out.watched R3.out.1 R3.out.2.1 R3.out.2.2 HOK.out, (Fr.of_below B2.out).trans R3.out.2.2⟩
end
end Go.Proofs.YtcedebpoihcbdaaDoor
