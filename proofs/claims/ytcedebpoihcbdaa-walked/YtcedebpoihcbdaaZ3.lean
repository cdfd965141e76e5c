/-
  What makes a walker, and moves it, at the grove.
-/
import Derived.Test.YtcedebpoihcbdaaZ2
namespace Go.Proofs.Ytcedebpoihcbdaa
open Go.RowKit Gv

theorem newWalkC (root : Nat) (see : Int) (ro : Option Addr) (rn rc : Nat) (w : World) : Calls Try.prog 38 #[.int .i64 root, .agg #[.int .i64 see, .slice ro rn rc]] w fun e w' => e = .returned (.agg #[.int .i64 root, .int .i64 see, .slice ro rn rc, .int .i64 root]) ∧ w' = (w.alloc (.cells #[.int .i64 see, .slice ro rn rc] 66)).alloc (.cells #[.int .i64 root, .int .i64 see, .slice ro rn rc, .int .i64 root] 79) := by
  go_enter Try.func38, Try.ntmps38
  go_wp2_with fail
  refine bodyPost_ret (v := .agg #[.int .i64 root, .int .i64 see, .slice ro rn rc, .int .i64 root]) (by simp [results, Try.results38, go_sem]) rfl ⟨rfl, rfl⟩

theorem Try.info79 : (Try.prog.info? 79).map (fun i => (i.zero, i.size, i.bytes)) = some (some (.agg #[.int .i64 0, .int .i64 0, .slice none 0 0, .int .i64 0]), 4, 48) := by kernel_rfl

def Wk.new (root : Nat) (see : Int) (rv : Value) : Wk := { root := root, see := see, rules := rv, here := root }
def Re.setWv (r : Re) (v : Value) : Re := { r with wv := v }

theorem walk_end {w w1 w2 : World} {B gb nb cap L g ic : Nat} {s : Fo} {kd : Nat → Value} {r : Re} {ws : List Wk} {it : Wk}
    (h : Held w B gb nb cap L s kd r) (hI : Wks w B r.wv ws) (h50 : ws.length < 50) (hw1 : Fr (fun _ => False) w w1)
    (hown : w2.ownsRow B 79 4 (.slice (some ⟨g, 0, none⟩) (ws.length + 1) ic) (ws.length + 1) (ws.flatMap Wk.row ++ it.row))
    (hgrow : w1.grownBy w2 r.wv.ownBlock) (hat : r.wv.ownBlock = some g ∨ g = w1.heap.size) :
    Held (w2.setCell ⟨gb, 5, none⟩ (.slice (some ⟨g, 0, none⟩) (ws.length + 1) ic)) B gb nb cap L s kd (r.setWv (.slice (some ⟨g, 0, none⟩) (ws.length + 1) ic)) ∧
    Wks (w2.setCell ⟨gb, 5, none⟩ (.slice (some ⟨g, 0, none⟩) (ws.length + 1) ic)) B (.slice (some ⟨g, 0, none⟩) (ws.length + 1) ic) (ws ++ [it]) ∧
    Fr (fun i => i = gb ∨ r.wv.ownBlock = some i) w (w2.setCell ⟨gb, 5, none⟩ (.slice (some ⟨g, 0, none⟩) (ws.length + 1) ic)) := by
  have f2 : Fr (fun i => r.wv.ownBlock = some i) w w2 := (hw1.mono (fun _ h => h.elim)).trans (Fr.of_grown hgrow (fun k hk => hk))
  obtain ⟨cur, hn, _⟩ := h.block
  have n1 : r.wv.ownBlock ≠ some gb := row_apart hI.row h.g (by decide)
  have n2 : r.wv.ownBlock ≠ some nb := row_apart hI.row hn (by decide)
  have h2 := h.fr f2 n1 n2
  have hne : g ≠ gb := by
    rintro rfl
    rcases hat with e | e
    · exact n1 e
    · have := h.ltg; have := hw1.size; omega
  refine ⟨⟨cells_setCell h2.g, ?_, h.hB, h.hL⟩, ⟨?_, by simp; omega⟩, ?_⟩
  · exact ownsRow_setCell_other h2.row (by simp [Value.ownBlock]; exact fun e => h.ne e.symm) _
  · have := ownsRow_setCell_other hown (a := ⟨gb, 5, none⟩) (by simp [Value.ownBlock]; exact hne) (.slice (some ⟨g, 0, none⟩) (ws.length + 1) ic)
    simpa using this
  · exact (f2.mono (fun i hi => .inr hi)).setCell (.inl rfl) _

theorem step_walk_append {ops : Array Oper} {o : Oper} {a : Act} {w : World} {K : Act → World → Prop} {Q : Exit → Act → World → Prop} {E : Prop} {A C : Obj} {B n icap : Nat} {iao : Option Addr} {ws : List Wk} {i : Wk}
    (hgd : o.guard = none) (s x : Operand) (ho : o.op = .call { callee := .builtin .append, args := #[s, x], argTypes := #[55, 55] })
    (hs : a.eval s = .slice iao n icap) (hx : a.eval x = .slice (some ⟨w.heap.size + 1 + 1, 0, none⟩) 1 1) (hrv : i.rules.oneCell' = true)
    (hown : w.ownsRow B 79 4 (.slice iao n icap) n (ws.flatMap Wk.row)) (h50 : n < 50) (hB : B ≤ w.heap.size)
    (hK : ∀ g cap w', w'.ownsRow B 79 4 (.slice (some ⟨g, 0, none⟩) (n + 1) cap) (n + 1) (ws.flatMap Wk.row ++ i.row) →
      World.grownBy (((w.alloc A).alloc C).alloc (.cells i.row.toArray 79)).drew w' (Value.slice iao n icap).ownBlock → ((Value.slice iao n icap).ownBlock = some g ∨ g = w.heap.size + 1 + 1 + 1) → g < w'.heap.size → K (a.put o.dst (.slice (some ⟨g, 0, none⟩) (n + 1) cap)) w') :
    if Region.wanted o (yielded ops a.tmps) = true then Oper.wp Try.prog o a (((w.alloc A).alloc C).alloc (.cells i.row.toArray 79)).drew K Q else E := by
  obtain ⟨i0, hi, hz0, hz1, hz2⟩ := info_parts Try.info79
  refine step_append_lies _ hgd s x 55 ho B 79 i0 _ 4 48 Try.underlying55 hi hz0 hz1 hz2 rfl (by decide) (.slice iao n icap) n (ws.flatMap Wk.row) hs (ownsRow_since hown (al3 w A C _)) ⟨w.heap.size + 1 + 1, 0, none⟩ 1 1 i.row hx rfl ?_ ?_ (by omega) (by unfold maxLen; omega) (by omega) (by simp; omega) (w.heap.size + 1 + 1 + 1) (by simp) hK
  · intro j u hj
    have e : (⟨w.heap.size + 1 + 1, 0, none⟩ : Addr).add j = ⟨w.heap.size + 1 + 1, j, none⟩ := by unfold Addr.add; split <;> simp_all
    rw [e]
    have hb : (((w.alloc A).alloc C).alloc (.cells i.row.toArray 79)).drew.heap[w.heap.size + 1 + 1]? = some (.cells i.row.toArray 79 (0, 0)) := by
      have := heap_alloc_new ((w.alloc A).alloc C) (.cells i.row.toArray 79)
      rw [World.size_alloc, World.size_alloc] at this
      exact this
    rw [cells_of hb j]
    simpa using hj
  · intro u hu
    simp only [Wk.row, List.mem_cons, List.not_mem_nil, or_false] at hu
    rcases hu with rfl | rfl | rfl | rfl
    · rfl
    · rfl
    · exact hrv
    · rfl

section
variable {B : Nat} {w : World} {gb nb cap N : Nat} {kk : Nat → Nat} {tg : Nat → ByteArray} {kd : Nat → Value} {mp : Nat → Nat} {σ : St} {r : Re}

set_option maxRecDepth 100000 in
set_option maxHeartbeats 2000000 in
theorem walkerNil (h : Gro B w gb nb cap N kk tg kd mp σ r) {ws : List Wk} (hws : Wks w B r.wv ws) (h50 : ws.length < 50) (root : Nat) (h1 : 1 ≤ root) (hN : root ≤ N) (see : Int) (h0 : 0 ≤ see) (h30 : see ≤ 30) :
    Calls Try.prog 19 #[.pointer (some ⟨gb, 0, none⟩), .int .i64 root, .int .i64 see, .slice none 0 0] w fun e w' => e = .returned (.tuple #[.int .i64 (ws.length + 1 : Nat), .int .i64 0]) ∧ ∃ v, Gro B w' gb nb cap N kk tg kd mp σ (r.setWv v) ∧ Wks w' B v (ws ++ [Wk.new root see (.slice none 0 0)]) ∧ Fr (fun i => i = gb ∨ r.wv.ownBlock = some i) w w' := by
  obtain ⟨i0, hi, hz0, hz1, hz2⟩ := info_parts Try.info79
  have HG : Hid (Gro B w gb nb cap N kk tg kd mp σ r) := h
  have HWs : Hid (Wks w B r.wv ws) := hws
  have hBs : B ≤ w.heap.size := by have := h.held.hB; have := h.held.ltg; omega
  have gwv := h.held.gwv
  have hltg := h.held.ltg
  obtain ⟨iao, icap, hwv⟩ : ∃ iao icap, r.wv = .slice iao ws.length icap := by
    rcases row_form hws.row with ⟨hv, hn⟩ | ⟨g, c, hv, _⟩
    · exact ⟨none, 0, by rw [hv, hn]⟩
    · exact ⟨_, _, hv⟩
  have HV : Hid (r.wv = .slice iao ws.length icap) := hwv
  rw [hwv] at gwv
  clear h hwv hws
  go_enter Try.func19, Try.ntmps19
  go_wp2_with fail
  refine (mayFilterNil HG.out.held root h1 hN see h0 h30 ws.length h50).mono ?_
  rintro e w1 ⟨rfl, hb1⟩
  have G1 : Hid (Gro B w1 gb nb cap N kk tg kd mp σ r) := HG.out.since hb1
  have W1 : Hid (Wks w1 B r.wv ws) := HWs.out.since hb1
  have B1 : Hid (Below w.heap.size w w1) := hb1
  have s1 := hb1.size
  have gwv1 : w1.cell? ⟨gb, 5, none⟩ = some (.slice iao ws.length icap) := (hb1.cell (p := ⟨gb, 5, none⟩) hltg).trans gwv
  clear hb1 gwv
  go_wp2_with fail
  have hb2 : Below w1.heap.size w1 (w1.alloc (.cells #[.int .i64 see, .slice none 0 0] 66)) := (Below.refl _ _).alloc (Nat.le_refl _) _
  have G2 : Hid (Gro B (w1.alloc (.cells #[.int .i64 see, .slice none 0 0] 66)) gb nb cap N kk tg kd mp σ r) := G1.out.since hb2
  have W2 : Hid (Wks (w1.alloc (.cells #[.int .i64 see, .slice none 0 0] 66)) B r.wv ws) := W1.out.since hb2
  have B2 : Hid (Below w.heap.size w (w1.alloc (.cells #[.int .i64 see, .slice none 0 0] 66))) := B1.out.trans (hb2.mono s1)
  have gwv2 : (w1.alloc (.cells #[.int .i64 see, .slice none 0 0] 66)).cell? ⟨gb, 5, none⟩ = some (.slice iao ws.length icap) := (hb2.cell (p := ⟨gb, 5, none⟩) (by show gb < _; omega)).trans gwv1
  have f0 : (w1.alloc (.cells #[.int .i64 see, .slice none 0 0] 66)).cell? ⟨w1.heap.size, 0, none⟩ = some (.int .i64 see) := by simp [World.cell?_alloc_at]
  have f1 : (w1.alloc (.cells #[.int .i64 see, .slice none 0 0] 66)).cell? ⟨w1.heap.size, 1, none⟩ = some (.slice none 0 0) := by simp [World.cell?_alloc_at]
  have lt2 : w1.heap.size < (w1.alloc (.cells #[.int .i64 see, .slice none 0 0] 66)).heap.size := by simp
  clear gwv1 G1 B1 hb2 W1
  generalize w1.alloc (.cells #[.int .i64 see, .slice none 0 0] 66) = w2 at *
  have hz := W2.out.row
  rw [HV.out] at hz
  have HZ : Hid (w2.ownsRow B 79 4 (.slice iao ws.length icap) ws.length (ws.flatMap Wk.row)) := hz
  have ltg2 : gb < w2.heap.size := G2.out.held.ltg
  clear hz
  have ltg3 : gb < w2.heap.size + 1 := by omega
  have ltg4 : gb < w2.heap.size + 1 + 1 := by omega
  have ltg5 : gb < w2.heap.size + 1 + 1 + 1 := by omega
  have gne : gb ≠ w2.heap.size + 1 + 1 := by omega
  have hfr2 : ∀ j, w2.frozen? ⟨gb, j, none⟩ = false := fun j => G2.out.held.gfree j
  go_region_law (first
    | (refine step_calls rfl 38 _ _ rfl #[.int .i64 root, .agg #[.int .i64 see, .slice none 0 0]] (by kernel_rfl) _ _ (newWalkC root see none 0 0 _) ?_; rintro w3 rfl)
    | (refine step_walk_append (w := w2) (B := B) (n := ws.length) (icap := icap) (iao := iao) (ws := ws) (i := Wk.new root see (.slice none 0 0)) rfl (.tmp 32) (.tmp 36) rfl (by simp [Act.eval]) (by simp [Act.eval]) rfl HZ.out h50 (by omega) ?_
       intro g ic w3 hown3 hgrow3 hat3 hlt3
       have RR := walk_end G2.out.held W2.out h50 (Fr.of_below (al3 w2 _ _ _)) (by exact hown3) (by rw [HV.out]; exact hgrow3) (by rw [HV.out]; exact hat3.imp id (fun e => by simpa using e))
       have q0 : w3.heap[gb]? = w2.heap[gb]? := (hgrow3.block gb (by simp; omega) (by intro e; exact row_apart W2.out.row G2.out.held.g (by decide) (by rw [HV.out]; exact e.symm))).trans ((al3 w2 _ _ _).block gb ltg2)
       have q1 : w3.cell? ⟨gb, 5, none⟩ = some (.slice iao ws.length icap) := (cell_same q0 5).trans gwv2
       have q2 : w3.frozen? ⟨gb, 5, none⟩ = false := (frozen_same q0 5).trans (hfr2 5)
       have R3 : Hid _ := RR
       clear RR q0 hown3 hgrow3 hat3 hlt3))
  all_goals
    go_wp2_with fail
    go_ret2
    have hiv : ∀ i, (i = gb ∨ r.wv.ownBlock = some i) → ∀ cs fr, w2.heap[i]? ≠ some (.cells cs 120 fr) := by
      rintro i (hi | hi) cs fr e
      · exact G2.out.held.noEl i cs fr (.inl hi) e
      · exact row_apart W2.out.row e (by decide) hi
    have hits : Its (w3.setCell ⟨gb, 5, none⟩ (.slice (some ⟨g, 0, none⟩) (ws.length + 1) ic)) B r.iv σ.its := G2.out.its.fr R3.out.2.2 (by
      rintro g' hg' (e | e)
      · exact row_apart G2.out.its.row G2.out.held.g (by decide) (e ▸ hg')
      · rcases W2.out.row.2 with ⟨h', _⟩ | ⟨g2, cap2, cur2, h', _, hg2, _⟩
        · rw [h'] at e; simp [Value.ownBlock] at e
        · rw [h'] at e
          simp [Value.ownBlock] at e
          subst e
          exact row_apart G2.out.its.row hg2 (by decide) hg')
    exact ⟨rfl, .slice (some ⟨g, 0, none⟩) (ws.length + 1) ic, ⟨R3.out.1, HG.out.wf, HG.out.kinds, hits, HG.out.sound, fun i i1 iN i2 => (G2.out.els i i1 iN i2).fr R3.out.2.2 (fun i cs fr hi => hiv i hi cs fr)⟩, R3.out.2.1, (Fr.of_below B2.out).trans R3.out.2.2⟩
end
end Go.Proofs.Ytcedebpoihcbdaa
