/-
  What makes a filter without rules, and an iterator: NewFilter, mayFilter, NewIterator, Iter.
-/
import Derived.Test.YtcedebpoihcbdaaY1
import Derived.Deep.RegionLaw
namespace Go.Proofs.Ytcedebpoihcbdaa
open Go.RowKit Gv

theorem cell_same {w w' : World} {b : Nat} (h : w'.heap[b]? = w.heap[b]?) (o : Nat) : w'.cell? ⟨b, o, none⟩ = w.cell? ⟨b, o, none⟩ := by simp [World.cell?, h]
theorem frozen_same {w w' : World} {b : Nat} (h : w'.heap[b]? = w.heap[b]?) (o : Nat) : w'.frozen? ⟨b, o, none⟩ = w.frozen? ⟨b, o, none⟩ := by simp [World.frozen?, h]

/-- A call of a Go function as one step of a region that draws its order, by its contract. -/
theorem step_calls {P : Program} {ops : Array Oper} {o : Oper} {a : Act} {w : World} {K : Act → World → Prop} {Q : Exit → Act → World → Prop} {E : Prop}
    (hg : o.guard = none) (f : FuncId) (ops2 : Array Operand) (tys : Array TypeId) (_ : o.op = .call { callee := .value (.func f), args := ops2, argTypes := tys }) (args : Array Value) (hrun : (execOp a.eval o).run P w = .ok (.enter f args) w) (v : Value) (R : World → Prop)
    (hc : Calls P f args w fun e w' => e = .returned v ∧ R w') (hK : ∀ w', R w' → K (a.put o.dst v) w') :
    if Region.wanted o (yielded ops a.tmps) = true then Oper.wp P o a w K Q else E := by
  have hw : Region.wanted o (yielded ops a.tmps) = true := by simp [Region.wanted, hg]
  rw [if_pos hw]
  unfold Oper.wp
  rw [hrun, Oper.upon_enter]
  refine hc.mono ?_
  rintro e w' ⟨rfl, hR⟩
  exact hK w' hR

theorem indexNil (fv : Value) (w : World) : Calls Try.prog 82 #[.slice none 0 0, fv] w fun e w' => e = .returned (.int .i64 (-1)) ∧ w' = w := by
  go_enter Try.func82, Try.ntmps82
  go_wp2_with fail
  go_loopw [8] (fun i wr => i = .int .i64 0 ∧ wr = w) (fun _ _ => 0)
  case atStart => exact ⟨rfl, rfl⟩
  case round =>
    obtain ⟨rfl, rfl⟩ := hrel
    obtain ⟨w, rfl⟩ : ∃ w : World, w = wr := ⟨_, rfl⟩
    go_wp2_with fail
    go_ret
    exact ⟨rfl, rfl⟩

theorem containsNil (fv : Value) (w : World) : Calls Try.prog 68 #[.slice none 0 0, fv] w fun e w' => e = .returned (.bool false) ∧ w' = w := by
  go_enter Try.func68, Try.ntmps68
  go_wp2_with fail
  refine (indexNil fv w).mono ?_
  rintro e w ⟨rfl, rfl⟩
  go_wp2_with fail
  go_ret
  exact ⟨rfl, rfl⟩

set_option maxRecDepth 100000 in
theorem cloneNil (w : World) : Calls Try.prog 70 #[.slice none 0 0] w fun e w' => e = .returned (.slice none 0 0) ∧ w' = w := by
  have he : ∀ w : World, (binOp BinOp.eql 64 (.slice none 0 0) (.slice none 0 0)).run Try.prog w = .ok (.bool true) w := fun _ => by kernel_rfl
  go_enter Try.func70, Try.ntmps70
  go_wp2
  go_ret
  exact ⟨rfl, rfl⟩

theorem newFilterNil (see : Int) (h0 : 0 ≤ see) (h30 : see ≤ 30) (w : World) : Calls Try.prog 56 #[.int .i64 see, .slice none 0 0] w fun e w' => e = .returned (.tuple #[.agg #[.int .i64 see, .slice none 0 0], .int .i64 0]) ∧ w' = w.alloc (.cells #[.int .i64 see, .slice none 0 0] 66) := by
  have d1 : decide (see < 0) = false := by simp; omega
  have d2 : decide (30 < see) = false := by simp; omega
  go_enter Try.func56, Try.ntmps56
  go_wp2_with fail
  refine (containsNil _ _).mono ?_
  rintro e w1 ⟨rfl, rfl⟩
  go_wp2_with fail
  refine (cloneNil _).mono ?_
  rintro e w1 ⟨rfl, rfl⟩
  go_wp2_with fail
  exact bodyPost_ret (v := .tuple #[.agg #[.int .i64 see, .slice none 0 0], .int .i64 0]) (by simp [results, Try.results56, go_sem]) rfl ⟨rfl, rfl⟩

section
variable {w : World} {B gb nb cap N : Nat} {s : Fo} {kd : Nat → Value} {K : Nat → List Nat} {r : Re}

theorem mayFilterNil (h : Held w B gb nb cap (N + 1) s kd r) (root : Nat) (h1 : 1 ≤ root) (hN : root ≤ N) (see : Int) (h0 : 0 ≤ see) (h30 : see ≤ 30) (cnt : Nat) (hc : cnt < 50) :
    Calls Try.prog 33 #[.pointer (some ⟨gb, 0, none⟩), .int .i64 root, .int .i64 see, .slice none 0 0, .int .i64 cnt] w fun e w' => e = .returned (.tuple #[.agg #[.int .i64 see, .slice none 0 0], .int .i64 0]) ∧ Below w.heap.size w w' := by
  have HH : Hid (Held w B gb nb cap (N + 1) s kd r) := h
  have hb : hasB (N + 1) root = true := hasB_nat h1 hN
  clear h
  go_enter Try.func33, Try.ntmps33
  go_wp2_with fail
  refine (hasF (HH.out.alloc _) root).mono ?_
  rintro e w1 ⟨rfl, rfl⟩
  go_wp2_with fail
  refine (newFilterNil see h0 h30 _).mono ?_
  rintro e w1 ⟨rfl, rfl⟩
  go_wp2_with fail
  refine bodyPost_ret (v := .tuple #[.agg #[.int .i64 see, .slice none 0 0], .int .i64 0]) (by simp [results, Try.results33, go_sem]) rfl ⟨rfl, ?_⟩
  exact (((Below.refl _ _).alloc (Nat.le_refl _) _).alloc (by simp) _).alloc (by simp; omega) _

theorem newIterC (root : Nat) (see : Int) (ro : Option Addr) (rn rc : Nat) (w : World) : Calls Try.prog 34 #[.int .i64 root, .agg #[.int .i64 see, .slice ro rn rc]] w fun e w' => e = .returned (.agg #[.int .i64 root, .int .i64 see, .slice ro rn rc, .int .i64 root, .bool true]) ∧ w' = (w.alloc (.cells #[.int .i64 see, .slice ro rn rc] 66)).alloc (.cells #[.int .i64 root, .int .i64 see, .slice ro rn rc, .int .i64 root, .bool true] 70) := by
  go_enter Try.func34, Try.ntmps34
  go_wp2_with fail
  refine bodyPost_ret (v := .agg #[.int .i64 root, .int .i64 see, .slice ro rn rc, .int .i64 root, .bool true]) (by simp [results, Try.results34, go_sem]) rfl ⟨rfl, rfl⟩
end

theorem Try.info70 : (Try.prog.info? 70).map (fun i => (i.zero, i.size, i.bytes)) = some (some (.agg #[.int .i64 0, .int .i64 0, .slice none 0 0, .int .i64 0, .bool false]), 5, 56) := by kernel_rfl

/-- A new iterator: ahead of its root. -/
def It.new (root : Nat) (see : Int) (rv : Value) : It := { spot := { root := root, place := root, ahead := true }, see := see, rules := rv }

def Re.setIv (r : Re) (v : Value) : Re := { r with iv := v }

/-- The grove's own cell of iterators is set to a row that has been appended to. -/
theorem iter_end {w w1 w2 : World} {B gb nb cap L g ic : Nat} {s : Fo} {kd : Nat → Value} {r : Re} {its : List It} {it : It}
    (h : Held w B gb nb cap L s kd r) (hI : Its w B r.iv its) (h50 : its.length < 50) (hw1 : Fr (fun _ => False) w w1)
    (hown : w2.ownsRow B 70 5 (.slice (some ⟨g, 0, none⟩) (its.length + 1) ic) (its.length + 1) (its.flatMap It.row ++ it.row))
    (hgrow : w1.grownBy w2 r.iv.ownBlock) (hat : r.iv.ownBlock = some g ∨ g = w1.heap.size) :
    Held (w2.setCell ⟨gb, 4, none⟩ (.slice (some ⟨g, 0, none⟩) (its.length + 1) ic)) B gb nb cap L s kd (r.setIv (.slice (some ⟨g, 0, none⟩) (its.length + 1) ic)) ∧
    Its (w2.setCell ⟨gb, 4, none⟩ (.slice (some ⟨g, 0, none⟩) (its.length + 1) ic)) B (.slice (some ⟨g, 0, none⟩) (its.length + 1) ic) (its ++ [it]) ∧
    Fr (fun i => i = gb ∨ r.iv.ownBlock = some i) w (w2.setCell ⟨gb, 4, none⟩ (.slice (some ⟨g, 0, none⟩) (its.length + 1) ic)) := by
  have f2 : Fr (fun i => r.iv.ownBlock = some i) w w2 := (hw1.mono (fun _ h => h.elim)).trans (Fr.of_grown hgrow (fun k hk => hk))
  obtain ⟨cur, hn, _⟩ := h.block
  have n1 : r.iv.ownBlock ≠ some gb := row_apart hI.row h.g (by decide)
  have n2 : r.iv.ownBlock ≠ some nb := row_apart hI.row hn (by decide)
  have h2 := h.fr f2 n1 n2
  have hne : g ≠ gb := by
    rintro rfl
    rcases hat with e | e
    · exact n1 e
    · have := h.ltg; have := hw1.size; omega
  refine ⟨⟨cells_setCell h2.g, ?_, h.hB, h.hL⟩, ⟨?_, by simp; omega⟩, ?_⟩
  · exact ownsRow_setCell_other h2.row (by simp [Value.ownBlock]; exact fun e => h.ne e.symm) _
  · have := ownsRow_setCell_other hown (a := ⟨gb, 4, none⟩) (by simp [Value.ownBlock]; exact hne) (.slice (some ⟨g, 0, none⟩) (its.length + 1) ic)
    simpa using this
  · exact (f2.mono (fun i hi => .inr hi)).setCell (.inl rfl) _

/-- Three blocks more, and a draw. -/
theorem al3 (w : World) (A C D : Obj) : Below w.heap.size w (((w.alloc A).alloc C).alloc D).drew :=
  ((((Below.refl _ _).alloc (Nat.le_refl _) _).alloc (by simp) _).alloc (by simp; omega) _).drew

theorem step_iter_append {ops : Array Oper} {o : Oper} {a : Act} {w : World} {K : Act → World → Prop} {Q : Exit → Act → World → Prop} {E : Prop} {A C : Obj} {B n icap : Nat} {iao : Option Addr} {its : List It} {i : It}
    (hgd : o.guard = none) (s x : Operand) (ho : o.op = .call { callee := .builtin .append, args := #[s, x], argTypes := #[54, 54] })
    (hs : a.eval s = .slice iao n icap) (hx : a.eval x = .slice (some ⟨w.heap.size + 1 + 1, 0, none⟩) 1 1) (hrv : i.rules.oneCell' = true)
    (hown : w.ownsRow B 70 5 (.slice iao n icap) n (its.flatMap It.row)) (h50 : n < 50) (hB : B ≤ w.heap.size)
    (hK : ∀ g cap w', w'.ownsRow B 70 5 (.slice (some ⟨g, 0, none⟩) (n + 1) cap) (n + 1) (its.flatMap It.row ++ i.row) →
      World.grownBy (((w.alloc A).alloc C).alloc (.cells i.row.toArray 70)).drew w' (Value.slice iao n icap).ownBlock → ((Value.slice iao n icap).ownBlock = some g ∨ g = w.heap.size + 1 + 1 + 1) → g < w'.heap.size → K (a.put o.dst (.slice (some ⟨g, 0, none⟩) (n + 1) cap)) w') :
    if Region.wanted o (yielded ops a.tmps) = true then Oper.wp Try.prog o a (((w.alloc A).alloc C).alloc (.cells i.row.toArray 70)).drew K Q else E := by
  obtain ⟨i0, hi, hz0, hz1, hz2⟩ := info_parts Try.info70
  refine step_append_lies _ hgd s x 54 ho B 70 i0 _ 5 56 Try.underlying54 hi hz0 hz1 hz2 rfl (by decide) (.slice iao n icap) n (its.flatMap It.row) hs (ownsRow_since hown (al3 w A C _)) ⟨w.heap.size + 1 + 1, 0, none⟩ 1 1 i.row hx rfl ?_ ?_ (by omega) (by unfold maxLen; omega) (by omega) (by simp; omega) (w.heap.size + 1 + 1 + 1) (by simp) hK
  · intro j u hj
    have e : (⟨w.heap.size + 1 + 1, 0, none⟩ : Addr).add j = ⟨w.heap.size + 1 + 1, j, none⟩ := by unfold Addr.add; split <;> simp_all
    rw [e]
    have hb : (((w.alloc A).alloc C).alloc (.cells i.row.toArray 70)).drew.heap[w.heap.size + 1 + 1]? = some (.cells i.row.toArray 70 (0, 0)) := by
      have := heap_alloc_new ((w.alloc A).alloc C) (.cells i.row.toArray 70)
      rw [World.size_alloc, World.size_alloc] at this
      exact this
    rw [cells_of hb j]
    simpa using hj
  · intro u hu
    simp only [It.row, List.mem_cons, List.not_mem_nil, or_false] at hu
    rcases hu with rfl | rfl | rfl | rfl | rfl
    · rfl
    · rfl
    · exact hrv
    · rfl
    · rfl

section
variable {B : Nat} {w : World} {gb nb cap N : Nat} {kk : Nat → Nat} {tg : Nat → ByteArray} {kd : Nat → Value} {mp : Nat → Nat} {σ : St} {r : Re}

set_option maxRecDepth 100000 in
set_option maxHeartbeats 2000000 in
theorem iterNil (h : Gro B w gb nb cap N kk tg kd mp σ r) (h50 : σ.its.length < 50) (root : Nat) (h1 : 1 ≤ root) (hN : root ≤ N) (see : Int) (h0 : 0 ≤ see) (h30 : see ≤ 30) :
    Calls Try.prog 15 #[.pointer (some ⟨gb, 0, none⟩), .int .i64 root, .int .i64 see, .slice none 0 0] w fun e w' => e = .returned (.tuple #[.int .i64 (σ.its.length + 1 : Nat), .int .i64 0]) ∧ ∃ v, Gro B w' gb nb cap N kk tg kd mp { σ with its := σ.its ++ [It.new root see (.slice none 0 0)] } (r.setIv v) ∧ Fr (fun i => i = gb ∨ r.iv.ownBlock = some i) w w' := by
  obtain ⟨i0, hi, hz0, hz1, hz2⟩ := info_parts Try.info70
  have HG : Hid (Gro B w gb nb cap N kk tg kd mp σ r) := h
  have hBs : B ≤ w.heap.size := by have := h.held.hB; have := h.held.ltg; omega
  have giv := h.held.giv
  have hltg := h.held.ltg
  obtain ⟨iao, icap, hiv⟩ : ∃ iao icap, r.iv = .slice iao σ.its.length icap := by
    rcases row_form h.its.row with ⟨hv, hn⟩ | ⟨g, c, hv, _⟩
    · exact ⟨none, 0, by rw [hv, hn]⟩
    · exact ⟨_, _, hv⟩
  have HV : Hid (r.iv = .slice iao σ.its.length icap) := hiv
  rw [hiv] at giv
  clear h hiv
  go_enter Try.func15, Try.ntmps15
  go_wp2_with fail
  refine (mayFilterNil HG.out.held root h1 hN see h0 h30 σ.its.length h50).mono ?_
  rintro e w1 ⟨rfl, hb1⟩
  have G1 : Hid (Gro B w1 gb nb cap N kk tg kd mp σ r) := HG.out.since hb1
  have B1 : Hid (Below w.heap.size w w1) := hb1
  have s1 := hb1.size
  have giv1 : w1.cell? ⟨gb, 4, none⟩ = some (.slice iao σ.its.length icap) := (hb1.cell (p := ⟨gb, 4, none⟩) hltg).trans giv
  clear hb1 giv
  go_wp2_with fail
  have hb2 : Below w1.heap.size w1 (w1.alloc (.cells #[.int .i64 see, .slice none 0 0] 66)) := (Below.refl _ _).alloc (Nat.le_refl _) _
  have G2 : Hid (Gro B (w1.alloc (.cells #[.int .i64 see, .slice none 0 0] 66)) gb nb cap N kk tg kd mp σ r) := G1.out.since hb2
  have B2 : Hid (Below w.heap.size w (w1.alloc (.cells #[.int .i64 see, .slice none 0 0] 66))) := B1.out.trans (hb2.mono s1)
  have giv2 : (w1.alloc (.cells #[.int .i64 see, .slice none 0 0] 66)).cell? ⟨gb, 4, none⟩ = some (.slice iao σ.its.length icap) := (hb2.cell (p := ⟨gb, 4, none⟩) (by show gb < _; omega)).trans giv1
  have f0 : (w1.alloc (.cells #[.int .i64 see, .slice none 0 0] 66)).cell? ⟨w1.heap.size, 0, none⟩ = some (.int .i64 see) := by simp [World.cell?_alloc_at]
  have f1 : (w1.alloc (.cells #[.int .i64 see, .slice none 0 0] 66)).cell? ⟨w1.heap.size, 1, none⟩ = some (.slice none 0 0) := by simp [World.cell?_alloc_at]
  have lt2 : w1.heap.size < (w1.alloc (.cells #[.int .i64 see, .slice none 0 0] 66)).heap.size := by simp
  clear giv1 G1 B1 hb2
  generalize w1.alloc (.cells #[.int .i64 see, .slice none 0 0] 66) = w2 at *
  have hz := G2.out.its.row
  rw [HV.out] at hz
  have HZ : Hid (w2.ownsRow B 70 5 (.slice iao σ.its.length icap) σ.its.length (σ.its.flatMap It.row)) := hz
  have ltg2 : gb < w2.heap.size := G2.out.held.ltg
  clear hz
  have ltg3 : gb < w2.heap.size + 1 := by omega
  have ltg4 : gb < w2.heap.size + 1 + 1 := by omega
  have ltg5 : gb < w2.heap.size + 1 + 1 + 1 := by omega
  have gne : gb ≠ w2.heap.size + 1 + 1 := by omega
  have hfr2 : ∀ j, w2.frozen? ⟨gb, j, none⟩ = false := fun j => G2.out.held.gfree j
  go_region_law (first
    | (refine step_calls rfl 34 _ _ rfl #[.int .i64 root, .agg #[.int .i64 see, .slice none 0 0]] (by kernel_rfl) _ _ (newIterC root see none 0 0 _) ?_; rintro w3 rfl)
    | (refine step_iter_append (w := w2) (B := B) (n := σ.its.length) (icap := icap) (iao := iao) (its := σ.its) (i := It.new root see (.slice none 0 0)) rfl (.tmp 32) (.tmp 36) rfl (by simp [Act.eval]) (by simp [Act.eval]) rfl HZ.out h50 (by omega) ?_
       intro g ic w3 hown3 hgrow3 hat3 hlt3
       have RR := iter_end G2.out.held (G2.out.its) h50 (Fr.of_below (al3 w2 _ _ _)) (by exact hown3) (by rw [HV.out]; exact hgrow3) (by rw [HV.out]; exact hat3.imp id (fun e => by simpa using e))
       have q0 : w3.heap[gb]? = w2.heap[gb]? := (hgrow3.block gb (by simp; omega) (by intro e; exact row_apart G2.out.its.row G2.out.held.g (by decide) (by rw [HV.out]; exact e.symm))).trans ((al3 w2 _ _ _).block gb ltg2)
       have q1 : w3.cell? ⟨gb, 4, none⟩ = some (.slice iao σ.its.length icap) := (cell_same q0 4).trans giv2
       have q2 : w3.frozen? ⟨gb, 4, none⟩ = false := (frozen_same q0 4).trans (hfr2 4)
       have R3 : Hid _ := RR
       clear RR q0 hown3 hgrow3 hat3 hlt3))
  all_goals
    go_wp2_with fail
    go_ret2
    have hsub : ∀ i, (i = gb ∨ r.iv.ownBlock = some i) → gset gb nb r.iv i := fun i hi => hi.imp id .inr
    refine ⟨rfl, .slice (some ⟨g, 0, none⟩) (σ.its.length + 1) ic, ⟨R3.out.1, HG.out.wf, HG.out.kinds, R3.out.2.1, fun it hit => ?_, fun i i1 iN i2 => (G2.out.els i i1 iN i2).fr R3.out.2.2 (fun i cs fr hi => G2.out.noEl i cs fr (hsub i hi))⟩, (Fr.of_below B2.out).trans R3.out.2.2⟩
    rcases List.mem_append.1 hit with hit | hit
    · exact HG.out.sound it hit
    · simp at hit
      subst hit
      exact ⟨h1, hN, h1, hN, Desc.refl _ _⟩
end
end Go.Proofs.Ytcedebpoihcbdaa
