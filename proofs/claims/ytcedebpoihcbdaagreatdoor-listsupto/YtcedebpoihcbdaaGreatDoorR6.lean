/-
  The document's own answer: what its New and Make do.
-/
import Derived.Test.YtcedebpoihcbdaaGreatDoorR5
namespace Go.Proofs.YtcedebpoihcbdaaGreatDoor
set_option linter.unusedVariables false
open Go.RowKit Go.Shelf Gv

theorem Tryz.info150 : (Tryz.prog.info? 150).map (fun i => (i.zero, i.size, i.bytes)) = some (some (.agg #[.int .i64 0, .string ByteArray.empty, .slice none 0 0, .int .i64 0, .slice none 0 0]), 5, 80) := by kernel_rfl

/-- A node's cells when it is made. -/
def newRow (k : Nat) (t : ByteArray) : List Value := [.int .i64 k, .string t, .slice none 0 0, .int .i64 0, .slice none 0 0]

theorem newRow_one (k : Nat) (t : ByteArray) : ∀ u ∈ newRow k t, u.oneCell' = true := by
  intro u hu
  simp only [newRow, List.mem_cons, List.not_mem_nil, or_false] at hu
  rcases hu with rfl | rfl | rfl | rfl | rfl <;> rfl

theorem step_node_append {ops : Array Oper} {o : Oper} {a : Act} {w : World} {K : Act → World → Prop} {Q : Exit → Act → World → Prop} {E : Prop} {n icap : Nat} {iao : Option Addr} {cs : List Value} {k : Nat} {t : ByteArray}
    (hgd : o.guard = none) (s x : Operand) (ho : o.op = .call { callee := .builtin .append, args := #[s, x], argTypes := #[112, 112] })
    (hs : a.eval s = .slice iao n icap) (hx : a.eval x = .slice (some ⟨w.heap.size, 0, none⟩) 1 1)
    (hown : w.ownsRow 0 150 5 (.slice iao n icap) n cs) (h50 : n ≤ 301)
    (hK : ∀ g cap w', w'.ownsRow 0 150 5 (.slice (some ⟨g, 0, none⟩) (n + 1) cap) (n + 1) (cs ++ newRow k t) →
      World.grownBy (w.alloc (.cells (newRow k t).toArray 150)).drew w' (Value.slice iao n icap).ownBlock → ((Value.slice iao n icap).ownBlock = some g ∨ g = w.heap.size + 1) → g < w'.heap.size → K (a.put o.dst (.slice (some ⟨g, 0, none⟩) (n + 1) cap)) w') :
    if Region.wanted o (yielded ops a.tmps) = true then Oper.wp Tryz.prog o a (w.alloc (.cells (newRow k t).toArray 150)).drew K Q else E := by
  obtain ⟨i0, hi, hz0, hz1, hz2⟩ := info_parts Tryz.info150
  have hal : Below w.heap.size w (w.alloc (.cells (newRow k t).toArray 150)).drew := ((Below.refl _ w).alloc (Nat.le_refl _) _).drew
  refine step_append_lies _ hgd s x 112 ho 0 150 i0 _ 5 80 Tryz.underlying112 hi hz0 hz1 hz2 rfl (by decide) (.slice iao n icap) n cs hs (ownsRow_since hown hal) ⟨w.heap.size, 0, none⟩ 1 1 (newRow k t) hx rfl ?_ (newRow_one k t) (by omega) (by unfold maxLen; omega) (by omega) (by simp) (w.heap.size + 1) (by simp) hK
  intro j u hj
  have e : (⟨w.heap.size, 0, none⟩ : Addr).add j = ⟨w.heap.size, j, none⟩ := by unfold Addr.add; split <;> simp_all
  rw [e]
  have hb : (w.alloc (.cells (newRow k t).toArray 150)).drew.heap[w.heap.size]? = some (.cells (newRow k t).toArray 150 (0, 0)) := heap_alloc_new w (.cells (newRow k t).toArray 150)
  rw [cells_of hb j]
  simpa using hj

section
variable {w w' : World} {r : Rx}

/-- The document's grove with a node more. -/
def Rx.made (r : Rx) (k : Nat) (t : ByteArray) (rn cap : Nat) : Rx :=
  { r with rn := rn, cap := cap, N := r.N + 1, kn := up r.kn (r.N + 1) k, tag := up r.tag (r.N + 1) t, av := up r.av (r.N + 1) (.slice none 0 0), par := up r.par (r.N + 1) 0, kv := up r.kv (r.N + 1) (.slice none 0 0), K := up r.K (r.N + 1) [], ats := up r.ats (r.N + 1) [] }

theorem made_end {w2 w3 : World} {k g cap : Nat} {t : ByteArray} (h : RefOK w2 r) (h3 : r.N < 300) (hown : w3.ownsRow 0 150 5 (.slice (some ⟨g, 0, none⟩) (r.N + 1 + 1) cap) (r.N + 1 + 1) (refCells (r.N + 1) r.kn r.tag r.av r.par r.kv ++ newRow k t))
    (hgrow : World.grownBy (w2.alloc (.cells (newRow k t).toArray 150)).drew w3 (some r.rn)) (hat : r.rn = g ∨ g = w2.heap.size + 1) :
    RPost w2 (w3.setCell ⟨r.rb, 0, none⟩ (.slice (some ⟨g, 0, none⟩) (r.N + 1 + 1) cap)) r (r.made k t g cap) := by
  have hal : Below w2.heap.size w2 (w2.alloc (.cells (newRow k t).toArray 150)).drew := ((Below.refl _ w2).alloc (Nat.le_refl _) _).drew
  have hk3 : ∀ b, b < w2.heap.size → b ≠ r.rn → w3.heap[b]? = w2.heap[b]? := fun b hb hne => (hgrow.block b (Nat.lt_of_lt_of_le hb hal.size) (by simpa using hne)).trans (hal.block b hb)
  have hs3 : w2.heap.size ≤ w3.heap.size := Nat.le_trans hal.size hgrow.size
  have hne := h.ne
  have hg3 : w3.heap[r.rb]? = some (.cells #[.slice (some ⟨r.rn, 0, none⟩) (r.N + 1) r.cap, r.wv, r.iv, r.qv] 117 (0, 0)) := (hk3 _ h.ltb hne).trans h.g
  have hgb : g ≠ r.rb := by
    rcases hat with e | e
    · rw [← e]; exact fun e => hne e.symm
    · have := h.ltb; omega
  obtain ⟨csn, hcn⟩ := h.rnblock
  have hk : ∀ (b : Nat) (cs : Array Value) (ty : TypeId), w2.heap[b]? = some (.cells cs ty (0, 0)) → (ty ≠ 150 ∧ ty ≠ 117) → (w3.setCell ⟨r.rb, 0, none⟩ (.slice (some ⟨g, 0, none⟩) (r.N + 1 + 1) cap)).heap[b]? = w2.heap[b]? := by
    intro b cs ty hb ht
    rw [heap_setCell_other _ _ _ _ (fun e => ?_)]
    · refine hk3 b (lt_of_block hb) (fun e => ?_)
      rw [e, hcn] at hb; simp at hb; exact ht.1 hb.2.symm
    · have hb' := h.g
      have e' : b = r.rb := e
      rw [← e', hb] at hb'; simp at hb'; exact ht.2 hb'.2
  obtain ⟨_, _, p3, p4, p5, p6, p7, p8, p9⟩ := h.part (ok := fun ty => ty ≠ 150 ∧ ty ≠ 117) hk
  have hcs : refCells (r.N + 1) r.kn r.tag r.av r.par r.kv ++ newRow k t = refCells (r.N + 1 + 1) (up r.kn (r.N + 1) k) (up r.tag (r.N + 1) t) (up r.av (r.N + 1) (.slice none 0 0)) (up r.par (r.N + 1) 0) (up r.kv (r.N + 1) (.slice none 0 0)) := by
    rw [refCells_succ (r.N + 1)]
    congr 1
    · refine (refCells_congr (fun i hi => ?_)).symm
      have : i ≠ r.N + 1 := by omega
      simp only [refRow, up_other _ _ _ this]
    · simp [refRow, newRow, up_same]
  refine ⟨⟨?_, ?_, by show r.N + 1 ≤ 300; omega, fun i hi => ?_, fun i hi => ?_, fun i hi => ?_, fun i hi => ?_, h.hT, fun i j hi hj hij b hb => ?_, p5 (by decide), h.wfew, p6 (by decide), h.ifew, p7 (by decide), p8 (by decide), h.qfew, p9 (by decide)⟩, ?_, fun i hi => ?_, rfl⟩
  · exact heap_setCell_same w3 r.rb 0 _ _ _ hg3
  · rw [hcs] at hown
    exact ownsRow_setCell_other hown (by simp [Value.ownBlock]; exact hgb) _
  · show World.ownsRow _ 0 3 1 (up r.kv (r.N + 1) (.slice none 0 0) i) (up r.K (r.N + 1) [] i).length (ints (up r.K (r.N + 1) [] i))
    by_cases ei : i = r.N + 1
    · subst ei; rw [up_same, up_same]; exact World.ownsRow_nil _ _ _ _
    · rw [up_other _ _ _ ei, up_other _ _ _ ei]
      have hi' : i ≤ r.N + 1 := hi
      exact p3 (by decide) i (by omega)
  · show (up r.K (r.N + 1) [] i).length ≤ 300
    by_cases ei : i = r.N + 1
    · subst ei; rw [up_same]; simp
    · rw [up_other _ _ _ ei]
      have hi' : i ≤ r.N + 1 := hi
      exact h.few i (by omega)
  · show World.ownsRow _ 0 199 2 (up r.av (r.N + 1) (.slice none 0 0) i) (up r.ats (r.N + 1) [] i).length ((up r.ats (r.N + 1) [] i).flatMap arow)
    by_cases ei : i = r.N + 1
    · subst ei; rw [up_same, up_same]; exact World.ownsRow_nil _ _ _ _
    · rw [up_other _ _ _ ei, up_other _ _ _ ei]
      have hi' : i ≤ r.N + 1 := hi
      exact p4 (by decide) i (by omega)
  · show (up r.ats (r.N + 1) [] i).length ≤ r.top
    by_cases ei : i = r.N + 1
    · subst ei; rw [up_same]; simp
    · rw [up_other _ _ _ ei]
      have hi' : i ≤ r.N + 1 := hi
      exact h.afew i (by omega)
  · have hi' : i ≤ r.N + 1 := hi
    have hj' : j ≤ r.N + 1 := hj
    have hb' : (up r.av (r.N + 1) (.slice none 0 0) i).ownBlock = some b := hb
    show (up r.av (r.N + 1) (.slice none 0 0) j).ownBlock ≠ some b
    by_cases ei : i = r.N + 1
    · subst ei; rw [up_same] at hb'; simp [Value.ownBlock] at hb'
    · rw [up_other _ _ _ ei] at hb'
      by_cases ej : j = r.N + 1
      · subst ej; rw [up_same]; simp [Value.ownBlock]
      · rw [up_other _ _ _ ej]
        exact h.nd i j (by omega) (by omega) hij b hb'
  · have f1 : Fr r.own w2 w3 := ⟨hgrow.os.trans hal.os, hgrow.tape.trans hal.tape, hgrow.output.trans hal.output, hs3, fun i hi hn => hk3 i hi (fun e => hn (e ▸ Rx.own_n))⟩
    exact f1.setCell (p := ⟨r.rb, 0, none⟩) Rx.own_b _
  · rcases hi with hi | hi | ⟨j, hj, hi⟩ | ⟨j, hj, hi⟩ | hi | hi | hi | hi | hi
    · exact .inl (.inl hi)
    · have hi' : i = g := hi
      rcases hat with e | e
      · exact .inl (by rw [hi', ← e]; exact Rx.own_n)
      · exact .inr (by omega)
    · have hi' : (up r.kv (r.N + 1) (.slice none 0 0) j).ownBlock = some i := hi
      have hj' : j ≤ r.N + 1 := hj
      by_cases ej : j = r.N + 1
      · subst ej; rw [up_same] at hi'; simp [Value.ownBlock] at hi'
      · rw [up_other _ _ _ ej] at hi'
        exact .inl (Rx.own_k (by omega) hi')
    · have hi' : (up r.av (r.N + 1) (.slice none 0 0) j).ownBlock = some i := hi
      have hj' : j ≤ r.N + 1 := hj
      by_cases ej : j = r.N + 1
      · subst ej; rw [up_same] at hi'; simp [Value.ownBlock] at hi'
      · rw [up_other _ _ _ ej] at hi'
        exact .inl (Rx.own_a (by omega) hi')
    · exact .inl (Rx.own_w hi)
    · exact .inl (Rx.own_i hi)
    · exact .inl (Rx.own_q hi)
    · exact .inl (.inr (.inr (.inr (.inr (.inr (.inr (.inr (.inl hi))))))))
    · exact .inl (.inr (.inr (.inr (.inr (.inr (.inr (.inr (.inr hi))))))))

theorem kindErr_bad {kind : Int} {t : ByteArray} (h : kind < 1 ∨ 4 < kind) : kindErr kind t = 1 := by
  unfold kindErr
  rw [if_neg (by omega), if_neg (by omega)]
theorem kindErr_el (t : ByteArray) : kindErr 2 t = if nameB t.data.toList then 0 else 2 := by
  unfold kindErr
  rw [if_pos rfl]
theorem kindErr_oth {kind : Int} {t : ByteArray} (h1 : 1 ≤ kind) (h4 : kind ≤ 4) (h2 : kind ≠ 2) : kindErr kind t = if t.size ≤ 40 then 0 else 3 := by
  unfold kindErr
  rw [if_neg h2, if_pos (by omega)]

/-- What the document's Make answers and leaves. -/
def MakePost (w : World) (r : Rx) (kind : Int) (t : ByteArray) (e : Ending) (w' : World) : Prop :=
  (kindErr kind t ≠ 0 ∧ w' = w ∧ e = .returned (.tuple #[.int .i64 0, .int .i64 (kindErr kind t)])) ∨
  (kindErr kind t = 0 ∧ r.N = 300 ∧ w' = w ∧ e = .returned (.tuple #[.int .i64 0, .int .i64 4])) ∨
  (kindErr kind t = 0 ∧ r.N < 300 ∧ e = .returned (.tuple #[.int .i64 (r.N + 1 : Nat), .int .i64 0]) ∧ ∃ k rn cap : Nat, kind = k ∧ RPost w w' r (r.made k (if k = 2 then t else ByteArray.empty) rn cap))

set_option maxRecDepth 100000 in
set_option maxHeartbeats 1000000 in
theorem refMake (h : RefOK w r) (kind : Int) (t : ByteArray) (hs : t.size ≤ maxLen) :
    Calls Tryz.prog 90 #[.pointer (some ⟨r.rb, 0, none⟩), .int .i64 kind, .string t] w (MakePost w r kind t) := by
  have HH : Hid (RefOK w r) := h
  have HS : Hid (t.size ≤ maxLen) := hs
  have hg := h.c0
  have hN := h.hN
  obtain ⟨L, hLe⟩ : ∃ L, L = r.N + 1 := ⟨_, rfl⟩
  rw [← hLe] at hg
  have HLe : Hid (L = r.N + 1) := hLe
  have hL3 : L ≤ 301 := by omega
  clear h hs hLe
  by_cases c1 : 1 ≤ kind
  · by_cases c4 : kind ≤ 4
    · by_cases c2 : kind = 2
      · subst c2
        cases hb : nameB t.data.toList with
        | false =>
          have HE : Hid (kindErr 2 t = 2) := by show kindErr 2 t = 2; rw [kindErr_el, hb]; rfl
          go_enter Tryz.func90, Tryz.ntmps90
          go_wp2_with fail
          refine (refIsName t w HS.out).mono ?_
          rintro e w ⟨rfl, rfl⟩
          rw [hb]
          go_wp2_with fail
          go_ret2
          exact .inl ⟨by rw [HE.out]; decide, rfl, by rw [HE.out]; rfl⟩
        | true =>
          have HE : Hid (kindErr 2 t = 0) := by show kindErr 2 t = 0; rw [kindErr_el, hb]; rfl
          by_cases h3 : r.N = 300
          · have h3' : (300 : Int) < (L : Int) := by have := HLe.out; omega
            go_enter Tryz.func90, Tryz.ntmps90
            go_wp2_with fail
            refine (refIsName t w HS.out).mono ?_
            rintro e w ⟨rfl, rfl⟩
            rw [hb]
            go_wp2_with fail
            go_ret2
            exact .inr (.inl ⟨HE.out, h3, rfl, rfl⟩)
          · have h3' : ¬ (300 : Int) < (L : Int) := by have := HLe.out; omega
            go_enter Tryz.func90, Tryz.ntmps90
            go_wp2_with fail
            refine (refIsName t w HS.out).mono ?_
            rintro e w ⟨rfl, rfl⟩
            rw [hb]
            go_wp2_with fail
            have hb2 : Below w.heap.size w (w.alloc (.cells #[.int .i64 2, .string t, .slice none 0 0, .int .i64 0, .slice none 0 0] 150)) := (Below.refl _ _).alloc (Nat.le_refl _) _
            have f0 : (w.alloc (.cells #[.int .i64 2, .string t, .slice none 0 0, .int .i64 0, .slice none 0 0] 150)).cell? ⟨w.heap.size, 0, none⟩ = some (.int .i64 2) := alloc5 _ _ _ _ _ _ _ 0
            have f1 : (w.alloc (.cells #[.int .i64 2, .string t, .slice none 0 0, .int .i64 0, .slice none 0 0] 150)).cell? ⟨w.heap.size, 1, none⟩ = some (.string t) := alloc5 _ _ _ _ _ _ _ 1
            have f2 : (w.alloc (.cells #[.int .i64 2, .string t, .slice none 0 0, .int .i64 0, .slice none 0 0] 150)).cell? ⟨w.heap.size, 2, none⟩ = some (.slice none 0 0) := alloc5 _ _ _ _ _ _ _ 2
            have f3 : (w.alloc (.cells #[.int .i64 2, .string t, .slice none 0 0, .int .i64 0, .slice none 0 0] 150)).cell? ⟨w.heap.size, 3, none⟩ = some (.int .i64 0) := alloc5 _ _ _ _ _ _ _ 3
            have f4 : (w.alloc (.cells #[.int .i64 2, .string t, .slice none 0 0, .int .i64 0, .slice none 0 0] 150)).cell? ⟨w.heap.size, 4, none⟩ = some (.slice none 0 0) := alloc5 _ _ _ _ _ _ _ 4
            have lt2 : w.heap.size < (w.alloc (.cells #[.int .i64 2, .string t, .slice none 0 0, .int .i64 0, .slice none 0 0] 150)).heap.size := by simp
            have R2 : Hid (RefOK (w.alloc (.cells #[.int .i64 2, .string t, .slice none 0 0, .int .i64 0, .slice none 0 0] 150)) r) := HH.out.since hb2
            have B2 : Hid (RPost w (w.alloc (.cells #[.int .i64 2, .string t, .slice none 0 0, .int .i64 0, .slice none 0 0] 150)) r r) := RPost.of_below HH.out hb2
            have g2 : (w.alloc (.cells #[.int .i64 2, .string t, .slice none 0 0, .int .i64 0, .slice none 0 0] 150)).cell? ⟨r.rb, 0, none⟩ = some (.slice (some ⟨r.rn, 0, none⟩) L r.cap) := by rw [HLe.out]; exact R2.out.c0
            clear hb2 hg
            generalize hw2 : (w.alloc (.cells #[.int .i64 2, .string t, .slice none 0 0, .int .i64 0, .slice none 0 0] 150)) = w2 at *
            clear hw2
            have ltb : r.rb < w2.heap.size := R2.out.ltb
            have ltb' : r.rb < w2.heap.size + 1 := by omega
            have bne : r.rb ≠ w2.heap.size := by omega
            have hfr2 : ∀ j, w2.frozen? ⟨r.rb, j, none⟩ = false := R2.out.gfree
            have HZ : Hid (w2.ownsRow 0 150 5 (.slice (some ⟨r.rn, 0, none⟩) L r.cap) L (refCells (r.N + 1) r.kn r.tag r.av r.par r.kv)) := by rw [HLe.out]; exact R2.out.row
            generalize w.heap.size = xb at *
            go_region_law (first
              | (refine step_node_append (w := w2) (n := L) (icap := r.cap) (iao := some ⟨r.rn, 0, none⟩) (k := 2) (t := t) rfl (.tmp 47) (.tmp 49) rfl (by simp [Act.eval]) (by simp [Act.eval]) HZ.out (by omega) ?_
                 intro g ic w3 hown3 hgrow3 hat3 hlt3
                 have hal : Below w2.heap.size w2 (w2.alloc (.cells (newRow 2 t).toArray 150)).drew := ((Below.refl _ w2).alloc (Nat.le_refl _) _).drew
                 have q0 : w3.heap[r.rb]? = w2.heap[r.rb]? := (hgrow3.block r.rb (by simp; omega) (by simp [Value.ownBlock]; exact R2.out.ne)).trans (hal.block r.rb ltb)
                 have q1 : w3.cell? ⟨r.rb, 0, none⟩ = some (.slice (some ⟨r.rn, 0, none⟩) L r.cap) := (cell_same' q0 0).trans g2
                 have q2 : w3.frozen? ⟨r.rb, 0, none⟩ = false := (frozen_same' q0 0).trans (hfr2 0)
                 have HO : Hid (w3.ownsRow 0 150 5 (.slice (some ⟨g, 0, none⟩) (L + 1) ic) (L + 1) (refCells (r.N + 1) r.kn r.tag r.av r.par r.kv ++ newRow 2 t)) := hown3
                 have HG : Hid (World.grownBy (w2.alloc (.cells (newRow 2 t).toArray 150)).drew w3 (some r.rn)) := hgrow3
                 have HA : Hid (r.rn = g ∨ g = w2.heap.size + 1) := hat3.imp (fun e => by simpa [Value.ownBlock] using e) id
                 clear q0 hown3 hgrow3 hat3 hlt3 hal))
            all_goals
              go_wp2_with fail
              go_ret2
              have PP := made_end (cap := ic) R2.out (by omega) (by have := HO.out; rw [HLe.out] at this; exact this) HG.out HA.out
              rw [HLe.out]
              exact .inr (.inr ⟨HE.out, by omega, by simp, 2, g, ic, rfl, by rw [if_pos rfl]; exact RPost.trans B2.out PP⟩)
      · obtain ⟨k, rfl⟩ := Int.eq_ofNat_of_zero_le (show 0 ≤ kind by omega)
        have c2' : ((k : Int) == 2) = false := by simpa using c2
        have hk2 : k ≠ 2 := by omega
        have c2n : ((k : Int) != 2) = true := by simpa using c2
        by_cases h40 : t.size ≤ 40
        · have HE : Hid (kindErr (k : Int) t = 0) := by show kindErr (k : Int) t = 0; rw [kindErr_oth c1 c4 c2, if_pos h40]
          have h40' : ¬ (40 : Int) < (t.size : Int) := by omega
          by_cases h3 : r.N = 300
          · have h3' : (300 : Int) < (L : Int) := by have := HLe.out; omega
            clear c2
            go_enter Tryz.func90, Tryz.ntmps90
            go_wp2_with fail
            refine (refIsName t w HS.out).mono ?_
            rintro e w ⟨rfl, rfl⟩
            go_wp2_with fail
            go_ret2
            exact .inr (.inl ⟨HE.out, h3, rfl, rfl⟩)
          · have h3' : ¬ (300 : Int) < (L : Int) := by have := HLe.out; omega
            clear c2
            go_enter Tryz.func90, Tryz.ntmps90
            go_wp2_with fail
            refine (refIsName t w HS.out).mono ?_
            rintro e w ⟨rfl, rfl⟩
            go_wp2_with fail
            have hb2 : Below w.heap.size w (w.alloc (.cells #[.int .i64 (k : Int), .string ⟨#[]⟩, .slice none 0 0, .int .i64 0, .slice none 0 0] 150)) := (Below.refl _ _).alloc (Nat.le_refl _) _
            have f0 : (w.alloc (.cells #[.int .i64 (k : Int), .string ⟨#[]⟩, .slice none 0 0, .int .i64 0, .slice none 0 0] 150)).cell? ⟨w.heap.size, 0, none⟩ = some (.int .i64 (k : Int)) := alloc5 _ _ _ _ _ _ _ 0
            have f1 : (w.alloc (.cells #[.int .i64 (k : Int), .string ⟨#[]⟩, .slice none 0 0, .int .i64 0, .slice none 0 0] 150)).cell? ⟨w.heap.size, 1, none⟩ = some (.string ⟨#[]⟩) := alloc5 _ _ _ _ _ _ _ 1
            have f2 : (w.alloc (.cells #[.int .i64 (k : Int), .string ⟨#[]⟩, .slice none 0 0, .int .i64 0, .slice none 0 0] 150)).cell? ⟨w.heap.size, 2, none⟩ = some (.slice none 0 0) := alloc5 _ _ _ _ _ _ _ 2
            have f3 : (w.alloc (.cells #[.int .i64 (k : Int), .string ⟨#[]⟩, .slice none 0 0, .int .i64 0, .slice none 0 0] 150)).cell? ⟨w.heap.size, 3, none⟩ = some (.int .i64 0) := alloc5 _ _ _ _ _ _ _ 3
            have f4 : (w.alloc (.cells #[.int .i64 (k : Int), .string ⟨#[]⟩, .slice none 0 0, .int .i64 0, .slice none 0 0] 150)).cell? ⟨w.heap.size, 4, none⟩ = some (.slice none 0 0) := alloc5 _ _ _ _ _ _ _ 4
            have lt2 : w.heap.size < (w.alloc (.cells #[.int .i64 (k : Int), .string ⟨#[]⟩, .slice none 0 0, .int .i64 0, .slice none 0 0] 150)).heap.size := by simp
            have R2 : Hid (RefOK (w.alloc (.cells #[.int .i64 (k : Int), .string ⟨#[]⟩, .slice none 0 0, .int .i64 0, .slice none 0 0] 150)) r) := HH.out.since hb2
            have B2 : Hid (RPost w (w.alloc (.cells #[.int .i64 (k : Int), .string ⟨#[]⟩, .slice none 0 0, .int .i64 0, .slice none 0 0] 150)) r r) := RPost.of_below HH.out hb2
            have g2 : (w.alloc (.cells #[.int .i64 (k : Int), .string ⟨#[]⟩, .slice none 0 0, .int .i64 0, .slice none 0 0] 150)).cell? ⟨r.rb, 0, none⟩ = some (.slice (some ⟨r.rn, 0, none⟩) L r.cap) := by rw [HLe.out]; exact R2.out.c0
            clear hb2 hg
            generalize hw2 : (w.alloc (.cells #[.int .i64 (k : Int), .string ⟨#[]⟩, .slice none 0 0, .int .i64 0, .slice none 0 0] 150)) = w2 at *
            clear hw2
            have ltb : r.rb < w2.heap.size := R2.out.ltb
            have ltb' : r.rb < w2.heap.size + 1 := by omega
            have bne : r.rb ≠ w2.heap.size := by omega
            have hfr2 : ∀ j, w2.frozen? ⟨r.rb, j, none⟩ = false := R2.out.gfree
            have HZ : Hid (w2.ownsRow 0 150 5 (.slice (some ⟨r.rn, 0, none⟩) L r.cap) L (refCells (r.N + 1) r.kn r.tag r.av r.par r.kv)) := by rw [HLe.out]; exact R2.out.row
            generalize w.heap.size = xb at *
            go_region_law (first
              | (refine step_node_append (w := w2) (n := L) (icap := r.cap) (iao := some ⟨r.rn, 0, none⟩) (k := k) (t := ⟨#[]⟩) rfl (.tmp 47) (.tmp 49) rfl (by simp [Act.eval]) (by simp [Act.eval]) HZ.out (by omega) ?_
                 intro g ic w3 hown3 hgrow3 hat3 hlt3
                 have hal : Below w2.heap.size w2 (w2.alloc (.cells (newRow k ⟨#[]⟩).toArray 150)).drew := ((Below.refl _ w2).alloc (Nat.le_refl _) _).drew
                 have q0 : w3.heap[r.rb]? = w2.heap[r.rb]? := (hgrow3.block r.rb (by simp; omega) (by simp [Value.ownBlock]; exact R2.out.ne)).trans (hal.block r.rb ltb)
                 have q1 : w3.cell? ⟨r.rb, 0, none⟩ = some (.slice (some ⟨r.rn, 0, none⟩) L r.cap) := (cell_same' q0 0).trans g2
                 have q2 : w3.frozen? ⟨r.rb, 0, none⟩ = false := (frozen_same' q0 0).trans (hfr2 0)
                 have HO : Hid (w3.ownsRow 0 150 5 (.slice (some ⟨g, 0, none⟩) (L + 1) ic) (L + 1) (refCells (r.N + 1) r.kn r.tag r.av r.par r.kv ++ newRow k ⟨#[]⟩)) := hown3
                 have HG : Hid (World.grownBy (w2.alloc (.cells (newRow k ⟨#[]⟩).toArray 150)).drew w3 (some r.rn)) := hgrow3
                 have HA : Hid (r.rn = g ∨ g = w2.heap.size + 1) := hat3.imp (fun e => by simpa [Value.ownBlock] using e) id
                 clear q0 hown3 hgrow3 hat3 hlt3 hal))
            all_goals
              go_wp2_with fail
              go_ret2
              have PP := made_end (cap := ic) R2.out (by omega) (by have := HO.out; rw [HLe.out] at this; exact this) HG.out HA.out
              rw [HLe.out]
              exact .inr (.inr ⟨HE.out, by omega, by simp, k, g, ic, rfl, by rw [if_neg hk2]; exact RPost.trans B2.out PP⟩)
        · have HE : Hid (kindErr (k : Int) t = 3) := by show kindErr (k : Int) t = 3; rw [kindErr_oth c1 c4 c2, if_neg h40]
          have h40' : (40 : Int) < (t.size : Int) := by omega
          clear c2 h40
          go_enter Tryz.func90, Tryz.ntmps90
          go_wp2_with fail
          refine (refIsName t w HS.out).mono ?_
          rintro e w ⟨rfl, rfl⟩
          go_wp2_with fail
          go_ret2
          exact .inl ⟨by rw [HE.out]; decide, rfl, by rw [HE.out]; rfl⟩
    · have c4' : 4 < kind := by omega
      have HE : Hid (kindErr kind t = 1) := kindErr_bad (.inr c4')
      clear c4
      go_enter Tryz.func90, Tryz.ntmps90
      go_wp2_with fail
      go_ret2
      exact .inl ⟨by rw [HE.out]; decide, rfl, by rw [HE.out]; rfl⟩
  · have c1' : kind < 1 := by omega
    have HE : Hid (kindErr kind t = 1) := kindErr_bad (.inl c1')
    clear c1
    go_enter Tryz.func90, Tryz.ntmps90
    go_wp2_with fail
    go_ret2
    exact .inl ⟨by rw [HE.out]; decide, rfl, by rw [HE.out]; rfl⟩
end
end Go.Proofs.YtcedebpoihcbdaaGreatDoor
