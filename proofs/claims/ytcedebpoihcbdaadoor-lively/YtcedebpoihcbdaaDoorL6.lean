/-
  An element's attributes as a map in memory: what it holds, looked up, set, and taken away.
-/
import Derived.Test.YtcedebpoihcbdaaDoorMem
import Derived.MapKept
namespace Go.Proofs.YtcedebpoihcbdaaDoor
open Go.RowKit Go.MapKept Gv

/-- The map of this block holds these attributes. -/
def Att (w : World) (mb : Nat) (A : ByteArray → Option ByteArray) : Prop :=
  ∃ es clock, w.heap[mb]? = some (.map es clock) ∧ (es.toList.map (·.key)).Nodup ∧ (∀ x, x ∈ es.toList → ∃ k v, x.key = .string k ∧ x.val = .agg #[.string v] ∧ A k = some v) ∧ ∀ k v, A k = some v → ∃ x, x ∈ es.toList ∧ x.key = .string k ∧ x.val = .agg #[.string v]

def noAtt : ByteArray → Option ByteArray := fun _ => none
def setAtt (A : ByteArray → Option ByteArray) (k v : ByteArray) : ByteArray → Option ByteArray := fun x => if x = k then some v else A x
def unsetAtt (A : ByteArray → Option ByteArray) (k : ByteArray) : ByteArray → Option ByteArray := fun x => if x = k then none else A x

theorem Att.lt {w : World} {mb : Nat} {A : ByteArray → Option ByteArray} (h : Att w mb A) : mb < w.heap.size := by
  obtain ⟨es, c, h1, _⟩ := h; exact lt_of_block h1

theorem Att.same {w w' : World} {mb : Nat} {A : ByteArray → Option ByteArray} (h : Att w mb A) (hb : w'.heap[mb]? = w.heap[mb]?) : Att w' mb A := by
  obtain ⟨es, c, h1, h2⟩ := h; exact ⟨es, c, hb.trans h1, h2⟩

theorem Att.since {w w' : World} {mb : Nat} {A : ByteArray → Option ByteArray} (h : Att w mb A) (hb : Below w.heap.size w w') : Att w' mb A := h.same (hb.block _ h.lt)

/-- Blocks of cells may turn, and a map stays. -/
theorem Att.fr {S : Nat → Prop} {w w' : World} {mb : Nat} {A : ByteArray → Option ByteArray} (h : Att w mb A) (hf : Fr S w w') (hS : ∀ i es c, S i → w.heap[i]? ≠ some (.map es c)) : Att w' mb A := by
  obtain ⟨es, c, h1, h2⟩ := h
  exact ⟨es, c, (hf.block _ (lt_of_block h1) (fun hs => hS _ _ _ hs h1)).trans h1, h2⟩

theorem att_new {w : World} {mb : Nat} (h : w.heap[mb]? = some (.map #[] 0)) : Att w mb noAtt := ⟨#[], 0, h, by simp, by simp, by intro k v hk; cases hk⟩

theorem key_str {k k' : ByteArray} (h : Value.string k = .string k') : k = k' := by injection h

section
variable {P : Program} {w : World} {mb : Nat} {A : ByteArray → Option ByteArray} {mty kt et : TypeId}

theorem Att.find (h : Att w mb A) (k : ByteArray) : ∃ es clock, w.heap[mb]? = some (.map es clock) ∧
    ((A k = none ∧ Instr.findNow .string (.string k) es.toList 0 = some none ∧ ∀ x, x ∈ es.toList → x.key ≠ .string k) ∨ ∃ v j e, A k = some v ∧ Instr.findNow .string (.string k) es.toList 0 = some (some (j, .agg #[.string v])) ∧ es[j]? = some e ∧ e.key = .string k) := by
  obtain ⟨es, c, h1, h2, h3, h4⟩ := h
  refine ⟨es, c, h1, ?_⟩
  have hks : ∀ x, x ∈ es.toList → IsKey .string x.key := fun x hx => by obtain ⟨k, v, e, _⟩ := h3 x hx; rw [e]; trivial
  rcases findNow_spec (d := .string) (k := .string k) trivial es.toList 0 hks with ⟨f1, f2⟩ | ⟨j, e, f1, f2, f3⟩
  · refine .inl ⟨?_, f1, f2⟩
    cases hA : A k with
    | none => rfl
    | some v =>
      obtain ⟨x, hx, hk, _⟩ := h4 k v hA
      exact absurd hk (f2 x hx)
  · obtain ⟨k', v, e1, e2, e3⟩ := h3 e (List.mem_of_getElem? f2)
    obtain rfl : k' = k := key_str (e1.symm.trans f3)
    refine .inr ⟨v, j, e, e3, ?_, by simpa using f2, f3⟩
    rw [f1, e2, Nat.zero_add]

theorem Att.lookup (h : Att w mb A) (hm : P.underlying mty = some (.map kt et)) (hk : P.underlying kt = some .string) {z : ByteArray} (hz : ∀ w, (zeroValue et).run P w = .ok (.agg #[.string z]) w) (k : ByteArray) :
    (Instr.lookup mty (.map (some mb)) (.string k) false).run P w = .ok (.agg #[.string ((A k).getD z)]) w ∧
    (Instr.lookup mty (.map (some mb)) (.string k) true).run P w = .ok (.tuple #[.agg #[.string ((A k).getD z)], .bool (A k).isSome]) w := by
  obtain ⟨es, c, hb, hf⟩ := h.find k
  have hc : ∀ e, (Instr.checkKey e 10000 kt (.string k)).run P w = .ok () w := fun e => run_checkKey (d := .string) (k := .string k) hk trivial e 9999
  rcases hf with ⟨hA, hf, -⟩ | ⟨v, j, e, hA, hf, -, -⟩
  · simp [Instr.lookup, run_underlying hm, MapKept.run_getObj_map hb, hc, run_findKey hk hf, hz, hA, Result.andThen]
  · simp [Instr.lookup, run_underlying hm, MapKept.run_getObj_map hb, hc, run_findKey hk hf, hA, Result.andThen]

theorem fr_put {w : World} {mb : Nat} (o : Obj) : Fr (fun i => i = mb) w { w with heap := w.heap.setIfInBounds mb o } :=
  ⟨rfl, rfl, rfl, by simp, fun i _ hi => by simp [Ne.symm hi]⟩

theorem nodup_at {l : List MapEntry} (h : (l.map (·.key)).Nodup) {i j : Nat} {x y : MapEntry} (hx : l[i]? = some x) (hy : l[j]? = some y) (e : x.key = y.key) : i = j := by
  have h1 := List.pairwise_iff_getElem.1 h
  obtain ⟨hi, ei⟩ := List.getElem?_eq_some_iff.1 hx
  obtain ⟨hj, ej⟩ := List.getElem?_eq_some_iff.1 hy
  rcases Nat.lt_trichotomy i j with hlt | rfl | hlt
  · have h2 := h1 i j (by simpa using hi) (by simpa using hj) hlt
    simp [ei, ej, e] at h2
  · rfl
  · have h2 := h1 j i (by simpa using hj) (by simpa using hi) hlt
    simp [ei, ej, e] at h2

theorem Att.update (h : Att w mb A) (hm : P.underlying mty = some (.map kt et)) (hk : P.underlying kt = some .string) (k v : ByteArray) :
    ∃ w', (Instr.mapUpdate mty (.map (some mb)) (.string k) (.agg #[.string v])).run P w = .ok () w' ∧ Att w' mb (setAtt A k v) ∧ Fr (fun i => i = mb) w w' := by
  obtain ⟨es, c, hb, hn, h3, h4⟩ := h
  have hks : ∀ x, x ∈ es.toList → IsKey .string x.key := fun x hx => by obtain ⟨k, v, e, _⟩ := h3 x hx; rw [e]; trivial
  have hc : ∀ e, (Instr.checkKey e 10000 kt (.string k)).run P w = .ok () w := fun e => run_checkKey (d := .string) (k := .string k) hk trivial e 9999
  rcases findNow_spec (d := .string) (k := .string k) trivial es.toList 0 hks with ⟨f1, f2⟩ | ⟨j, e, f1, f2, f3⟩
  · refine ⟨_, by simp [Instr.mapUpdate, run_underlying hm, MapKept.run_getObj_map hb, hc, run_findKey hk f1, MapKept.run_setObj_map _ hb, Result.andThen]; rfl, ⟨_, _, (heap_set hb).1, ?_, ?_, ?_⟩, fr_put _⟩
    · simp only [Array.toList_push, List.map_append, List.map_cons, List.map_nil]
      refine List.nodup_append.2 ⟨hn, by simp, ?_⟩
      intro a ha b hb'
      simp only [List.mem_singleton] at hb'
      subst hb'
      obtain ⟨x, hx, rfl⟩ := List.mem_map.1 ha
      exact f2 x hx
    · intro x hx
      simp only [Array.toList_push, List.mem_append, List.mem_singleton] at hx
      rcases hx with hx | rfl
      · obtain ⟨k', v', e1, e2, e3⟩ := h3 x hx
        refine ⟨k', v', e1, e2, ?_⟩
        have : k' ≠ k := fun e => f2 x hx (by rw [e1, e])
        simp [setAtt, this, e3]
      · exact ⟨k, v, rfl, rfl, by simp [setAtt]⟩
    · intro k' v' hA
      by_cases e : k' = k
      · subst e
        simp only [setAtt, if_true] at hA
        cases hA
        exact ⟨⟨.string k', .agg #[.string v], c⟩, by simp, rfl, rfl⟩
      · simp only [setAtt, if_neg e] at hA
        obtain ⟨x, hx, e1, e2⟩ := h4 k' v' hA
        exact ⟨x, by simp [hx], e1, e2⟩
  · have hj : es[j]? = some e := by simpa using f2
    refine ⟨_, by simp [Instr.mapUpdate, run_underlying hm, MapKept.run_getObj_map hb, hc, run_findKey hk f1, hj, f3, run_keyThatStays (d := .string) (k := .string k) trivial, MapKept.run_setObj_map _ hb, Result.andThen]; rfl, ⟨_, _, (heap_set hb).1, ?_, ?_, ?_⟩, fr_put _⟩
    · rw [modify_keys j _ (fun e' he' => by rw [hj] at he'; cases he'; exact f3.symm)]
      exact hn
    · intro x hx
      obtain ⟨i, hi⟩ := List.getElem?_of_mem hx
      rw [Array.getElem?_toList, Array.getElem?_modify] at hi
      by_cases e' : j = i
      · subst e'
        simp only [if_true, hj, Option.map_some, Option.some.injEq] at hi
        subst hi
        exact ⟨k, v, rfl, rfl, by simp [setAtt]⟩
      · simp only [if_neg e'] at hi
        have hi' : es.toList[i]? = some x := by simpa using hi
        obtain ⟨k', v', e1, e2, e3⟩ := h3 x (List.mem_of_getElem? hi')
        refine ⟨k', v', e1, e2, ?_⟩
        have : k' ≠ k := fun e0 => e' (nodup_at hn f2 hi' (by rw [f3, e1, e0]))
        simp [setAtt, this, e3]
    · intro k' v' hA
      by_cases e0 : k' = k
      · subst e0
        simp only [setAtt, if_true] at hA
        cases hA
        refine ⟨{ e with key := .string k', val := .agg #[.string v] }, ?_, rfl, rfl⟩
        refine List.mem_of_getElem? (i := j) ?_
        rw [Array.getElem?_toList, Array.getElem?_modify, if_pos rfl, hj]; rfl
      · simp only [setAtt, if_neg e0] at hA
        obtain ⟨x, hx, e1, e2⟩ := h4 k' v' hA
        obtain ⟨i, hi⟩ := List.getElem?_of_mem hx
        refine ⟨x, List.mem_of_getElem? (i := i) ?_, e1, e2⟩
        have hne : j ≠ i := fun e' => by subst e'; rw [f2] at hi; cases hi; exact e0 (key_str (e1.symm.trans f3))
        rw [Array.getElem?_toList, Array.getElem?_modify, if_neg hne]; simpa using hi

theorem erase_other {l : List MapEntry} {j i : Nat} {x : MapEntry} (hi : l[i]? = some x) (hne : i ≠ j) : x ∈ l.eraseIdx j := by
  rw [List.mem_eraseIdx_iff_getElem?]
  exact ⟨i, hne, hi⟩

theorem Att.delete (h : Att w mb A) (hm : P.underlying mty = some (.map kt et)) (hk : P.underlying kt = some .string) (k : ByteArray) (ty kt' : TypeId) :
    ∃ w', (Builtin.delete_ #[mty, kt'] ty #[.map (some mb), .string k]).run P w = .ok (.tuple #[]) w' ∧ Att w' mb (unsetAtt A k) ∧ Fr (fun i => i = mb) w w' := by
  obtain ⟨es, c, hb, hn, h3, h4⟩ := h
  have hks : ∀ x, x ∈ es.toList → IsKey .string x.key := fun x hx => by obtain ⟨k, v, e, _⟩ := h3 x hx; rw [e]; trivial
  have hc : ∀ e, (Instr.checkKey e 10000 kt (.string k)).run P w = .ok () w := fun e => run_checkKey (d := .string) (k := .string k) hk trivial e 9999
  rcases findNow_spec (d := .string) (k := .string k) trivial es.toList 0 hks with ⟨f1, f2⟩ | ⟨j, e, f1, f2, f3⟩
  · refine ⟨_, by simp [Builtin.delete_, run_underlying hm, MapKept.run_getObj_map hb, hc, run_findKey hk f1, MapKept.run_setObj_map _ hb, Result.andThen]; rfl, ⟨_, _, (heap_set hb).1, hn, ?_, ?_⟩, fr_put _⟩
    · intro x hx
      obtain ⟨k', v', e1, e2, e3⟩ := h3 x hx
      refine ⟨k', v', e1, e2, ?_⟩
      have : k' ≠ k := fun e => f2 x hx (by rw [e1, e])
      simp [unsetAtt, this, e3]
    · intro k' v' hA
      by_cases e : k' = k
      · simp [unsetAtt, e] at hA
      · simp only [unsetAtt, if_neg e] at hA
        exact h4 k' v' hA
  · have hjl : j < es.size := by have := (List.getElem?_eq_some_iff.1 f2).1; simpa using this
    have hl : (es.eraseIdxIfInBounds j).toList = es.toList.eraseIdx j := by
      unfold Array.eraseIdxIfInBounds
      rw [dif_pos hjl]; simp
    refine ⟨_, by simp [Builtin.delete_, run_underlying hm, MapKept.run_getObj_map hb, hc, run_findKey hk f1, MapKept.run_setObj_map _ hb, Result.andThen]; rfl, ⟨_, _, (heap_set hb).1, ?_, ?_, ?_⟩, fr_put _⟩
    · rw [hl]
      exact ((List.eraseIdx_sublist _ _).map _).nodup hn
    · rw [hl]
      intro x hx
      obtain ⟨i, hne, hi⟩ := List.mem_eraseIdx_iff_getElem?.1 hx
      obtain ⟨k', v', e1, e2, e3⟩ := h3 x (List.mem_of_getElem? hi)
      refine ⟨k', v', e1, e2, ?_⟩
      have : k' ≠ k := fun e0 => hne (nodup_at hn hi f2 (by rw [f3, e1, e0]))
      simp [unsetAtt, this, e3]
    · intro k' v' hA
      by_cases e0 : k' = k
      · simp [unsetAtt, e0] at hA
      · simp only [unsetAtt, if_neg e0] at hA
        obtain ⟨x, hx, e1, e2⟩ := h4 k' v' hA
        obtain ⟨i, hi⟩ := List.getElem?_of_mem hx
        rw [hl]
        refine ⟨x, erase_other hi (fun e' => ?_), e1, e2⟩
        subst e'
        rw [f2] at hi; cases hi
        exact e0 (key_str (e1.symm.trans f3))
end
end Go.Proofs.YtcedebpoihcbdaaDoor
