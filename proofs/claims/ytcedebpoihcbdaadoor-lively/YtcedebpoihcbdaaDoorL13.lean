/-
  What makes a list: NewList, and Watch.
-/
import Derived.Test.YtcedebpoihcbdaaDoorL12
import Derived.Deep.AppendLies
namespace Go.Proofs.YtcedebpoihcbdaaDoor
open Go.RowKit Go.Shelf Gv

/-- What a list of this kind may be asked for. -/
def mayAsk (how : Nat) (what : ByteArray) : Prop :=
  what.size ≤ 40 ∧ ((how = 1 ∧ ((what.toList == [42]) = true ∨ ((what.toList == [42]) = false ∧ nameB what.data.toList = true))) ∨ (how = 2 ∧ what.toList.isEmpty = false ∧ decide (0 ≤ Lib.indexByte what.data.toList 32) = false) ∨ how = 3 ∨ how = 4)

theorem hasBlank (what : ByteArray) (w : World) : Calls Tryd.prog 48 #[.string what, .string ⟨#[32]⟩] w fun e w' => e = .returned (.bool (decide (0 ≤ Lib.indexByte what.data.toList 32))) ∧ w' = w := Any.strings_Contains_one Tryd.lays144 what 32 w

set_option maxRecDepth 100000 in
set_option maxHeartbeats 400000 in
theorem newListC (root how : Nat) (what : ByteArray) (w : World) (hm : mayAsk how what) :
    Calls Tryd.prog 22 #[.int .i64 root, .int .i64 how, .string what] w fun e w' => e = .returned (.tuple #[.agg #[.int .i64 root, .int .i64 how, .string what, .slice none 0 0, .int .i64 0, .int .i64 0], .int .i64 0]) ∧ Below w.heap.size w w' := by
  obtain ⟨hs, ⟨rfl, hn | ⟨hs1, hn⟩⟩ | ⟨rfl, he, hb⟩ | rfl | rfl⟩ := hm
  · go_enter Tryd.func22, Tryd.ntmps22
    go_wp2_with fail
    exact bodyPost_ret (v := .tuple #[.agg #[.int .i64 root, .int .i64 1, .string what, .slice none 0 0, .int .i64 0, .int .i64 0], .int .i64 0]) (by simp [results, Tryd.results22, go_sem]) rfl ⟨rfl, (Below.refl _ w).alloc (Nat.le_refl _) _⟩
  · have HB : Hid (nameB what.data.toList = true) := hn
    clear hn
    go_enter Tryd.func22, Tryd.ntmps22
    go_wp2_with fail
    refine (isName what _ (by unfold maxLen; omega)).mono ?_
    rintro e w1 ⟨rfl, rfl⟩
    rw [HB.out]
    go_wp2_with fail
    exact bodyPost_ret (v := .tuple #[.agg #[.int .i64 root, .int .i64 1, .string what, .slice none 0 0, .int .i64 0, .int .i64 0], .int .i64 0]) (by simp [results, Tryd.results22, go_sem]) rfl ⟨rfl, (Below.refl _ w).alloc (Nat.le_refl _) _⟩
  · have HB : Hid (decide (0 ≤ Lib.indexByte what.data.toList 32) = false) := hb
    clear hb
    go_enter Tryd.func22, Tryd.ntmps22
    go_wp2_with fail
    refine (hasBlank what _).mono ?_
    rintro e w1 ⟨rfl, rfl⟩
    rw [HB.out]
    go_wp2_with fail
    exact bodyPost_ret (v := .tuple #[.agg #[.int .i64 root, .int .i64 2, .string what, .slice none 0 0, .int .i64 0, .int .i64 0], .int .i64 0]) (by simp [results, Tryd.results22, go_sem]) rfl ⟨rfl, (Below.refl _ w).alloc (Nat.le_refl _) _⟩
  · go_enter Tryd.func22, Tryd.ntmps22
    go_wp2_with fail
    exact bodyPost_ret (v := .tuple #[.agg #[.int .i64 root, .int .i64 3, .string what, .slice none 0 0, .int .i64 0, .int .i64 0], .int .i64 0]) (by simp [results, Tryd.results22, go_sem]) rfl ⟨rfl, (Below.refl _ w).alloc (Nat.le_refl _) _⟩
  · go_enter Tryd.func22, Tryd.ntmps22
    go_wp2_with fail
    exact bodyPost_ret (v := .tuple #[.agg #[.int .i64 root, .int .i64 4, .string what, .slice none 0 0, .int .i64 0, .int .i64 0], .int .i64 0]) (by simp [results, Tryd.results22, go_sem]) rfl ⟨rfl, (Below.refl _ w).alloc (Nat.le_refl _) _⟩

theorem Tryd.info54 : (Tryd.prog.info? 54).map (fun i => (i.zero, i.size, i.bytes)) = some (some (.agg #[.int .i64 0, .int .i64 0, .string ByteArray.empty, .slice none 0 0, .int .i64 0, .int .i64 0]), 6, 72) := by kernel_rfl

def Ls.new (root how : Nat) (what : ByteArray) : Ls := { root := root, how := how, what := what, fv := .slice none 0 0, fd := [], pl := 0, cl := 0 }
def Re.setLv (r : Re) (v : Value) : Re := { r with lv := v }

theorem watch_end {w w1 w2 : World} {B gb nb cap L g ic : Nat} {s : Fo} {kd : Nat → Value} {r : Re} {ls : List Ls} {x : Ls}
    (h : Held w B gb nb cap L s kd r) (hI : Lss w B r.lv ls) (h50 : ls.length < 50) (hw1 : Fr (fun _ => False) w w1) (hx : x.fv = .slice none 0 0 ∧ x.fd = [])
    (hown : w2.ownsRow B 54 6 (.slice (some ⟨g, 0, none⟩) (ls.length + 1) ic) (ls.length + 1) (ls.flatMap Ls.row ++ x.row))
    (hgrow : w1.grownBy w2 r.lv.ownBlock) (hat : r.lv.ownBlock = some g ∨ g = w1.heap.size) :
    Held (w2.setCell ⟨gb, 3, none⟩ (.slice (some ⟨g, 0, none⟩) (ls.length + 1) ic)) B gb nb cap L s kd (r.setLv (.slice (some ⟨g, 0, none⟩) (ls.length + 1) ic)) ∧
    Lss (w2.setCell ⟨gb, 3, none⟩ (.slice (some ⟨g, 0, none⟩) (ls.length + 1) ic)) B (.slice (some ⟨g, 0, none⟩) (ls.length + 1) ic) (ls ++ [x]) ∧
    Fr (fun i => i = gb ∨ r.lv.ownBlock = some i) w (w2.setCell ⟨gb, 3, none⟩ (.slice (some ⟨g, 0, none⟩) (ls.length + 1) ic)) := by
  have f2 : Fr (fun i => r.lv.ownBlock = some i) w w2 := (hw1.mono (fun _ h => h.elim)).trans (Fr.of_grown hgrow (fun k hk => hk))
  obtain ⟨cur, hn, _⟩ := h.block
  have n1 : r.lv.ownBlock ≠ some gb := row_apart hI.row h.g (by decide)
  have n2 : r.lv.ownBlock ≠ some nb := row_apart hI.row hn (by decide)
  have h2 := h.fr f2 n1 n2
  have hne : g ≠ gb := by
    rintro rfl
    rcases hat with e | e
    · exact n1 e
    · have := h.ltg; have := hw1.size; omega
  have f3 : Fr (fun i => i = gb ∨ r.lv.ownBlock = some i) w (w2.setCell ⟨gb, 3, none⟩ (.slice (some ⟨g, 0, none⟩) (ls.length + 1) ic)) := (f2.mono (fun i hi => .inr hi)).setCell (.inl rfl) _
  refine ⟨⟨cells_setCell h2.g, ?_, h.hB, h.hL⟩, ⟨?_, by simp; omega, fun y hy => ?_⟩, f3⟩
  · exact ownsRow_setCell_other h2.row (by simp [Value.ownBlock]; exact fun e => h.ne e.symm) _
  · have := ownsRow_setCell_other hown (a := ⟨gb, 3, none⟩) (by simp [Value.ownBlock]; exact hne) (.slice (some ⟨g, 0, none⟩) (ls.length + 1) ic)
    simpa using this
  · rcases List.mem_append.1 hy with hy | hy
    · refine ownsRow_fr (hI.found y hy) f3 ?_
      rintro k hk (e | e)
      · exact row_apart (hI.found y hy) h.g (by decide) (e ▸ hk)
      · rcases row_form (hI.found y hy) with ⟨e', _⟩ | ⟨g', c', e', _, _, ⟨cur', hc⟩, _⟩
        · rw [e'] at hk; simp [Value.ownBlock] at hk
        · rw [e'] at hk
          simp only [Value.ownBlock, Option.some.injEq] at hk
          subst hk
          exact row_apart hI.row hc (by decide) e
    · simp only [List.mem_singleton] at hy
      subst hy
      rw [hx.1, hx.2]
      exact World.ownsRow_nil _ _ _ _

theorem step_watch_append {ops : Array Oper} {o : Oper} {a : Act} {w : World} {K : Act → World → Prop} {Q : Exit → Act → World → Prop} {E : Prop} {B n icap : Nat} {iao : Option Addr} {ls : List Ls} {i : Ls}
    (hgd : o.guard = none) (s x : Operand) (ho : o.op = .call { callee := .builtin .append, args := #[s, x], argTypes := #[44, 44] })
    (hs : a.eval s = .slice iao n icap) (hx : a.eval x = .slice (some ⟨w.heap.size, 0, none⟩) 1 1) (hrv : i.fv.oneCell' = true)
    (hown : w.ownsRow B 54 6 (.slice iao n icap) n (ls.flatMap Ls.row)) (h50 : n < 50) (hB : B ≤ w.heap.size)
    (hK : ∀ g cap w', w'.ownsRow B 54 6 (.slice (some ⟨g, 0, none⟩) (n + 1) cap) (n + 1) (ls.flatMap Ls.row ++ i.row) →
      World.grownBy (w.alloc (.cells i.row.toArray 54)).drew w' (Value.slice iao n icap).ownBlock → ((Value.slice iao n icap).ownBlock = some g ∨ g = w.heap.size + 1) → g < w'.heap.size → K (a.put o.dst (.slice (some ⟨g, 0, none⟩) (n + 1) cap)) w') :
    if Region.wanted o (yielded ops a.tmps) = true then Oper.wp Tryd.prog o a (w.alloc (.cells i.row.toArray 54)).drew K Q else E := by
  obtain ⟨i0, hi, hz0, hz1, hz2⟩ := info_parts Tryd.info54
  have hal : Below w.heap.size w (w.alloc (.cells i.row.toArray 54)).drew := ((Below.refl _ w).alloc (Nat.le_refl _) _).drew
  refine step_append_lies _ hgd s x 44 ho B 54 i0 _ 6 72 Tryd.underlying44 hi hz0 hz1 hz2 rfl (by decide) (.slice iao n icap) n (ls.flatMap Ls.row) hs (ownsRow_since hown hal) ⟨w.heap.size, 0, none⟩ 1 1 i.row hx rfl ?_ ?_ (by omega) (by unfold maxLen; omega) (by omega) (by simp; omega) (w.heap.size + 1) (by simp) hK
  · intro j u hj
    have e : (⟨w.heap.size, 0, none⟩ : Addr).add j = ⟨w.heap.size, j, none⟩ := by unfold Addr.add; split <;> simp_all
    rw [e]
    have hb : (w.alloc (.cells i.row.toArray 54)).drew.heap[w.heap.size]? = some (.cells i.row.toArray 54 (0, 0)) := heap_alloc_new w (.cells i.row.toArray 54)
    rw [cells_of hb j]
    simpa using hj
  · intro u hu
    simp only [Ls.row, List.mem_cons, List.not_mem_nil, or_false] at hu
    rcases hu with rfl | rfl | rfl | rfl | rfl | rfl
    · rfl
    · rfl
    · rfl
    · exact hrv
    · rfl
    · rfl
end Go.Proofs.YtcedebpoihcbdaaDoor
