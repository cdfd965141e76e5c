/-
  The lists that a law holds: what holds of them between two steps; what 'ints' does.
-/
import Derived.Test.YtcedebpoihcbdaaGreatDoorH2
import Derived.Laws.AppendOwnNone
namespace Go.Proofs.YtcedebpoihcbdaaGreatDoor
open Go.RowKit Gv

structure HInv (W : World) (D wb : Nat) (gsv : Value × Value) (rsv : Value) (n : Nat) (iv wv ev : Value) (es : List Ent) (ws : List Wait) : Prop where
  w : W.heap[wb]? = some (.cells (lawCells gsv rsv n iv wv ev) 55 (0, 0))
  hD : D ≤ wb
  i : W.ownsRow D 172 2 iv es.length (entsCells es)
  t : W.ownsRow D 25 1 wv ws.length (ws.map (·.1))
  e : W.ownsRow D 25 1 ev ws.length (ws.map (·.2.1))
  te : ∀ b, wv.ownBlock = some b → ev.ownBlock ≠ some b
  ent : ∀ x, x ∈ es → Marked W x.1 x.2.1 x.2.2 ∧ x.2.1 ≤ 100000 ∧ ∀ b, x.1.ownBlock = some b → b < W.heap.size
  wl : ∀ x, x ∈ ws → W.ownsRow D 3 1 x.1 x.2.2.length (ints x.2.2) ∧ W.ownsRow D 3 1 x.2.1 x.2.2.length (ints x.2.2) ∧ x.2.2.length ≤ 300
  nd : ∀ (i j : Nat) (x y : Wait), i < j → ws[i]? = some x → ws[j]? = some y → ∀ b, x.1.ownBlock = some b → y.1.ownBlock ≠ some b
  ef : ∀ x, x ∈ es → ∀ b, x.1.ownBlock = some b → ∀ y, y ∈ ws → y.1.ownBlock ≠ some b
  wf : ∀ x, x ∈ ws → ∀ b, x.2.1.ownBlock = some b → ∀ y, y ∈ ws → y.1.ownBlock ≠ some b
  cnt : es.length ≤ 4 * n

/-- The blocks that the law writes when it looks at its lists. -/
def LW (wb : Nat) (iv wv ev : Value) (ws : List Wait) (b : Nat) : Prop := b = wb ∨ iv.ownBlock = some b ∨ wv.ownBlock = some b ∨ ev.ownBlock = some b ∨ ∃ x, x ∈ ws ∧ x.1.ownBlock = some b
/-- And all that its lists lie in. -/
def LOwn (wb : Nat) (iv wv ev : Value) (es : List Ent) (ws : List Wait) (b : Nat) : Prop := LW wb iv wv ev ws b ∨ (∃ x, x ∈ es ∧ x.1.ownBlock = some b) ∨ ∃ x, x ∈ ws ∧ x.2.1.ownBlock = some b

section
variable {W W' : World} {D wb n : Nat} {gsv : Value × Value} {rsv iv wv ev : Value} {es : List Ent} {ws : List Wait}
theorem LOwn.self : LOwn wb iv wv ev es ws wb := .inl (.inl rfl)
theorem LOwn.i {b : Nat} (h : iv.ownBlock = some b) : LOwn wb iv wv ev es ws b := .inl (.inr (.inl h))
theorem LOwn.t {b : Nat} (h : wv.ownBlock = some b) : LOwn wb iv wv ev es ws b := .inl (.inr (.inr (.inl h)))
theorem LOwn.e {b : Nat} (h : ev.ownBlock = some b) : LOwn wb iv wv ev es ws b := .inl (.inr (.inr (.inr (.inl h))))
theorem LOwn.x1 {b : Nat} {x : Wait} (hx : x ∈ ws) (h : x.1.ownBlock = some b) : LOwn wb iv wv ev es ws b := .inl (.inr (.inr (.inr (.inr ⟨x, hx, h⟩))))
theorem LOwn.x2 {b : Nat} {x : Wait} (hx : x ∈ ws) (h : x.2.1.ownBlock = some b) : LOwn wb iv wv ev es ws b := .inr (.inr ⟨x, hx, h⟩)
theorem LOwn.en {b : Nat} {x : Ent} (hx : x ∈ es) (h : x.1.ownBlock = some b) : LOwn wb iv wv ev es ws b := .inr (.inl ⟨x, hx, h⟩)

theorem HInv.bounds (h : HInv W D wb gsv rsv n iv wv ev es ws) {b : Nat} (hb : LOwn wb iv wv ev es ws b) : b < W.heap.size := by
  rcases hb with (rfl | hb | hb | hb | ⟨x, hx, hb⟩) | ⟨x, hx, hb⟩ | ⟨x, hx, hb⟩
  · exact lt_of_block h.w
  · exact (h.i.lt b hb).2
  · exact (h.t.lt b hb).2
  · exact (h.e.lt b hb).2
  · exact ((h.wl x hx).1.lt b hb).2
  · exact (h.ent x hx).2.2 b hb
  · exact ((h.wl x hx).2.1.lt b hb).2
theorem HInv.low (h : HInv W D wb gsv rsv n iv wv ev es ws) {b : Nat} (hb : LW wb iv wv ev ws b) : D ≤ b := by
  rcases hb with rfl | hb | hb | hb | ⟨x, hx, hb⟩
  · exact h.hD
  · exact (h.i.lt b hb).1
  · exact (h.t.lt b hb).1
  · exact (h.e.lt b hb).1
  · exact ((h.wl x hx).1.lt b hb).1

/-- Its own blocks stay as they are. -/
theorem HInv.stays (h : HInv W D wb gsv rsv n iv wv ev es ws) (hk : ∀ b, LOwn wb iv wv ev es ws b → W'.heap[b]? = W.heap[b]?) (hs : W.heap.size ≤ W'.heap.size) : HInv W' D wb gsv rsv n iv wv ev es ws := by
  refine ⟨(hk wb LOwn.self).trans h.w, h.hD, row_keep h.i (fun b hb => hk b (LOwn.i hb)), row_keep h.t (fun b hb => hk b (LOwn.t hb)), row_keep h.e (fun b hb => hk b (LOwn.e hb)), h.te, fun x hx => ?_, fun x hx => ?_, h.nd, h.ef, h.wf, h.cnt⟩
  · exact ⟨(h.ent x hx).1.keep (fun b cs hb _ => hk b (LOwn.en hx hb)), (h.ent x hx).2.1, fun b hb => Nat.lt_of_lt_of_le ((h.ent x hx).2.2 b hb) hs⟩
  · exact ⟨row_keep (h.wl x hx).1 (fun b hb => hk b (LOwn.x1 hx hb)), row_keep (h.wl x hx).2.1 (fun b hb => hk b (LOwn.x2 hx hb)), (h.wl x hx).2.2⟩
end

theorem HInv.keep {W W' : World} {D wb n : Nat} {gsv : Value × Value} {rsv iv wv ev : Value} {es : List Ent} {ws : List Wait} (h : HInv W D wb gsv rsv n iv wv ev es ws)
    (hk : ∀ (b : Nat) (cs : Array Value) (t : TypeId), W.heap[b]? = some (.cells cs t (0, 0)) → (t = 55 ∨ t = 172 ∨ t = 25 ∨ t = 3) → W'.heap[b]? = W.heap[b]?) (hs : W.heap.size ≤ W'.heap.size) : HInv W' D wb gsv rsv n iv wv ev es ws := by
  have hr : ∀ {e size n : Nat} {v : Value} {xs : List Value}, W.ownsRow D e size v n xs → (e = 55 ∨ e = 172 ∨ e = 25 ∨ e = 3) → W'.ownsRow D e size v n xs := fun h he => row_keep h (fun b hb => by
    obtain ⟨cs, hcs⟩ := row_block h hb
    exact hk b cs _ hcs he)
  refine ⟨?_, h.hD, hr h.i (by simp), hr h.t (by simp), hr h.e (by simp), h.te, ?_, ?_, h.nd, h.ef, h.wf, h.cnt⟩
  · rw [hk wb _ _ h.w (by simp)]; exact h.w
  · intro x hx
    exact ⟨(h.ent x hx).1.keep (fun b cs _ hcs => hk b cs 3 hcs (by simp)), (h.ent x hx).2.1, fun b hb => Nat.lt_of_lt_of_le ((h.ent x hx).2.2 b hb) hs⟩
  · intro x hx
    exact ⟨hr (h.wl x hx).1 (by simp), hr (h.wl x hx).2.1 (by simp), (h.wl x hx).2.2⟩

/-- One row of the law's block grows. -/
theorem row_step {W w1 w3 : World} {D wb e size k g c f : Nat} {cs : Array Value} {rv : Value} {xs es : List Value}
    (hW : W.heap[wb]? = some (.cells cs 55 (0, 0))) (hI : W.ownsRow D e size rv k xs) (he : 55 ≠ e) (hb1 : Below W.heap.size W w1)
    (hown : w3.ownsRow D e size (.slice (some ⟨g, 0, none⟩) (k + 1) c) (k + 1) (xs ++ es)) (hgrow : w1.grownBy w3 rv.ownBlock) (hat : rv.ownBlock = some g ∨ g = w1.heap.size) :
    (w3.setCell ⟨wb, f, none⟩ (.slice (some ⟨g, 0, none⟩) (k + 1) c)).heap[wb]? = some (.cells (cs.setIfInBounds f (.slice (some ⟨g, 0, none⟩) (k + 1) c)) 55 (0, 0)) ∧
    (w3.setCell ⟨wb, f, none⟩ (.slice (some ⟨g, 0, none⟩) (k + 1) c)).ownsRow D e size (.slice (some ⟨g, 0, none⟩) (k + 1) c) (k + 1) (xs ++ es) ∧
    Kept W (w3.setCell ⟨wb, f, none⟩ (.slice (some ⟨g, 0, none⟩) (k + 1) c)) (fun b => b ≠ wb ∧ rv.ownBlock ≠ some b) ∧ (rv.ownBlock = some g ∨ W.heap.size ≤ g) ∧ w3.heap[wb]? = some (.cells cs 55 (0, 0)) := by
  have hlt := lt_of_block hW
  have hne := row_ne hI hW he
  have hw3 : w3.heap[wb]? = some (.cells cs 55 (0, 0)) := by
    rw [hgrow.block wb (Nat.lt_of_lt_of_le hlt hb1.size) (fun e => hne e.symm), hb1.block wb hlt]; exact hW
  have hgb : g ≠ wb := by
    rintro rfl
    exact row_ne hown hw3 he rfl
  refine ⟨?_, ?_, ?_, ?_, hw3⟩
  · exact heap_setCell_same w3 wb f _ 55 _ hw3
  · exact ownsRow_setCell_other hown (by simp [Value.ownBlock]; exact hgb) _
  · refine ((Kept.of_below hb1 _).trans (Kept.of_grown hgrow (fun x _ hx e => hx.2 e.symm))).trans ?_
    exact Kept.setCell _ _ (fun h => h.1 rfl)
  · rcases hat with h | h
    · exact .inl h
    · exact .inr (by rw [h]; exact hb1.size)

theorem rows_apart {W : World} {D e size n e' size' n' : Nat} {v v' : Value} {xs xs' : List Value} (h : W.ownsRow D e size v n xs) (h' : W.ownsRow D e' size' v' n' xs') (hne : e ≠ e') {b : Nat} (hb : v.ownBlock = some b) : v'.ownBlock ≠ some b := by
  obtain ⟨cs, hcs⟩ := row_block h hb
  exact row_ne h' hcs hne

theorem map_snoc {α β : Type} (f : α → β) (l : List α) (x : α) : (l ++ [x]).map f = l.map f ++ [f x] := by simp

section
variable {W W1 W2 W4 : World} {D wb n : Nat} {gsv : Value × Value} {rsv iv wv ev : Value} {es : List Ent} {ws : List Wait} {v uv : Value} {l : List Nat}

theorem mem_snoc {α : Type} {x y : α} {l : List α} (h : x ∈ l ++ [y]) : x ∈ l ∨ x = y := by
  rcases List.mem_append.1 h with h | h
  · exact .inl h
  · exact .inr (by simpa using h)

theorem ints_end {g5 c5 g6 c6 : Nat} (h : HInv W D wb gsv rsv n iv wv ev es ws) (hv : W.ownsRow D 3 1 v l.length (ints l)) (hl : l.length ≤ 300)
    (hf : ∀ b, v.ownBlock = some b → (∀ x, x ∈ es → x.1.ownBlock ≠ some b) ∧ ∀ x, x ∈ ws → x.1.ownBlock ≠ some b ∧ x.2.1.ownBlock ≠ some b)
    (hB1 : Below W.heap.size W W1) (hu : W1.ownsRow W.heap.size 3 1 uv l.length (ints l))
    (w2 : W2.heap[wb]? = some (.cells (lawCells gsv rsv n iv (.slice (some ⟨g5, 0, none⟩) (ws.length + 1) c5) ev) 55 (0, 0))) (t2 : W2.ownsRow D 25 1 (.slice (some ⟨g5, 0, none⟩) (ws.length + 1) c5) (ws.length + 1) (ws.map (·.1) ++ [v]))
    (k2 : Kept W1 W2 (fun b => b ≠ wb ∧ wv.ownBlock ≠ some b)) (a2 : wv.ownBlock = some g5 ∨ W1.heap.size ≤ g5)
    (w4 : W4.heap[wb]? = some (.cells (lawCells gsv rsv n iv (.slice (some ⟨g5, 0, none⟩) (ws.length + 1) c5) (.slice (some ⟨g6, 0, none⟩) (ws.length + 1) c6)) 55 (0, 0))) (t4 : W4.ownsRow D 25 1 (.slice (some ⟨g6, 0, none⟩) (ws.length + 1) c6) (ws.length + 1) (ws.map (·.2.1) ++ [uv]))
    (k4 : Kept W2 W4 (fun b => b ≠ wb ∧ ev.ownBlock ≠ some b)) (a4 : ev.ownBlock = some g6 ∨ W2.heap.size ≤ g6) :
    HInv W4 D wb gsv rsv n iv (.slice (some ⟨g5, 0, none⟩) (ws.length + 1) c5) (.slice (some ⟨g6, 0, none⟩) (ws.length + 1) c6) es (ws ++ [(v, uv, l)]) ∧ Fr (LW wb iv wv ev ws) W W4 ∧ ∀ b, LOwn wb iv (.slice (some ⟨g5, 0, none⟩) (ws.length + 1) c5) (.slice (some ⟨g6, 0, none⟩) (ws.length + 1) c6) es (ws ++ [(v, uv, l)]) b → LOwn wb iv wv ev es ws b ∨ v.ownBlock = some b ∨ W.heap.size ≤ b := by
  have hDW : D ≤ W.heap.size := by have := h.hD; have := lt_of_block h.w; omega
  have far : ∀ (b : Nat) (cs : Array Value) (t : TypeId), W.heap[b]? = some (.cells cs t (0, 0)) → t ≠ 55 → t ≠ 25 → W4.heap[b]? = W.heap[b]? := by
    intro b cs t hb ht1 ht2
    have hlt := lt_of_block hb
    have e1 : W1.heap[b]? = W.heap[b]? := hB1.block b hlt
    have hwb : b ≠ wb := by rintro rfl; rw [h.w] at hb; simp at hb; exact ht1 hb.2.symm
    have e2 : W2.heap[b]? = W1.heap[b]? := k2.block b (Nat.lt_of_lt_of_le hlt hB1.size) ⟨hwb, row_ne h.t hb ht2⟩
    have e4 : W4.heap[b]? = W2.heap[b]? := k4.block b (Nat.lt_of_lt_of_le hlt (Nat.le_trans hB1.size k2.size)) ⟨hwb, row_ne h.e hb ht2⟩
    rw [e4, e2, e1]
  have hsz : W.heap.size ≤ W4.heap.size := Nat.le_trans hB1.size (Nat.le_trans k2.size k4.size)
  have hr : ∀ {e size n : Nat} {v : Value} {xs : List Value}, W.ownsRow D e size v n xs → e ≠ 55 → e ≠ 25 → W4.ownsRow D e size v n xs := fun h h1 h2 => row_keep h (fun b hb => by
    obtain ⟨cs, hcs⟩ := row_block h hb
    exact far b cs _ hcs h1 h2)
  have hu4 : W4.ownsRow D 3 1 uv l.length (ints l) := by
    refine row_base (row_keep hu (fun b hb => ?_)) hDW
    obtain ⟨cs, hcs⟩ := row_block hu hb
    have hlt := lt_of_block hcs
    have hge := (hu.lt b hb).1
    have hwb : b ≠ wb := by have := lt_of_block h.w; omega
    have n1 : wv.ownBlock ≠ some b := fun e => by have := (h.t.lt b e).2; omega
    have n2 : ev.ownBlock ≠ some b := fun e => by have := (h.e.lt b e).2; omega
    rw [k4.block b (Nat.lt_of_lt_of_le hlt k2.size) ⟨hwb, n2⟩, k2.block b hlt ⟨hwb, n1⟩]
  have g5e : ev.ownBlock ≠ some g5 := by
    intro e
    rcases a2 with h' | h'
    · exact h.te g5 h' e
    · have := (h.e.lt g5 e).2; have := hB1.size; omega
  have hwb5 : g5 ≠ wb := fun e => row_ne t2 w2 (by decide) (by rw [← e]; rfl)
  have lt5 : g5 < W2.heap.size := (t2.lt g5 rfl).2
  have ufresh : ∀ b, uv.ownBlock = some b → W.heap.size ≤ b := fun b hb => (hu.lt b hb).1
  refine ⟨⟨w4, h.hD, hr h.i (by decide) (by decide), ?_, ?_, ?_, ?_, ?_, ?_, ?_, ?_, h.cnt⟩, ⟨k4.os.trans (k2.os.trans hB1.os), k4.tape.trans (k2.tape.trans hB1.tape), k4.output.trans (k2.output.trans hB1.output), hsz, fun b hb hn => ?_⟩, fun b hb => ?_⟩
  · rw [List.length_append, map_snoc]
    refine row_keep t2 (fun b hb => ?_)
    simp only [Value.ownBlock, Option.some.injEq] at hb
    subst hb
    exact k4.block g5 lt5 ⟨hwb5, g5e⟩
  · rw [List.length_append, map_snoc]; exact t4
  · intro b hb
    simp only [Value.ownBlock, Option.some.injEq] at hb
    subst hb
    intro e
    simp only [Value.ownBlock, Option.some.injEq] at e
    subst e
    rcases a4 with h' | h'
    · exact g5e h'
    · omega
  · intro x hx
    have hx' := h.ent x hx
    exact ⟨hx'.1.keep (fun b cs _ hcs => far b cs 3 hcs (by decide) (by decide)), hx'.2.1, fun b hb => Nat.lt_of_lt_of_le (hx'.2.2 b hb) hsz⟩
  · intro x hx
    rcases mem_snoc hx with hx | rfl
    · exact ⟨hr (h.wl x hx).1 (by decide) (by decide), hr (h.wl x hx).2.1 (by decide) (by decide), (h.wl x hx).2.2⟩
    · exact ⟨hr hv (by decide) (by decide), hu4, hl⟩
  · intro i j x y hij hx hy b hb
    have hjl : j < ws.length + 1 := by have := (List.getElem?_eq_some_iff.1 hy).1; simpa using this
    have hil : i < ws.length := by omega
    rw [List.getElem?_append_left hil] at hx
    by_cases hj : j < ws.length
    · rw [List.getElem?_append_left hj] at hy
      exact h.nd i j x y hij hx hy b hb
    · obtain rfl : j = ws.length := by omega
      rw [List.getElem?_append_right (Nat.le_refl _)] at hy
      simp at hy
      subst hy
      intro e
      exact ((hf b e).2 x (List.mem_of_getElem? hx)).1 hb
  · intro x hx b hb y hy
    rcases mem_snoc hy with hy | rfl
    · exact h.ef x hx b hb y hy
    · intro e
      exact (hf b e).1 x hx hb
  · intro x hx b hb y hy
    rcases mem_snoc hx with hx | rfl
    · rcases mem_snoc hy with hy | rfl
      · exact h.wf x hx b hb y hy
      · intro e
        exact ((hf b e).2 x hx).2 hb
    · have hge := ufresh b hb
      rcases mem_snoc hy with hy | rfl
      · intro e
        have := ((h.wl y hy).1.lt b e).2
        omega
      · intro e
        have := (hv.lt b e).2
        omega
  · have n1 : b ≠ wb := fun e => hn (.inl e)
    have n2 : wv.ownBlock ≠ some b := fun e => hn (.inr (.inr (.inl e)))
    have n3 : ev.ownBlock ≠ some b := fun e => hn (.inr (.inr (.inr (.inl e))))
    rw [k4.block b (Nat.lt_of_lt_of_le hb (Nat.le_trans hB1.size k2.size)) ⟨n1, n3⟩, k2.block b (Nat.lt_of_lt_of_le hb hB1.size) ⟨n1, n2⟩, hB1.block b hb]
  · rcases hb with (rfl | hb | hb | hb | ⟨x, hx, hb⟩) | ⟨x, hx, hb⟩ | ⟨x, hx, hb⟩
    · exact .inl LOwn.self
    · exact .inl (LOwn.i hb)
    · simp only [Value.ownBlock, Option.some.injEq] at hb
      subst hb
      rcases a2 with h' | h'
      · exact .inl (LOwn.t h')
      · exact .inr (.inr (Nat.le_trans hB1.size h'))
    · simp only [Value.ownBlock, Option.some.injEq] at hb
      subst hb
      rcases a4 with h' | h'
      · exact .inl (LOwn.e h')
      · exact .inr (.inr (Nat.le_trans hB1.size (Nat.le_trans k2.size h')))
    · rcases mem_snoc hx with hx | rfl
      · exact .inl (LOwn.x1 hx hb)
      · exact .inr (.inl hb)
    · exact .inl (LOwn.en hx hb)
    · rcases mem_snoc hx with hx | rfl
      · exact .inl (LOwn.x2 hx hb)
      · exact .inr (.inr (ufresh b hb))

theorem nums_one (l : List Nat) : ∀ u ∈ ints l, u.oneCell' = true := by
  intro u hu
  simp only [ints, List.mem_map] at hu
  obtain ⟨k, _, rfl⟩ := hu
  rfl
theorem slice_one (ao : Option Addr) (n c : Nat) : ∀ u ∈ [Value.slice ao n c], u.oneCell' = true := by
  intro u hu
  simp only [List.mem_cons, List.not_mem_nil, or_false] at hu
  subst hu; rfl

set_option maxRecDepth 100000 in
set_option maxHeartbeats 1000000 in
theorem intsL (h : HInv W D wb gsv rsv n iv wv ev es ws) (hv : W.ownsRow D 3 1 v l.length (ints l)) (hl : l.length ≤ 300)
    (hf : ∀ b, v.ownBlock = some b → (∀ x, x ∈ es → x.1.ownBlock ≠ some b) ∧ ∀ x, x ∈ ws → x.1.ownBlock ≠ some b ∧ x.2.1.ownBlock ≠ some b) (hws : ws.length ≤ 1000000000000) :
    Calls Tryz.prog 95 #[.pointer (some ⟨wb, 2, none⟩), v] W fun e W' => e = .returned (.tuple #[]) ∧ ∃ wv' ev' uv, HInv W' D wb gsv rsv n iv wv' ev' es (ws ++ [(v, uv, l)]) ∧ Fr (LW wb iv wv ev ws) W W' ∧ ∀ b, LOwn wb iv wv' ev' es (ws ++ [(v, uv, l)]) b → LOwn wb iv wv ev es ws b ∨ v.ownBlock = some b ∨ W.heap.size ≤ b := by
  have HH : Hid (HInv W D wb gsv rsv n iv wv ev es ws) := h
  have HV : Hid (W.ownsRow D 3 1 v l.length (ints l)) := hv
  have HF : Hid (∀ b, v.ownBlock = some b → (∀ x, x ∈ es → x.1.ownBlock ≠ some b) ∧ ∀ x, x ∈ ws → x.1.ownBlock ≠ some b ∧ x.2.1.ownBlock ≠ some b) := hf
  have hwb := lt_of_block h.w
  have hDb := h.hD
  obtain ⟨i0, hi, hz0, hz1, hz2⟩ := info_parts Tryz.infoI
  obtain ⟨j0, gi, gz0, gz1, gz2⟩ := info_parts Tryz.infoS
  clear h hf
  have STEP1 : ∃ ao cap, v = .slice ao l.length cap ∧ (ao = none → v = .slice none 0 0) := by
    rcases hv.2 with ⟨h1, h2⟩ | ⟨g, cap, cur, h1, _⟩
    · exact ⟨none, 0, by rw [h1, h2], fun _ => h1⟩
    · exact ⟨_, cap, h1, fun h => by cases h⟩
  obtain ⟨ao, cap, hv1, hv2⟩ := STEP1
  subst hv1
  clear hv
  cases ao with
  | none =>
    have e0 := hv2 rfl
    simp only [Value.slice.injEq, true_and] at e0
    have el : l = [] := List.eq_nil_of_length_eq_zero e0.1
    obtain ⟨_, rfl⟩ := e0
    subst el
    clear hv2
    have HB1 : Hid (Below W.heap.size W W) := Below.refl _ _
    have HU : Hid (W.ownsRow W.heap.size 3 1 (.slice none 0 0) ([] : List Nat).length (ints [])) := World.ownsRow_nil _ _ _ _
    go_enter Tryz.func95, Tryz.ntmps95
    have hs1 := HB1.out.size
    have hw1 : W.heap[wb]? = some (.cells (lawCells gsv rsv n iv wv ev) 55 (0, 0)) := (HB1.out.block wb hwb).trans HH.out.w
    have T1 : Hid (W.ownsRow D 25 1 wv ws.length (ws.map (·.1))) := row_keep HH.out.t (fun b hb => HB1.out.block b (HH.out.t.lt b hb).2)
    have E1 : Hid (W.ownsRow D 25 1 ev ws.length (ws.map (·.2.1))) := row_keep HH.out.e (fun b hb => HB1.out.block b (HH.out.e.lt b hb).2)
    have c5 : W.cell? ⟨wb, 5, none⟩ = some wv := law_cell hw1 5
    have W1' : Hid (W.heap[wb]? = some (.cells (lawCells gsv rsv n iv wv ev) 55 (0, 0))) := hw1
    clear hw1
    have T1a : Hid _ := T1.out.alloc (.cells #[.slice none 0 0] 25)
    go_wp2_with (at_builtin; refine wpList_append_lies _ rfl _ _ 51 rfl D 25 j0 (.slice none 0 0) 1 24 Tryz.underlying51 gi gz0 gz1 gz2 rfl (by decide) _ _ _ rfl T1a.out ⟨W.heap.size, 0, none⟩ 1 1 [.slice none 0 0] rfl ?c0 ?c1 ?c2 ?cm ?c3 ?c4 ?c5 _ rfl ?_)
    case c0 => rfl
    case c1 => exact one_cell _ _ _
    case c2 => exact slice_one _ _ _
    case cm => omega
    case c3 => unfold maxLen; omega
    case c4 => omega
    case c5 => simp; omega
    intro g5 cp5 w3 hown3 hgrow3 hat3 hlt3
    have R := row_step (f := 5) W1'.out T1.out (by decide) ((Below.refl _ _).alloc (Nat.le_refl _) (.cells #[.slice none 0 0] 25)) hown3 hgrow3 (hat3.imp id (fun e => by rw [World.size_alloc]; exact e))
    have f33 : ∀ i, w3.frozen? ⟨wb, i, none⟩ = false := law_free R.2.2.2.2
    have c35 : w3.cell? ⟨wb, 5, none⟩ = some wv := law_cell R.2.2.2.2 5
    have c36 : w3.cell? ⟨wb, 6, none⟩ = some ev := law_cell R.2.2.2.2 6
    have W2' : Hid ((w3.setCell ⟨wb, 5, none⟩ (.slice (some ⟨g5, 0, none⟩) (ws.length + 1) cp5)).heap[wb]? = some (.cells (lawCells gsv rsv n iv (.slice (some ⟨g5, 0, none⟩) (ws.length + 1) cp5) ev) 55 (0, 0))) := R.1
    have T2 : Hid ((w3.setCell ⟨wb, 5, none⟩ (.slice (some ⟨g5, 0, none⟩) (ws.length + 1) cp5)).ownsRow D 25 1 (.slice (some ⟨g5, 0, none⟩) (ws.length + 1) cp5) (ws.length + 1) (ws.map (·.1) ++ [.slice none 0 0])) := R.2.1
    have K2 : Hid (Kept W (w3.setCell ⟨wb, 5, none⟩ (.slice (some ⟨g5, 0, none⟩) (ws.length + 1) cp5)) (fun b => b ≠ wb ∧ wv.ownBlock ≠ some b)) := R.2.2.1
    have A2 : Hid (wv.ownBlock = some g5 ∨ W.heap.size ≤ g5) := R.2.2.2.1
    have E2 : Hid ((w3.setCell ⟨wb, 5, none⟩ (.slice (some ⟨g5, 0, none⟩) (ws.length + 1) cp5)).ownsRow D 25 1 ev ws.length (ws.map (·.2.1))) := row_keep E1.out (fun b hb => K2.out.block b (E1.out.lt b hb).2 ⟨fun e => row_ne E1.out W1'.out (by decide) (e ▸ hb), fun e => HH.out.te b e hb⟩)
    have hsz2 : Hid ((w3.setCell ⟨wb, 5, none⟩ (.slice (some ⟨g5, 0, none⟩) (ws.length + 1) cp5)).heap.size = w3.heap.size) := by show (w3.setCell ⟨wb, 5, none⟩ (.slice (some ⟨g5, 0, none⟩) (ws.length + 1) cp5)).heap.size = _; simp [World.setCell]
    have hwb3 : wb < w3.heap.size := by have h1 := lt_of_block W2'.out; rw [hsz2.out] at h1; exact h1
    have E2a : Hid _ := E2.out.alloc (.cells #[.slice none 0 0] 25)
    have C6 : Hid (∀ i u, [Value.slice none 0 0][i]? = some u → ((w3.setCell ⟨wb, 5, none⟩ (.slice (some ⟨g5, 0, none⟩) (ws.length + 1) cp5)).alloc (.cells #[.slice none 0 0] 25)).cell? ((⟨w3.heap.size, 0, none⟩ : Addr).add i) = some u) := by
      have h := one_cell (w3.setCell ⟨wb, 5, none⟩ (.slice (some ⟨g5, 0, none⟩) (ws.length + 1) cp5)) (.slice none 0 0) 25
      rw [hsz2.out] at h; exact h
    clear R hown3 hgrow3 hat3 hlt3 c5 T1a
    go_wp2_with (at_builtin; refine wpList_append_lies _ rfl _ _ 51 rfl D 25 j0 (.slice none 0 0) 1 24 Tryz.underlying51 gi gz0 gz1 gz2 rfl (by decide) _ _ _ rfl E2a.out ⟨w3.heap.size, 0, none⟩ 1 1 [.slice none 0 0] rfl ?d0 C6.out ?d2 ?dm ?d3 ?d4 ?d5 _ rfl ?_)
    case d0 => rfl
    case d2 => exact slice_one _ _ _
    case dm => omega
    case d3 => unfold maxLen; omega
    case d4 => omega
    case d5 => simp [World.setCell]; omega
    intro g6 cp6 w5 hown5 hgrow5 hat5 hlt5
    have R := row_step (f := 6) W2'.out E2.out (by decide) ((Below.refl _ _).alloc (Nat.le_refl _) (.cells #[.slice none 0 0] 25)) hown5 hgrow5 (hat5.imp id (fun e => by rw [World.size_alloc, hsz2.out]; exact e))
    have f55 : ∀ i, w5.frozen? ⟨wb, i, none⟩ = false := law_free R.2.2.2.2
    have c56 : w5.cell? ⟨wb, 6, none⟩ = some ev := law_cell R.2.2.2.2 6
    have END : Hid _ := ints_end HH.out HV.out hl HF.out HB1.out HU.out W2'.out T2.out K2.out A2.out R.1 R.2.1 R.2.2.1 R.2.2.2.1
    clear R hown5 hgrow5 hat5 hlt5 E2a C6 W2' T2 K2 A2 E2 E1 T1 W1'
    go_wp2_with fail
    go_end0
    exact ⟨rfl, _, _, _, END.out⟩
  | some ad =>
    clear hv2
    have hc : ∀ j u, (ints l)[j]? = some u → W.cell? (ad.add j) = some u := row_at HV.out ad rfl
    have HC : Hid _ := hc
    clear hc
    go_enter Tryz.func95, Tryz.ntmps95
    go_wp2_with (at_builtin; refine wpList_append_own _ rfl _ _ 25 rfl W.heap.size 3 i0 (.int .i64 0) 1 8 Tryz.underlying25 hi hz0 hz1 hz2 rfl (by decide) (.slice none 0 0) 0 [] rfl (World.ownsRow_nil _ _ _ _) ad l.length cap (ints l) rfl ?a0 HC.out ?a2 ?a3 ?a4 (Nat.le_refl _) ?_)
    case a0 => simp [ints]
    case a2 => exact nums_one l
    case a3 => unfold maxLen; omega
    case a4 => omega
    intro uv W1 hu hgrow1 _
    have HB1 : Hid (Below W.heap.size W W1) := ⟨hgrow1.os, hgrow1.tape, hgrow1.output, hgrow1.size, fun k hk => hgrow1.block k hk (by simp [Value.ownBlock])⟩
    obtain ⟨uao, ucap, huv, _, _⟩ := rowForm hu
    subst huv
    have HU : Hid (W1.ownsRow W.heap.size 3 1 (.slice uao l.length ucap) l.length (ints l)) := hu
    clear hu hgrow1
    have hs1 := HB1.out.size
    have hw1 : W1.heap[wb]? = some (.cells (lawCells gsv rsv n iv wv ev) 55 (0, 0)) := (HB1.out.block wb hwb).trans HH.out.w
    have T1 : Hid (W1.ownsRow D 25 1 wv ws.length (ws.map (·.1))) := row_keep HH.out.t (fun b hb => HB1.out.block b (HH.out.t.lt b hb).2)
    have E1 : Hid (W1.ownsRow D 25 1 ev ws.length (ws.map (·.2.1))) := row_keep HH.out.e (fun b hb => HB1.out.block b (HH.out.e.lt b hb).2)
    have c5 : W1.cell? ⟨wb, 5, none⟩ = some wv := law_cell hw1 5
    have W1' : Hid (W1.heap[wb]? = some (.cells (lawCells gsv rsv n iv wv ev) 55 (0, 0))) := hw1
    clear hw1
    have T1a : Hid _ := T1.out.alloc (.cells #[.slice (some ad) l.length cap] 25)
    go_wp2_with (at_builtin; refine wpList_append_lies _ rfl _ _ 51 rfl D 25 j0 (.slice none 0 0) 1 24 Tryz.underlying51 gi gz0 gz1 gz2 rfl (by decide) _ _ _ rfl T1a.out ⟨W1.heap.size, 0, none⟩ 1 1 [.slice (some ad) l.length cap] rfl ?c0 ?c1 ?c2 ?cm ?c3 ?c4 ?c5 _ rfl ?_)
    case c0 => rfl
    case c1 => exact one_cell _ _ _
    case c2 => exact slice_one _ _ _
    case cm => omega
    case c3 => unfold maxLen; omega
    case c4 => omega
    case c5 => simp; omega
    intro g5 cp5 w3 hown3 hgrow3 hat3 hlt3
    have R := row_step (f := 5) W1'.out T1.out (by decide) ((Below.refl _ _).alloc (Nat.le_refl _) (.cells #[.slice (some ad) l.length cap] 25)) hown3 hgrow3 (hat3.imp id (fun e => by rw [World.size_alloc]; exact e))
    have f33 : ∀ i, w3.frozen? ⟨wb, i, none⟩ = false := law_free R.2.2.2.2
    have c35 : w3.cell? ⟨wb, 5, none⟩ = some wv := law_cell R.2.2.2.2 5
    have c36 : w3.cell? ⟨wb, 6, none⟩ = some ev := law_cell R.2.2.2.2 6
    have W2' : Hid ((w3.setCell ⟨wb, 5, none⟩ (.slice (some ⟨g5, 0, none⟩) (ws.length + 1) cp5)).heap[wb]? = some (.cells (lawCells gsv rsv n iv (.slice (some ⟨g5, 0, none⟩) (ws.length + 1) cp5) ev) 55 (0, 0))) := R.1
    have T2 : Hid ((w3.setCell ⟨wb, 5, none⟩ (.slice (some ⟨g5, 0, none⟩) (ws.length + 1) cp5)).ownsRow D 25 1 (.slice (some ⟨g5, 0, none⟩) (ws.length + 1) cp5) (ws.length + 1) (ws.map (·.1) ++ [.slice (some ad) l.length cap])) := R.2.1
    have K2 : Hid (Kept W1 (w3.setCell ⟨wb, 5, none⟩ (.slice (some ⟨g5, 0, none⟩) (ws.length + 1) cp5)) (fun b => b ≠ wb ∧ wv.ownBlock ≠ some b)) := R.2.2.1
    have A2 : Hid (wv.ownBlock = some g5 ∨ W1.heap.size ≤ g5) := R.2.2.2.1
    have E2 : Hid ((w3.setCell ⟨wb, 5, none⟩ (.slice (some ⟨g5, 0, none⟩) (ws.length + 1) cp5)).ownsRow D 25 1 ev ws.length (ws.map (·.2.1))) := row_keep E1.out (fun b hb => K2.out.block b (E1.out.lt b hb).2 ⟨fun e => row_ne E1.out W1'.out (by decide) (e ▸ hb), fun e => HH.out.te b e hb⟩)
    have hsz2 : Hid ((w3.setCell ⟨wb, 5, none⟩ (.slice (some ⟨g5, 0, none⟩) (ws.length + 1) cp5)).heap.size = w3.heap.size) := by show (w3.setCell ⟨wb, 5, none⟩ (.slice (some ⟨g5, 0, none⟩) (ws.length + 1) cp5)).heap.size = _; simp [World.setCell]
    have hwb3 : wb < w3.heap.size := by have h1 := lt_of_block W2'.out; rw [hsz2.out] at h1; exact h1
    have E2a : Hid _ := E2.out.alloc (.cells #[.slice uao l.length ucap] 25)
    have C6 : Hid (∀ i u, [Value.slice uao l.length ucap][i]? = some u → ((w3.setCell ⟨wb, 5, none⟩ (.slice (some ⟨g5, 0, none⟩) (ws.length + 1) cp5)).alloc (.cells #[.slice uao l.length ucap] 25)).cell? ((⟨w3.heap.size, 0, none⟩ : Addr).add i) = some u) := by
      have h := one_cell (w3.setCell ⟨wb, 5, none⟩ (.slice (some ⟨g5, 0, none⟩) (ws.length + 1) cp5)) (.slice uao l.length ucap) 25
      rw [hsz2.out] at h; exact h
    clear R hown3 hgrow3 hat3 hlt3 c5 T1a
    go_wp2_with (at_builtin; refine wpList_append_lies _ rfl _ _ 51 rfl D 25 j0 (.slice none 0 0) 1 24 Tryz.underlying51 gi gz0 gz1 gz2 rfl (by decide) _ _ _ rfl E2a.out ⟨w3.heap.size, 0, none⟩ 1 1 [.slice uao l.length ucap] rfl ?d0 C6.out ?d2 ?dm ?d3 ?d4 ?d5 _ rfl ?_)
    case d0 => rfl
    case d2 => exact slice_one _ _ _
    case dm => omega
    case d3 => unfold maxLen; omega
    case d4 => omega
    case d5 => simp [World.setCell]; omega
    intro g6 cp6 w5 hown5 hgrow5 hat5 hlt5
    have R := row_step (f := 6) W2'.out E2.out (by decide) ((Below.refl _ _).alloc (Nat.le_refl _) (.cells #[.slice uao l.length ucap] 25)) hown5 hgrow5 (hat5.imp id (fun e => by rw [World.size_alloc, hsz2.out]; exact e))
    have f55 : ∀ i, w5.frozen? ⟨wb, i, none⟩ = false := law_free R.2.2.2.2
    have c56 : w5.cell? ⟨wb, 6, none⟩ = some ev := law_cell R.2.2.2.2 6
    have END : Hid _ := ints_end HH.out HV.out hl HF.out HB1.out HU.out W2'.out T2.out K2.out A2.out R.1 R.2.1 R.2.2.1 R.2.2.2.1
    clear R hown5 hgrow5 hat5 hlt5 E2a C6 W2' T2 K2 A2 E2 E1 T1 W1'
    go_wp2_with fail
    go_end0
    exact ⟨rfl, _, _, _, END.out⟩
end
end Go.Proofs.YtcedebpoihcbdaaGreatDoor
