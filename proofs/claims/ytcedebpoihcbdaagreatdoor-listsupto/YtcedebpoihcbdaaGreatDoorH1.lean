/-
  The lists that a law holds: how they lie in memory; what 'markInts' does.
-/
import Derived.Test.YtcedebpoihcbdaaGreatDoorChecked
import Derived.Test.YtcedebpoihcbdaaGreatDoorWA
import Derived.WalkKit
import Derived.Deep.AppendLies
import Derived.Deep.LoopGhost
namespace Go.Proofs.YtcedebpoihcbdaaGreatDoor
open Go.RowKit

theorem Tryz.infoI : (Tryz.prog.info? 3).map (fun i => (i.zero, i.size, i.bytes)) = some (some (.int .i64 0), 1, 8) := by kernel_rfl
theorem Tryz.infoH : (Tryz.prog.info? 172).map (fun i => (i.zero, i.size, i.bytes)) = some (some (.agg #[.slice none 0 0, .int .i64 0]), 2, 32) := by kernel_rfl
theorem Tryz.infoS : (Tryz.prog.info? 25).map (fun i => (i.zero, i.size, i.bytes)) = some (some (.slice none 0 0), 1, 24) := by kernel_rfl

/-- A slice of numbers, each of which is m. -/
def Marked (W : World) (v : Value) (n : Nat) (m : Int) : Prop :=
  ∃ ao cap, v = .slice ao n cap ∧ (n = 0 ∨ ∃ g, ao = some ⟨g, 0, none⟩ ∧ (∃ cs, W.heap[g]? = some (.cells cs 3 (0, 0))) ∧ ∀ i, i < n → W.cell? ⟨g, i, none⟩ = some (.int .i64 m))

theorem Marked.keep {W W' : World} {v : Value} {n : Nat} {m : Int} (h : Marked W v n m) (hk : ∀ b cs, v.ownBlock = some b → W.heap[b]? = some (.cells cs 3 (0, 0)) → W'.heap[b]? = W.heap[b]?) : Marked W' v n m := by
  obtain ⟨ao, cap, rfl, h⟩ := h
  refine ⟨ao, cap, rfl, ?_⟩
  rcases h with h | ⟨g, rfl, ⟨cs, hg⟩, hc⟩
  · exact .inl h
  · have e := hk g cs rfl hg
    exact .inr ⟨g, rfl, ⟨cs, by rw [e]; exact hg⟩, fun i hi => (World.cell?_of_block (w := W) e).trans (hc i hi)⟩

theorem marked_of {W : World} {D n : Nat} {v : Value} {m : Int} (h : W.ownsRow D 3 1 v n (List.replicate n (.int .i64 m))) : Marked W v n m := by
  rcases h.2 with ⟨rfl, rfl⟩ | ⟨g, cap, cur, rfl, hb, hg, hr⟩
  · exact ⟨none, 0, rfl, .inl rfl⟩
  · refine ⟨some ⟨g, 0, none⟩, cap, rfl, .inr ⟨g, rfl, ⟨cur, hg⟩, fun i hi => ?_⟩⟩
    rw [h.cellAt i (by omega), List.getElem?_replicate, if_pos hi]

/-- Blocks that are neither the law's own, nor a row of what it holds, nor the list in hand, are as they were. -/
structure Kept (W W' : World) (P : Nat → Prop) : Prop where
  os : W'.os = W.os
  tape : W'.tape = W.tape
  output : W'.output = W.output
  size : W.heap.size ≤ W'.heap.size
  block : ∀ b, b < W.heap.size → P b → W'.heap[b]? = W.heap[b]?

theorem Kept.refl (W : World) (P : Nat → Prop) : Kept W W P := ⟨rfl, rfl, rfl, Nat.le_refl _, fun _ _ _ => rfl⟩
theorem Kept.trans {a b c : World} {P : Nat → Prop} (h : Kept a b P) (k : Kept b c P) : Kept a c P :=
  ⟨k.os.trans h.os, k.tape.trans h.tape, k.output.trans h.output, Nat.le_trans h.size k.size, fun i hi hp => (k.block i (Nat.lt_of_lt_of_le hi h.size) hp).trans (h.block i hi hp)⟩
theorem Kept.trans' {a b c : World} {P Q : Nat → Prop} (h : Kept a b P) (k : Kept b c Q) (hq : ∀ x, x < a.heap.size → P x → Q x) : Kept a c P :=
  ⟨k.os.trans h.os, k.tape.trans h.tape, k.output.trans h.output, Nat.le_trans h.size k.size, fun i hi hp => (k.block i (Nat.lt_of_lt_of_le hi h.size) (hq i hi hp)).trans (h.block i hi hp)⟩
theorem Kept.weaken {a b : World} {P Q : Nat → Prop} (h : Kept a b P) (hq : ∀ x, x < a.heap.size → Q x → P x) : Kept a b Q :=
  ⟨h.os, h.tape, h.output, h.size, fun i hi hp => h.block i hi (hq i hi hp)⟩
theorem Kept.of_grown {a b : World} {r : Option Nat} (h : a.grownBy b r) {P : Nat → Prop} (hp : ∀ x, x < a.heap.size → P x → some x ≠ r) : Kept a b P :=
  ⟨h.os, h.tape, h.output, h.size, fun i hi hpi => h.block i hi (hp i hi hpi)⟩
theorem Kept.of_below {a b : World} (h : Below a.heap.size a b) (P : Nat → Prop) : Kept a b P := ⟨h.os, h.tape, h.output, h.size, fun i hi _ => h.block i hi⟩
theorem Kept.setCell {a : World} {P : Nat → Prop} (p : Addr) (u : Value) (hp : ¬ P p.block) : Kept a (a.setCell p u) P :=
  ⟨rfl, rfl, rfl, by simp [World.setCell], fun i _ hpi => Below.heap_setCell _ _ _ _ (fun e => hp (e ▸ hpi))⟩

/-- The law's own block: the groves (gsv.1), the document's, how many marks, the lists that are marked, the rules (gsv.2), those that wait, what they were. -/
def lawCells (gsv : Value × Value) (rsv : Value) (n : Nat) (iv wv ev : Value) : Array Value := #[gsv.1, rsv, .int .i64 n, iv, gsv.2, wv, ev]

theorem law_cell {W : World} {wb : Nat} {gsv : Value × Value} {rsv iv wv ev : Value} {n : Nat} (h : W.heap[wb]? = some (.cells (lawCells gsv rsv n iv wv ev) 55 (0, 0))) (i : Nat) : W.cell? ⟨wb, i, none⟩ = (lawCells gsv rsv n iv wv ev)[i]? := by
  simp [World.cell?, h]
theorem law_free {W : World} {wb : Nat} {cs : Array Value} (h : W.heap[wb]? = some (.cells cs 55 (0, 0))) (i : Nat) : W.frozen? ⟨wb, i, none⟩ = false := by
  simp [World.frozen?, h]

/-- The block that a row lies in. -/
theorem row_block {W : World} {D e size n : Nat} {v : Value} {xs : List Value} (h : W.ownsRow D e size v n xs) {g : Nat} (hg : v.ownBlock = some g) : ∃ cs, W.heap[g]? = some (.cells cs e (0, 0)) := by
  rcases h.2 with ⟨rfl, _⟩ | ⟨g', cap, cur, rfl, hb, hh, _⟩
  · simp [Value.ownBlock] at hg
  · simp only [Value.ownBlock, Option.some.injEq] at hg
    subst hg
    exact ⟨cur, hh⟩

theorem row_ne {W : World} {D e size n : Nat} {v : Value} {xs : List Value} (h : W.ownsRow D e size v n xs) {b t : Nat} {cs : Array Value} (hb : W.heap[b]? = some (.cells cs t (0, 0))) (hne : t ≠ e) : v.ownBlock ≠ some b := by
  intro e'
  obtain ⟨cs', h'⟩ := row_block h e'
  rw [hb] at h'
  simp only [Option.some.injEq, Obj.cells.injEq] at h'
  exact hne h'.2.1

theorem row_keep {W W' : World} {D e size n : Nat} {v : Value} {xs : List Value} (h : W.ownsRow D e size v n xs) (hk : ∀ b, v.ownBlock = some b → W'.heap[b]? = W.heap[b]?) : W'.ownsRow D e size v n xs := by
  refine ⟨h.1, ?_⟩
  rcases h.2 with h' | ⟨g, cap, cur, rfl, hb, hh, r⟩
  · exact .inl h'
  · exact .inr ⟨g, cap, cur, rfl, hb, by rw [hk g rfl]; exact hh, r⟩

/-- One list more among those that are marked. -/
theorem ent_step {W w1 w3 : World} {D wb k n g c : Nat} {gsv : Value × Value} {rsv iv wv ev : Value} {ecs : List Value} {es : List Value}
    (hW : W.heap[wb]? = some (.cells (lawCells gsv rsv n iv wv ev) 55 (0, 0))) (hI : W.ownsRow D 172 2 iv k ecs) (hb1 : Below W.heap.size W w1)
    (hown : w3.ownsRow D 172 2 (.slice (some ⟨g, 0, none⟩) (k + 1) c) (k + 1) (ecs ++ es)) (hgrow : w1.grownBy w3 iv.ownBlock) (hat : iv.ownBlock = some g ∨ g = w1.heap.size) :
    (w3.setCell ⟨wb, 3, none⟩ (.slice (some ⟨g, 0, none⟩) (k + 1) c)).heap[wb]? = some (.cells (lawCells gsv rsv n (.slice (some ⟨g, 0, none⟩) (k + 1) c) wv ev) 55 (0, 0)) ∧
    (w3.setCell ⟨wb, 3, none⟩ (.slice (some ⟨g, 0, none⟩) (k + 1) c)).ownsRow D 172 2 (.slice (some ⟨g, 0, none⟩) (k + 1) c) (k + 1) (ecs ++ es) ∧
    Kept W (w3.setCell ⟨wb, 3, none⟩ (.slice (some ⟨g, 0, none⟩) (k + 1) c)) (fun b => b ≠ wb ∧ iv.ownBlock ≠ some b) ∧ (iv.ownBlock = some g ∨ W.heap.size ≤ g) := by
  have hlt := lt_of_block hW
  have hne := row_ne hI hW (by decide)
  have hw3 : w3.heap[wb]? = some (.cells (lawCells gsv rsv n iv wv ev) 55 (0, 0)) := by
    rw [hgrow.block wb (Nat.lt_of_lt_of_le hlt hb1.size) (fun e => hne e.symm), hb1.block wb hlt]; exact hW
  have hgb : g ≠ wb := by
    rintro rfl
    exact row_ne hown hw3 (by decide) rfl
  refine ⟨?_, ?_, ?_, ?_⟩
  · exact heap_setCell_same w3 wb 3 _ 55 _ hw3
  · exact ownsRow_setCell_other hown (by simp [Value.ownBlock]; exact hgb) _
  · refine ((Kept.of_below hb1 _).trans (Kept.of_grown hgrow (fun x _ hx e => hx.2 e.symm))).trans ?_
    exact Kept.setCell _ _ (fun h => h.1 rfl)
  · rcases hat with h | h
    · exact .inl h
    · exact .inr (by rw [h]; exact hb1.size)

theorem rep_set (k : Nat) (xs : List Value) (m : Value) (h : k < xs.length) : (List.replicate k m ++ xs.drop k).set k m = List.replicate (k + 1) m ++ xs.drop (k + 1) := by
  have e := List.drop_eq_getElem_cons h
  rw [List.set_append_right _ _ (by simp), e]
  simp only [List.length_replicate, Nat.sub_self, List.set_cons_zero, List.replicate_succ', List.append_assoc, List.singleton_append]

theorem marked_room {W W' : World} {D g cap n nx : Nat} {x : Value} {m : Int} (h : Marked W x nx m) (hx : nx ≤ n) (hg : W.grownBy W' (some g)) (ho : W'.ownsRow D 3 1 (.slice (some ⟨g, 0, none⟩) n cap) n (List.replicate n (.int .i64 m))) : Marked W' x nx m := by
  obtain ⟨ao, c, rfl, h⟩ := h
  refine ⟨ao, c, rfl, ?_⟩
  rcases h with h | ⟨b, rfl, ⟨cs, hb⟩, hc⟩
  · exact .inl h
  · right
    by_cases e : b = g
    · subst e
      obtain ⟨cs', hcs'⟩ := row_block ho rfl
      refine ⟨b, rfl, ⟨cs', hcs'⟩, fun i hi => ?_⟩
      rw [ho.cellAt i (by omega), List.getElem?_replicate, if_pos (by omega)]
    · have hk := hg.block b (lt_of_block hb) (by simpa using e)
      exact ⟨b, rfl, ⟨cs, by rw [hk]; exact hb⟩, fun i hi => (World.cell?_of_block (w := W) hk).trans (hc i hi)⟩

theorem row_shape {W : World} {D e n : Nat} {v : Value} {xs : List Value} (h : W.ownsRow D e 1 v n xs) : ∃ ao cap, v = .slice ao n cap ∧ n ≤ cap ∧ cap ≤ maxLen ∧ (ao = none → n = 0 ∧ cap = 0) ∧ (∀ a, ao = some a → ∃ g, a = ⟨g, 0, none⟩ ∧ D ≤ g ∧ g < W.heap.size) := by
  rcases h.2 with ⟨rfl, rfl⟩ | ⟨g, cap, cur, rfl, hb, hg, h1, h2, _⟩
  · exact ⟨none, 0, rfl, Nat.le_refl _, Nat.zero_le _, (fun _ => ⟨rfl, rfl⟩), fun a h => by cases h⟩
  · exact ⟨_, cap, rfl, h1, h2, (fun h => by cases h), fun a ha => ⟨g, (by cases ha; rfl), hb, lt_of_block hg⟩⟩

theorem row_some {W : World} {D e n gcap : Nat} {gao : Option Addr} {xs : List Value} (h : W.ownsRow D e 1 (.slice gao n gcap) n xs) (hc : 0 < gcap) : ∃ g, gao = some ⟨g, 0, none⟩ ∧ D ≤ g ∧ g < W.heap.size := by
  rcases h.2 with ⟨h', _⟩ | ⟨g, cap, cur, h', hb, hg, _⟩
  · simp at h'; omega
  · simp only [Value.slice.injEq, true_and] at h'
    exact ⟨g, h'.1, hb, lt_of_block hg⟩
theorem row_none {W : World} {D e n gcap : Nat} {gao : Option Addr} {xs : List Value} (h : W.ownsRow D e 1 (.slice gao n gcap) n xs) (hc : gao = none) : n = 0 ∧ gcap = 0 := by
  subst hc
  rcases h.2 with ⟨h', _⟩ | ⟨g, cap, cur, h', hb, hg, _⟩
  · simp at h'; exact h'
  · simp at h'
theorem row_at {W : World} {D e n gcap : Nat} {gao : Option Addr} {xs : List Value} (h : W.ownsRow D e 1 (.slice gao n gcap) n xs) : ∀ b, gao = some b → ∀ j u, xs[j]? = some u → W.cell? (b.add j) = some u := by
  intro b hb j u hj
  subst hb
  rcases h.2 with ⟨h', _⟩ | ⟨g, cap, cur, h', _⟩
  · simp at h'
  · simp only [Value.slice.injEq, Option.some.injEq, true_and] at h'
    obtain ⟨rfl, rfl⟩ := h'
    exact h.cells (g := g) rfl j u hj

theorem row_base {W : World} {D D' e size n : Nat} {v : Value} {xs : List Value} (h : W.ownsRow D' e size v n xs) (hD : D ≤ D') : W.ownsRow D e size v n xs := by
  refine ⟨h.1, ?_⟩
  rcases h.2 with h' | ⟨g, cap, cur, a, hb, r⟩
  · exact .inl h'
  · exact .inr ⟨g, cap, cur, a, by omega, r⟩

theorem two_cells (W : World) (a b : Value) (e : TypeId) : ∀ j u, [a, b][j]? = some u → (W.alloc (.cells #[a, b] e)).cell? ((⟨W.heap.size, 0, none⟩ : Addr).add j) = some u := by
  intro j u hj
  match j, hj with
  | 0, hj => simp at hj; subst hj; simp [Addr.add]
  | 1, hj => simp at hj; subst hj; simp [Addr.add]
theorem one_cell (W : World) (a : Value) (e : TypeId) : ∀ j u, [a][j]? = some u → (W.alloc (.cells #[a] e)).cell? ((⟨W.heap.size, 0, none⟩ : Addr).add j) = some u := by
  intro j u hj
  match j, hj with
  | 0, hj => simp at hj; subst hj; simp [Addr.add]
theorem two_one (ao : Option Addr) (n c : Nat) (m : Int) : ∀ u ∈ [Value.slice ao n c, .int .i64 m], u.oneCell' = true := by
  intro u hu
  simp only [List.mem_cons, List.not_mem_nil, or_false] at hu
  rcases hu with rfl | rfl <;> rfl
theorem int_one (m : Int) : ∀ u ∈ [Value.int .i64 m], u.oneCell' = true := by
  intro u hu
  simp only [List.mem_cons, List.not_mem_nil, or_false] at hu
  subst hu; rfl
theorem rep_snoc (n : Nat) (m : Value) : List.replicate n m ++ [m] = List.replicate (n + 1) m := List.replicate_succ'.symm
theorem marked_alloc {W : World} {v : Value} {n : Nat} {m : Int} (h : Marked W v n m) (o : Obj) : Marked (W.alloc o) v n m := by
  obtain ⟨ao, cap, rfl, h⟩ := h
  refine ⟨ao, cap, rfl, ?_⟩
  rcases h with h | ⟨g, rfl, ⟨cs, hg⟩, hc⟩
  · exact .inl h
  · have e := Below.heap_alloc W o g (lt_of_block hg)
    exact .inr ⟨g, rfl, ⟨cs, by rw [e]; exact hg⟩, fun i hi => (World.cell?_of_block (w := W) e).trans (hc i hi)⟩
theorem marked_grown {W W' : World} {v : Value} {n : Nat} {m : Int} (h : Marked W v n m) (hg : W.grownBy W' none) : Marked W' v n m := by
  obtain ⟨ao, cap, rfl, h⟩ := h
  refine ⟨ao, cap, rfl, ?_⟩
  rcases h with h | ⟨g, rfl, ⟨cs, hb⟩, hc⟩
  · exact .inl h
  · have e := hg.block g (lt_of_block hb) (by simp)
    exact .inr ⟨g, rfl, ⟨cs, by rw [e]; exact hb⟩, fun i hi => (World.cell?_of_block (w := W) e).trans (hc i hi)⟩
theorem getD_snoc {vs : List Value} {x d : Value} {i : Nat} (hi : i < vs.length + 1) : (vs ++ [x]).getD i d = if i < vs.length then vs.getD i d else x := by
  rw [List.getD_eq_getElem?_getD]
  by_cases h : i < vs.length
  · rw [if_pos h, List.getElem?_append_left h, List.getD_eq_getElem?_getD]
  · obtain rfl : i = vs.length := by omega
    rw [if_neg h, List.getElem?_append_right (Nat.le_refl _)]; simp

def entCells (vs : List Value) (m : Int) : List Value := vs.flatMap (fun x => [x, .int .i64 m])
theorem entCells_snoc (vs : List Value) (x : Value) (m : Int) : entCells (vs ++ [x]) m = entCells vs m ++ [x, .int .i64 m] := by simp [entCells]

/-- The state between two rounds of 'markInts''s second loop. -/
structure Mid (W wr : World) (D wb k n len cap : Nat) (gsv : Value × Value) (rsv iv wv ev : Value) (ao : Option Addr) (ecs : List Value) (m : Int) (j gcap : Nat) (gao : Option Addr) (iv' : Value) (vs : List Value) : Prop where
  vl : vs.length = j
  w : wr.heap[wb]? = some (.cells (lawCells gsv rsv (n + 1) iv' wv ev) 55 (0, 0))
  i : wr.ownsRow D 172 2 iv' (k + j) (ecs ++ entCells vs m)
  g : wr.ownsRow D 3 1 (.slice gao (len + j) gcap) (len + j) (List.replicate (len + j) (.int .i64 m))
  m : ∀ i, i < j → Marked wr (vs.getD i (.slice none 0 0)) (len + i) m
  b : ∀ x, x ∈ vs ∨ x = .slice gao (len + j) gcap → ∀ b, x.ownBlock = some b → ((Value.slice ao len cap).ownBlock = some b ∨ W.heap.size ≤ b) ∧ b < wr.heap.size
  ib : ∀ b, iv'.ownBlock = some b → iv.ownBlock = some b ∨ W.heap.size ≤ b
  kept : Kept W wr (fun b => b ≠ wb ∧ iv.ownBlock ≠ some b ∧ (Value.slice ao len cap).ownBlock ≠ some b)

section
variable {W w2 w4 w5 : World} {D wb k n len cap : Nat} {gsv : Value × Value} {rsv iv wv ev : Value} {ao : Option Addr} {ecs : List Value} {m : Int} {j gcap : Nat} {gao : Option Addr} {iv' : Value} {vs : List Value}

/-- Behind the first append of a round (the list in hand joins those that are marked). -/
structure Half (W w4 : World) (D wb k n len cap : Nat) (gsv : Value × Value) (rsv iv wv ev : Value) (ao : Option Addr) (ecs : List Value) (m : Int) (j gcap : Nat) (gao : Option Addr) (iv' : Value) (vs : List Value) : Prop where
  vl : vs.length = j
  w : w4.heap[wb]? = some (.cells (lawCells gsv rsv (n + 1) iv' wv ev) 55 (0, 0))
  i : w4.ownsRow D 172 2 iv' (k + j + 1) (ecs ++ entCells (vs ++ [.slice gao (len + j) gcap]) m)
  g : w4.ownsRow D 3 1 (.slice gao (len + j) gcap) (len + j) (List.replicate (len + j) (.int .i64 m))
  m : ∀ i, i < j → Marked w4 (vs.getD i (.slice none 0 0)) (len + i) m
  b : ∀ x, x ∈ vs ∨ x = .slice gao (len + j) gcap → ∀ b, x.ownBlock = some b → ((Value.slice ao len cap).ownBlock = some b ∨ W.heap.size ≤ b) ∧ b < w4.heap.size
  ib : ∀ b, iv'.ownBlock = some b → iv.ownBlock = some b ∨ W.heap.size ≤ b
  kept : Kept W w4 (fun b => b ≠ wb ∧ iv.ownBlock ≠ some b ∧ (Value.slice ao len cap).ownBlock ≠ some b)

theorem Mid.half {w1 w3 : World} {g c : Nat} (X : Mid W w2 D wb k n len cap gsv rsv iv wv ev ao ecs m j gcap gao iv' vs) (hb1 : Below w2.heap.size w2 w1)
    (hown : w3.ownsRow D 172 2 (.slice (some ⟨g, 0, none⟩) (k + j + 1) c) (k + j + 1) (ecs ++ entCells vs m ++ [.slice gao (len + j) gcap, .int .i64 m])) (hgrow : w1.grownBy w3 iv'.ownBlock) (hat : iv'.ownBlock = some g ∨ g = w1.heap.size) :
    Half W (w3.setCell ⟨wb, 3, none⟩ (.slice (some ⟨g, 0, none⟩) (k + j + 1) c)) D wb k n len cap gsv rsv iv wv ev ao ecs m j gcap gao (.slice (some ⟨g, 0, none⟩) (k + j + 1) c) vs ∧ w3.heap[wb]? = some (.cells (lawCells gsv rsv (n + 1) iv' wv ev) 55 (0, 0)) := by
  have R := ent_step X.w X.i hb1 hown hgrow hat
  have hlt := lt_of_block X.w
  refine ⟨⟨X.vl, R.1, ?_, ?_, ?_, fun x hx b hb => ⟨(X.b x hx b hb).1, Nat.lt_of_lt_of_le (X.b x hx b hb).2 R.2.2.1.size⟩, ?_, ?_⟩, ?_⟩
  · rw [entCells_snoc, ← List.append_assoc]; exact R.2.1
  · refine row_keep X.g (fun b hb => R.2.2.1.block b (X.g.lt b hb).2 ⟨fun e => row_ne X.g X.w (by decide) (e ▸ hb), fun e => ?_⟩)
    obtain ⟨cs1, h1⟩ := row_block X.g hb
    exact row_ne X.i h1 (by decide) e
  · intro i hi
    refine (X.m i hi).keep (fun b cs hb hcs => R.2.2.1.block b (lt_of_block hcs) ⟨fun e => ?_, fun e => row_ne X.i hcs (by decide) e⟩)
    subst e; have h := X.w; rw [hcs] at h; simp at h
  · intro b hb
    simp only [Value.ownBlock, Option.some.injEq] at hb
    subst hb
    rcases R.2.2.2 with h | h
    · exact X.ib g h
    · exact .inr (Nat.le_trans X.kept.size h)
  · refine X.kept.trans' R.2.2.1 (fun x hx hp => ⟨hp.1, fun e => ?_⟩)
    rcases X.ib x e with h | h
    · exact hp.2.1 h
    · omega
  · rw [hgrow.block wb (Nat.lt_of_lt_of_le hlt hb1.size) (fun e => row_ne X.i X.w (by decide) e.symm), hb1.block wb hlt]; exact X.w

/-- Behind the second append, where there was room. -/
theorem Half.room {gg : Nat} (X : Half W w4 D wb k n len cap gsv rsv iv wv ev ao ecs m j gcap (some ⟨gg, 0, none⟩) iv' vs) (o : Obj)
    (hown : w5.ownsRow D 3 1 (.slice (some ⟨gg, 0, none⟩) (len + j + 1) gcap) (len + j + 1) (List.replicate (len + j) (.int .i64 m) ++ [.int .i64 m])) (hgrow : (w4.alloc o).grownBy w5 (some gg)) :
    Mid W w5 D wb k n len cap gsv rsv iv wv ev ao ecs m (j + 1) gcap (some ⟨gg, 0, none⟩) iv' (vs ++ [.slice (some ⟨gg, 0, none⟩) (len + j) gcap]) := by
  have hk : ∀ b, b < w4.heap.size → b ≠ gg → w5.heap[b]? = w4.heap[b]? := fun b hb hne => by
    rw [hgrow.block b (by simp; omega) (by simpa using hne)]; exact Below.heap_alloc _ _ _ hb
  have hgw : gg ≠ wb := fun e => row_ne X.g X.w (by decide) (by rw [← e]; rfl)
  rw [rep_snoc] at hown
  refine ⟨by simp [X.vl], ?_, ?_, hown, ?_, ?_, X.ib, ?_⟩
  · rw [hk wb (lt_of_block X.w) (fun e => hgw e.symm)]; exact X.w
  · refine row_keep X.i (fun b hb => hk b (X.i.lt b hb).2 (fun e => ?_))
    obtain ⟨cs1, h1⟩ := row_block X.i hb
    exact row_ne X.g h1 (by decide) (by rw [e]; rfl)
  · intro i hi
    rw [getD_snoc (by rw [X.vl]; exact hi)]
    split
    · rename_i h
      rw [X.vl] at h
      exact marked_room (marked_alloc (X.m i h) o) (by omega) hgrow hown
    · rename_i h
      rw [X.vl] at h
      obtain rfl : i = j := by omega
      exact marked_room (marked_alloc (marked_of X.g) o) (by omega) hgrow hown
  · have hs5 : w4.heap.size ≤ w5.heap.size := Nat.le_trans (by simp) hgrow.size
    rintro x (hx | rfl) b hb
    · rcases List.mem_append.1 hx with h | h
      · exact ⟨(X.b x (.inl h) b hb).1, Nat.lt_of_lt_of_le (X.b x (.inl h) b hb).2 hs5⟩
      · simp only [List.mem_singleton] at h
        exact ⟨(X.b x (.inr h) b hb).1, Nat.lt_of_lt_of_le (X.b x (.inr h) b hb).2 hs5⟩
    · have h := X.b (.slice (some ⟨gg, 0, none⟩) (len + j) gcap) (.inr rfl) b hb
      exact ⟨h.1, Nat.lt_of_lt_of_le h.2 hs5⟩
  · refine X.kept.trans' (Q := fun b => b ≠ gg) ⟨hgrow.os, hgrow.tape, hgrow.output, Nat.le_trans (by simp) hgrow.size, hk⟩ (fun x hx hp e => ?_)
    subst e
    rcases (X.b (.slice (some ⟨x, 0, none⟩) (len + j) gcap) (.inr rfl) x rfl).1 with h | h
    · exact hp.2.2 h
    · omega

/-- Behind the second append, where a new row was made. -/
theorem Half.grow {v' : Value} {g' c' H : Nat} (X : Half W w4 D wb k n len cap gsv rsv iv wv ev ao ecs m j gcap gao iv' vs) (o : Obj) (hD : D ≤ w4.heap.size) (hv' : v' = .slice (some ⟨g', 0, none⟩) (len + j + 1) c')
    (hH : H = (w4.alloc o).heap.size) (hown : w5.ownsRow H 3 1 v' (len + j + 1) (List.replicate (len + j) (.int .i64 m) ++ [.int .i64 m])) (hgrow : (w4.alloc o).grownBy w5 none) :
    Mid W w5 D wb k n len cap gsv rsv iv wv ev ao ecs m (j + 1) c' (some ⟨g', 0, none⟩) iv' (vs ++ [.slice gao (len + j) gcap]) := by
  subst hv'
  subst hH
  have hk : ∀ b, b < w4.heap.size → w5.heap[b]? = w4.heap[b]? := fun b hb => by
    rw [hgrow.block b (by simp; omega) (by simp)]; exact Below.heap_alloc _ _ _ hb
  rw [rep_snoc] at hown
  have hge := (hown.lt g' rfl).1
  refine ⟨by simp [X.vl], ?_, ?_, row_base hown (by simp; omega), ?_, ?_, X.ib, ?_⟩
  · rw [hk wb (lt_of_block X.w)]; exact X.w
  · exact row_keep X.i (fun b hb => hk b (X.i.lt b hb).2)
  · intro i hi
    rw [getD_snoc (by rw [X.vl]; exact hi)]
    split
    · rename_i h
      rw [X.vl] at h
      exact marked_grown (marked_alloc (X.m i h) o) hgrow
    · rename_i h
      rw [X.vl] at h
      obtain rfl : i = j := by omega
      exact marked_grown (marked_alloc (marked_of X.g) o) hgrow
  · have hs5 : w4.heap.size ≤ w5.heap.size := Nat.le_trans (by simp) hgrow.size
    rintro x (hx | rfl) b hb
    · rcases List.mem_append.1 hx with h | h
      · exact ⟨(X.b x (.inl h) b hb).1, Nat.lt_of_lt_of_le (X.b x (.inl h) b hb).2 hs5⟩
      · simp only [List.mem_singleton] at h
        exact ⟨(X.b x (.inr h) b hb).1, Nat.lt_of_lt_of_le (X.b x (.inr h) b hb).2 hs5⟩
    · simp only [Value.ownBlock, Option.some.injEq] at hb
      subst hb
      have hl5 := (hown.lt g' rfl).2
      have := X.kept.size
      simp at hge
      exact ⟨.inr (by omega), hl5⟩
  · exact X.kept.trans' (Q := fun _ => True) ⟨hgrow.os, hgrow.tape, hgrow.output, Nat.le_trans (by simp) hgrow.size, fun b hb _ => hk b hb⟩ (fun _ _ _ => trivial)
end

def markOfN (n : Nat) : Int := -1000 - ((n : Int) + 1)

/-- What 'markInts' leaves: four lists more that are full of one mark; all else but the law's block, its row and the list in hand is as it was. -/
structure MarkPost (W W' : World) (D wb k n : Nat) (gsv : Value × Value) (rsv iv wv ev v : Value) (len : Nat) (ecs : List Value) : Prop where
  ex : ∃ (iv' : Value) (v0 v1 v2 v3 : Value), W'.heap[wb]? = some (.cells (lawCells gsv rsv (n + 1) iv' wv ev) 55 (0, 0)) ∧
    W'.ownsRow D 172 2 iv' (k + 4) (ecs ++ [v0, .int .i64 (markOfN n)] ++ [v1, .int .i64 (markOfN n)] ++ [v2, .int .i64 (markOfN n)] ++ [v3, .int .i64 (markOfN n)]) ∧
    Marked W' v0 len (markOfN n) ∧ Marked W' v1 (len + 1) (markOfN n) ∧ Marked W' v2 (len + 2) (markOfN n) ∧ Marked W' v3 (len + 3) (markOfN n) ∧
    (∀ x, x = v0 ∨ x = v1 ∨ x = v2 ∨ x = v3 → ∀ b, x.ownBlock = some b → (v.ownBlock = some b ∨ W.heap.size ≤ b) ∧ b < W'.heap.size) ∧ (∀ b, iv'.ownBlock = some b → iv.ownBlock = some b ∨ W.heap.size ≤ b)
  kept : Kept W W' (fun b => b ≠ wb ∧ iv.ownBlock ≠ some b ∧ v.ownBlock ≠ some b)

theorem mark_end {W w4 : World} {D wb k n len cap : Nat} {gsv : Value × Value} {rsv iv wv ev : Value} {ao : Option Addr} {ecs : List Value} {m : Int} {gcap : Nat} {gao : Option Addr} {iv' : Value} {vs : List Value} (hm : markOfN n = m)
    (X : Half W w4 D wb k n len cap gsv rsv iv wv ev ao ecs m 3 gcap gao iv' vs) : MarkPost W w4 D wb k n gsv rsv iv wv ev (.slice ao len cap) len ecs := by
  subst hm
  have hl := X.vl
  match vs, hl with
  | [v0, v1, v2], _ =>
    refine ⟨⟨iv', v0, v1, v2, .slice gao (len + 3) gcap, X.w, ?_, X.m 0 (by omega), X.m 1 (by omega), X.m 2 (by omega), marked_of X.g, ?_, X.ib⟩, X.kept⟩
    · simpa [entCells] using X.i
    · rintro x (rfl | rfl | rfl | rfl) b hb
      · exact X.b _ (.inl (by simp)) b hb
      · exact X.b _ (.inl (by simp)) b hb
      · exact X.b _ (.inl (by simp)) b hb
      · exact X.b _ (.inr rfl) b hb

set_option maxRecDepth 100000 in
set_option maxHeartbeats 1000000 in
theorem markInts {W : World} {D wb k n len : Nat} {gsv : Value × Value} {rsv iv wv ev v : Value} {ecs xs : List Value} (hW : W.heap[wb]? = some (.cells (lawCells gsv rsv n iv wv ev) 55 (0, 0))) (hI : W.ownsRow D 172 2 iv k ecs) (hv : W.ownsRow D 3 1 v len xs)
    (hD : D ≤ wb) (hk : k ≤ 1000000000000) (hn : n ≤ 1000000000000) (hlen : len ≤ 100000) :
    Calls Tryz.prog 66 #[.pointer (some ⟨wb, 2, none⟩), v] W fun e W' => e = .returned (.tuple #[]) ∧ MarkPost W W' D wb k n gsv rsv iv wv ev v len ecs := by
  have HW : Hid _ := hW
  have HI : Hid (W.ownsRow D 172 2 iv k ecs) := hI
  have HV : Hid (W.ownsRow D 3 1 v len xs) := hv
  have hwb := lt_of_block hW
  have c2 : W.cell? ⟨wb, 2, none⟩ = some (.int .i64 n) := law_cell hW 2
  have f2 : ∀ i, W.frozen? ⟨wb, i, none⟩ = false := law_free hW
  have hne1 : Hid (v.ownBlock ≠ some wb) := row_ne hv hW (by decide)
  obtain ⟨i0, hi, hz0, hz1, hz2⟩ := info_parts Tryz.infoI
  obtain ⟨j0, gi, gz0, gz1, gz2⟩ := info_parts Tryz.infoH
  have hsh : ∃ ao cap, v = .slice ao len cap ∧ len ≤ cap ∧ cap ≤ maxLen ∧ (0 < len → ∃ g, ao = some ⟨g, 0, none⟩) := by
    rcases hv.2 with ⟨rfl, rfl⟩ | ⟨g, cap, cur, rfl, _, _, h1, h2, _⟩
    · exact ⟨none, 0, rfl, Nat.le_refl _, Nat.zero_le _, fun h => absurd h (by omega)⟩
    · exact ⟨_, cap, rfl, h1, h2, fun _ => ⟨g, rfl⟩⟩
  obtain ⟨ao, cap, rfl, hlc, hcm, hao⟩ := hsh
  have HAO : Hid (0 < len → ∃ g, ao = some ⟨g, 0, none⟩) := hao
  unfold maxLen at hcm
  have hxl : Hid (xs.length = len) := by have h := hv.1; rw [Nat.mul_one] at h; exact h
  clear hW hI hv hao
  go_enter Tryz.func66, Tryz.ntmps66
  go_wp2_with fail
  have HM : Hid (markOfN n = -1000 - ((n : Int) + 1)) := rfl
  generalize hmm : (-1000 - ((n : Int) + 1)) = m at *
  clear hmm
  have HS : Hid ((W.setCell ⟨wb, 2, none⟩ (.int .i64 ((n : Int) + 1))).heap[wb]? = some (.cells (lawCells gsv rsv (n + 1) iv wv ev) 55 (0, 0))) := heap_setCell_same W wb 2 _ 55 _ HW.out
  go_loopw [5] (fun i wr => ∃ j : Nat, j ≤ len ∧ i = .int .i64 j ∧ wr.heap[wb]? = some (.cells (lawCells gsv rsv (n + 1) iv wv ev) 55 (0, 0)) ∧ wr.ownsRow D 3 1 (.slice ao len cap) len (List.replicate j (.int .i64 m) ++ xs.drop j) ∧ Kept W wr (fun b => b ≠ wb ∧ (Value.slice ao len cap).ownBlock ≠ some b)) (fun i _ => len - (intOf i).toNat)
  case atStart =>
    refine ⟨0, Nat.zero_le _, rfl, HS.out, ?_, Kept.setCell _ _ (fun h => h.1 rfl)⟩
    exact ownsRow_setCell_other HV.out hne1.out _
  case round =>
    obtain ⟨j, hj, rfl, hwr, hown, hkept⟩ := hrel
    by_cases hjl : j < len
    · obtain ⟨g, rfl⟩ := HAO.out (by omega)
      have cj : ∃ u, wr.cell? ⟨g, j, none⟩ = some u := by
        rw [hown.cellAt j (by omega)]
        exact ⟨_, List.getElem?_eq_getElem (by simp [hxl.out]; omega)⟩
      obtain ⟨u, cj⟩ := cj
      have fj := hown.frozenAt j
      have R := hown.stored j (.int .i64 m)
      have hgw : g ≠ wb := fun e => hne1.out (by rw [← e]; rfl)
      have RR : Hid _ := R.1
      have RW : Hid ((wr.setCell ⟨g, j, none⟩ (.int .i64 m)).heap[wb]? = some (.cells (lawCells gsv rsv (n + 1) iv wv ev) 55 (0, 0))) := by
        show (wr.setCell ⟨g, j, none⟩ (.int .i64 m)).heap[wb]? = _
        rw [heap_setCell_other _ _ _ _ (fun e => hgw e.symm)]; exact hwr
      have RK : Hid (Kept W (wr.setCell ⟨g, j, none⟩ (.int .i64 m)) (fun b => b ≠ wb ∧ (Value.slice (some ⟨g, 0, none⟩) len cap).ownBlock ≠ some b)) := hkept.trans (Kept.setCell _ _ (fun h => h.2 rfl))
      clear hown hwr hkept R hgw
      go_wp2_with fail
      go_roundw
      case rel => exact ⟨j + 1, hjl, by go_num, RW.out, by rw [← rep_set j xs _ (by rw [hxl.out]; exact hjl)]; exact RR.out, RK.out⟩
      case measure => simp [intOf]; omega
    · have ej : len = j := by omega
      subst ej
      have hown' : wr.ownsRow D 3 1 (.slice ao len cap) len (List.replicate len (.int .i64 m)) := by
        have e : xs.drop len = [] := List.drop_eq_nil_of_le (by rw [hxl.out]; omega)
        rw [e, List.append_nil] at hown; exact hown
      have HO : Hid (wr.ownsRow D 3 1 (.slice ao len cap) len (List.replicate len (.int .i64 m))) := hown'
      have HWr : Hid (wr.heap[wb]? = some (.cells (lawCells gsv rsv (n + 1) iv wv ev) 55 (0, 0))) := hwr
      have HK : Hid (Kept W wr (fun b => b ≠ wb ∧ (Value.slice ao len cap).ownBlock ≠ some b)) := hkept
      have HIr : Hid (wr.ownsRow D 172 2 iv k ecs) := row_keep HI.out (fun b hb => hkept.block b (HI.out.lt b hb).2 ⟨fun e => row_ne HI.out HW.out (by decide) (e ▸ hb), fun e => by
        obtain ⟨cs1, h1⟩ := row_block HI.out hb
        exact row_ne HV.out h1 (by decide) e⟩)
      clear hown hown' hwr hkept HS
      obtain ⟨w1, rfl⟩ : ∃ w1 : World, w1 = wr := ⟨_, rfl⟩
      go_wp2_with fail
      go_loopw [6, 7] (fun gv i wr => ∃ (j gcap : Nat) (gao : Option Addr) (iv' : Value) (vs : List Value), j ≤ 3 ∧ i = .int .i64 j ∧ gv = .slice gao (len + j) gcap ∧ Mid W wr D wb k n len cap gsv rsv iv wv ev ao ecs m j gcap gao iv' vs) (fun _ i _ => 3 - (intOf i).toNat)
      case atStart =>
        refine ⟨0, cap, ao, iv, [], by omega, rfl, rfl, ⟨rfl, HWr.out, by simpa [entCells] using HIr.out, HO.out, fun i hi => by omega, ?_, fun b hb => .inl hb, HK.out.weaken (fun x _ hx => ⟨hx.1, hx.2.2⟩)⟩⟩
        rintro x (hx | rfl) b hb
        · simp at hx
        · exact ⟨.inl hb, (HO.out.lt b hb).2⟩
      case round =>
        obtain ⟨j, gcap, gao, iv', vs, hj, rfl, rfl, hX⟩ := hrel
        clear HO HWr HK HIr
        obtain ⟨w2, rfl⟩ : ∃ w2 : World, w2 = wr := ⟨_, rfl⟩
        have c3 : w2.cell? ⟨wb, 3, none⟩ = some iv' := law_cell hX.w 3
        have hlt2 := lt_of_block hX.w
        have hDs : D ≤ w2.heap.size := by omega
        have X : Hid (Mid W w2 D wb k n len cap gsv rsv iv wv ev ao ecs m j gcap gao iv' vs) := hX
        have X8 : Hid ((w2.alloc (.cells #[.slice gao (len + j) gcap, .int .i64 m] 172)).ownsRow D 172 2 iv' (k + j) (ecs ++ entCells vs m)) := hX.i.alloc _
        have hb1 : Hid (Below w2.heap.size w2 (w2.alloc (.cells #[.slice gao (len + j) gcap, .int .i64 m] 172))) := (Below.refl _ _).alloc (Nat.le_refl _) _
        clear hX
        by_cases hj3 : j < 3
        · go_wp2_with (at_builtin; refine wpList_append_lies _ rfl _ _ 49 rfl D 172 j0 (.agg #[.slice none 0 0, .int .i64 0]) 2 32 Tryz.underlying49 gi gz0 gz1 gz2 rfl (by decide) _ _ _ rfl X8.out ⟨w2.heap.size, 0, none⟩ 1 1 [.slice gao (len + j) gcap, .int .i64 m] rfl ?c0 ?c1 ?c2 ?cm ?c3 ?c4 ?c5 _ rfl ?_)
          case c0 => rfl
          case c1 => exact two_cells _ _ _ _
          case c2 => exact two_one _ _ _ _
          case cm => omega
          case c3 => unfold maxLen; omega
          case c4 => omega
          case c5 => simp; omega
          intro g3 cp3 w3 hown3 hgrow3 hat3 hlt3
          rw [← List.append_assoc] at hown3
          have R := X.out.half hb1.out hown3 hgrow3 (hat3.imp id (fun e => by rw [World.size_alloc]; exact e))
          have c33 : w3.cell? ⟨wb, 3, none⟩ = some iv' := law_cell R.2 3
          have f33 : ∀ i, w3.frozen? ⟨wb, i, none⟩ = false := law_free R.2
          have RR : Hid (Half W (w3.setCell ⟨wb, 3, none⟩ (.slice (some ⟨g3, 0, none⟩) (k + j + 1) cp3)) D wb k n len cap gsv rsv iv wv ev ao ecs m j gcap gao (.slice (some ⟨g3, 0, none⟩) (k + j + 1) cp3) vs) := R.1
          have hD4 : Hid (D ≤ (w3.setCell ⟨wb, 3, none⟩ (.slice (some ⟨g3, 0, none⟩) (k + j + 1) cp3)).heap.size) := by have := lt_of_block R.1.w; show D ≤ _; omega
          have C1 : Hid (∀ i u, [Value.int .i64 m][i]? = some u → ((w3.setCell ⟨wb, 3, none⟩ (.slice (some ⟨g3, 0, none⟩) (k + j + 1) cp3)).alloc (.cells #[.int .i64 m] 3)).cell? ((⟨w3.heap.size, 0, none⟩ : Addr).add i) = some u) := by
            have h := one_cell (w3.setCell ⟨wb, 3, none⟩ (.slice (some ⟨g3, 0, none⟩) (k + j + 1) cp3)) (.int .i64 m) 3
            have e : (w3.setCell ⟨wb, 3, none⟩ (.slice (some ⟨g3, 0, none⟩) (k + j + 1) cp3)).heap.size = w3.heap.size := by simp [World.setCell]
            rw [e] at h; exact h
          clear R hb1 hown3 hgrow3 hat3 hlt3 X8 c3 X
          by_cases hroom : len + j + 1 ≤ gcap
          · obtain ⟨gg, hgg, hgD, _⟩ := row_some RR.out.g (by omega)
            subst hgg
            have Y8 : Hid _ := RR.out.g.alloc (.cells #[.int .i64 m] 3)
            go_wp2_with (at_builtin; refine wpList_append_fits _ rfl _ _ 25 rfl D 3 i0 1 Tryz.underlying25 hi hz1 gg (len + j) gcap _ rfl Y8.out ⟨w3.heap.size, 0, none⟩ 1 1 [.int .i64 m] rfl rfl C1.out (int_one m) hroom ?_)
            intro w5 hown5 hgrow5
            have Z : Hid _ := RR.out.room _ hown5 hgrow5
            clear hown5 hgrow5 RR Y8 C1
            go_wp2_with fail
            go_roundw
            case rel => exact ⟨j + 1, gcap, _, _, _, by omega, by go_num, rfl, Z.out⟩
            case measure => simp [intOf]; omega
          · have Y8 : Hid _ := RR.out.g.alloc (.cells #[.int .i64 m] 3)
            go_wp2_with (at_builtin; refine wpList_append_grows _ rfl _ _ 25 rfl 3 i0 (.int .i64 0) 1 8 Tryz.underlying25 hi hz0 hz1 hz2 rfl (by decide) gao (len + j) gcap (List.replicate (len + j) (.int .i64 m)) rfl (row_none RR.out.g) (by simp) (row_at Y8.out) ⟨w3.heap.size, 0, none⟩ 1 1 [.int .i64 m] rfl rfl C1.out (int_one m) ?e1 ?e2 ?e3 ?_)
            case e1 => omega
            case e2 => unfold maxLen; omega
            case e3 => omega
            intro v5 w5 hown5 hgrow5
            obtain ⟨g5, c5, hv5, _, _⟩ := hown5.form (by omega)
            have Z : Hid _ := RR.out.grow _ hD4.out hv5 (by simp [World.setCell]) hown5 hgrow5
            rw [hv5]
            clear hown5 hgrow5 RR Y8 C1 hv5
            go_wp2_with fail
            go_roundw
            case rel => exact ⟨j + 1, c5, _, _, _, by omega, by go_num, rfl, Z.out⟩
            case measure => simp [intOf]; omega
        · obtain rfl : j = 3 := by omega
          go_wp2_with (at_builtin; refine wpList_append_lies _ rfl _ _ 49 rfl D 172 j0 (.agg #[.slice none 0 0, .int .i64 0]) 2 32 Tryz.underlying49 gi gz0 gz1 gz2 rfl (by decide) _ _ _ rfl X8.out ⟨w2.heap.size, 0, none⟩ 1 1 [.slice gao (len + 3) gcap, .int .i64 m] rfl ?c0 ?c1 ?c2 ?cm ?c3 ?c4 ?c5 _ rfl ?_)
          case c0 => rfl
          case c1 => exact two_cells _ _ _ _
          case c2 => exact two_one _ _ _ _
          case cm => omega
          case c3 => unfold maxLen; omega
          case c4 => omega
          case c5 => simp; omega
          intro g3 cp3 w3 hown3 hgrow3 hat3 hlt3
          rw [← List.append_assoc] at hown3
          have R := X.out.half hb1.out hown3 hgrow3 (hat3.imp id (fun e => by rw [World.size_alloc]; exact e))
          have c33 : w3.cell? ⟨wb, 3, none⟩ = some iv' := law_cell R.2 3
          have f33 : ∀ i, w3.frozen? ⟨wb, i, none⟩ = false := law_free R.2
          have RR : Hid (Half W (w3.setCell ⟨wb, 3, none⟩ (.slice (some ⟨g3, 0, none⟩) (k + 3 + 1) cp3)) D wb k n len cap gsv rsv iv wv ev ao ecs m 3 gcap gao (.slice (some ⟨g3, 0, none⟩) (k + 3 + 1) cp3) vs) := R.1
          clear R hb1 hown3 hgrow3 hat3 hlt3 X8 c3 X
          go_wp2_with fail
          go_end0
          refine ⟨rfl, mark_end HM.out RR.out⟩
end Go.Proofs.YtcedebpoihcbdaaGreatDoor
