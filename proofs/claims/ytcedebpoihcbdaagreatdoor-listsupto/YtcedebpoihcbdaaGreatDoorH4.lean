/-
  The lists that a law holds: what 'settles' and 'looks' do.
-/
import Derived.Test.YtcedebpoihcbdaaGreatDoorH3
namespace Go.Proofs.YtcedebpoihcbdaaGreatDoor
open Go.RowKit Gv

structure SInv (W0 W : World) (D wb : Nat) (gsv : Value × Value) (rsv : Value) (n : Nat) (iv wv ev : Value) (es : List Ent) (ws : List Wait) (i : Nat) (O O2 : Nat → Prop) : Prop where
  w : W.heap[wb]? = some (.cells (lawCells gsv rsv n iv wv ev) 55 (0, 0))
  hD : D ≤ wb
  r : W.ownsRow D 172 2 iv es.length (entsCells es)
  t : W.ownsRow D 25 1 wv ws.length (ws.map (·.1))
  ent : ∀ x, x ∈ es → Marked W x.1 x.2.1 x.2.2 ∧ x.2.1 ≤ 100000 ∧ ∀ b, x.1.ownBlock = some b → b < W.heap.size
  wl : ∀ (j : Nat) (x : Wait), i ≤ j → ws[j]? = some x → W.ownsRow D 3 1 x.1 x.2.2.length (ints x.2.2) ∧ x.2.2.length ≤ 300
  ef : ∀ x, x ∈ es → ∀ b, x.1.ownBlock = some b → ∀ (j : Nat) (y : Wait), i ≤ j → ws[j]? = some y → y.1.ownBlock ≠ some b
  nd : ∀ (i j : Nat) (x y : Wait), i < j → ws[i]? = some x → ws[j]? = some y → ∀ b, x.1.ownBlock = some b → y.1.ownBlock ≠ some b
  cnt : es.length ≤ 4 * n
  ib : ∀ b, iv.ownBlock = some b → O b ∨ W0.heap.size ≤ b
  oW : O wb
  oS : ∀ x, x ∈ ws → ∀ b, x.1.ownBlock = some b → O b
  o2 : ∀ b, O b → O2 b
  eb : ∀ x, x ∈ es → ∀ b, x.1.ownBlock = some b → O2 b ∨ W0.heap.size ≤ b
  kept : Fr O W0 W

theorem ents_append (es : List Ent) (a b c d : Ent) : entsCells (es ++ [a, b, c, d]) = entsCells es ++ [a.1, .int .i64 a.2.2] ++ [b.1, .int .i64 b.2.2] ++ [c.1, .int .i64 c.2.2] ++ [d.1, .int .i64 d.2.2] := by simp [entsCells]

section
variable {W0 W W' : World} {D wb n : Nat} {gsv : Value × Value} {rsv iv wv ev : Value} {es : List Ent} {ws : List Wait} {O O2 : Nat → Prop}

theorem SInv.step {i : Nat} {x : Wait} (h : SInv W0 W D wb gsv rsv n iv wv ev es ws i O O2) (hx : ws[i]? = some x) (hp : MarkPost W W' D wb es.length n gsv rsv iv wv ev x.1 x.2.2.length (entsCells es)) :
    ∃ iv' es', SInv W0 W' D wb gsv rsv (n + 1) iv' wv ev es' ws (i + 1) O O2 := by
  obtain ⟨⟨iv', v0, v1, v2, v3, hw, hr, m0, m1, m2, m3, hb, hib⟩, hk⟩ := hp
  have hxl := h.wl i x (Nat.le_refl _) hx
  have hsz := hk.size
  -- what is neither the law's block, nor its row, nor the list in hand
  have far : ∀ (b : Nat) (cs : Array Value) (t : TypeId), W.heap[b]? = some (.cells cs t (0, 0)) → t ≠ 55 → t ≠ 172 → x.1.ownBlock ≠ some b → W'.heap[b]? = W.heap[b]? := by
    intro b cs t hb h1 h2 h3
    refine hk.block b (lt_of_block hb) ⟨?_, row_ne h.r hb h2, h3⟩
    rintro rfl; rw [h.w] at hb; simp at hb; exact h1 hb.2.symm
  have hxb : ∀ b, x.1.ownBlock = some b → b < W.heap.size := fun b hb => (hxl.1.lt b hb).2
  refine ⟨iv', es ++ [(v0, x.2.2.length, markOfN n), (v1, x.2.2.length + 1, markOfN n), (v2, x.2.2.length + 2, markOfN n), (v3, x.2.2.length + 3, markOfN n)], ⟨hw, h.hD, ?_, ?_, ?_, ?_, ?_, h.nd, ?_, ?_, h.oW, h.oS, h.o2, ?_, ?_⟩⟩
  · rw [ents_append, List.length_append]; exact hr
  · refine row_keep h.t (fun b hb => ?_)
    obtain ⟨cs, hcs⟩ := row_block h.t hb
    exact far b cs _ hcs (by decide) (by decide) (row_ne hxl.1 hcs (by decide))
  · intro y hy
    rcases List.mem_append.1 hy with hy | hy
    · have hy' := h.ent y hy
      refine ⟨hy'.1.keep (fun b cs hb hcs => far b cs 3 hcs (by decide) (by decide) (h.ef y hy b hb i x (Nat.le_refl _) hx)), hy'.2.1, fun b hb => Nat.lt_of_lt_of_le (hy'.2.2 b hb) hsz⟩
    · have key : ∀ (v : Value) (k : Nat), Marked W' v k (markOfN n) → (v = v0 ∨ v = v1 ∨ v = v2 ∨ v = v3) → k ≤ 100000 → Marked W' v k (markOfN n) ∧ k ≤ 100000 ∧ ∀ b, v.ownBlock = some b → b < W'.heap.size := fun v k hm hv hk0 => ⟨hm, hk0, fun b hbb => (hb v hv b hbb).2⟩
      have hl3 := hxl.2
      simp only [List.mem_cons, List.not_mem_nil, or_false] at hy
      rcases hy with rfl | rfl | rfl | rfl
      · exact key v0 (x.2.2.length) m0 (by simp) (by omega)
      · exact key v1 (x.2.2.length + 1) m1 (by simp) (by omega)
      · exact key v2 (x.2.2.length + 2) m2 (by simp) (by omega)
      · exact key v3 (x.2.2.length + 3) m3 (by simp) (by omega)
  · intro j y hj hy
    have hyl := h.wl j y (by omega) hy
    refine ⟨row_keep hyl.1 (fun b hbb => ?_), hyl.2⟩
    obtain ⟨cs, hcs⟩ := row_block hyl.1 hbb
    exact far b cs _ hcs (by decide) (by decide) (fun e => h.nd i j x y (by omega) hx hy b e hbb)
  · intro y hy b hbb j z hj hz
    rcases List.mem_append.1 hy with hy | hy
    · exact h.ef y hy b hbb j z (by omega) hz
    · have hv : y.1 = v0 ∨ y.1 = v1 ∨ y.1 = v2 ∨ y.1 = v3 := by
        simp only [List.mem_cons, List.not_mem_nil, or_false] at hy
        rcases hy with rfl | rfl | rfl | rfl <;> simp
      rcases (hb y.1 hv b hbb).1 with h' | h'
      · exact h.nd i j x z (by omega) hx hz b h'
      · intro e
        have := ((h.wl j z (by omega) hz).1.lt b e).2
        omega
  · have := h.cnt; rw [List.length_append]; simp; omega
  · intro b hbb
    rcases hib b hbb with h' | h'
    · exact h.ib b h'
    · exact .inr (Nat.le_trans h.kept.size h')
  · intro y hy b hbb
    rcases List.mem_append.1 hy with hy | hy
    · exact h.eb y hy b hbb
    · have hv : y.1 = v0 ∨ y.1 = v1 ∨ y.1 = v2 ∨ y.1 = v3 := by
        simp only [List.mem_cons, List.not_mem_nil, or_false] at hy
        rcases hy with rfl | rfl | rfl | rfl <;> simp
      rcases (hb y.1 hv b hbb).1 with h' | h'
      · exact .inl (h.o2 b (h.oS x (List.mem_of_getElem? hx) b h'))
      · exact .inr (Nat.le_trans h.kept.size h')
  · refine ⟨hk.os.trans h.kept.os, hk.tape.trans h.kept.tape, hk.output.trans h.kept.output, Nat.le_trans h.kept.size hk.size, fun b hb0 hn => ?_⟩
    rw [hk.block b (Nat.lt_of_lt_of_le hb0 h.kept.size) ⟨fun e => hn (e ▸ h.oW), fun e => ?_, fun e => hn (h.oS x (List.mem_of_getElem? hx) b e)⟩, h.kept.block b hb0 hn]
    rcases h.ib b e with h' | h'
    · exact hn h'
    · omega

theorem HInv.start {W1 : World} (h : HInv W D wb gsv rsv n iv wv ev es ws) (hb : Below W.heap.size W W1) : SInv W W1 D wb gsv rsv n iv wv ev es ws 0 (LW wb iv wv ev ws) (LOwn wb iv wv ev es ws) := by
  have hr : ∀ {e size n : Nat} {v : Value} {xs : List Value}, W.ownsRow D e size v n xs → W1.ownsRow D e size v n xs := fun h => row_keep h (fun b hbb => hb.block b (h.lt b hbb).2)
  refine ⟨(hb.block wb (lt_of_block h.w)).trans h.w, h.hD, hr h.i, hr h.t, ?_, ?_, ?_, h.nd, h.cnt, fun b hbb => .inl (.inr (.inl hbb)), .inl rfl, fun x hx b hbb => .inr (.inr (.inr (.inr ⟨x, hx, hbb⟩))), fun b hbb => .inl hbb, fun x hx b hbb => .inl (LOwn.en hx hbb), Fr.of_below hb⟩
  · intro x hx
    have hx' := h.ent x hx
    exact ⟨hx'.1.keep (fun b cs _ hcs => hb.block b (lt_of_block hcs)), hx'.2.1, fun b hbb => Nat.lt_of_lt_of_le (hx'.2.2 b hbb) hb.size⟩
  · intro j x _ hx
    have hx' := h.wl x (List.mem_of_getElem? hx)
    exact ⟨hr hx'.1, hx'.2.2⟩
  · intro x hx b hbb j y _ hy
    exact h.ef x hx b hbb y (List.mem_of_getElem? hy)

/-- All are marked; none waits. -/
theorem SInv.finish (h : SInv W0 W D wb gsv rsv n iv wv ev es ws ws.length O O2) :
    HInv ((W.setCell ⟨wb, 5, none⟩ (.slice none 0 0)).setCell ⟨wb, 6, none⟩ (.slice none 0 0)) D wb gsv rsv n iv (.slice none 0 0) (.slice none 0 0) es [] ∧ Fr O W0 ((W.setCell ⟨wb, 5, none⟩ (.slice none 0 0)).setCell ⟨wb, 6, none⟩ (.slice none 0 0)) ∧ ∀ b, LOwn wb iv (.slice none 0 0) (.slice none 0 0) es [] b → O2 b ∨ W0.heap.size ≤ b := by
  have h5 : (W.setCell ⟨wb, 5, none⟩ (.slice none 0 0)).heap[wb]? = some (.cells (lawCells gsv rsv n iv (.slice none 0 0) ev) 55 (0, 0)) := heap_setCell_same W wb 5 _ 55 _ h.w
  have h6 : ((W.setCell ⟨wb, 5, none⟩ (.slice none 0 0)).setCell ⟨wb, 6, none⟩ (.slice none 0 0)).heap[wb]? = some (.cells (lawCells gsv rsv n iv (.slice none 0 0) (.slice none 0 0)) 55 (0, 0)) := heap_setCell_same _ wb 6 _ 55 _ h5
  have ho : ∀ b, b ≠ wb → ((W.setCell ⟨wb, 5, none⟩ (.slice none 0 0)).setCell ⟨wb, 6, none⟩ (.slice none 0 0)).heap[b]? = W.heap[b]? := fun b hb => by
    rw [heap_setCell_other _ _ _ _ hb, heap_setCell_other _ _ _ _ hb]
  have hs : ((W.setCell ⟨wb, 5, none⟩ (.slice none 0 0)).setCell ⟨wb, 6, none⟩ (.slice none 0 0)).heap.size = W.heap.size := by simp [World.setCell]
  refine ⟨⟨h6, h.hD, row_keep h.r (fun b hb => ho b (fun e => row_ne h.r h.w (by decide) (e ▸ hb))), World.ownsRow_nil _ _ _ _, World.ownsRow_nil _ _ _ _, fun b hb => by simp [Value.ownBlock] at hb, ?_, ?_, ?_, ?_, ?_, h.cnt⟩, ?_, ?_⟩
  · intro x hx
    have hx' := h.ent x hx
    refine ⟨hx'.1.keep (fun b cs _ hcs => ho b ?_), hx'.2.1, fun b hb => by rw [hs]; exact hx'.2.2 b hb⟩
    rintro rfl; rw [h.w] at hcs; simp at hcs
  · intro x hx; simp at hx
  · intro i j x y _ hx; simp at hx
  · intro x _ b _ y hy; simp at hy
  · intro x hx; simp at hx
  · exact (h.kept.setCell (p := ⟨wb, 5, none⟩) h.oW _).setCell (p := ⟨wb, 6, none⟩) h.oW _
  · intro b hb
    rcases hb with (rfl | hb | hb | hb | ⟨x, hx, hb⟩) | ⟨x, hx, hb⟩ | ⟨x, hx, hb⟩
    · exact .inl (h.o2 _ h.oW)
    · exact (h.ib b hb).imp (h.o2 b) id
    · simp [Value.ownBlock] at hb
    · simp [Value.ownBlock] at hb
    · simp at hx
    · exact h.eb x hx b hb
    · simp at hx

theorem QInv.apart {qs : List Ent} (hq : QInv W D gsv.2 qs) (h : HInv W D wb gsv rsv n iv wv ev es ws) (b : Nat) (hb : QOwn gsv.2 qs b) : ¬ LW wb iv wv ev ws b := by
  obtain ⟨cs, t, hc, ht⟩ := hq.blk b hb
  rintro (rfl | e | e | e | ⟨x, hx, e⟩)
  · rw [h.w] at hc
    simp only [Option.some.injEq, Obj.cells.injEq] at hc
    rcases ht with rfl | rfl <;> exact absurd hc.2.1 (by decide)
  · exact row_ne h.i hc (by rcases ht with rfl | rfl <;> decide) e
  · exact row_ne h.t hc (by rcases ht with rfl | rfl <;> decide) e
  · exact row_ne h.e hc (by rcases ht with rfl | rfl <;> decide) e
  · exact row_ne (h.wl x hx).1 hc (by rcases ht with rfl | rfl <;> decide) e

set_option maxRecDepth 100000 in
set_option maxHeartbeats 1000000 in
theorem settlesL {qs : List Ent} (hq : QInv W D gsv.2 qs) (h : HInv W D wb gsv rsv n iv wv ev es ws) (hws : n + ws.length ≤ 100000000000) :
    Calls Tryz.prog 31 #[.pointer (some ⟨wb, 2, none⟩)] W fun e W' => e = .returned (.bool true) ∧ ∃ iv' es', HInv W' D wb gsv rsv (n + ws.length) iv' (.slice none 0 0) (.slice none 0 0) es' [] ∧ QInv W' D gsv.2 qs ∧ Fr (LW wb iv wv ev ws) W W' ∧ ∀ b, LOwn wb iv' (.slice none 0 0) (.slice none 0 0) es' [] b → LOwn wb iv wv ev es ws b ∨ W.heap.size ≤ b := by
  have HQ : Hid (QInv W D gsv.2 qs) := hq
  have HH : Hid (HInv W D wb gsv rsv n iv wv ev es ws) := h
  obtain ⟨tao, tcap, hwv, _, htc⟩ := rowForm h.t
  subst hwv
  have HTC : Hid _ := htc
  clear h htc hq
  go_enter Tryz.func31, Tryz.ntmps31
  go_wp2_with fail
  refine (waitsL HH.out.w HH.out.t HH.out.e (fun x hx => ⟨(HH.out.wl x hx).1, (HH.out.wl x hx).2.1, by have := (HH.out.wl x hx).2.2; omega⟩) (by omega)).mono ?_
  rintro e W1 ⟨rfl, hb1⟩
  have ST : Hid (SInv W W1 D wb gsv rsv n iv (.slice tao ws.length tcap) ev es ws 0 (LW wb iv (.slice tao ws.length tcap) ev ws) (LOwn wb iv (.slice tao ws.length tcap) ev es ws)) := HH.out.start hb1
  clear hb1
  go_wp2_with fail
  go_loopw [4] (fun i wr => ∃ (k : Nat) (iv' : Value) (es' : List Ent), k ≤ ws.length ∧ i = .int .i64 k ∧ SInv W wr D wb gsv rsv (n + k) iv' (.slice tao ws.length tcap) ev es' ws k (LW wb iv (.slice tao ws.length tcap) ev ws) (LOwn wb iv (.slice tao ws.length tcap) ev es ws)) (fun i _ => ws.length - (intOf i).toNat)
  case atStart => exact ⟨0, iv, es, Nat.zero_le _, rfl, ST.out⟩
  case round =>
    obtain ⟨k, iv', es', hk, rfl, hS⟩ := hrel
    clear ST
    obtain ⟨w2, rfl⟩ : ∃ w2 : World, w2 = wr := ⟨_, rfl⟩
    have c5 : w2.cell? ⟨wb, 5, none⟩ = some (.slice tao ws.length tcap) := law_cell hS.w 5
    have c6 : w2.cell? ⟨wb, 6, none⟩ = some ev := law_cell hS.w 6
    have f5 : ∀ i, w2.frozen? ⟨wb, i, none⟩ = false := law_free hS.w
    have S : Hid (SInv W w2 D wb gsv rsv (n + k) iv' (.slice tao ws.length tcap) ev es' ws k (LW wb iv (.slice tao ws.length tcap) ev ws) (LOwn wb iv (.slice tao ws.length tcap) ev es ws)) := hS
    clear hS
    by_cases hkl : k < ws.length
    · obtain ⟨x, hx⟩ : ∃ x, ws[k]? = some x := ⟨_, List.getElem?_eq_getElem hkl⟩
      have HX : Hid (ws[k]? = some x) := hx
      have hxl := S.out.wl k x (Nat.le_refl _) hx
      obtain ⟨tao', tcap', htv, _, htc2⟩ := rowForm S.out.t
      simp only [Value.slice.injEq, true_and] at htv
      obtain ⟨rfl, rfl⟩ := htv
      rcases htc2 with h0 | ⟨tg, rfl, htgs, htc2⟩
      · omega
      have ct : w2.cell? ⟨tg, k, none⟩ = some x.1 := by rw [htc2 k (by omega), List.getElem?_map, hx]; rfl
      obtain ⟨xao, xcap, hxv, _, _⟩ := rowForm hxl.1
      rw [hxv] at ct
      have HXL : Hid (w2.ownsRow D 3 1 (.slice xao x.2.2.length xcap) x.2.2.length (ints x.2.2)) := by rw [← hxv]; exact hxl.1
      have HXV : Hid (x.1 = .slice xao x.2.2.length xcap) := hxv
      have h300 := hxl.2
      have hcnt := S.out.cnt
      have HCN : Hid (es'.length ≤ 4 * (n + k)) := hcnt
      clear hx hxl htc2 hxv hcnt
      have ib : (k : Int) < (ws.length : Int) := by omega
      go_wp2_with fail
      refine (markInts S.out.w S.out.r HXL.out S.out.hD (by have := HCN.out; omega) (by omega) (by omega)).mono ?_
      rintro e w3 ⟨rfl, hp⟩
      rw [← HXV.out] at hp
      obtain ⟨iv3, es3, hS3⟩ := S.out.step HX.out hp
      have S3 : Hid (SInv W w3 D wb gsv rsv (n + k + 1) iv3 (.slice (some ⟨tg, 0, none⟩) ws.length tcap) ev es3 ws (k + 1) (LW wb iv (.slice (some ⟨tg, 0, none⟩) ws.length tcap) ev ws) (LOwn wb iv (.slice (some ⟨tg, 0, none⟩) ws.length tcap) ev es ws)) := hS3
      clear hp hS3
      go_wp2_with fail
      go_roundw
      case rel => exact ⟨k + 1, iv3, es3, hkl, by go_num, S3.out⟩
      case measure => simp [intOf]; omega
    · have ek : ws.length = k := by omega
      subst ek
      have FIN := S.out.finish
      have hne : ∀ x, x ∈ es' → x.2.1 ≤ 100000 := fun x hx => (FIN.1.ent x hx).2.1
      have HF : Hid _ := FIN
      have HN : Hid (∀ x, x ∈ es' → x.2.1 ≤ 100000) := hne
      have HCN : Hid (es'.length ≤ 4 * (n + ws.length)) := S.out.cnt
      clear FIN hne
      go_wp2_with fail
      have HQ6 : Hid (QInv _ D gsv.2 qs) := HQ.out.keep (fun b hb hl => HF.out.2.1.block b hl (HQ.out.apart HH.out b hb)) HF.out.2.1.size
      refine (dry HQ6.out HF.out.1.w HF.out.1.i (fun x hx => (HF.out.1.ent x hx).1) (by have := HCN.out; omega) HN.out).mono ?_
      rintro e w4 ⟨rfl, hb4⟩
      have END : Hid (HInv w4 D wb gsv rsv (n + ws.length) iv' (.slice none 0 0) (.slice none 0 0) es' [] ∧ QInv w4 D gsv.2 qs ∧ Fr (LW wb iv (.slice tao ws.length tcap) ev ws) W w4 ∧ ∀ b, LOwn wb iv' (.slice none 0 0) (.slice none 0 0) es' [] b → LOwn wb iv (.slice tao ws.length tcap) ev es ws b ∨ W.heap.size ≤ b) := ⟨HF.out.1.keep (fun b cs t hb _ => hb4.block b (lt_of_block hb)) hb4.size, HQ6.out.keep (fun b _ hl => hb4.block b hl) hb4.size, HF.out.2.1.trans (Fr.of_below hb4), HF.out.2.2⟩
      clear hb4
      go_wp2_with fail
      go_ret
      exact ⟨rfl, iv', es', END.out⟩

set_option maxRecDepth 100000 in
set_option maxHeartbeats 1000000 in
theorem looksL {qs : List Ent} (hq : QInv W D gsv.2 qs) (h : HInv W D wb gsv rsv n iv wv ev es ws) (hws : n + ws.length ≤ 100000000000) :
    Calls Tryz.prog 29 #[.pointer (some ⟨wb, 2, none⟩)] W fun e W' => e = .returned (.bool true) ∧ ∃ n' iv' wv' ev' es' ws', HInv W' D wb gsv rsv n' iv' wv' ev' es' ws' ∧ n' + ws'.length = n + ws.length ∧ (∀ x, x ∈ ws' → x ∈ ws) ∧ QInv W' D gsv.2 qs ∧ Fr (LW wb iv wv ev ws) W W' ∧ ∀ b, LOwn wb iv' wv' ev' es' ws' b → LOwn wb iv wv ev es ws b ∨ W.heap.size ≤ b := by
  have HQ : Hid (QInv W D gsv.2 qs) := hq
  have HH : Hid (HInv W D wb gsv rsv n iv wv ev es ws) := h
  obtain ⟨tao, tcap, hwv, _, _⟩ := rowForm h.t
  subst hwv
  have c5 : W.cell? ⟨wb, 5, none⟩ = some (.slice tao ws.length tcap) := law_cell h.w 5
  have HCN : Hid (es.length ≤ 4 * n) := h.cnt
  clear h hq
  by_cases h5 : 5 < ws.length
  · have t5 : (5 : Int) < (ws.length : Int) := by omega
    go_enter Tryz.func29, Tryz.ntmps29
    go_wp2_with fail
    refine (settlesL HQ.out HH.out hws).mono ?_
    rintro e W' ⟨rfl, iv', es', hH, hQ', hK, hO⟩
    have END : Hid (HInv W' D wb gsv rsv (n + ws.length) iv' (.slice none 0 0) (.slice none 0 0) es' [] ∧ QInv W' D gsv.2 qs ∧ Fr (LW wb iv (.slice tao ws.length tcap) ev ws) W W' ∧ ∀ b, LOwn wb iv' (.slice none 0 0) (.slice none 0 0) es' [] b → LOwn wb iv (.slice tao ws.length tcap) ev es ws b ∨ W.heap.size ≤ b) := ⟨hH, hQ', hK, hO⟩
    clear hH hK hQ' hO
    go_wp2_with fail
    go_ret
    exact ⟨rfl, _, iv', _, _, es', [], END.out.1, rfl, fun x hx => by simp at hx, END.out.2⟩
  · have t5 : ¬ (5 : Int) < (ws.length : Int) := by omega
    go_enter Tryz.func29, Tryz.ntmps29
    go_wp2_with fail
    refine (waitsL HH.out.w HH.out.t HH.out.e (fun x hx => ⟨(HH.out.wl x hx).1, (HH.out.wl x hx).2.1, by have := (HH.out.wl x hx).2.2; omega⟩) (by omega)).mono ?_
    rintro e W1 ⟨rfl, hb1⟩
    have H1 : Hid (HInv W1 D wb gsv rsv n iv (.slice tao ws.length tcap) ev es ws) := HH.out.keep (fun b cs t hb _ => hb1.block b (lt_of_block hb)) hb1.size
    have HB1 : Hid (Below W.heap.size W W1) := hb1
    clear hb1
    go_wp2_with fail
    have HQ1 : Hid (QInv W1 D gsv.2 qs) := HQ.out.keep (fun b _ hl => HB1.out.block b hl) HB1.out.size
    refine (dry HQ1.out H1.out.w H1.out.i (fun x hx => (H1.out.ent x hx).1) (by have := HCN.out; omega) (fun x hx => (H1.out.ent x hx).2.1)).mono ?_
    rintro e W2 ⟨rfl, hb2⟩
    have END : Hid (HInv W2 D wb gsv rsv n iv (.slice tao ws.length tcap) ev es ws ∧ QInv W2 D gsv.2 qs ∧ Fr (LW wb iv (.slice tao ws.length tcap) ev ws) W W2 ∧ ∀ b, LOwn wb iv (.slice tao ws.length tcap) ev es ws b → LOwn wb iv (.slice tao ws.length tcap) ev es ws b ∨ W.heap.size ≤ b) := ⟨H1.out.keep (fun b cs t hb _ => hb2.block b (lt_of_block hb)) hb2.size, HQ1.out.keep (fun b _ hl => hb2.block b hl) hb2.size, Fr.of_below (HB1.out.trans (hb2.mono HB1.out.size)), fun _ h => .inl h⟩
    clear hb2
    go_wp2_with fail
    go_ret
    exact ⟨rfl, n, iv, _, ev, es, ws, END.out.1, rfl, fun x hx => hx, END.out.2⟩
end
end Go.Proofs.YtcedebpoihcbdaaGreatDoor
