/-
  The document's own answer: single stores; what changes in its iterators ahead of a removal.
-/
import Derived.Test.YtcedebpoihcbdaaGreatDoorR2
import Derived.Test.YtcedebpoihcbdaaGreatDoorXA
import Derived.Test.YtcedebpoihcbdaaGreatDoorMaths
namespace Go.Proofs.YtcedebpoihcbdaaGreatDoor
open Go.RowKit Gv

section
variable {w w' : World} {r : Rx} {s : Fo} {K : Nat → List Nat}

/-- What stays where blocks of some types alone may turn. -/
theorem RefOK.part (h : RefOK w r) {ok : TypeId → Prop} (hk : ∀ (b : Nat) (cs : Array Value) (t : TypeId), w.heap[b]? = some (.cells cs t (0, 0)) → ok t → w'.heap[b]? = w.heap[b]?) :
    (ok 117 → w'.heap[r.rb]? = some (.cells #[.slice (some ⟨r.rn, 0, none⟩) (r.N + 1) r.cap, r.wv, r.iv, r.qv] 117 (0, 0))) ∧
    (ok 150 → w'.ownsRow 0 150 5 (.slice (some ⟨r.rn, 0, none⟩) (r.N + 1) r.cap) (r.N + 1) (refCells (r.N + 1) r.kn r.tag r.av r.par r.kv)) ∧
    (ok 3 → ∀ i, i ≤ r.N → w'.ownsRow 0 3 1 (r.kv i) (r.K i).length (ints (r.K i))) ∧
    (ok 199 → ∀ i, i ≤ r.N → w'.ownsRow 0 199 2 (r.av i) (r.ats i).length ((r.ats i).flatMap arow)) ∧
    (ok 177 → w'.ownsRow 0 177 3 r.wv r.wl.length (r.wl.flatMap wrow)) ∧
    (ok 206 → w'.ownsRow 0 206 5 r.iv r.il.length (r.il.flatMap It.row)) ∧
    (ok 207 → ∀ x, x ∈ r.il → w'.ownsRow 0 207 2 x.rules x.rl.length (x.rl.flatMap rrow) ∧ x.rl.length ≤ 10) ∧
    (ok 210 → w'.ownsRow 0 210 4 r.qv r.ql.length (r.ql.flatMap Wk.row)) ∧
    (ok 207 → ∀ x, x ∈ r.ql → w'.ownsRow 0 207 2 x.rules x.rl.length (x.rl.flatMap rrow) ∧ x.rl.length ≤ 10) := by
  have kr : ∀ {t size n : Nat} {v : Value} {xs : List Value}, w.ownsRow 0 t size v n xs → ok t → w'.ownsRow 0 t size v n xs := fun hr ho => row_keep hr (fun b hb => by
    obtain ⟨cs, hcs⟩ := row_block hr hb
    exact hk b cs _ hcs ho)
  exact ⟨fun ho => (hk _ _ _ h.g ho).trans h.g, fun ho => kr h.row ho, fun ho i hi => kr (h.kids i hi) ho, fun ho i hi => kr (h.att i hi) ho, fun ho => kr h.wat ho, fun ho => kr h.its ho, fun ho x hx => ⟨kr (h.irl x hx).1 ho, (h.irl x hx).2⟩, fun ho => kr h.wks ho, fun ho x hx => ⟨kr (h.qrl x hx).1 ho, (h.qrl x hx).2⟩⟩

/-- A store into a block of one type leaves those of others. -/
theorem store_apart {p : Addr} {cs0 : Array Value} {t0 : TypeId} (hp : w.heap[p.block]? = some (.cells cs0 t0 (0, 0))) (u : Value) : ∀ (b : Nat) (cs : Array Value) (t : TypeId), w.heap[b]? = some (.cells cs t (0, 0)) → t ≠ t0 → (w.setCell p u).heap[b]? = w.heap[b]? := by
  intro b cs t hb ht
  refine Below.heap_setCell _ _ _ _ (fun e => ?_)
  rw [← e, hb] at hp
  simp at hp
  exact ht hp.2

theorem RefOK.putPar (h : RefOK w r) {i : Nat} (v : Nat) (hi : i ≤ r.N) : RefOK (w.setCell ⟨r.rn, i * 5 + 3, none⟩ (.int .i64 v)) { r with par := up r.par i v } := by
  have hst := h.row.stored (i * 5 + 3) (.int .i64 v)
  have e := refCells_set (L := r.N + 1) (kn := r.kn) (tag := r.tag) (av := r.av) (par := r.par) (kv := r.kv) (kn' := r.kn) (tag' := r.tag) (av' := r.av) (par' := up r.par i v) (kv' := r.kv) (i := i) (j := 3) (v := .int .i64 v) (by omega) (by omega) (fun x hx => by simp [refRow, up_other _ _ _ hx]) (by simp [refRow, up_same])
  rw [e] at hst
  obtain ⟨cs, hcs⟩ := h.rnblock
  obtain ⟨p1, _, p3, p4, p5, p6, p7, p8, p9⟩ := h.part (ok := fun t => t ≠ 150) (w' := w.setCell ⟨r.rn, i * 5 + 3, none⟩ (.int .i64 v)) (store_apart (p := ⟨r.rn, i * 5 + 3, none⟩) hcs _)
  exact ⟨p1 (by decide), hst.1, h.hN, p3 (by decide), h.few, p4 (by decide), h.afew, h.hT, h.nd, p5 (by decide), h.wfew, p6 (by decide), h.ifew, p7 (by decide), p8 (by decide), h.qfew, p9 (by decide)⟩

theorem RefOK.putKids (h : RefOK w r) {i : Nat} {v : Value} {l : List Nat} (hi : i ≤ r.N) (hv : w.ownsRow 0 3 1 v l.length (ints l)) (hl : l.length ≤ 300) : RefOK (w.setCell ⟨r.rn, i * 5 + 4, none⟩ v) { r with kv := up r.kv i v, K := up r.K i l } := by
  have hst := h.row.stored (i * 5 + 4) v
  have e := refCells_set (L := r.N + 1) (kn := r.kn) (tag := r.tag) (av := r.av) (par := r.par) (kv := r.kv) (kn' := r.kn) (tag' := r.tag) (av' := r.av) (par' := r.par) (kv' := up r.kv i v) (i := i) (j := 4) (v := v) (by omega) (by omega) (fun x hx => by simp [refRow, up_other _ _ _ hx]) (by simp [refRow, up_same])
  rw [e] at hst
  obtain ⟨cs, hcs⟩ := h.rnblock
  have hap := store_apart (p := ⟨r.rn, i * 5 + 4, none⟩) hcs v
  obtain ⟨p1, _, p3, p4, p5, p6, p7, p8, p9⟩ := h.part (ok := fun t => t ≠ 150) (w' := w.setCell ⟨r.rn, i * 5 + 4, none⟩ v) hap
  refine ⟨p1 (by decide), hst.1, h.hN, fun j hj => ?_, fun j hj => ?_, p4 (by decide), h.afew, h.hT, h.nd, p5 (by decide), h.wfew, p6 (by decide), h.ifew, p7 (by decide), p8 (by decide), h.qfew, p9 (by decide)⟩
  · show (w.setCell ⟨r.rn, i * 5 + 4, none⟩ v).ownsRow 0 3 1 (up r.kv i v j) (up r.K i l j).length (ints (up r.K i l j))
    by_cases ej : j = i
    · subst ej; rw [up_same, up_same]
      refine row_keep hv (fun b hb => ?_)
      obtain ⟨cs', hcs'⟩ := row_block hv hb
      exact hap b cs' _ hcs' (by decide)
    · rw [up_other _ _ _ ej, up_other _ _ _ ej]; exact p3 (by decide) j hj
  · show (up r.K i l j).length ≤ 300
    by_cases ej : j = i
    · subst ej; rw [up_same]; exact hl
    · rw [up_other _ _ _ ej]; exact h.few j hj

theorem RefOK.itCell (h : RefOK w r) {ig n cap : Nat} (hv : r.iv = .slice (some ⟨ig, 0, none⟩) n cap) {i j : Nat} {it : It} (hi : r.il[i]? = some it) (hj : j < 5) : w.cell? ⟨ig, i * 5 + j, none⟩ = it.row[j]? := by
  have hl : i < r.il.length := (List.getElem?_eq_some_iff.1 hi).1
  have h' := h.its
  rw [hv] at h'
  obtain rfl := row_n h'
  rw [h'.cellAt (i * 5 + j) (by omega), flat_at It.row_len hi hj]

theorem RefOK.putIt (h : RefOK w r) {ig n cap : Nat} (hv : r.iv = .slice (some ⟨ig, 0, none⟩) n cap) {i j : Nat} {it it' : It} {v : Value} (hi : r.il[i]? = some it) (hj : j < 5) (hs : it'.row = it.row.set j v) (he : it'.rules = it.rules ∧ it'.rl = it.rl) :
    RefOK (w.setCell ⟨ig, i * 5 + j, none⟩ v) { r with il := r.il.set i it' } := by
  have h' := h.its
  rw [hv] at h'
  obtain rfl := row_n h'
  obtain ⟨cs, hcs⟩ := row_block h' rfl
  have hst := (h'.stored (i * 5 + j) v).1
  rw [flat_set It.row_len hi hj hs] at hst
  obtain ⟨p1, p2, p3, p4, p5, _, p7, p8, p9⟩ := h.part (ok := fun t => t ≠ 206) (w' := w.setCell ⟨ig, i * 5 + j, none⟩ v) (store_apart (p := ⟨ig, i * 5 + j, none⟩) hcs v)
  refine ⟨p1 (by decide), p2 (by decide), h.hN, p3 (by decide), h.few, p4 (by decide), h.afew, h.hT, h.nd, p5 (by decide), h.wfew, ?_, ?_, fun x hx => ?_, p8 (by decide), h.qfew, p9 (by decide)⟩
  · show (w.setCell ⟨ig, i * 5 + j, none⟩ v).ownsRow 0 _ 5 r.iv (r.il.set i it').length ((r.il.set i it').flatMap It.row)
    rw [hv, List.length_set]; exact hst
  · show (r.il.set i it').length ≤ 50
    rw [List.length_set]; exact h.ifew
  · rcases List.mem_or_eq_of_mem_set hx with hx | rfl
    · exact p7 (by decide) x hx
    · rw [he.1, he.2]; exact p7 (by decide) it (List.mem_of_getElem? hi)

theorem RefOK.drew (h : RefOK w r) : RefOK w.drew r := h.keep (fun _ _ => rfl)
theorem RefOK.ifree (h : RefOK w r) {ig n cap : Nat} (hv : r.iv = .slice (some ⟨ig, 0, none⟩) n cap) (j : Nat) : w.frozen? ⟨ig, j, none⟩ = false := by
  have h' := h.its
  rw [hv] at h'
  obtain rfl := row_n h'
  exact h'.frozenAt j

/-- The document's way with an iterator ahead of a removal: by the places in the list. -/
theorem leave_stays {N : Nat} (hwf : WF N s K) {c : Nat} (hc1 : 1 ≤ c) {it : It} (hit : it.Sound N s) (h : ¬ (Desc s.par it.spot.place c ∧ ¬ Desc s.par it.spot.root c)) : it.leave N s c = it := by
  obtain ⟨_, hrN, _, hpN, _⟩ := hit
  unfold It.leave
  rw [leave_stay (fun e => h ⟨(Gv.within_iff hwf hpN hc1).1 e.1, fun d => by have := (Gv.within_iff hwf hrN hc1).2 d; rw [e.2] at this; cases this⟩)]

theorem leave_goes {N : Nat} (hwf : WF N s K) {c : Nat} (hc1 : 1 ≤ c) (hcN : c ≤ N) {it : It} (hit : it.Sound N s) (hp : Desc s.par it.spot.place c) (hr : ¬ Desc s.par it.spot.root c) :
    ∃ k, (P N K it.spot.root)[k]? = some c ∧ 1 ≤ k ∧ k + (P N K c).length ≤ (P N K it.spot.root).length ∧
      (it.spot.ahead = true → k + (P N K c).length < (P N K it.spot.root).length → it.leave N s c = { it with spot := { it.spot with place := (P N K it.spot.root).getD (k + (P N K c).length) 0 } }) ∧
      (¬ (it.spot.ahead = true ∧ k + (P N K c).length < (P N K it.spot.root).length) → it.leave N s c = { it with spot := { it.spot with place := (P N K it.spot.root).getD (k - 1) 0, ahead := false } }) := by
  obtain ⟨h1, hrN, hp1, hpN, hd⟩ := hit
  have w1 : withF s N it.spot.place c = true := (Gv.within_iff hwf hpN hc1).2 hp
  have w2 : withF s N it.spot.root c = false := by
    cases e : withF s N it.spot.root c with
    | false => rfl
    | true => exact absurd ((Gv.within_iff hwf hrN hc1).1 e) hr
  have hcr : Desc s.par c it.spot.root := by
    rcases desc_line hp hd with h | h
    · exact h
    · exact absurd h hr
  have hne : c ≠ it.spot.root := fun e => hr (e ▸ Desc.refl _ _)
  obtain ⟨k, k1, k2, k3, k4, k5, k6⟩ := leave_by hwf (by omega) hc1 hcN h1 hrN hcr hne
  refine ⟨k, k1, k2, k3, fun ha hl => ?_, fun hn => ?_⟩
  · unfold It.leave
    rw [leave_past w1 w2 ha (k6.2 hl), k5]
  · unfold It.leave
    rw [leave_prev w1 w2 (fun e => hn ⟨e.1, k6.1 e.2⟩), k4]
end
end Go.Proofs.YtcedebpoihcbdaaGreatDoor
