/-
  The document's own answer: how its grove lies in memory; what its looks do.
-/
import Derived.Test.YtcedebpoihcbdaaGreatDoorGA
import Derived.Test.YtcedebpoihcbdaaGreatDoorH4
namespace Go.Proofs.YtcedebpoihcbdaaGreatDoor
open Go.RowKit Gv

/-! ### its nodes' row -/
def refRow (kn : Nat → Nat) (tag : Nat → ByteArray) (av : Nat → Value) (par : Nat → Nat) (kv : Nat → Value) (i : Nat) : List Value :=
  [.int .i64 (kn i), .string (tag i), av i, .int .i64 (par i), kv i]

def refCells (L : Nat) (kn : Nat → Nat) (tag : Nat → ByteArray) (av : Nat → Value) (par : Nat → Nat) (kv : Nat → Value) : List Value := (List.range L).flatMap (refRow kn tag av par kv)

section
variable {kn kn' : Nat → Nat} {tag tag' : Nat → ByteArray} {av av' : Nat → Value} {par par' : Nat → Nat} {kv kv' : Nat → Value}

theorem refCells_succ (L : Nat) : refCells (L + 1) kn tag av par kv = refCells L kn tag av par kv ++ refRow kn tag av par kv L := by simp [refCells, List.range_succ]

theorem refCells_length (L : Nat) : (refCells L kn tag av par kv).length = L * 5 := by
  induction L with
  | zero => rfl
  | succ L ih => rw [refCells_succ, List.length_append, ih]; simp [refRow]; omega

theorem refCells_at {L i j : Nat} (hi : i < L) (hj : j < 5) : (refCells L kn tag av par kv)[i * 5 + j]? = (refRow kn tag av par kv i)[j]? := by
  induction L with
  | zero => omega
  | succ L ih =>
    rw [refCells_succ]
    by_cases e : i = L
    · subst e
      rw [List.getElem?_append_right (by rw [refCells_length]; omega), refCells_length]
      congr 1
      omega
    · rw [List.getElem?_append_left (by rw [refCells_length]; omega)]
      exact ih (by omega)

theorem refCells_congr {L : Nat} (h : ∀ i, i < L → refRow kn' tag' av' par' kv' i = refRow kn tag av par kv i) : refCells L kn' tag' av' par' kv' = refCells L kn tag av par kv := by
  induction L with
  | zero => rfl
  | succ L ih => rw [refCells_succ, refCells_succ, ih (fun i hi => h i (by omega)), h L (by omega)]

theorem refCells_set {L i j : Nat} {v : Value} (hi : i < L) (hj : j < 5) (ho : ∀ x, x ≠ i → refRow kn' tag' av' par' kv' x = refRow kn tag av par kv x) (hs : refRow kn' tag' av' par' kv' i = (refRow kn tag av par kv i).set j v) :
    (refCells L kn tag av par kv).set (i * 5 + j) v = refCells L kn' tag' av' par' kv' := by
  induction L with
  | zero => omega
  | succ L ih =>
    rw [refCells_succ, refCells_succ, List.set_append, refCells_length]
    by_cases e : i = L
    · subst e
      rw [if_neg (by omega), hs, refCells_congr (kn := kn) (tag := tag) (av := av) (par := par) (kv := kv) (kn' := kn') (tag' := tag') (av' := av') (par' := par') (kv' := kv') (fun x hx => ho x (by omega))]
      congr 2
      omega
    · rw [if_pos (by omega), ih (by omega), ho L (fun e' => e e'.symm)]
end

/-! ### its grove -/
abbrev Atr := ByteArray × ByteArray
def arow (x : Atr) : List Value := [.string x.1, .string x.2]
abbrev Wat := Nat × Nat × ByteArray
def wrow (x : Wat) : List Value := [.int .i64 x.1, .int .i64 x.2.1, .string x.2.2]

/-- The document's grove: where it lies, and what it holds. -/
structure Rx where
  rb : Nat
  rn : Nat
  cap : Nat
  N : Nat
  kn : Nat → Nat
  tag : Nat → ByteArray
  av : Nat → Value
  par : Nat → Nat
  kv : Nat → Value
  K : Nat → List Nat
  ats : Nat → List Atr
  /-- no node has more attributes -/
  top : Nat
  wv : Value
  wl : List Wat
  iv : Value
  il : List It
  qv : Value
  ql : List Wk

/-- The blocks that it lies in. -/
def Rx.own (r : Rx) (b : Nat) : Prop :=
  b = r.rb ∨ b = r.rn ∨ (∃ i, i ≤ r.N ∧ (r.kv i).ownBlock = some b) ∨ (∃ i, i ≤ r.N ∧ (r.av i).ownBlock = some b) ∨ r.wv.ownBlock = some b ∨ r.iv.ownBlock = some b ∨ r.qv.ownBlock = some b ∨
  (∃ x, x ∈ r.il ∧ x.rules.ownBlock = some b) ∨ (∃ x, x ∈ r.ql ∧ x.rules.ownBlock = some b)

structure RefOK (w : World) (r : Rx) : Prop where
  g : w.heap[r.rb]? = some (.cells #[.slice (some ⟨r.rn, 0, none⟩) (r.N + 1) r.cap, r.wv, r.iv, r.qv] 117 (0, 0))
  row : w.ownsRow 0 150 5 (.slice (some ⟨r.rn, 0, none⟩) (r.N + 1) r.cap) (r.N + 1) (refCells (r.N + 1) r.kn r.tag r.av r.par r.kv)
  hN : r.N ≤ 300
  kids : ∀ i, i ≤ r.N → w.ownsRow 0 3 1 (r.kv i) (r.K i).length (ints (r.K i))
  few : ∀ i, i ≤ r.N → (r.K i).length ≤ 300
  att : ∀ i, i ≤ r.N → w.ownsRow 0 199 2 (r.av i) (r.ats i).length ((r.ats i).flatMap arow)
  afew : ∀ i, i ≤ r.N → (r.ats i).length ≤ r.top
  hT : r.top ≤ 4000000
  nd : ∀ i j, i ≤ r.N → j ≤ r.N → i ≠ j → ∀ b, (r.av i).ownBlock = some b → (r.av j).ownBlock ≠ some b
  wat : w.ownsRow 0 177 3 r.wv r.wl.length (r.wl.flatMap wrow)
  wfew : r.wl.length ≤ 50
  its : w.ownsRow 0 206 5 r.iv r.il.length (r.il.flatMap It.row)
  ifew : r.il.length ≤ 50
  irl : ∀ x, x ∈ r.il → w.ownsRow 0 207 2 x.rules x.rl.length (x.rl.flatMap rrow) ∧ x.rl.length ≤ 10
  wks : w.ownsRow 0 210 4 r.qv r.ql.length (r.ql.flatMap Wk.row)
  qfew : r.ql.length ≤ 50
  qrl : ∀ x, x ∈ r.ql → w.ownsRow 0 207 2 x.rules x.rl.length (x.rl.flatMap rrow) ∧ x.rl.length ≤ 10

section
variable {w w' W : World} {r r' : Rx}

theorem RefOK.rnblock (h : RefOK w r) : ∃ cs, w.heap[r.rn]? = some (.cells cs 150 (0, 0)) := row_block h.row rfl
theorem RefOK.ne (h : RefOK w r) : r.rb ≠ r.rn := by
  obtain ⟨cs, hcs⟩ := h.rnblock
  intro e
  have := h.g
  rw [e, hcs] at this
  simp at this
theorem RefOK.c0 (h : RefOK w r) : w.cell? ⟨r.rb, 0, none⟩ = some (.slice (some ⟨r.rn, 0, none⟩) (r.N + 1) r.cap) := by simp [World.cell?, h.g]
theorem RefOK.c1 (h : RefOK w r) : w.cell? ⟨r.rb, 1, none⟩ = some r.wv := by simp [World.cell?, h.g]
theorem RefOK.c2 (h : RefOK w r) : w.cell? ⟨r.rb, 2, none⟩ = some r.iv := by simp [World.cell?, h.g]
theorem RefOK.c3 (h : RefOK w r) : w.cell? ⟨r.rb, 3, none⟩ = some r.qv := by simp [World.cell?, h.g]
theorem RefOK.free (h : RefOK w r) (j : Nat) : w.frozen? ⟨r.rn, j, none⟩ = false := h.row.frozenAt j
theorem RefOK.gfree (h : RefOK w r) (j : Nat) : w.frozen? ⟨r.rb, j, none⟩ = false := by simp [World.frozen?, h.g]
theorem RefOK.cellAt (h : RefOK w r) {i j : Nat} (hi : i ≤ r.N) (hj : j < 5) : w.cell? ⟨r.rn, i * 5 + j, none⟩ = (refRow r.kn r.tag r.av r.par r.kv i)[j]? := by
  rw [h.row.cellAt (i * 5 + j) (by omega), refCells_at (by omega) hj]
theorem RefOK.ckn (h : RefOK w r) {i : Nat} (hi : i ≤ r.N) : w.cell? ⟨r.rn, i * 5, none⟩ = some (.int .i64 (r.kn i)) := h.cellAt (j := 0) hi (by omega)
theorem RefOK.ctag (h : RefOK w r) {i : Nat} (hi : i ≤ r.N) : w.cell? ⟨r.rn, i * 5 + 1, none⟩ = some (.string (r.tag i)) := h.cellAt (j := 1) hi (by omega)
theorem RefOK.cav (h : RefOK w r) {i : Nat} (hi : i ≤ r.N) : w.cell? ⟨r.rn, i * 5 + 2, none⟩ = some (r.av i) := h.cellAt (j := 2) hi (by omega)
theorem RefOK.cpar (h : RefOK w r) {i : Nat} (hi : i ≤ r.N) : w.cell? ⟨r.rn, i * 5 + 3, none⟩ = some (.int .i64 (r.par i)) := h.cellAt (j := 3) hi (by omega)
theorem RefOK.ckv (h : RefOK w r) {i : Nat} (hi : i ≤ r.N) : w.cell? ⟨r.rn, i * 5 + 4, none⟩ = some (r.kv i) := h.cellAt (j := 4) hi (by omega)
theorem RefOK.ltb (h : RefOK w r) : r.rb < w.heap.size := lt_of_block h.g
theorem RefOK.ltn (h : RefOK w r) : r.rn < w.heap.size := by obtain ⟨cs, hcs⟩ := h.rnblock; exact lt_of_block hcs

section
variable {b : Nat}
theorem Rx.own_b : r.own r.rb := .inl rfl
theorem Rx.own_n : r.own r.rn := .inr (.inl rfl)
theorem Rx.own_k {i : Nat} (hi : i ≤ r.N) (h : (r.kv i).ownBlock = some b) : r.own b := .inr (.inr (.inl ⟨i, hi, h⟩))
theorem Rx.own_a {i : Nat} (hi : i ≤ r.N) (h : (r.av i).ownBlock = some b) : r.own b := .inr (.inr (.inr (.inl ⟨i, hi, h⟩)))
theorem Rx.own_w (h : r.wv.ownBlock = some b) : r.own b := .inr (.inr (.inr (.inr (.inl h))))
theorem Rx.own_i (h : r.iv.ownBlock = some b) : r.own b := .inr (.inr (.inr (.inr (.inr (.inl h)))))
theorem Rx.own_q (h : r.qv.ownBlock = some b) : r.own b := .inr (.inr (.inr (.inr (.inr (.inr (.inl h))))))
theorem Rx.own_ir {x : It} (hx : x ∈ r.il) (h : x.rules.ownBlock = some b) : r.own b := .inr (.inr (.inr (.inr (.inr (.inr (.inr (.inl ⟨x, hx, h⟩)))))))
theorem Rx.own_qr {x : Wk} (hx : x ∈ r.ql) (h : x.rules.ownBlock = some b) : r.own b := .inr (.inr (.inr (.inr (.inr (.inr (.inr (.inr ⟨x, hx, h⟩)))))))
end

/-- Blocks that are not its own may turn. -/
theorem RefOK.keep (h : RefOK w r) (hk : ∀ b, r.own b → w'.heap[b]? = w.heap[b]?) : RefOK w' r :=
  ⟨(hk _ Rx.own_b).trans h.g, row_keep h.row (fun b hb => by simp only [Value.ownBlock, Option.some.injEq] at hb; subst hb; exact hk _ Rx.own_n), h.hN, fun i hi => row_keep (h.kids i hi) (fun b hb => hk b (Rx.own_k hi hb)), h.few,
    fun i hi => row_keep (h.att i hi) (fun b hb => hk b (Rx.own_a hi hb)), h.afew, h.hT, h.nd, row_keep h.wat (fun b hb => hk b (Rx.own_w hb)), h.wfew, row_keep h.its (fun b hb => hk b (Rx.own_i hb)), h.ifew,
    fun x hx => ⟨row_keep (h.irl x hx).1 (fun b hb => hk b (Rx.own_ir hx hb)), (h.irl x hx).2⟩, row_keep h.wks (fun b hb => hk b (Rx.own_q hb)), h.qfew, fun x hx => ⟨row_keep (h.qrl x hx).1 (fun b hb => hk b (Rx.own_qr hx hb)), (h.qrl x hx).2⟩⟩

theorem RefOK.bounds (h : RefOK w r) {b : Nat} (hb : r.own b) : b < w.heap.size := by
  rcases hb with rfl | rfl | ⟨i, hi, hb⟩ | ⟨i, hi, hb⟩ | hb | hb | hb | ⟨x, hx, hb⟩ | ⟨x, hx, hb⟩
  · exact h.ltb
  · exact h.ltn
  · exact ((h.kids i hi).lt b hb).2
  · exact ((h.att i hi).lt b hb).2
  · exact (h.wat.lt b hb).2
  · exact (h.its.lt b hb).2
  · exact (h.wks.lt b hb).2
  · exact ((h.irl x hx).1.lt b hb).2
  · exact ((h.qrl x hx).1.lt b hb).2

theorem RefOK.since (h : RefOK w r) (hb : Below w.heap.size w w') : RefOK w' r := h.keep (fun b hbb => hb.block b (h.bounds hbb))
theorem RefOK.frOther {S : Nat → Prop} (h : RefOK w r) (hf : Fr S w w') (hS : ∀ i, r.own i → ¬ S i) : RefOK w' r := h.keep (fun i hi => hf.block i (h.bounds hi) (hS i hi))

/-- What a call leaves of the document's grove. -/
structure RPost (w w' : World) (r r' : Rx) : Prop where
  ok : RefOK w' r'
  fr : Fr r.own w w'
  own : ∀ i, r'.own i → r.own i ∨ w.heap.size ≤ i
  at_ : r'.rb = r.rb

theorem RPost.of_below (h : RefOK w r) (hb : Below w.heap.size w w') : RPost w w' r r := ⟨h.since hb, Fr.of_below hb, fun _ hi => .inl hi, rfl⟩
theorem RPost.refl (h : RefOK w r) : RPost w w r r := RPost.of_below h (Below.refl _ _)
theorem RPost.trans {w2 : World} {r2 : Rx} (h : RPost w w' r r') (k : RPost w' w2 r' r2) : RPost w w2 r r2 := by
  refine ⟨k.ok, ⟨k.fr.os.trans h.fr.os, k.fr.tape.trans h.fr.tape, k.fr.output.trans h.fr.output, Nat.le_trans h.fr.size k.fr.size, fun i hi hn => ?_⟩, fun i hi => ?_, k.at_.trans h.at_⟩
  · rw [k.fr.block i (Nat.lt_of_lt_of_le hi h.fr.size) (fun e => ?_), h.fr.block i hi hn]
    rcases h.own i e with e | e
    · exact hn e
    · omega
  · rcases k.own i hi with e | e
    · exact h.own i e
    · exact .inr (Nat.le_trans h.fr.size e)

/-- What it holds may be told otherwise, where it reads alike. -/
theorem RefOK.congr (h : RefOK w r) (kn' : Nat → Nat) (tag' : Nat → ByteArray) (par' : Nat → Nat) (K' : Nat → List Nat) (ats' : Nat → List Atr)
    (e : ∀ i, i ≤ r.N → kn' i = r.kn i ∧ tag' i = r.tag i ∧ par' i = r.par i ∧ K' i = r.K i ∧ ats' i = r.ats i) : RefOK w { r with kn := kn', tag := tag', par := par', K := K', ats := ats' } := by
  refine ⟨h.g, ?_, h.hN, fun i hi => ?_, fun i hi => ?_, fun i hi => ?_, fun i hi => ?_, h.hT, h.nd, h.wat, h.wfew, h.its, h.ifew, h.irl, h.wks, h.qfew, h.qrl⟩
  · rw [refCells_congr (kn := r.kn) (tag := r.tag) (av := r.av) (par := r.par) (kv := r.kv) (kn' := kn') (tag' := tag') (av' := r.av) (par' := par') (kv' := r.kv) (fun i hi => by
      obtain ⟨e1, e2, e3, _⟩ := e i (Nat.le_of_lt_succ hi)
      simp only [refRow, e1, e2, e3])]
    exact h.row
  · show w.ownsRow 0 3 1 (r.kv i) (K' i).length (ints (K' i))
    rw [(e i hi).2.2.2.1]; exact h.kids i hi
  · show (K' i).length ≤ 300
    rw [(e i hi).2.2.2.1]; exact h.few i hi
  · show w.ownsRow 0 _ 2 (r.av i) (ats' i).length ((ats' i).flatMap arow)
    rw [(e i hi).2.2.2.2]; exact h.att i hi
  · show (ats' i).length ≤ r.top
    rw [(e i hi).2.2.2.2]; exact h.afew i hi

theorem refIs (h : RefOK W r) (n : Int) :
    Calls Tryz.prog 142 #[.pointer (some ⟨r.rb, 0, none⟩), .int .i64 n] W fun e w' => e = .returned (.bool (hasB (r.N + 1) n)) ∧ w' = W := by
  have hL := h.hN
  have hg := h.c0
  obtain ⟨L, hLe⟩ : ∃ L, L = r.N + 1 := ⟨_, rfl⟩
  rw [← hLe] at hg ⊢
  have hL3 : L ≤ 301 := by omega
  clear h hLe
  by_cases h1 : 1 ≤ n
  · by_cases h2 : n < L
    · have e1 : hasB L n = true := by simp [hasB, h1, h2]
      rw [e1]; clear e1
      go_enter Tryz.func142, Tryz.ntmps142
      go_wp2
      go_ret
      exact ⟨rfl, rfl⟩
    · have e1 : hasB L n = false := by simp [hasB, h2]
      rw [e1]; clear e1
      have h3 : (L : Int) ≤ n := by omega
      go_enter Tryz.func142, Tryz.ntmps142
      go_wp2
      go_ret
      exact ⟨rfl, rfl⟩
  · have e1 : hasB L n = false := by simp [hasB, h1]
    rw [e1]; clear e1
    have h3 : n < 1 := by omega
    go_enter Tryz.func142, Tryz.ntmps142
    go_wp2
    go_ret
    exact ⟨rfl, rfl⟩

/-- Whatever number it is asked of: its parent, or ErrNode. -/
theorem refParent (h : RefOK W r) (n : Int) :
    Calls Tryz.prog 96 #[.pointer (some ⟨r.rb, 0, none⟩), .int .i64 n] W fun e w' => w' = W ∧ ((hasB (r.N + 1) n = true ∧ e = .returned (.tuple #[.int .i64 (r.par n.toNat), .int .i64 0])) ∨ (hasB (r.N + 1) n = false ∧ e = .returned (.tuple #[.int .i64 0, .int .i64 5]))) := by
  have HH : Hid (RefOK W r) := h
  have hL := h.hN
  have hg := h.c0
  obtain ⟨L, hLe⟩ : ∃ L, L = r.N + 1 := ⟨_, rfl⟩
  rw [← hLe] at hg
  have hL3 : L ≤ 301 := by omega
  have HLe : Hid (L = r.N + 1) := hLe
  clear hLe
  cases hb : hasB (r.N + 1) n with
  | false =>
    have HB : Hid (hasB (r.N + 1) n = false) := hb
    clear hb h
    go_enter Tryz.func96, Tryz.ntmps96
    go_wp2_with fail
    refine (refIs HH.out n).mono ?_
    rintro e W ⟨rfl, rfl⟩
    rw [HB.out]
    go_wp2_with fail
    go_ret2
    exact ⟨rfl, .inr ⟨trivial, rfl⟩⟩
  | true =>
    have HB : Hid (hasB (r.N + 1) n = true) := hb
    have hn : 1 ≤ n ∧ n < r.N + 1 := by simpa [hasB] using hb
    obtain ⟨m, rfl⟩ := Int.eq_ofNat_of_zero_le (show 0 ≤ n by omega)
    have hm : m ≤ r.N := by omega
    have hmL : (m : Int) < (L : Int) := by have := HLe.out; omega
    have hc := h.cpar hm
    clear hb h hn
    go_enter Tryz.func96, Tryz.ntmps96
    go_wp2_with fail
    refine (refIs HH.out m).mono ?_
    rintro e W ⟨rfl, rfl⟩
    rw [HB.out]
    go_wp2_with fail
    go_ret2
    exact ⟨rfl, .inl ⟨trivial, rfl⟩⟩

theorem refKids (h : RefOK W r) (n : Int) :
    Calls Tryz.prog 94 #[.pointer (some ⟨r.rb, 0, none⟩), .int .i64 n] W fun e w' => w' = W ∧ ((hasB (r.N + 1) n = true ∧ e = .returned (.tuple #[r.kv n.toNat, .int .i64 0])) ∨ (hasB (r.N + 1) n = false ∧ e = .returned (.tuple #[.slice none 0 0, .int .i64 5]))) := by
  have HH : Hid (RefOK W r) := h
  have hL := h.hN
  have hg := h.c0
  obtain ⟨L, hLe⟩ : ∃ L, L = r.N + 1 := ⟨_, rfl⟩
  rw [← hLe] at hg
  have hL3 : L ≤ 301 := by omega
  have HLe : Hid (L = r.N + 1) := hLe
  clear hLe
  cases hb : hasB (r.N + 1) n with
  | false =>
    have HB : Hid (hasB (r.N + 1) n = false) := hb
    clear hb h
    go_enter Tryz.func94, Tryz.ntmps94
    go_wp2_with fail
    refine (refIs HH.out n).mono ?_
    rintro e W ⟨rfl, rfl⟩
    rw [HB.out]
    go_wp2_with fail
    go_ret2
    exact ⟨rfl, .inr ⟨trivial, rfl⟩⟩
  | true =>
    have HB : Hid (hasB (r.N + 1) n = true) := hb
    have hn : 1 ≤ n ∧ n < r.N + 1 := by simpa [hasB] using hb
    obtain ⟨m, rfl⟩ := Int.eq_ofNat_of_zero_le (show 0 ≤ n by omega)
    have hm : m ≤ r.N := by omega
    have hmL : (m : Int) < (L : Int) := by have := HLe.out; omega
    have hc := h.ckv hm
    obtain ⟨kao, kcap, hkv, _⟩ := rowForm (h.kids m hm)
    have HKV : Hid (r.kv m = .slice kao (r.K m).length kcap) := hkv
    rw [hkv] at hc
    clear hb h hn hkv
    go_enter Tryz.func94, Tryz.ntmps94
    go_wp2_with fail
    refine (refIs HH.out m).mono ?_
    rintro e W ⟨rfl, rfl⟩
    rw [HB.out]
    go_wp2_with fail
    go_ret2
    exact ⟨rfl, .inl ⟨trivial, by rw [Int.toNat_natCast, HKV.out]; rfl⟩⟩

set_option maxRecDepth 100000 in
set_option maxHeartbeats 400000 in
theorem refIn {s : Fo} {K : Nat → List Nat} (h : RefOK W r) (hp : r.par = s.par) (hwf : WF r.N s K) (n t : Nat) (hn : n ≤ r.N) (ht : 1 ≤ t) :
    Calls Tryz.prog 143 #[.pointer (some ⟨r.rb, 0, none⟩), .int .i64 n, .int .i64 t] W fun e w' => ∃ b : Bool, e = .returned (.bool b) ∧ (b = true ↔ Desc s.par n t) ∧ w' = W := by
  have HH : Hid (RefOK W r) := h
  have HW : Hid (WF r.N s K) := hwf
  have hL := h.hN
  have hg := h.c0
  obtain ⟨L, hLe⟩ : ∃ L, L = r.N + 1 := ⟨_, rfl⟩
  rw [← hLe] at hg
  have HLe : Hid (L = r.N + 1) := hLe
  have hL3 : L ≤ 301 := by omega
  clear hLe
  have HPE : Hid (r.par = s.par) := hp
  clear h hwf hp
  go_enter Tryz.func143, Tryz.ntmps143
  go_wp2_with fail
  go_loopg [1] r.N (fun m i wr => ∃ x : Nat, i = .int .i64 x ∧ x ≤ r.N ∧ wr = W ∧ anc s.par m x = 0 ∧ (Desc s.par n t ↔ Desc s.par x t))
  case atStart => exact ⟨n, rfl, hn, rfl, HW.out.top n hn, Iff.rfl⟩
  case round =>
    obtain ⟨x, rfl, hx, rfl, ha, hd⟩ := hrel
    have HA : Hid (anc s.par gk x = 0) := ha
    have HD : Hid (Desc s.par n t ↔ Desc s.par x t) := hd
    clear ha hd
    by_cases e0 : x = 0
    · subst e0
      go_wp2_with fail
      go_ret
      exact ⟨_, rfl, by rw [HD.out]; simp [desc_zero HW.out.z ht], rfl⟩
    · have e0' : ((x : Int) != 0) = true := by simp; omega
      by_cases et : x = t
      · subst et
        go_wp2_with fail
        go_ret
        exact ⟨_, rfl, by rw [HD.out]; simp [Desc.refl], rfl⟩
      · have et' : ((x : Int) == (t : Int)) = false := by simp; omega
        have ET : Hid (x ≠ t) := et
        have E0 : Hid (x ≠ 0) := e0
        have hc := HH.out.cpar (i := x) hx
        rw [HPE.out] at hc
        have hxL : (x : Int) < (L : Int) := by have := HLe.out; omega
        clear et e0
        go_wp2_with fail
        cases gk with
        | zero => exact absurd HA.out E0.out
        | succ m =>
          go_roundg m
          case measure => omega
          case rel => exact ⟨s.par x, rfl, HW.out.parLe x hx, rfl, HA.out, HD.out.trans (desc_step ET.out)⟩

set_option maxRecDepth 100000 in
set_option maxHeartbeats 400000 in
theorem refAt {D : Nat} (w : World) (v : Value) (l : List Nat) (x n : Nat) (hv : w.ownsRow D 3 1 v n (ints l)) (hnl : n = l.length) (hn : l.length ≤ 1000) (hx : x ∈ l) :
    Calls Tryz.prog 144 #[v, .int .i64 x] w fun e w' => w' = w ∧ ∃ k, k < l.length ∧ l[k]? = some x ∧ e = .returned (.int .i64 (k : Nat)) := by
  subst hnl
  obtain ⟨ao, cap, rfl, hN⟩ := nums_form hv rfl
  have HN : Hid _ := hN
  have HX : Hid (x ∈ l) := hx
  clear hN hv hx
  go_enter Tryz.func144, Tryz.ntmps144
  go_wp2_with fail
  go_loop [5] (fun i => ∃ k : Nat, k ≤ l.length ∧ i = .int .i64 k ∧ x ∉ l.take k) (fun i => l.length - (intOf i).toNat)
  case atStart => exact ⟨0, Nat.zero_le _, rfl, by simp⟩
  case round =>
    obtain ⟨k, hk, rfl, hxk⟩ := hrel
    have HXK : Hid (x ∉ l.take k) := hxk
    clear hxk
    by_cases hlt : k < l.length
    · rcases HN.out with h0 | ⟨g, hg, hgs, hcell⟩
      · omega
      · subst hg
        have hc := hcell k hlt
        have hget : l[k]? = some (l.getD k 0) := by rw [List.getD_eq_getElem?_getD, List.getElem?_eq_getElem (by omega)]; rfl
        have HG : Hid (l[k]? = some (l.getD k 0)) := hget
        have HT : Hid (l.take (k + 1) = l.take k ++ [l.getD k 0]) := by
          show l.take (k + 1) = _
          rw [List.take_add_one, hget]; rfl
        clear hget hcell
        generalize l.getD k 0 = y at *
        by_cases hy : y = x
        · subst hy
          go_wp2_with fail
          go_ret
          exact ⟨rfl, k, hlt, HG.out, rfl⟩
        · have hy' : ((y : Int) == (x : Int)) = false := by simp; omega
          have HY : Hid (y ≠ x) := hy
          clear hy
          go_wp2_with fail
          go_round
          case rel => exact ⟨k + 1, by omega, by go_num, by rw [HT.out]; simp; exact ⟨HXK.out, fun e => HY.out e.symm⟩⟩
          case measure => simp [intOf]; omega
    · exfalso
      apply HXK.out
      rw [List.take_of_length_le (by omega)]
      exact HX.out

theorem nameB_no {l : List UInt8} (h : l.all okB = false) : nameB l = false := by unfold nameB; rw [h]; simp

set_option maxRecDepth 100000 in
set_option maxHeartbeats 400000 in
theorem refIsName (s : ByteArray) (w : World) (hs : s.size ≤ maxLen) :
    Calls Tryz.prog 141 #[.string s] w fun e w' => e = .returned (.bool (nameB s.data.toList)) ∧ w' = w := by
  unfold maxLen at hs
  have hlen : s.data.toList.length = s.size := by simp
  have HLen : Hid (s.data.toList.length = s.size) := hlen
  clear hlen
  go_enter Tryz.func141, Tryz.ntmps141
  go_wp2
  go_loop [3] (fun i => ∃ k : Nat, k ≤ s.size ∧ i = .int .i64 k ∧ (s.data.toList.take k).all okB = true) (fun i => s.size - (intOf i).toNat)
  case atStart => exact ⟨0, Nat.zero_le _, rfl, rfl⟩
  case round =>
    obtain ⟨k, hk, rfl, hall⟩ := hrel
    have HALL : Hid ((s.data.toList.take k).all okB = true) := hall
    clear hall
    by_cases hlt : k < s.size
    · have HS : Hid ((s.data.toList.take (k + 1)).all okB = okB s[k]) := by
        show (s.data.toList.take (k + 1)).all okB = _
        rw [take_snoc s k hlt, all_snoc, HALL.out]; rfl
      by_cases c1 : (97 : Int) ≤ (s[k].toNat : Int)
      · by_cases c2 : (s[k].toNat : Int) ≤ 122
        · go_wp2
          all_goals
            go_round
            case rel => exact ⟨k + 1, by omega, by go_num, by rw [HS.out]; exact okB_yes c1 c2⟩
            case measure => simp [intOf]; omega
        · have c2' : (122 : Int) < (s[k].toNat : Int) := by omega
          clear c2
          go_wp2
          go_ret
          exact ⟨ret_bool (by rw [nameB_no (all_take_false (k := k + 1) (by rw [HS.out]; exact okB_no (.inr c2')))]), rfl⟩
      · have c1' : (s[k].toNat : Int) < 97 := by omega
        clear c1
        go_wp2
        go_ret
        exact ⟨ret_bool (by rw [nameB_no (all_take_false (k := k + 1) (by rw [HS.out]; exact okB_no (.inl c1')))]), rfl⟩
    · have hkk : k = s.size := by omega
      subst hkk
      have HF : Hid (s.data.toList.all okB = true) := by
        show s.data.toList.all okB = true
        rw [← HALL.out, List.take_of_length_le (by simp)]
      clear HALL
      by_cases h1 : 1 ≤ s.size
      · by_cases h8 : s.size ≤ 8
        · have d1 : decide (1 ≤ (s.size : Int)) = true := by simp; omega
          have d2 : decide ((s.size : Int) ≤ 8) = true := by simp; omega
          go_wp2
          go_ret
          exact ⟨ret_bool (by unfold nameB; rw [HF.out, HLen.out]; simp [h1, h8]), rfl⟩
        · have d1 : decide (1 ≤ (s.size : Int)) = true := by simp; omega
          have d2 : decide ((s.size : Int) ≤ 8) = false := by simp; omega
          have H8 : Hid (¬ s.size ≤ 8) := h8
          clear h8
          go_wp2
          go_ret
          exact ⟨ret_bool (by unfold nameB; rw [HLen.out]; simp [H8.out]), rfl⟩
      · have d1 : decide (1 ≤ (s.size : Int)) = false := by simp; omega
        have H1 : Hid (¬ 1 ≤ s.size) := h1
        clear h1
        go_wp2
        go_ret
        exact ⟨ret_bool (by unfold nameB; rw [HLen.out]; simp [H1.out]), rfl⟩
end
end Go.Proofs.YtcedebpoihcbdaaGreatDoor
