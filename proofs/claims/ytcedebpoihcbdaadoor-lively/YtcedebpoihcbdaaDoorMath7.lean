/-
  Plain mathematics, no Go: what an iterator comes by, on or back.
-/
import Derived.Test.YtcedebpoihcbdaaDoorMath6
namespace Go.Proofs.YtcedebpoihcbdaaDoor.Gv

/-- What lies before it, on or back, when it has passed so many. -/
def seqOf (l : List Nat) (j : Nat) (back : Bool) : List Nat := if back = true then (l.take j).reverse else l.drop j

def besF (s : Fo) (N n t : Nat) (back : Bool) : Nat := if back = true then prevF s N n t else nextF s (N + 1) n t

/-- What a step answers, and where it is then. -/
def stepTo (N : Nat) (K : Nat → List Nat) (acc : Nat → Bool) (i : Spot) (back : Bool) : Nat :=
  ((seqOf (P N K i.root) (i.at_ ((P N K i.root).idxOf i.place)) back).find? acc).getD 0

def Spot.stepped (N : Nat) (K : Nat → List Nat) (acc : Nat → Bool) (i : Spot) (back : Bool) : Spot :=
  if stepTo N K acc i back = 0 then i else { i with place := stepTo N K acc i back, ahead := back }

section
variable {N : Nat} {s : Fo} {K : Nat → List Nat}

theorem idxOf_get {l : List Nat} {x : Nat} (h : x ∈ l) : l[l.idxOf x]? = some x := by
  induction l with
  | nil => simp at h
  | cons a l ih =>
    rw [List.idxOf_cons]
    by_cases e : a = x
    · subst e; simp
    · have hx : x ∈ l := by
        rcases List.mem_cons.1 h with h | h
        · exact absurd h.symm e
        · exact h
      have : (a == x) = false := by simp [e]
      rw [this]
      simp only [cond_false]
      rw [List.getElem?_cons_succ]
      exact ih hx

theorem getD_of {l : List Nat} {k x : Nat} (h : l[k]? = some x) : l.getD k 0 = x := by rw [List.getD_eq_getElem?_getD, h]; rfl

theorem seq_beside (h : WF N s K) (hN : 1 ≤ N) {t j : Nat} {back : Bool} (ht : 1 ≤ t) (htN : t ≤ N) {xs ys : List Nat} {y : Nat} (hq : seqOf (P N K t) j back = xs ++ y :: ys) : besF s N y t back = ys.headD 0 := by
  cases back with
  | false =>
    simp only [seqOf, Bool.false_eq_true, if_false] at hq
    have hk : (P N K t)[j + xs.length]? = some y := by
      rw [← List.getElem?_drop, hq, List.getElem?_append_right (Nat.le_refl _)]; simp
    have hb := (nb_fact h hN ht htN hk).2
    simp only [besF, Bool.false_eq_true, if_false]
    rw [hb, List.getD_eq_getElem?_getD, show j + xs.length + 1 = j + (xs.length + 1) by omega, ← List.getElem?_drop, hq, List.getElem?_append_right (by omega), show xs.length + 1 - xs.length = 1 by omega]
    cases ys <;> simp
  | true =>
    simp only [seqOf, if_true] at hq
    have hq' : (P N K t).take j = ys.reverse ++ y :: xs.reverse := by
      have := congrArg List.reverse hq
      rw [List.reverse_reverse] at this
      rw [this]; simp
    have hlen : ys.length < j ∧ ys.length < (P N K t).length := by
      have := congrArg List.length hq'
      simp at this
      omega
    have hk : (P N K t)[ys.length]? = some y := by
      have : ((P N K t).take j)[ys.length]? = some y := by
        rw [hq', List.getElem?_append_right (by simp)]; simp
      rwa [List.getElem?_take_of_lt hlen.1] at this
    have hb := (nb_fact h hN ht htN hk).1
    simp only [besF, if_true]
    rw [hb]
    cases ys with
    | nil => rfl
    | cons a ys =>
      rw [if_neg (by simp)]
      have : ((P N K t).take j)[ys.length]? = some a := by
        rw [hq', List.getElem?_append_left (by simp)]; simp
      rw [List.getElem?_take_of_lt (by simp at hlen; omega)] at this
      have hl : (a :: ys).length - 1 = ys.length := by simp
      rw [hl, getD_of this]
      rfl

theorem seq_start (h : WF N s K) (hN : 1 ≤ N) (i : Spot) (ht : 1 ≤ i.root) (htN : i.root ≤ N) (hm : i.place ∈ P N K i.root) (back : Bool) :
    (if i.ahead = back then besF s N i.place i.root back else i.place) = (seqOf (P N K i.root) (i.at_ ((P N K i.root).idxOf i.place)) back).headD 0 := by
  have hk := idxOf_get hm
  generalize (P N K i.root).idxOf i.place = k at *
  have hnb := nb_fact h hN ht htN hk
  have hlt := (List.getElem?_eq_some_iff.1 hk).1
  have hd := getD_of hk
  have head_drop : ∀ m, ((P N K i.root).drop m).headD 0 = (P N K i.root).getD m 0 := by
    intro m
    rw [List.getD_eq_getElem?_getD, show m = m + 0 by rfl, ← List.getElem?_drop]
    cases (P N K i.root).drop (m + 0) <;> simp
  have last_take : ∀ m, m ≤ (P N K i.root).length → ((P N K i.root).take m).reverse.headD 0 = if m = 0 then 0 else (P N K i.root).getD (m - 1) 0 := by
    intro m hm
    cases m with
    | zero => simp
    | succ m =>
      rw [List.take_succ_eq_append_getElem (by omega), List.reverse_append, if_neg (by omega), Nat.add_sub_cancel, getD_of (List.getElem?_eq_getElem (by omega))]
      rfl
  cases back <;> cases ha : i.ahead
  · -- on, behind
    simp only [Spot.at_, ha, seqOf, besF, Bool.false_eq_true, if_false, if_true]
    rw [head_drop]; exact hnb.2
  · simp only [Spot.at_, ha, seqOf, Bool.true_eq_false, Bool.false_eq_true, if_false, if_true]
    rw [head_drop]; exact hd.symm
  · simp only [Spot.at_, ha, seqOf, Bool.false_eq_true, if_false, if_true]
    rw [last_take _ (by omega), if_neg (by omega)]; exact hd.symm
  · simp only [Spot.at_, ha, seqOf, besF, if_true]
    rw [last_take _ (by omega)]; exact hnb.1

theorem seq_mem {l : List Nat} {j : Nat} {back : Bool} {x : Nat} (h : x ∈ seqOf l j back) : x ∈ l := by
  unfold seqOf at h
  split at h
  · exact List.mem_of_mem_take (List.mem_reverse.1 h)
  · exact List.mem_of_mem_drop h

theorem par_of_under (h0 : s.par 0 = 0) {x t : Nat} (hd : Desc s.par x t) (ht : 1 ≤ t) (hne : x ≠ t) : s.par x ≠ 0 := by
  obtain ⟨m, hm⟩ := hd
  cases m with
  | zero => exact absurd hm hne
  | succ m =>
    intro e
    have : anc s.par m (s.par x) = t := hm
    rw [e, anc_zero h0] at this
    omega

theorem stepTo_mem {acc : Nat → Bool} {i : Spot} {back : Bool} (h : stepTo N K acc i back ≠ 0) : stepTo N K acc i back ∈ P N K i.root := by
  unfold stepTo at h ⊢
  cases e : (seqOf (P N K i.root) (i.at_ ((P N K i.root).idxOf i.place)) back).find? acc with
  | none => rw [e] at h; exact absurd rfl h
  | some x => exact seq_mem (List.mem_of_find?_eq_some e)

/-- Where all are accepted a step goes by one. -/
theorem stepTo_all (h : WF N s K) {acc : Nat → Bool} (hacc : ∀ n, 1 ≤ n → n ≤ N → acc n = true) (i : Spot) (ht : 1 ≤ i.root) (htN : i.root ≤ N) (back : Bool) :
    stepTo N K acc i back = (seqOf (P N K i.root) (i.at_ ((P N K i.root).idxOf i.place)) back).headD 0 := by
  unfold stepTo
  have hm := fun x (hx : x ∈ seqOf (P N K i.root) (i.at_ ((P N K i.root).idxOf i.place)) back) => pre_le h N i.root x ht htN (seq_mem hx)
  cases e : seqOf (P N K i.root) (i.at_ ((P N K i.root).idxOf i.place)) back with
  | nil => rfl
  | cons a q =>
    rw [e] at hm
    have ha := hm a (by simp)
    simp [hacc a ha.1 ha.2]
end
end Go.Proofs.YtcedebpoihcbdaaDoor.Gv
