/-
  Plain mathematics, no Go: neighbours in the order of a tree by their places in its list; where an iterator goes when a node is taken out under it.
-/
import Derived.Test.YtcedebpoihcbdaaDoorMath4
namespace Go.Proofs.YtcedebpoihcbdaaDoor.Gv

def withF (s : Fo) : Nat → Nat → Nat → Bool
  | 0, n, t => decide (n = t)
  | f + 1, n, t => if n = 0 then decide (n = t) else if n = t then true else withF s f (s.par n) t

theorem idx_unique {l : List Nat} {a b x : Nat} (hn : l.Nodup) (ha : l[a]? = some x) (hb : l[b]? = some x) : a = b := by
  obtain ⟨h1, e1⟩ := List.getElem?_eq_some_iff.1 ha
  obtain ⟨h2, e2⟩ := List.getElem?_eq_some_iff.1 hb
  rcases Nat.lt_trichotomy a b with h | h | h
  · exact absurd (e1.trans e2.symm) (List.pairwise_iff_getElem.1 hn a b h1 h2 h)
  · exact h
  · exact absurd (e2.trans e1.symm) (List.pairwise_iff_getElem.1 hn b a h2 h1 h)

section
variable {N : Nat} {s : Fo} {K : Nat → List Nat}

theorem withF_iff (h0 : s.par 0 = 0) {t : Nat} (ht : 1 ≤ t) : ∀ (f n : Nat), anc s.par f n = 0 → (withF s f n t = true ↔ Desc s.par n t)
  | 0, n, hn => by
    simp only [anc] at hn
    subst hn
    simp only [withF, decide_eq_true_eq]
    constructor
    · intro e; omega
    · rintro ⟨m, hm⟩; rw [anc_zero h0] at hm; exact hm
  | f + 1, n, hn => by
    unfold withF
    by_cases e0 : n = 0
    · subst e0
      rw [if_pos rfl]
      simp only [decide_eq_true_eq]
      constructor
      · intro e; omega
      · rintro ⟨m, hm⟩; rw [anc_zero h0] at hm; exact hm
    · rw [if_neg e0]
      by_cases et : n = t
      · rw [if_pos et]; simp only [true_iff]; exact et ▸ Desc.refl _ _
      · rw [if_neg et, withF_iff h0 ht f (s.par n) hn]
        constructor
        · exact Desc.head
        · rintro ⟨m, hm⟩
          cases m with
          | zero => exact absurd hm et
          | succ m => exact ⟨m, hm⟩

theorem within_iff (h : WF N s K) {n t : Nat} (hn : n ≤ N) (ht : 1 ≤ t) : withF s N n t = true ↔ Desc s.par n t := withF_iff h.z ht N n (h.top n hn)

theorem getLastD_idx {us : List Nat} : us.getLastD 0 = if us.length = 0 then 0 else us.getD (us.length - 1) 0 := by
  cases us with
  | nil => rfl
  | cons a l =>
    rw [if_neg (by simp), List.getLastD_eq_getLast?, List.getLast?_eq_getElem?, List.getD_eq_getElem?_getD]

theorem anc_small (h : WF N s K) {x t m : Nat} (hx : x ≤ N) (ht : 1 ≤ t) (hm : anc s.par m x = t) : m ≤ N := by
  rcases Nat.lt_or_ge N m with h1 | h1
  · have := anc_later h.z (h.top x hx) (Nat.le_of_lt h1)
    omega
  · exact h1

/-- The neighbours of the k-th one. -/
theorem nb_fact (h : WF N s K) (hN : 1 ≤ N) {t p k : Nat} (ht : 1 ≤ t) (htN : t ≤ N) (hk : (P N K t)[k]? = some p) :
    prevF s N p t = (if k = 0 then 0 else (P N K t).getD (k - 1) 0) ∧ nextF s (N + 1) p t = (P N K t).getD (k + 1) 0 := by
  have hmem : p ∈ P N K t := List.mem_of_getElem? hk
  have hp := pre_le h N t p ht htN hmem
  obtain ⟨m, hm⟩ := pre_desc h N t p hmem
  obtain ⟨us, vs, e1, e2, e3, e4, -⟩ := blk h hN hp.1 hp.2 m t hm ht
  obtain ⟨pt, hpt⟩ := P_head N K p
  have hmN := anc_small h hp.2 ht hm
  have hu : (P N K t)[us.length]? = some p := by rw [e1, List.append_assoc, List.getElem?_append_right (Nat.le_refl _), hpt]; simp
  have hku : k = us.length := idx_unique (P_nodup h ht htN) hk hu
  subst hku
  constructor
  · rw [e3 N (Nat.le_refl _), getLastD_idx]
    by_cases hz : us.length = 0
    · rw [if_pos hz, if_pos hz]
    · rw [if_neg hz, if_neg hz, e1, List.append_assoc, List.getD_eq_getElem?_getD, List.getD_eq_getElem?_getD, List.getElem?_append_left (by omega)]
  · unfold nextF
    rw [h.fst p hp.1 hp.2, e2 (N + 1) (by omega), e1, List.append_assoc, List.getD_eq_getElem?_getD, List.getElem?_append_right (by omega), show us.length + 1 - us.length = 1 by omega]
    have ep := P_eq h hp.1 hN
    rw [ep]
    by_cases hK : K p = []
    · rw [hK]
      simp only [List.headD_nil, if_true, List.flatMap_nil, List.cons_append, List.nil_append, List.getElem?_cons_succ]
      cases vs <;> simp
    · have hz := nz_of_kid h (head_mem hK 0)
      rw [if_neg hz]
      have := fm_head K N (K p) vs hK
      rw [← this]
      simp only [List.cons_append, List.getElem?_cons_succ]
      cases (K p).flatMap (P N K) ++ vs <;> simp

/-- Two that one stands within: one of them within the other. -/
theorem desc_line {f : Nat → Nat} {y a b : Nat} (h1 : Desc f y a) (h2 : Desc f y b) : Desc f a b ∨ Desc f b a := by
  obtain ⟨i, hi⟩ := h1
  obtain ⟨j, hj⟩ := h2
  rcases Nat.le_total i j with hij | hij
  · obtain ⟨d, rfl⟩ := Nat.exists_eq_add_of_le hij
    rw [anc_add, hi] at hj
    exact .inl ⟨d, hj⟩
  · obtain ⟨d, rfl⟩ := Nat.exists_eq_add_of_le hij
    rw [anc_add, hj] at hi
    exact .inr ⟨d, hi⟩
end

/-- Where an iterator is. -/
structure Spot where
  root : Nat
  place : Nat
  ahead : Bool

/-- What it is when a node is about to be taken out. -/
def Spot.leave (N : Nat) (s : Fo) (c : Nat) (i : Spot) : Spot :=
  if withF s N i.place c = true ∧ withF s N i.root c = false then
    if i.ahead = true ∧ pastF s (N + 1) c i.root ≠ 0 then { i with place := pastF s (N + 1) c i.root }
    else { i with place := prevF s N c i.root, ahead := false }
  else i

/-- How many it has passed. -/
def Spot.at_ (i : Spot) (k : Nat) : Nat := if i.ahead = true then k else k + 1

theorem Spot.leave_root (N : Nat) (s : Fo) (c : Nat) (i : Spot) : (i.leave N s c).root = i.root := by
  unfold Spot.leave
  split
  · split <;> rfl
  · rfl

section
variable {N : Nat} {s : Fo} {K : Nat → List Nat}

theorem filter_in {us m : List Nat} (h : ∀ x, x ∈ us → x ∉ m) : us.filter (fun x => decide (x ∉ m)) = us := by
  rw [List.filter_eq_self]
  intro a ha
  simp [h a ha]

theorem filter_none {us m : List Nat} (h : ∀ x, x ∈ us → x ∈ m) : us.filter (fun x => decide (x ∉ m)) = [] := by
  rw [List.filter_eq_nil_iff]
  intro a ha
  simp [h a ha]

/-- THE ITERATOR BEHIND A REMOVAL: what it has passed, and is still there, is what it has passed. -/
theorem leave_fact (h : WF N s K) (hN : 1 ≤ N) {c k : Nat} (hc1 : 1 ≤ c) (hcN : c ≤ N) (i : Spot) (ht : 1 ≤ i.root) (htN : i.root ≤ N) (hk : (P N K i.root)[k]? = some i.place) :
    (Desc s.par i.root c → i.leave N s c = i) ∧
    (¬ Desc s.par i.root c → ∃ k', (P N (dropK K c) i.root)[k']? = some (i.leave N s c).place ∧ (¬ Desc s.par i.place c → i.leave N s c = i) ∧ (i.leave N s c).at_ k' = (((P N K i.root).take (i.at_ k)).filter (fun x => decide (x ∉ P N K c))).length) := by
  have hmem : i.place ∈ P N K i.root := List.mem_of_getElem? hk
  have hp := pre_le h N i.root i.place ht htN hmem
  have hpd := pre_desc h N i.root i.place hmem
  have w1 := within_iff h (n := i.place) (t := c) hp.2 hc1
  have w2 := within_iff h (n := i.root) (t := c) htN hc1
  refine ⟨fun hd => ?_, fun hd => ?_⟩
  · unfold Spot.leave
    rw [if_neg]
    rintro ⟨_, h2⟩
    rw [w2.2 hd] at h2
    cases h2
  have r2 : withF s N i.root c = false := by
    cases e : withF s N i.root c with
    | false => rfl
    | true => exact absurd (w2.1 e) hd
  have same : ¬ Desc s.par i.place c → i.leave N s c = i := by
    intro hn
    unfold Spot.leave
    rw [if_neg]
    rintro ⟨h1, _⟩
    exact hn (w1.1 h1)
  by_cases hcr : Desc s.par c i.root
  · obtain ⟨m, hm⟩ := hcr
    have hm0 : m ≠ 0 := by
      rintro rfl
      simp only [anc] at hm
      exact hd (hm ▸ Desc.refl _ _)
    obtain ⟨us, vs, e1, e2, e3, e4, e5⟩ := blk h hN hc1 hcN m i.root hm ht
    have e5' := e5 hm0
    have hnd := P_nodup h ht htN
    rw [e1] at hnd
    have hnd1 := List.nodup_append.1 hnd
    have hnd2 := List.nodup_append.1 hnd1.1
    have hud : ∀ x, x ∈ us → x ∉ P N K c := fun x hx hc => hnd2.2.2 x hx x hc rfl
    have hvd : ∀ x, x ∈ vs → x ∉ P N K c := fun x hx hc => hnd1.2.2 x (List.mem_append.2 (.inr hc)) x hx rfl
    have hmN := anc_small h hcN ht hm
    by_cases hpc : Desc s.par i.place c
    · have hpm : i.place ∈ P N K c := (P_mem h hN hp.1 hp.2 hc1).2 hpc
      -- its place is in the midst
      have hklo : us.length ≤ k := by
        rcases Nat.lt_or_ge k us.length with hlt | hge
        · exfalso
          rw [e1, List.append_assoc, List.getElem?_append_left hlt] at hk
          exact hud _ (List.mem_of_getElem? hk) hpm
        · exact hge
      have hkhi : k < us.length + (P N K c).length := by
        rcases Nat.lt_or_ge k (us.length + (P N K c).length) with hlt | hge
        · exact hlt
        · exfalso
          rw [e1, List.getElem?_append_right (by simp; omega)] at hk
          exact hvd _ (List.mem_of_getElem? hk) hpm
      have hat : us.length ≤ i.at_ k ∧ i.at_ k ≤ us.length + (P N K c).length := by unfold Spot.at_; split <;> omega
      have hpass : (((P N K i.root).take (i.at_ k)).filter (fun x => decide (x ∉ P N K c))).length = us.length := by
        rw [e1, List.append_assoc, List.take_append, List.filter_append, List.take_of_length_le hat.1, filter_in hud, filter_none, List.append_nil]
        intro x hx
        rw [List.take_append_of_le_length (by omega)] at hx
        exact List.mem_of_mem_take hx
      rw [hpass, e5']
      have hle : withF s N i.place c = true ∧ withF s N i.root c = false := ⟨w1.2 hpc, r2⟩
      have hu0 : us ≠ [] := e4 hm0
      have hback : (us ++ vs)[us.length - 1]? = some (us.getLastD 0) := by
        have hl : 0 < us.length := List.length_pos_iff.2 hu0
        rw [List.getElem?_append_left (by omega), getLastD_idx, if_neg (by omega), List.getD_eq_getElem?_getD, List.getElem?_eq_getElem (by omega)]
        rfl
      unfold Spot.leave
      rw [if_pos hle, e2 (N + 1) (by omega), e3 N (Nat.le_refl _)]
      by_cases ha : i.ahead = true ∧ vs.headD 0 ≠ 0
      · rw [if_pos ha]
        refine ⟨us.length, ?_, fun hn => absurd hpc hn, ?_⟩
        · rw [List.getElem?_append_right (Nat.le_refl _)]
          cases vs with
          | nil => exact absurd rfl ha.2
          | cons v vt => simp
        · simp [Spot.at_, ha.1]
      · rw [if_neg ha]
        refine ⟨us.length - 1, hback, fun hn => absurd hpc hn, ?_⟩
        have hl : 0 < us.length := List.length_pos_iff.2 hu0
        simp only [Spot.at_]
        simp
        omega
    · rw [same hpc, e5']
      have hpm : i.place ∉ P N K c := fun e => hpc ((P_mem h hN hp.1 hp.2 hc1).1 e)
      rcases Nat.lt_or_ge k us.length with hlt | hge
      · refine ⟨k, ?_, fun _ => rfl, ?_⟩
        · rw [e1, List.append_assoc, List.getElem?_append_left hlt] at hk
          rw [List.getElem?_append_left hlt]; exact hk
        · have hat : i.at_ k ≤ us.length := by unfold Spot.at_; split <;> omega
          rw [e1, List.append_assoc, List.take_append_of_le_length hat, filter_in (fun x hx => hud x (List.mem_of_mem_take hx)), List.length_take]
          omega
      · have hge2 : us.length + (P N K c).length ≤ k := by
          rcases Nat.lt_or_ge k (us.length + (P N K c).length) with hlt | hge'
          · exfalso
            rw [e1, List.append_assoc, List.getElem?_append_right hge, List.getElem?_append_left (by omega)] at hk
            exact hpm (List.mem_of_getElem? hk)
          · exact hge'
        have hklen : k < us.length + (P N K c).length + vs.length := by
          obtain ⟨hh, _⟩ := List.getElem?_eq_some_iff.1 hk
          rw [e1] at hh
          simp at hh
          omega
        refine ⟨k - (P N K c).length, ?_, fun _ => rfl, ?_⟩
        · rw [e1, List.getElem?_append_right (by simp; omega)] at hk
          rw [List.getElem?_append_right (by omega), ← hk]
          congr 1
          simp
          omega
        · have hat : us.length + (P N K c).length ≤ i.at_ k ∧ i.at_ k ≤ us.length + (P N K c).length + vs.length := by unfold Spot.at_; split <;> omega
          rw [e1, List.take_append, List.take_of_length_le (by simp; omega), List.filter_append, List.filter_append, filter_in hud, filter_none (fun x hx => hx), List.append_nil, filter_in (fun x hx => hvd x (List.mem_of_mem_take hx)), List.length_append, List.length_take]
          simp only [List.length_append]
          have : i.at_ (k - (P N K c).length) = i.at_ k - (P N K c).length := by unfold Spot.at_; split <;> omega
          omega
  · -- neither is within the other
    have hpc : ¬ Desc s.par i.place c := by
      intro hpc
      rcases desc_line hpd hpc with h1 | h1
      · exact hd h1
      · exact hcr h1
    rw [same hpc, P_drop_other h hc1 hcN (fun e => absurd e hcr)]
    refine ⟨k, hk, fun _ => rfl, ?_⟩
    rw [filter_in, List.length_take]
    · obtain ⟨hh, _⟩ := List.getElem?_eq_some_iff.1 hk
      have : i.at_ k ≤ (P N K i.root).length := by unfold Spot.at_; split <;> omega
      omega
    · intro x hx hxc
      have hxm := List.mem_of_mem_take hx
      rcases desc_line (pre_desc h N i.root x hxm) (pre_desc h N c x hxc) with h1 | h1
      · exact hd h1
      · exact hcr h1

/-- And it stays within its root. -/
theorem leave_within (h : WF N s K) (hN : 1 ≤ N) {c : Nat} (hc1 : 1 ≤ c) (hcN : c ≤ N) (i : Spot) (ht : 1 ≤ i.root) (htN : i.root ≤ N) (hp1 : 1 ≤ i.place) (hpN : i.place ≤ N) (hd : Desc s.par i.place i.root) :
    Desc (Fo.out s c).par (i.leave N s c).place i.root ∧ 1 ≤ (i.leave N s c).place ∧ (i.leave N s c).place ≤ N := by
  have hm : i.place ∈ P N K i.root := (P_mem h hN hp1 hpN ht).2 hd
  obtain ⟨k, hk⟩ := List.getElem?_of_mem hm
  have F := leave_fact h hN hc1 hcN i ht htN hk
  by_cases hr : Desc s.par i.root c
  · rw [F.1 hr]
    refine ⟨?_, hp1, hpN⟩
    rw [out_par]
    -- the way from the place up to the root is not cut
    obtain ⟨m, hm⟩ := hd
    have key : ∀ m x, anc s.par m x = i.root → anc (up s.par c 0) m x = i.root ∨ ∃ j, j < m ∧ anc s.par j x = c := by
      intro m
      induction m with
      | zero => intro x hx; exact .inl hx
      | succ m ih =>
        intro x hx
        by_cases e : x = c
        · exact .inr ⟨0, by omega, e⟩
        · rcases ih (s.par x) hx with h1 | ⟨j, hj, h1⟩
          · left
            show anc (up s.par c 0) m (up s.par c 0 x) = _
            rw [up_other _ _ _ e]; exact h1
          · exact .inr ⟨j + 1, by omega, h1⟩
    rcases key m i.place hm with h1 | ⟨j, hj, h1⟩
    · exact ⟨m, h1⟩
    · exfalso
      -- c is under the root, and the root within c
      obtain ⟨d, hd⟩ := hr
      have hcr : anc s.par (m - j) c = i.root := by rw [← h1, ← anc_add, show j + (m - j) = m by omega]; exact hm
      have h2 : anc s.par (m - j + d) c = c := by rw [anc_add, hcr, hd]
      have : m - j + d = (m - j + d - 1) + 1 := by omega
      rw [this] at h2
      exact no_loop h.z (by omega) (h.acy c hcN) _ h2
  · obtain ⟨k', hk', _, _⟩ := F.2 hr
    have hwf := out_wf h hc1 hcN
    have hm' := List.mem_of_getElem? hk'
    exact ⟨pre_desc hwf N i.root _ hm', pre_le hwf N i.root _ ht htN hm'⟩

/-- What is within a node stays within it when something is put under another one. -/
theorem insert_within (h : WF N s K) {p c b x t : Nat} (hc0 : s.par c = 0) (hc1 : 1 ≤ c) (ht : 1 ≤ t) (hd : Desc s.par x t) : Desc (s.insert p c b).par x t := by
  have e : (s.insert p c b).par = up s.par c p := rfl
  rw [e]
  obtain ⟨m, hm⟩ := hd
  induction m generalizing x with
  | zero => exact ⟨0, hm⟩
  | succ m ih =>
    have hm' : anc s.par m (s.par x) = t := hm
    by_cases ex : x = c
    · subst ex
      rw [hc0, anc_zero h.z] at hm'
      omega
    · obtain ⟨j, hj⟩ := ih hm'
      exact ⟨j + 1, by show anc _ j (up s.par c p x) = t; rw [up_other _ _ _ ex]; exact hj⟩
end
end Go.Proofs.YtcedebpoihcbdaaDoor.Gv
