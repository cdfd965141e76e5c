/-
  Plain mathematics, no Go: what a whole Put does to the lists of kids; the list of all that is within a node, at most so many.
-/
import Derived.Test.YtcedebpoihcbdaaDoorMath2
namespace Go.Proofs.YtcedebpoihcbdaaDoor.Gv

/-- The kids, without one node. -/
def dropK (K : Nat → List Nat) (c : Nat) : Nat → List Nat := fun x => (K x).filter (fun k => k != c)

theorem filter_out {l : List Nat} {c : Nat} (h : c ∉ l) : l.filter (fun k => k != c) = l := by
  rw [List.filter_eq_self]
  intro a ha
  simp only [bne_iff_ne]
  rintro rfl
  exact h ha

theorem filter_split {xs ys : List Nat} {c : Nat} (hx : c ∉ xs) (hy : c ∉ ys) : (xs ++ c :: ys).filter (fun k => k != c) = xs ++ ys := by
  rw [List.filter_append, List.filter_cons, filter_out hx, filter_out hy]
  simp

theorem split_of_mem {l : List Nat} {c : Nat} (h : c ∈ l) : ∃ xs ys, l = xs ++ c :: ys := List.append_of_mem h

theorem split_nodup {xs ys : List Nat} {c : Nat} (h : (xs ++ c :: ys).Nodup) : c ∉ xs ∧ c ∉ ys :=
  ⟨fun e => (List.nodup_append.1 h).2.2 c e c (by simp) rfl, (List.nodup_cons.1 (List.nodup_append.1 h).2.1).1⟩

section
variable {N : Nat} {s : Fo} {K : Nat → List Nat}

theorem drop_loose (h : WF N s K) {c : Nat} (hc : s.par c = 0) : dropK K c = K := by
  funext x
  exact filter_out (fun e => by have := h.kid x c e; omega)

theorem drop_kid (h : WF N s K) {c : Nat} {xs ys : List Nat} (hK : K (s.par c) = xs ++ c :: ys) : dropK K c = up K (s.par c) (xs ++ ys) := by
  funext x
  by_cases e : x = s.par c
  · subst e
    have hn := h.nd (s.par c)
    rw [hK] at hn
    rw [up_same]
    simp only [dropK, hK]
    exact filter_split (split_nodup hn).1 (split_nodup hn).2
  · rw [up_other _ _ _ e]
    exact filter_out (fun hm => e (h.kid x c hm).2.2.2.2.symm)

/-- The node taken out of where it stands, if it stands somewhere. -/
def Fo.out (s : Fo) (c : Nat) : Fo := if s.par c = 0 then s else s.remove c

theorem out_wf (h : WF N s K) {c : Nat} (hc1 : 1 ≤ c) (hcN : c ≤ N) : WF N (Fo.out s c) (dropK K c) := by
  unfold Fo.out
  by_cases h0 : s.par c = 0
  · rw [if_pos h0, drop_loose h h0]; exact h
  · rw [if_neg h0]
    obtain ⟨xs, ys, hK⟩ := split_of_mem (h.own c hc1 hcN h0)
    rw [drop_kid h hK]
    exact remove_wf h hc1 hcN rfl h0 hK

theorem out_par (c : Nat) : (Fo.out s c).par = up s.par c 0 := by
  unfold Fo.out
  by_cases h0 : s.par c = 0
  · rw [if_pos h0]
    funext x
    by_cases e : x = c
    · subst e; rw [up_same]; exact h0
    · rw [up_other _ _ _ e]
  · rw [if_neg h0]; rfl

/-- The mark by which Put finds the place: what stands behind the child where the child itself is named. -/
def markOf (s : Fo) (c b : Nat) : Nat := if b = c then s.bhd c else b

theorem put_wf (h : WF N s K) {p c b : Nat} (hc1 : 1 ≤ c) (hcN : c ≤ N) (hp1 : 1 ≤ p) (hpN : p ≤ N) (hd : ¬ Desc s.par p c) (hb : b = 0 ∨ b ∈ K p) :
    ∃ us vs, dropK K c p = us ++ vs ∧ vs.headD 0 = markOf s c b ∧ WF N ((Fo.out s c).insert p c (markOf s c b)) (up (dropK K c) p (us ++ c :: vs)) ∧ (b = 0 → vs = []) ∧ (b ≠ 0 → b ≠ c → ∃ vt, vs = b :: vt) := by
  have h1 := out_wf h hc1 hcN
  have hpar : (Fo.out s c).par c = 0 := by rw [out_par, up_same]
  have hd1 : ¬ Desc (Fo.out s c).par p c := by rw [out_par]; exact fun e => hd (desc_up e)
  have key : ∀ us vs, dropK K c p = us ++ vs → vs.headD 0 = markOf s c b → WF N ((Fo.out s c).insert p c (markOf s c b)) (up (dropK K c) p (us ++ c :: vs)) := by
    intro us vs e1 e2
    rw [← e2]
    exact insert_wf h1 hc1 hcN hpar hp1 hpN e1 hd1
  by_cases e0 : b = 0
  · have em : markOf s c b = 0 := by unfold markOf; rw [if_neg (by omega)]; exact e0
    exact ⟨dropK K c p, [], by simp, by simp [em], key _ _ (by simp) (by simp [em]), fun _ => rfl, fun hne => absurd e0 hne⟩
  · have hbk : b ∈ K p := by rcases hb with hb | hb; exact absurd hb e0; exact hb
    by_cases ec : b = c
    · subst ec
      have hq : s.par b = p := (h.kid p b hbk).2.2.2.2
      obtain ⟨xs, ys, hK⟩ := split_of_mem hbk
      have em : markOf s b b = ys.headD 0 := by unfold markOf; rw [if_pos rfl]; exact (h.sides hK).2
      have hn := h.nd p
      rw [hK] at hn
      have e1 : dropK K b p = xs ++ ys := by simp only [dropK, hK]; exact filter_split (split_nodup hn).1 (split_nodup hn).2
      exact ⟨xs, ys, e1, em.symm, key _ _ e1 em.symm, fun e => absurd e e0, fun _ e => absurd rfl e⟩
    · have em : markOf s c b = b := by unfold markOf; rw [if_neg ec]
      have hm : b ∈ dropK K c p := by simp only [dropK, List.mem_filter]; exact ⟨hbk, by simp [ec]⟩
      obtain ⟨us, vs, e1⟩ := split_of_mem hm
      exact ⟨us, b :: vs, e1, by simp [em], key _ _ e1 (by simp [em]), fun e => absurd e e0, fun _ _ => ⟨vs, rfl⟩⟩

/-- What is under the child is not touched. -/
theorem put_under (h : WF N s K) {p c : Nat} {l : List Nat} (hc1 : 1 ≤ c) (hcN : c ≤ N) (hd : ¬ Desc s.par p c) {x : Nat} (hx : Desc s.par x c) : up (dropK K c) p l x = K x := by
  have hxp : x ≠ p := fun e => hd (e ▸ hx)
  rw [up_other _ _ _ hxp]
  refine filter_out (fun hm => ?_)
  have hk := (h.kid x c hm).2.2.2.2
  obtain ⟨m, hm⟩ := hx
  apply no_loop h.z (x := c) (by omega) (h.acy c hcN) m
  show anc s.par m (s.par c) = c
  rw [hk]; exact hm
end

/-! ### all that is within a node, at most so many -/
def wi (K : Nat → List Nat) : Nat → Nat → Nat → List Nat
  | 0, n, _ => [n]
  | f + 1, n, most => (K n).foldl (fun l k => if l.length < most then l ++ wi K f k (most - l.length) else l) [n]

def wiTo (K : Nat → List Nat) (f n most i : Nat) : List Nat := ((K n).take i).foldl (fun l k => if l.length < most then l ++ wi K f k (most - l.length) else l) [n]

theorem wiTo_all (K : Nat → List Nat) (f n most : Nat) : wiTo K f n most (K n).length = wi K (f + 1) n most := by simp [wiTo, wi]

theorem wiTo_zero (K : Nat → List Nat) (f n most : Nat) : wiTo K f n most 0 = [n] := by simp [wiTo]

theorem wiTo_succ (K : Nat → List Nat) (f n most i : Nat) (hi : i < (K n).length) : wiTo K f n most (i + 1) = if (wiTo K f n most i).length < most then wiTo K f n most i ++ wi K f ((K n).getD i 0) (most - (wiTo K f n most i).length) else wiTo K f n most i := by
  simp only [wiTo]
  rw [List.take_succ_eq_append_getElem hi, List.foldl_append, List.getD_eq_getElem?_getD, List.getElem?_eq_getElem hi]
  rfl

theorem foldl_full (K : Nat → List Nat) (f most : Nat) : ∀ (ks l : List Nat), most ≤ l.length → ks.foldl (fun l k => if l.length < most then l ++ wi K f k (most - l.length) else l) l = l
  | [], _, _ => rfl
  | k :: ks, l, h => by rw [List.foldl_cons, if_neg (by omega)]; exact foldl_full K f most ks l h

/-- Where there are enough the rest adds nothing. -/
theorem wiTo_full (K : Nat → List Nat) (f n most i : Nat) (h : most ≤ (wiTo K f n most i).length) : wi K (f + 1) n most = wiTo K f n most i := by
  have e : K n = (K n).take i ++ (K n).drop i := (List.take_append_drop i (K n)).symm
  show (K n).foldl _ [n] = _
  rw [e, List.foldl_append]
  rw [show (K n).take i = ((K n).take i) from rfl]
  have := foldl_full K f most ((K n).drop i) (wiTo K f n most i) h
  rw [← this]
  simp only [wiTo]

theorem foldl_len {K : Nat → List Nat} {f : Nat} (ih : ∀ n most, 1 ≤ (wi K f n most).length ∧ (wi K f n most).length ≤ max 1 most) (most : Nat) : ∀ (ks l : List Nat), 1 ≤ l.length → l.length ≤ max 1 most →
    1 ≤ (ks.foldl (fun l k => if l.length < most then l ++ wi K f k (most - l.length) else l) l).length ∧ (ks.foldl (fun l k => if l.length < most then l ++ wi K f k (most - l.length) else l) l).length ≤ max 1 most := by
  intro ks
  induction ks with
  | nil => intro l h1 h2; exact ⟨h1, h2⟩
  | cons k ks ihk =>
    intro l h1 h2
    rw [List.foldl_cons]
    by_cases hl : l.length < most
    · rw [if_pos hl]
      have := ih k (most - l.length)
      exact ihk _ (by rw [List.length_append]; omega) (by rw [List.length_append]; omega)
    · rw [if_neg hl]; exact ihk l h1 h2

theorem wi_len (K : Nat → List Nat) (f : Nat) : ∀ n most, 1 ≤ (wi K f n most).length ∧ (wi K f n most).length ≤ max 1 most := by
  induction f with
  | zero => intro n most; simp [wi]; omega
  | succ f ih => intro n most; exact foldl_len ih most (K n) [n] (by simp) (by simp; omega)

theorem wiTo_len (K : Nat → List Nat) (f n most i : Nat) : 1 ≤ (wiTo K f n most i).length ∧ (wiTo K f n most i).length ≤ max 1 most :=
  foldl_len (wi_len K f) most _ [n] (by simp) (by simp; omega)

theorem foldl_congr {ks : List Nat} {g g' : List Nat → Nat → List Nat} (h : ∀ l k, k ∈ ks → g l k = g' l k) (l : List Nat) : ks.foldl g l = ks.foldl g' l := by
  induction ks generalizing l with
  | nil => rfl
  | cons k ks ih => rw [List.foldl_cons, List.foldl_cons, h l k (by simp)]; exact ih (fun l k hk => h l k (by simp [hk])) _

theorem wi_congr {K K' : Nat → List Nat} {f : Nat → Nat} (hk : ∀ p k, k ∈ K p → f k = p) (m : Nat) : ∀ n most, (∀ x, Desc f x n → K' x = K x) → wi K' m n most = wi K m n most := by
  induction m with
  | zero => intro n most _; rfl
  | succ m ih =>
    intro n most h
    simp only [wi]
    rw [h n (Desc.refl f n)]
    refine foldl_congr (fun l k hkn => ?_) [n]
    rw [ih k (most - l.length) (fun x hx => h x (hx.trans ⟨1, hk n k hkn⟩))]

end Go.Proofs.YtcedebpoihcbdaaDoor.Gv
