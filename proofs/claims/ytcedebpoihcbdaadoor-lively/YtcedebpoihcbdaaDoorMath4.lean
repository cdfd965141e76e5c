/-
  Plain mathematics, no Go: the order of a tree: the list of all that is within a node, its neighbours in that order, and what is left of it when a node is taken out.
-/
import Derived.Test.YtcedebpoihcbdaaDoorMath3
namespace Go.Proofs.YtcedebpoihcbdaaDoor.Gv

def pre (K : Nat → List Nat) : Nat → Nat → List Nat
  | 0, x => [x]
  | f + 1, x => x :: (K x).flatMap (pre K f)

/-- No way down is longer. -/
def Deep (K : Nat → List Nat) : Nat → Nat → Prop
  | 0, x => K x = []
  | f + 1, x => ∀ k, k ∈ K x → Deep K f k

theorem flatMap_congr' {l : List Nat} {f g : Nat → List Nat} (h : ∀ k, k ∈ l → f k = g k) : l.flatMap f = l.flatMap g := by
  induction l with
  | nil => rfl
  | cons a l ih => rw [List.flatMap_cons, List.flatMap_cons, h a (by simp), ih (fun k hk => h k (by simp [hk]))]

theorem pre_stable {K : Nat → List Nat} : ∀ (f x : Nat), Deep K f x → pre K (f + 1) x = pre K f x
  | 0, x, h => by simp only [Deep] at h; simp [pre, h]
  | f + 1, x, h => by
    show x :: (K x).flatMap (pre K (f + 1)) = x :: (K x).flatMap (pre K f)
    rw [flatMap_congr' (fun k hk => pre_stable f k (h k hk))]

theorem anc_later {f : Nat → Nat} (h0 : f 0 = 0) {x m n : Nat} (h : anc f m x = 0) (hmn : m ≤ n) : anc f n x = 0 := by
  obtain ⟨d, rfl⟩ := Nat.exists_eq_add_of_le hmn
  rw [anc_add, h, anc_zero h0]

section
variable {N : Nat} {s : Fo} {K : Nat → List Nat}

theorem deep_of (h : WF N s K) : ∀ (f x d : Nat), anc s.par d x ≠ 0 → N ≤ f + d + 1 → Deep K f x
  | 0, x, d, hd, hN => by
    show K x = []
    cases hK : K x with
    | nil => rfl
    | cons k ks =>
      have hk := h.kid x k (by rw [hK]; simp)
      have h1 := h.top k hk.2.2.2.1
      have h2 := anc_later h.z h1 (show N ≤ d + 1 by omega)
      have h3 : anc s.par (d + 1) k = anc s.par d (s.par k) := rfl
      rw [h3, hk.2.2.2.2] at h2
      exact absurd h2 hd
  | f + 1, x, d, hd, hN => by
    intro k hk
    have hk' := (h.kid x k hk).2.2.2.2
    refine deep_of h f k (d + 1) ?_ (by omega)
    show anc s.par d (s.par k) ≠ 0
    rw [hk']; exact hd

theorem WF.deep (h : WF N s K) {x : Nat} (hx : 1 ≤ x) (hN : 1 ≤ N) : Deep K (N - 1) x := deep_of h (N - 1) x 0 (by simp [anc]; omega) (by omega)

theorem deep_succ {K : Nat → List Nat} : ∀ (f x : Nat), Deep K f x → Deep K (f + 1) x
  | 0, x, h => by intro k hk; simp only [Deep] at h; rw [h] at hk; simp at hk
  | f + 1, x, h => fun k hk => deep_succ f k (h k hk)

theorem WF.deepN (h : WF N s K) {x : Nat} (hx : 1 ≤ x) (hN : 1 ≤ N) : Deep K N x := by
  have := deep_succ _ _ (h.deep hx hN)
  rwa [show N - 1 + 1 = N by omega] at this

/-- All that is within a node, in the order of the tree. -/
def P (N : Nat) (K : Nat → List Nat) (x : Nat) : List Nat := pre K N x

theorem P_eq (h : WF N s K) {x : Nat} (hx : 1 ≤ x) (hN : 1 ≤ N) : P N K x = x :: (K x).flatMap (P N K) := by
  have h1 := pre_stable _ _ (h.deepN hx hN)
  show pre K N x = _
  rw [← h1]; rfl

theorem P_succ (h : WF N s K) {x : Nat} (hx : 1 ≤ x) (hN : 1 ≤ N) : pre K (N + 1) x = P N K x := pre_stable _ _ (h.deepN hx hN)

theorem pre_head (K : Nat → List Nat) (f x : Nat) : ∃ t, pre K f x = x :: t := by cases f <;> exact ⟨_, rfl⟩
theorem P_head (N : Nat) (K : Nat → List Nat) (x : Nat) : ∃ t, P N K x = x :: t := pre_head K N x
theorem P_self (N : Nat) (K : Nat → List Nat) (x : Nat) : x ∈ P N K x := by obtain ⟨t, h⟩ := P_head N K x; rw [h]; simp

theorem pre_desc (h : WF N s K) : ∀ (f x y : Nat), y ∈ pre K f x → Desc s.par y x
  | 0, x, y, hy => by simp [pre] at hy; subst hy; exact Desc.refl _ _
  | f + 1, x, y, hy => by
    simp only [pre, List.mem_cons, List.mem_flatMap] at hy
    rcases hy with rfl | ⟨k, hk, hy⟩
    · exact Desc.refl _ _
    · exact (pre_desc h f k y hy).trans ⟨1, (h.kid x k hk).2.2.2.2⟩

theorem Desc.pos {f : Nat → Nat} {x t : Nat} (h0 : f 0 = 0) (h : Desc f x t) (ht : 1 ≤ t) : 1 ≤ x := by
  apply Nat.pos_of_ne_zero
  rintro rfl
  obtain ⟨m, hm⟩ := h
  rw [anc_zero h0] at hm
  omega

/-- The neighbours of what is within a node. -/
def pastF (s : Fo) : Nat → Nat → Nat → Nat
  | 0, _, _ => 0
  | f + 1, n, t => if n = 0 then 0 else if n = t then 0 else if s.bhd n = 0 then pastF s f (s.par n) t else s.bhd n

def nextF (s : Fo) (f n t : Nat) : Nat := if s.fst n = 0 then pastF s f n t else s.fst n

def inmF (s : Fo) : Nat → Nat → Nat
  | 0, n => n
  | f + 1, n => if s.lst n = 0 then n else inmF s f (s.lst n)

def prevF (s : Fo) (f n t : Nat) : Nat := if n = t then 0 else if s.ahd n = 0 then s.par n else inmF s f (s.ahd n)

theorem getLastD_append' {xs ys : List Nat} (h : ys ≠ []) (d : Nat) : (xs ++ ys).getLastD d = ys.getLastD d := by
  rw [List.getLastD_eq_getLast?, List.getLastD_eq_getLast?, List.getLast?_append, List.getLast?_eq_some_getLast h]; rfl

theorem split_last {l : List Nat} (h : l ≠ []) : ∃ xs, l = xs ++ [l.getLastD 0] := by
  refine ⟨l.dropLast, ?_⟩
  rw [List.getLastD_eq_getLast?, List.getLast?_eq_some_getLast h]
  simp [List.dropLast_concat_getLast h]

/-- The last one of all that is within a node. -/
theorem inm_last (h : WF N s K) (hN : 1 ≤ N) : ∀ (f x g : Nat), 1 ≤ x → x ≤ N → Deep K f x → f ≤ g → inmF s g x = (P N K x).getLastD 0
  | f, x, 0, hx, hxN, hd, hg => by
    have hf : f = 0 := by omega
    subst hf
    simp only [Deep] at hd
    rw [P_eq h hx hN, hd]
    simp [inmF]
  | f, x, g + 1, hx, hxN, hd, hg => by
    have e1 := P_eq h hx hN
    show (if s.lst x = 0 then x else inmF s g (s.lst x)) = _
    rw [h.lst x hx hxN]
    by_cases hK : K x = []
    · rw [e1, hK]; simp
    · have hm := last_mem hK 0
      have hk := h.kid x _ hm
      rw [if_neg (by omega)]
      obtain ⟨xs, hxs⟩ := split_last hK
      have hdk : ∃ f', f' ≤ g ∧ Deep K f' ((K x).getLastD 0) := by
        cases f with
        | zero => exact absurd hd hK
        | succ f' => exact ⟨f', by omega, hd _ hm⟩
      obtain ⟨f', hf', hdk⟩ := hdk
      rw [inm_last h hN f' _ g (by omega) hk.2.2.2.1 hdk hf', e1]
      generalize (K x).getLastD 0 = z at *
      rw [hxs, List.flatMap_append]
      have hz : P N K z ≠ [] := by obtain ⟨t, ht⟩ := P_head N K z; rw [ht]; simp
      have e2 : [z].flatMap (P N K) = P N K z := by simp
      rw [e2, ← List.cons_append, getLastD_append' hz]

theorem fm_head (K : Nat → List Nat) (N : Nat) (l vs : List Nat) (h : l ≠ []) : (l.flatMap (P N K) ++ vs).headD 0 = l.headD 0 := by
  cases l with
  | nil => exact absurd rfl h
  | cons a l => obtain ⟨t, ht⟩ := P_head N K a; rw [List.flatMap_cons, ht]; simp

theorem desc_unique (h : WF N s K) {a b q y : Nat} (ha : a ∈ K q) (hb : b ∈ K q) (h1 : Desc s.par y a) (h2 : Desc s.par y b) : a = b := by
  obtain ⟨i, hi⟩ := h1
  obtain ⟨j, hj⟩ := h2
  have pa := h.kid q a ha
  have pb := h.kid q b hb
  have key : ∀ (a b i j : Nat), i ≤ j → anc s.par i y = a → anc s.par j y = b → a ∈ K q → b ∈ K q → a = b := by
    intro a b i j hij hi hj ha hb
    have pa := h.kid q a ha
    have pb := h.kid q b hb
    obtain ⟨d, rfl⟩ := Nat.exists_eq_add_of_le hij
    rw [anc_add, hi] at hj
    cases d with
    | zero => exact hj
    | succ d =>
      exfalso
      have e1 : anc s.par d q = b := by rw [← hj]; show _ = anc s.par d (s.par a); rw [pa.2.2.2.2]
      have e2 : anc s.par (d + 1) q = q := by rw [anc_succ', e1, pb.2.2.2.2]
      exact no_loop h.z (by omega) (h.acy q pa.2.1) d e2
  rcases Nat.le_total i j with hij | hij
  · exact key a b i j hij hi hj ha hb
  · exact (key b a j i hij hj hi hb ha).symm

theorem pre_congr {K K' : Nat → List Nat} {f : Nat → Nat} (hk : ∀ p k, k ∈ K p → f k = p) : ∀ m n, (∀ x, Desc f x n → K' x = K x) → pre K' m n = pre K m n
  | 0, n, _ => rfl
  | m + 1, n, h => by
    simp only [pre]
    rw [h n (Desc.refl f n)]
    rw [flatMap_congr' (fun k hkn => pre_congr hk m k (fun x hx => h x (hx.trans ⟨1, hk n k hkn⟩)))]

/-- What has not the taken one under it stays as it is. -/
theorem P_drop_other (h : WF N s K) {c y : Nat} (hc1 : 1 ≤ c) (hcN : c ≤ N) (hn : Desc s.par c y → c = y) : P N (dropK K c) y = P N K y := by
  refine pre_congr (f := s.par) (fun p k hk => (h.kid p k hk).2.2.2.2) N y (fun x hx => ?_)
  refine filter_out (fun hm => ?_)
  have hp := (h.kid x c hm).2.2.2.2
  have hd : Desc s.par c y := (Desc.trans ⟨1, hp⟩ hx)
  have e := hn hd
  subst e
  obtain ⟨m, hm⟩ := hx
  apply no_loop h.z (x := c) (by omega) (h.acy c hcN) m
  show anc s.par m (s.par c) = c
  rw [hp]; exact hm

/-- Where a node stands in the order of what is within another one; its neighbours; what is left without it. -/
theorem blk (h : WF N s K) (hN : 1 ≤ N) {c : Nat} (hc1 : 1 ≤ c) (hcN : c ≤ N) : ∀ (m x : Nat), anc s.par m c = x → 1 ≤ x →
    ∃ us vs, P N K x = us ++ P N K c ++ vs ∧ (∀ f, m < f → pastF s f c x = vs.headD 0) ∧ (∀ f, N ≤ f → prevF s f c x = us.getLastD 0) ∧ (m ≠ 0 → us ≠ []) ∧ (m ≠ 0 → P N (dropK K c) x = us ++ vs)
  | 0, x, hx, _ => by
    simp only [anc] at hx
    subst hx
    refine ⟨[], [], by simp, fun f hf => ?_, fun f _ => by simp [prevF], fun h => absurd rfl h, fun h => absurd rfl h⟩
    cases f with
    | zero => omega
    | succ f => simp [pastF]
  | m + 1, x, hx, hx1 => by
    rw [anc_succ'] at hx
    have hy0 : anc s.par m c ≠ 0 := by intro e; rw [e, h.z] at hx; omega
    obtain ⟨y, hy⟩ : ∃ y, anc s.par m c = y := ⟨_, rfl⟩
    rw [hy] at hx hy0
    have hyN : y ≤ N := by
      have : ∀ j, anc s.par j c ≤ N := fun j => by
        induction j with
        | zero => exact hcN
        | succ j ih => rw [anc_succ']; exact h.parLe _ ih
      rw [← hy]; exact this m
    have hxN : x ≤ N := by rw [← hx]; exact h.parLe y hyN
    obtain ⟨us, vs, e1, e2, e3, e4, e5⟩ := blk h hN hc1 hcN m y hy (by omega)
    have hyk : y ∈ K x := by have := h.own y (by omega) hyN (by omega); rwa [hx] at this
    obtain ⟨as, bs, hK⟩ := split_of_mem hyk
    have hsd := h.sides hK
    have ePx : P N K x = x :: (as.flatMap (P N K) ++ (P N K y ++ bs.flatMap (P N K))) := by
      rw [P_eq h hx1 hN, hK, List.flatMap_append, List.flatMap_cons]
    have hcx : c ≠ x := by
      intro e
      have h2 : anc s.par (m + 1) c = c := by rw [anc_succ', hy, hx, e]
      exact no_loop h.z (by omega) (h.acy c hcN) m h2
    have hsib : ∀ k, k ∈ as ∨ k ∈ bs → ¬ Desc s.par c k := by
      intro k hk hd
      have hkK : k ∈ K x := by rw [hK]; simp; rcases hk with hk | hk <;> simp [hk]
      have e := desc_unique h hkK hyk hd ⟨m, hy⟩
      have hn := h.nd x
      rw [hK] at hn
      have := split_nodup hn
      rcases hk with hk | hk
      · exact this.1 (e ▸ hk)
      · exact this.2 (e ▸ hk)
    refine ⟨x :: as.flatMap (P N K) ++ us, vs ++ bs.flatMap (P N K), ?_, ?_, ?_, by simp, ?_⟩
    · rw [ePx, e1]; simp
    · intro f hf
      -- the way up from c to y, then beside y
      have key : ∀ (j z f : Nat), anc s.par j z = y → m < f + (m - j) → j ≤ m → (∀ g, j < g → pastF s g z y = vs.headD 0) → z ≠ 0 → (∀ i, i ≤ j → anc s.par i z ≠ x) → j < f → pastF s (f + 1) z x = (vs ++ bs.flatMap (P N K)).headD 0 := by
        intro j
        induction j with
        | zero =>
          intro z f hz _ _ hg hz0 hnx hf
          simp only [anc] at hz
          subst hz
          have hv : vs.headD 0 = 0 := by rw [← hg 1 (by omega)]; simp [pastF]
          have hvs : vs = [] ∨ vs ≠ [] := by cases vs <;> simp
          have hzx : z ≠ x := hnx 0 (Nat.le_refl _)
          have hvn : vs = [] := by
            cases vs with
            | nil => rfl
            | cons v vt =>
              exfalso
              simp at hv
              have hmem : v ∈ P N K z := by rw [e1]; simp
              have := (pre_desc h N z v hmem).pos h.z (by omega)
              omega
          rw [hvn, List.nil_append]
          show (if z = 0 then 0 else if z = x then 0 else if s.bhd z = 0 then pastF s f (s.par z) x else s.bhd z) = _
          rw [if_neg hz0, if_neg hzx, hsd.2]
          by_cases hb : bs = []
          · subst hb
            simp only [List.headD_nil, if_true, hx, List.flatMap_nil]
            cases f with
            | zero => rfl
            | succ f => simp [pastF]
          · have hb0 : bs.headD 0 ≠ 0 := nz_of_kid h (p := x) (by rw [hK]; exact List.mem_append.2 (.inr (List.mem_cons_of_mem _ (head_mem hb 0))))
            rw [if_neg hb0]
            have := fm_head K N bs [] hb
            simpa using this.symm
        | succ j ih =>
          intro z f hz hm hjm hg hz0 hnx hf
          have hzx : z ≠ x := hnx 0 (Nat.zero_le _)
          have hzy : z ≠ y := by
            rintro rfl
            have hzN : z ≤ N := hyN
            exact no_loop h.z hz0 (h.acy z hzN) j hz
          have hg2 := hg (j + 2) (by omega)
          have e0 : pastF s (j + 2) z y = if z = 0 then 0 else if z = y then 0 else if s.bhd z = 0 then pastF s (j + 1) (s.par z) y else s.bhd z := rfl
          rw [e0, if_neg hz0, if_neg hzy] at hg2
          show (if z = 0 then 0 else if z = x then 0 else if s.bhd z = 0 then pastF s f (s.par z) x else s.bhd z) = _
          rw [if_neg hz0, if_neg hzx]
          by_cases hb : s.bhd z = 0
          · rw [if_pos hb]
            have hp0 : s.par z ≠ 0 := by
              intro e
              have : anc s.par j (s.par z) = y := hz
              rw [e, anc_zero h.z] at this
              omega
            cases f with
            | zero => omega
            | succ f =>
              refine ih (s.par z) f hz (by omega) (by omega) (fun g hgj => ?_) hp0 (fun i hi => ?_) (by omega)
              · have h3 := hg (g + 1) (by omega)
                have e0 : pastF s (g + 1) z y = if z = 0 then 0 else if z = y then 0 else if s.bhd z = 0 then pastF s g (s.par z) y else s.bhd z := rfl
                rwa [e0, if_neg hz0, if_neg hzy, if_pos hb] at h3
              · exact hnx (i + 1) (by omega)
          · rw [if_neg hb] at hg2 ⊢
            cases vs with
            | nil => simp at hg2; exact absurd hg2 hb
            | cons v vt => simpa using hg2
      cases f with
      | zero => omega
      | succ f =>
        refine key m c f hy (by omega) (Nat.le_refl _) e2 (by omega) (fun i hi e => ?_) (by omega)
        -- x is above y, so none of these
        have h1 : anc s.par (m - i) x = y := by
          rw [← e, ← anc_add, show i + (m - i) = m by omega]; exact hy
        have h2 : anc s.par (m - i + 1) x = x := by rw [anc_succ', h1, hx]
        exact no_loop h.z (by omega) (h.acy x hxN) _ h2
    · intro f hf
      by_cases hm : m = 0
      · subst hm
        simp only [anc] at hy
        subst hy
        have hu : us = [] := by
          cases us with
          | nil => rfl
          | cons u ut =>
            exfalso
            have := congrArg List.length e1
            simp at this
            omega
        subst hu
        unfold prevF
        rw [if_neg hcx, hsd.1]
        by_cases ha : as = []
        · subst ha; simp [hx]
        · have ham := last_mem ha 0
          have hak := h.kid x _ (show as.getLastD 0 ∈ K x by rw [hK]; exact List.mem_append.2 (.inl ham))
          rw [if_neg (by omega), inm_last h hN _ _ f hak.2.2.1 hak.2.2.2.1 (h.deepN hak.2.2.1 hN) hf]
          obtain ⟨xs, hxs⟩ := split_last ha
          generalize as.getLastD 0 = z at *
          have hz : P N K z ≠ [] := by obtain ⟨t, ht⟩ := P_head N K z; rw [ht]; simp
          rw [hxs, List.flatMap_append, show [z].flatMap (P N K) = P N K z by simp, List.append_nil, ← List.cons_append, getLastD_append' hz]
      · have e3' := e3 f hf
        rw [getLastD_append' (e4 hm), ← e3']
        unfold prevF
        have hcy : c ≠ y := by
          intro e
          obtain ⟨j, rfl⟩ := Nat.exists_eq_succ_of_ne_zero hm
          exact no_loop h.z (by omega) (h.acy c hcN) j (hy.trans e.symm)
        rw [if_neg hcx, if_neg hcy]
    · intro _
      have hfa : as.flatMap (P N (dropK K c)) = as.flatMap (P N K) := flatMap_congr' (fun k hk => P_drop_other h hc1 hcN (fun hd => absurd hd (hsib k (.inl hk))))
      have hfb : bs.flatMap (P N (dropK K c)) = bs.flatMap (P N K) := flatMap_congr' (fun k hk => P_drop_other h hc1 hcN (fun hd => absurd hd (hsib k (.inr hk))))
      have hwf := out_wf h hc1 hcN
      rw [P_eq hwf hx1 hN]
      by_cases hm : m = 0
      · subst hm
        simp only [anc] at hy
        subst hy
        have hn := h.nd x
        rw [hK] at hn
        have hlen := congrArg List.length e1
        have hu : us = [] := by
          cases us with
          | nil => rfl
          | cons u ut => exfalso; simp at hlen; omega
        have hv : vs = [] := by
          cases vs with
          | nil => rfl
          | cons u ut => exfalso; simp at hlen; omega
        subst hu hv
        have : dropK K c x = as ++ bs := by simp only [dropK, hK]; exact filter_split (split_nodup hn).1 (split_nodup hn).2
        rw [this, List.flatMap_append, hfa, hfb]
        simp
      · have hcy : c ≠ y := by
          intro e
          obtain ⟨j, rfl⟩ := Nat.exists_eq_succ_of_ne_zero hm
          exact no_loop h.z (by omega) (h.acy c hcN) j (hy.trans e.symm)
        have hck : c ∉ K x := by
          intro hk
          have e := desc_unique h hk hyk (Desc.refl _ _) ⟨m, hy⟩
          exact hcy e
        have : dropK K c x = as ++ y :: bs := by simp only [dropK]; rw [filter_out hck, hK]
        rw [this, List.flatMap_append, List.flatMap_cons, hfa, hfb, e5 hm]
        simp

theorem P_mem (h : WF N s K) (hN : 1 ≤ N) {x y : Nat} (hy1 : 1 ≤ y) (hyN : y ≤ N) (hx : 1 ≤ x) : y ∈ P N K x ↔ Desc s.par y x := by
  constructor
  · exact pre_desc h N x y
  · rintro ⟨m, hm⟩
    obtain ⟨us, vs, e, _⟩ := blk h hN hy1 hyN m x hm hx
    rw [e]
    simp [P_self]

theorem pre_nodup (h : WF N s K) : ∀ (f x : Nat), 1 ≤ x → x ≤ N → (pre K f x).Nodup
  | 0, x, _, _ => by simp [pre]
  | f + 1, x, hx, hxN => by
    show (x :: (K x).flatMap (pre K f)).Nodup
    have hkids : ∀ (l : List Nat), l.Nodup → (∀ k, k ∈ l → k ∈ K x) → (l.flatMap (pre K f)).Nodup := by
      intro l
      induction l with
      | nil => intro _ _; simp
      | cons k l ih =>
        intro hn hl
        rw [List.flatMap_cons, List.nodup_append]
        have hk := h.kid x k (hl k (by simp))
        refine ⟨pre_nodup h f k hk.2.2.1 hk.2.2.2.1, ih (List.nodup_cons.1 hn).2 (fun k' hk' => hl k' (by simp [hk'])), ?_⟩
        rintro a ha b hb rfl
        obtain ⟨k', hk', hb⟩ := List.mem_flatMap.1 hb
        have e := desc_unique h (hl k (by simp)) (hl k' (by simp [hk'])) (pre_desc h f k a ha) (pre_desc h f k' a hb)
        exact (List.nodup_cons.1 hn).1 (e ▸ hk')
    refine List.nodup_cons.2 ⟨?_, hkids _ (h.nd x) (fun k hk => hk)⟩
    intro hm
    obtain ⟨k, hk, hm⟩ := List.mem_flatMap.1 hm
    obtain ⟨j, hj⟩ := pre_desc h f k x hm
    have h2 : anc s.par (j + 1) x = x := by rw [anc_succ', hj]; exact (h.kid x k hk).2.2.2.2
    exact no_loop h.z (by omega) (h.acy x hxN) j h2

theorem P_nodup (h : WF N s K) {x : Nat} (hx : 1 ≤ x) (hxN : x ≤ N) : (P N K x).Nodup := pre_nodup h N x hx hxN

theorem desc_le (h : WF N s K) {x t : Nat} (hd : Desc s.par x t) (hx : x ≤ N) : t ≤ N := by
  obtain ⟨m, rfl⟩ := hd
  induction m with
  | zero => exact hx
  | succ m ih => rw [anc_succ']; exact h.parLe _ ih

theorem pre_le (h : WF N s K) : ∀ (f x y : Nat), 1 ≤ x → x ≤ N → y ∈ pre K f x → 1 ≤ y ∧ y ≤ N
  | 0, x, y, hx, hxN, hy => by simp [pre] at hy; omega
  | f + 1, x, y, hx, hxN, hy => by
    simp only [pre, List.mem_cons, List.mem_flatMap] at hy
    rcases hy with rfl | ⟨k, hk, hy⟩
    · exact ⟨hx, hxN⟩
    · have := h.kid x k hk
      exact pre_le h f k y this.2.2.1 this.2.2.2.1 hy

theorem P_len (h : WF N s K) {x : Nat} (hx : 1 ≤ x) (hxN : x ≤ N) : (P N K x).length ≤ N :=
  nodup_len (P_nodup h hx hxN) (fun y hy => pre_le h N x y hx hxN hy)

/-- Within as the law counts it: at most so many. -/
theorem wi_pre (K : Nat → List Nat) : ∀ (f x most : Nat), wi K f x most = (pre K f x).take (max 1 most)
  | 0, x, most => by
    have : max 1 most = (max 1 most - 1) + 1 := by omega
    rw [this]; simp [wi, pre]
  | f + 1, x, most => by
    have key : ∀ (ks l : List Nat), 1 ≤ l.length → l.length ≤ max 1 most → ks.foldl (fun l k => if l.length < most then l ++ wi K f k (most - l.length) else l) l = (l ++ ks.flatMap (pre K f)).take (max 1 most) := by
      intro ks
      induction ks with
      | nil => intro l h1 h2; simp [List.take_of_length_le h2]
      | cons k ks ih =>
        intro l h1 h2
        rw [List.foldl_cons]
        by_cases hl : l.length < most
        · rw [if_pos hl, wi_pre K f k (most - l.length)]
          have em : max 1 (most - l.length) = most - l.length := by omega
          have em2 : max 1 most = most := by omega
          rw [em, em2]
          rw [em2] at ih
          rw [ih _ (by simp; omega) (by rw [List.length_append, List.length_take]; omega)]
          rw [List.flatMap_cons, ← List.append_assoc, List.take_append (l₁ := l ++ pre K f k), List.take_append (l₁ := l ++ _)]
          rw [List.take_append, List.take_append, List.take_take]
          simp only [List.length_append, List.length_take, Nat.min_self]
          by_cases hk : (pre K f k).length ≤ most - l.length
          · rw [Nat.min_eq_right hk]
          · rw [Nat.min_eq_left (by omega)]
            rw [show most - (l.length + (most - l.length)) = 0 by omega, show most - (l.length + (pre K f k).length) = 0 by omega]
        · rw [if_neg hl, ih l h1 h2]
          have e : max 1 most = l.length := by omega
          rw [e, List.take_append_of_le_length (Nat.le_refl _), List.take_append_of_le_length (Nat.le_refl _)]
    show (K x).foldl _ [x] = _
    rw [key (K x) [x] (by simp) (by simp; omega)]
    rfl

theorem wi_P (h : WF N s K) (hN : 1 ≤ N) {x : Nat} (hx : 1 ≤ x) (hxN : x ≤ N) : wi K (N + 1) x N = P N K x := by
  rw [wi_pre, P_succ h hx hN, List.take_of_length_le]
  have := P_len h hx hxN
  omega

end
end Go.Proofs.YtcedebpoihcbdaaDoor.Gv
