/-
  Plain mathematics, no Go: forests whose kids stand in doubly linked chains; what 'join', 'remove' and 'insert' do to them; the list of all that is within a node.
-/
namespace Go.Proofs.YtcedebpoihcbdaaDoor.Gv

structure Fo where
  par : Nat → Nat
  ahd : Nat → Nat
  bhd : Nat → Nat
  fst : Nat → Nat
  lst : Nat → Nat

def up {α : Type} (f : Nat → α) (i : Nat) (v : α) : Nat → α := fun x => if x = i then v else f x
theorem up_same {α : Type} (f : Nat → α) (i : Nat) (v : α) : up f i v i = v := by simp [up]
theorem up_other {α : Type} (f : Nat → α) (i : Nat) (v : α) {x : Nat} (h : x ≠ i) : up f i v x = f x := by simp [up, h]

def Fo.join (s : Fo) (p a b : Nat) : Fo :=
  { par := s.par
    ahd := if b = 0 then s.ahd else up s.ahd b a
    bhd := if a = 0 then s.bhd else up s.bhd a b
    fst := if a = 0 then up s.fst p b else s.fst
    lst := if b = 0 then up s.lst p a else s.lst }

def Fo.lift (t : Fo) (n f l : Nat) : Fo :=
  { par := up t.par n 0, ahd := up t.ahd n 0, bhd := up t.bhd n 0, fst := up t.fst n f, lst := up t.lst n l }

def Fo.remove (s : Fo) (n : Nat) : Fo := (s.join (s.par n) (s.ahd n) (s.bhd n)).lift n (s.fst n) (s.lst n)

def Fo.setPar (s : Fo) (c p : Nat) : Fo := { s with par := up s.par c p }

def Fo.insert (s : Fo) (p c b : Nat) : Fo := ((s.setPar c p).join p (if b = 0 then s.lst p else s.ahd b) c).join p c b

/-! ### the way up -/
def anc (f : Nat → Nat) : Nat → Nat → Nat
  | 0, x => x
  | m + 1, x => anc f m (f x)

theorem anc_add (f : Nat → Nat) (m k x : Nat) : anc f (m + k) x = anc f k (anc f m x) := by
  induction m generalizing x with
  | zero => simp [anc]
  | succ m ih => rw [Nat.succ_add]; simp [anc, ih]

theorem anc_zero {f : Nat → Nat} (h0 : f 0 = 0) (m : Nat) : anc f m 0 = 0 := by
  induction m with
  | zero => rfl
  | succ m ih => simp [anc, h0, ih]

theorem anc_succ' (f : Nat → Nat) (m x : Nat) : anc f (m + 1) x = f (anc f m x) := by
  rw [anc_add]; rfl

def Desc (f : Nat → Nat) (x t : Nat) : Prop := ∃ m, anc f m x = t

theorem Desc.refl (f : Nat → Nat) (x : Nat) : Desc f x x := ⟨0, rfl⟩
theorem Desc.step {f : Nat → Nat} {x t : Nat} (h : Desc f x t) : Desc f x (f t) := by
  obtain ⟨m, rfl⟩ := h
  exact ⟨m + 1, anc_succ' f m x⟩
theorem Desc.head {f : Nat → Nat} {x t : Nat} (h : Desc f (f x) t) : Desc f x t := by
  obtain ⟨m, rfl⟩ := h
  exact ⟨m + 1, rfl⟩
theorem Desc.trans {f : Nat → Nat} {x y z : Nat} (h : Desc f x y) (k : Desc f y z) : Desc f x z := by
  obtain ⟨m, rfl⟩ := h
  obtain ⟨n, rfl⟩ := k
  exact ⟨m + n, anc_add f m n x⟩

/-- Ten pigeons, nine holes. -/
theorem php (N : Nat) : ∀ (f : Nat → Nat), (∀ i, i ≤ N → 1 ≤ f i ∧ f i ≤ N) → ∃ i j, i < j ∧ j ≤ N ∧ f i = f j := by
  induction N with
  | zero => intro f h; have := h 0 (Nat.le_refl _); omega
  | succ N ih =>
    intro f h
    by_cases he : ∃ i, i ≤ N ∧ f i = f (N + 1)
    · obtain ⟨i, hi, e⟩ := he
      exact ⟨i, N + 1, by omega, Nat.le_refl _, e⟩
    · have hl := h (N + 1) (Nat.le_refl _)
      have hne : ∀ i, i ≤ N → f i ≠ f (N + 1) := fun i hi e => he ⟨i, hi, e⟩
      obtain ⟨i, j, hij, hj, e⟩ := ih (fun i => if f (N + 1) < f i then f i - 1 else f i) (by
        intro i hi
        have h1 := h i (by omega)
        have h2 := hne i hi
        split <;> omega)
      refine ⟨i, j, hij, by omega, ?_⟩
      have h1 := hne i (by omega)
      have h2 := hne j (by omega)
      have h3 := h i (by omega)
      have h4 := h j (by omega)
      split at e <;> split at e <;> omega

/-- A list without repeats of numbers from 1 to N has at most N of them. -/
theorem nodup_len {N : Nat} {l : List Nat} (hn : l.Nodup) (hb : ∀ x, x ∈ l → 1 ≤ x ∧ x ≤ N) : l.length ≤ N := by
  apply Nat.le_of_not_lt
  intro hlt
  obtain ⟨i, j, hij, hj, e⟩ := php N (fun i => l.getD i 0) (fun i hi => by
    rw [List.getD_eq_getElem?_getD, List.getElem?_eq_getElem (by omega)]
    exact hb _ (List.getElem_mem _))
  have e' : l.getD i 0 = l.getD j 0 := e
  rw [List.getD_eq_getElem?_getD, List.getElem?_eq_getElem (by omega), List.getD_eq_getElem?_getD, List.getElem?_eq_getElem (by omega)] at e'
  exact List.pairwise_iff_getElem.1 hn i j (by omega) (by omega) hij (by simpa using e')

/-- Where every way up ends, it ends in at most N steps. -/
theorem anc_bound {f : Nat → Nat} {N x : Nat} (h0 : f 0 = 0) (hx : x ≤ N) (hf : ∀ k, k ≤ N → f k ≤ N) (hm : ∃ m, anc f m x = 0) : anc f N x = 0 := by
  have hin : ∀ m, anc f m x ≤ N := by
    intro m
    induction m with
    | zero => exact hx
    | succ m ih => rw [anc_succ']; exact hf _ ih
  obtain ⟨m, hm⟩ := hm
  by_cases hz : anc f N x = 0
  · exact hz
  · exfalso
    have hnz : ∀ i, i ≤ N → anc f i x ≠ 0 := by
      intro i hi e
      apply hz
      have : N = i + (N - i) := by omega
      rw [this, anc_add, e, anc_zero h0]
    obtain ⟨i, j, hij, hj, e⟩ := php N (fun i => anc f i x) (fun i hi => ⟨Nat.pos_of_ne_zero (hnz i hi), hin i⟩)
    have e' : anc f i x = anc f j x := e
    -- it goes round for ever
    have hper : ∀ q, anc f (i + q * (j - i)) x = anc f i x := by
      intro q
      induction q with
      | zero => simp
      | succ q ih =>
        have h1 : i + (q + 1) * (j - i) = (i + q * (j - i)) + (j - i) := by rw [Nat.add_mul]; omega
        rw [h1, anc_add, ih, ← anc_add]
        have h2 : i + (j - i) = j := by omega
        rw [h2]; exact e'.symm
    have hge : m ≤ i + m * (j - i) := by
      have : m * 1 ≤ m * (j - i) := Nat.mul_le_mul_left _ (by omega)
      omega
    have h3 := hper m
    have h4 : i + m * (j - i) = m + (i + m * (j - i) - m) := by omega
    rw [h4, anc_add, hm, anc_zero h0] at h3
    exact hnz i (by omega) h3.symm

/-- None is above itself. -/
theorem no_loop {f : Nat → Nat} {x : Nat} (h0 : f 0 = 0) (hx : x ≠ 0) (hm : ∃ m, anc f m x = 0) (j : Nat) : anc f (j + 1) x ≠ x := by
  intro e
  obtain ⟨m, hm⟩ := hm
  have hper : ∀ q, anc f (q * (j + 1)) x = x := by
    intro q
    induction q with
    | zero => simp [anc]
    | succ q ih => rw [Nat.add_mul, Nat.one_mul, anc_add, ih, e]
  have hge : m ≤ m * (j + 1) := by
    have : m * 1 ≤ m * (j + 1) := Nat.mul_le_mul_left _ (by omega)
    omega
  have h3 := hper m
  have h4 : m * (j + 1) = m + (m * (j + 1) - m) := by omega
  rw [h4, anc_add, hm, anc_zero h0] at h3
  exact hx h3.symm

/-! ### chains -/
def Seg (a b : Nat → Nat) : Nat → List Nat → Nat → Prop
  | _, [], _ => True
  | q, k :: ks, nx => a k = q ∧ b k = ks.headD nx ∧ Seg a b k ks nx

theorem seg_append {a b : Nat → Nat} (xs ys : List Nat) (q nx : Nat) : Seg a b q (xs ++ ys) nx ↔ Seg a b q xs (ys.headD nx) ∧ Seg a b (xs.getLastD q) ys nx := by
  induction xs generalizing q with
  | nil => simp [Seg]
  | cons k ks ih =>
    have e : (ks ++ ys).headD nx = ks.headD (ys.headD nx) := by cases ks <;> simp
    simp only [List.cons_append, Seg, ih, e, List.getLastD_cons]
    constructor
    · rintro ⟨h1, h2, h3, h4⟩; exact ⟨⟨h1, h2, h3⟩, h4⟩
    · rintro ⟨⟨h1, h2, h3⟩, h4⟩; exact ⟨h1, h2, h3, h4⟩

theorem seg_congr {a b a' b' : Nat → Nat} {q nx : Nat} {l : List Nat} (ha : ∀ k, k ∈ l → a' k = a k) (hb : ∀ k, k ∈ l → b' k = b k) (h : Seg a b q l nx) : Seg a' b' q l nx := by
  induction l generalizing q with
  | nil => trivial
  | cons k ks ih =>
    obtain ⟨h1, h2, h3⟩ := h
    exact ⟨by rw [ha k (by simp)]; exact h1, by rw [hb k (by simp)]; exact h2, ih (fun x hx => ha x (by simp [hx])) (fun x hx => hb x (by simp [hx])) h3⟩

theorem last_mem {xs : List Nat} (h : xs ≠ []) (d : Nat) : xs.getLastD d ∈ xs := by
  rw [List.getLastD_eq_getLast?, List.getLast?_eq_some_getLast h]
  exact List.getLast_mem h

theorem head_mem {ys : List Nat} (h : ys ≠ []) (d : Nat) : ys.headD d ∈ ys := by
  cases ys with
  | nil => exact absurd rfl h
  | cons y yt => simp

/-- The chain's end leads elsewhere. -/
theorem seg_next {a b b' : Nat → Nat} {q nx nx' : Nat} {xs : List Nat} (hnd : xs.Nodup) (hlast : xs ≠ [] → b' (xs.getLastD 0) = nx') (hb : ∀ k, k ∈ xs → k ≠ xs.getLastD 0 → b' k = b k) (h : Seg a b q xs nx) : Seg a b' q xs nx' := by
  induction xs generalizing q with
  | nil => trivial
  | cons k ks ih =>
    obtain ⟨h1, h2, h3⟩ := h
    cases ks with
    | nil => exact ⟨h1, by simpa using hlast (by simp), trivial⟩
    | cons k2 kt =>
      have e : (k :: k2 :: kt).getLastD 0 = (k2 :: kt).getLastD 0 := by simp
      have hk : k ∉ k2 :: kt := (List.nodup_cons.1 hnd).1
      have hmem : (k2 :: kt).getLastD 0 ∈ k2 :: kt := last_mem (by simp) 0
      have hne : k ≠ (k2 :: kt).getLastD 0 := fun e => hk (by rw [e]; exact hmem)
      refine ⟨h1, ?_, ih (List.nodup_cons.1 hnd).2 (fun _ => by rw [← e]; exact hlast (by simp)) (fun x hx hn => hb x (by simp [hx]) (by rw [e]; exact hn)) h3⟩
      rw [hb k (by simp) (by rw [e]; exact hne)]
      simpa using h2

/-- The chain's head is led to from elsewhere. -/
theorem seg_prev {a b a' : Nat → Nat} {q q' nx : Nat} {ys : List Nat} (hnd : ys.Nodup) (hhead : ys ≠ [] → a' (ys.headD 0) = q') (ha : ∀ k, k ∈ ys → k ≠ ys.headD 0 → a' k = a k) (h : Seg a b q ys nx) : Seg a' b q' ys nx := by
  cases ys with
  | nil => trivial
  | cons k ks =>
    obtain ⟨h1, h2, h3⟩ := h
    refine ⟨by simpa using hhead (by simp), h2, seg_congr (fun x hx => ha x (by simp [hx]) (fun e => ?_)) (fun _ _ => rfl) h3⟩
    have : k ∉ ks := (List.nodup_cons.1 hnd).1
    simp at e
    exact this (e ▸ hx)

/-! ### sums -/
def sumTo : Nat → (Nat → Nat) → Nat
  | 0, _ => 0
  | n + 1, f => sumTo n f + f (n + 1)

theorem sumTo_congr {n : Nat} {f g : Nat → Nat} (h : ∀ i, 1 ≤ i → i ≤ n → f i = g i) : sumTo n f = sumTo n g := by
  induction n with
  | zero => rfl
  | succ n ih => simp only [sumTo]; rw [ih (fun i h1 h2 => h i h1 (by omega)), h (n + 1) (by omega) (Nat.le_refl _)]

theorem sumTo_up {n : Nat} {f g : Nat → Nat} {p : Nat} (h1 : 1 ≤ p) (h2 : p ≤ n) (h : ∀ i, i ≠ p → g i = f i) : sumTo n g + f p = sumTo n f + g p := by
  induction n with
  | zero => omega
  | succ n ih =>
    simp only [sumTo]
    by_cases e : p = n + 1
    · subst e
      rw [sumTo_congr (n := n) (f := g) (g := f) (fun i _ hi => h i (by omega))]
      omega
    · have := ih (by omega)
      rw [h (n + 1) (by omega)]
      omega

theorem sumTo_le {n m : Nat} {f : Nat → Nat} (h : ∀ i, f i ≤ m) : sumTo n f ≤ n * m := by
  induction n with
  | zero => simp [sumTo]
  | succ n ih => simp only [sumTo]; have := h (n + 1); rw [Nat.add_mul]; omega

theorem sumTo_zero (n : Nat) : sumTo n (fun _ => 0) = 0 := by
  induction n with
  | zero => rfl
  | succ n ih => simp [sumTo, ih]

/-! ### what a forest is -/
structure WF (N : Nat) (s : Fo) (K : Nat → List Nat) : Prop where
  z : s.par 0 = 0
  kid : ∀ p k, k ∈ K p → 1 ≤ p ∧ p ≤ N ∧ 1 ≤ k ∧ k ≤ N ∧ s.par k = p
  own : ∀ k, 1 ≤ k → k ≤ N → s.par k ≠ 0 → k ∈ K (s.par k)
  nd : ∀ p, (K p).Nodup
  fst : ∀ p, 1 ≤ p → p ≤ N → s.fst p = (K p).headD 0
  lst : ∀ p, 1 ≤ p → p ≤ N → s.lst p = (K p).getLastD 0
  seg : ∀ p, Seg s.ahd s.bhd 0 (K p) 0
  acy : ∀ k, k ≤ N → ∃ m, anc s.par m k = 0
  cnt : sumTo N (fun p => (K p).length) = sumTo N (fun k => if s.par k = 0 then 0 else 1)

theorem WF.parLe {N : Nat} {s : Fo} {K : Nat → List Nat} (h : WF N s K) (k : Nat) (hk : k ≤ N) : s.par k ≤ N := by
  by_cases h0 : s.par k = 0
  · omega
  · have hk1 : 1 ≤ k := Nat.pos_of_ne_zero (fun e => h0 (by rw [e]; exact h.z))
    exact (h.kid _ _ (h.own k hk1 hk h0)).2.1

theorem WF.few {N : Nat} {s : Fo} {K : Nat → List Nat} (h : WF N s K) (p : Nat) : (K p).length ≤ N :=
  nodup_len (h.nd p) (fun x hx => by have := h.kid p x hx; omega)

theorem WF.top {N : Nat} {s : Fo} {K : Nat → List Nat} (h : WF N s K) (k : Nat) (hk : k ≤ N) : anc s.par N k = 0 :=
  anc_bound h.z hk h.parLe (h.acy k hk)

/-- What is taken apart at a kid: what stands ahead of it, and behind. -/
theorem WF.sides {N : Nat} {s : Fo} {K : Nat → List Nat} (h : WF N s K) {p c : Nat} {xs ys : List Nat} (hK : K p = xs ++ c :: ys) : s.ahd c = xs.getLastD 0 ∧ s.bhd c = ys.headD 0 := by
  have hs := h.seg p
  rw [hK, seg_append] at hs
  exact ⟨hs.2.1, hs.2.2.1⟩

theorem nz_of_kid {N : Nat} {s : Fo} {K : Nat → List Nat} (h : WF N s K) {p k : Nat} (hk : k ∈ K p) : k ≠ 0 := by have := h.kid p k hk; omega

theorem getLastD_zero {xs : List Nat} (hnz : ∀ k, k ∈ xs → k ≠ 0) : xs.getLastD 0 = 0 ↔ xs = [] := by
  constructor
  · intro e
    by_cases hx : xs = []
    · exact hx
    · exact absurd e (hnz _ (last_mem hx 0))
  · rintro rfl; rfl

theorem headD_zero {xs : List Nat} (hnz : ∀ k, k ∈ xs → k ≠ 0) : xs.headD 0 = 0 ↔ xs = [] := by
  constructor
  · intro e
    by_cases hx : xs = []
    · exact hx
    · exact absurd e (hnz _ (head_mem hx 0))
  · rintro rfl; rfl

end Go.Proofs.YtcedebpoihcbdaaDoor.Gv
