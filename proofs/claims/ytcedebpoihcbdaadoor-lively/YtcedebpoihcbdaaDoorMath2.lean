/-
  Plain mathematics, no Go: a forest stays one when a node is taken out of where it stands, and when a node that stands nowhere is put under one that is not within it.
-/
import Derived.Test.YtcedebpoihcbdaaDoorMath
namespace Go.Proofs.YtcedebpoihcbdaaDoor.Gv

theorem desc_up {f : Nat → Nat} {c v x : Nat} (h : Desc (up f c v) x c) : Desc f x c := by
  obtain ⟨m, hm⟩ := h
  induction m generalizing x with
  | zero => exact ⟨0, hm⟩
  | succ m ih =>
    by_cases e : x = c
    · exact e ▸ Desc.refl f x
    · simp only [anc, up_other f c v e] at hm
      exact (ih hm).head

theorem acy_up {f : Nat → Nat} {c v : Nat} (hv : ∃ m, anc (up f c v) m v = 0) {k : Nat} (h : ∃ m, anc f m k = 0) : ∃ m, anc (up f c v) m k = 0 := by
  obtain ⟨m, hm⟩ := h
  induction m generalizing k with
  | zero => exact ⟨0, hm⟩
  | succ m ih =>
    by_cases e : k = c
    · obtain ⟨n, hn⟩ := hv
      exact ⟨n + 1, by simp only [anc]; rw [e, up_same]; exact hn⟩
    · obtain ⟨n, hn⟩ := ih hm
      exact ⟨n + 1, by simp only [anc]; rw [up_other f c v e]; exact hn⟩

theorem anc_up_same {f : Nat → Nat} {c v x : Nat} (h : ¬ Desc f x c) (m : Nat) : anc (up f c v) m x = anc f m x := by
  induction m generalizing x with
  | zero => rfl
  | succ m ih =>
    have e : x ≠ c := fun e => h (e ▸ Desc.refl f x)
    simp only [anc, up_other f c v e]
    exact ih (fun hd => h hd.head)

section
variable {N : Nat} {s : Fo} {K : Nat → List Nat}

theorem WF.par_ne (h : WF N s K) {c : Nat} (hc : c ≠ 0) (hcN : c ≤ N) : s.par c ≠ c := by
  have := no_loop h.z hc (h.acy c hcN) 0
  simpa [anc] using this

theorem remove_wf (h : WF N s K) {c p : Nat} {xs ys : List Nat} (hc1 : 1 ≤ c) (hcN : c ≤ N) (hp : s.par c = p) (hp0 : p ≠ 0) (hK : K p = xs ++ c :: ys) :
    WF N (s.remove c) (up K p (xs ++ ys)) := by
  obtain ⟨ha, hb⟩ := h.sides hK
  have hcp : p ≠ c := by rw [← hp]; exact h.par_ne (by omega) hcN
  have hpN : 1 ≤ p ∧ p ≤ N := ⟨Nat.pos_of_ne_zero hp0, by rw [← hp]; exact h.parLe c hcN⟩
  have hnd := h.nd p
  rw [hK] at hnd
  have hndx : xs.Nodup := (List.nodup_append.1 hnd).1
  have hndcy : (c :: ys).Nodup := (List.nodup_append.1 hnd).2.1
  have hndy : ys.Nodup := (List.nodup_cons.1 hndcy).2
  have hcy : c ∉ ys := (List.nodup_cons.1 hndcy).1
  have hdis : ∀ a, a ∈ xs → ∀ b, b ∈ c :: ys → a ≠ b := (List.nodup_append.1 hnd).2.2
  have hcx : c ∉ xs := fun e => hdis c e c (by simp) rfl
  have hnzx : ∀ k, k ∈ xs → k ≠ 0 := fun k hk => nz_of_kid h (p := p) (by rw [hK]; simp [hk])
  have hnzy : ∀ k, k ∈ ys → k ≠ 0 := fun k hk => nz_of_kid h (p := p) (by rw [hK]; simp [hk])
  have hpx : ∀ k, k ∈ xs → s.par k = p := fun k hk => (h.kid p k (by rw [hK]; simp [hk])).2.2.2.2
  have hpy : ∀ k, k ∈ ys → s.par k = p := fun k hk => (h.kid p k (by rw [hK]; simp [hk])).2.2.2.2
  have eP : (s.remove c).par = up s.par c 0 := rfl
  have eA : (s.remove c).ahd = up (if ys.headD 0 = 0 then s.ahd else up s.ahd (ys.headD 0) (xs.getLastD 0)) c 0 := by
    simp only [Fo.remove, Fo.lift, Fo.join, ha, hb]
  have eB : (s.remove c).bhd = up (if xs.getLastD 0 = 0 then s.bhd else up s.bhd (xs.getLastD 0) (ys.headD 0)) c 0 := by
    simp only [Fo.remove, Fo.lift, Fo.join, ha, hb]
  have eF : (s.remove c).fst = up (if xs.getLastD 0 = 0 then up s.fst p (ys.headD 0) else s.fst) c (s.fst c) := by
    simp only [Fo.remove, Fo.lift, Fo.join, ha, hb, hp]
  have eL : (s.remove c).lst = up (if ys.headD 0 = 0 then up s.lst p (xs.getLastD 0) else s.lst) c (s.lst c) := by
    simp only [Fo.remove, Fo.lift, Fo.join, ha, hb, hp]
  have hseg := h.seg p
  rw [hK, seg_append] at hseg
  obtain ⟨sx, sc1, sc2, sy⟩ := hseg
  -- values of the new chains
  have a_same : ∀ k, k ≠ c → (ys ≠ [] → k ≠ ys.headD 0) → (s.remove c).ahd k = s.ahd k := by
    intro k h1 h2
    rw [eA, up_other _ _ _ h1]
    by_cases hy : ys = []
    · simp [hy]
    · rw [if_neg (fun e => hy ((headD_zero hnzy).1 e)), up_other _ _ _ (h2 hy)]
  have b_same : ∀ k, k ≠ c → (xs ≠ [] → k ≠ xs.getLastD 0) → (s.remove c).bhd k = s.bhd k := by
    intro k h1 h2
    rw [eB, up_other _ _ _ h1]
    by_cases hx : xs = []
    · simp [hx]
    · rw [if_neg (fun e => hx ((getLastD_zero hnzx).1 e)), up_other _ _ _ (h2 hx)]
  refine ⟨?_, ?_, ?_, ?_, ?_, ?_, ?_, ?_, ?_⟩
  · rw [eP, up_other _ _ _ (by omega)]; exact h.z
  · intro q k hk
    by_cases hq : q = p
    · subst hq
      rw [up_same] at hk
      have hkc : k ≠ c := by
        rintro rfl
        rcases List.mem_append.1 hk with h1 | h1
        · exact hcx h1
        · exact hcy h1
      have hk' : k ∈ K q := by rw [hK]; rcases List.mem_append.1 hk with h1 | h1 <;> simp [h1]
      rw [eP, up_other _ _ _ hkc]
      exact h.kid q k hk'
    · rw [up_other _ _ _ hq] at hk
      have hkk := h.kid q k hk
      have hkc : k ≠ c := by rintro rfl; exact hq (by rw [← hkk.2.2.2.2, hp])
      rw [eP, up_other _ _ _ hkc]
      exact hkk
  · intro k hk1 hkN hk0
    rw [eP] at hk0 ⊢
    have hkc : k ≠ c := by rintro rfl; exact hk0 (up_same _ _ _)
    rw [up_other _ _ _ hkc] at hk0 ⊢
    have := h.own k hk1 hkN hk0
    by_cases hq : s.par k = p
    · rw [hq, up_same]
      rw [hq, hK] at this
      rcases List.mem_append.1 this with h1 | h1
      · exact List.mem_append.2 (Or.inl h1)
      · rcases List.mem_cons.1 h1 with h2 | h2
        · exact absurd h2 hkc
        · exact List.mem_append.2 (Or.inr h2)
    · rw [up_other _ _ _ hq]; exact this
  · intro q
    by_cases hq : q = p
    · subst hq
      rw [up_same]
      exact List.nodup_append.2 ⟨hndx, hndy, fun a ha b hb => hdis a ha b (by simp [hb])⟩
    · rw [up_other _ _ _ hq]; exact h.nd q
  · intro q hq1 hqN
    rw [eF]
    by_cases hq : q = p
    · subst hq
      rw [up_same, up_other _ _ _ hcp]
      by_cases hx : xs = []
      · subst hx; simp [up_same]
      · rw [if_neg (fun e => hx ((getLastD_zero hnzx).1 e)), h.fst q hq1 hqN, hK]
        cases xs with
        | nil => exact absurd rfl hx
        | cons x xt => simp
    · rw [up_other _ _ _ hq, ← h.fst q hq1 hqN]
      by_cases hqc : q = c
      · subst hqc; rw [up_same]
      · rw [up_other _ _ _ hqc]
        split
        · rw [up_other _ _ _ hq]
        · rfl
  · intro q hq1 hqN
    rw [eL]
    by_cases hq : q = p
    · subst hq
      rw [up_same, up_other _ _ _ hcp]
      by_cases hy : ys = []
      · subst hy; simp [up_same]
      · rw [if_neg (fun e => hy ((headD_zero hnzy).1 e)), h.lst q hq1 hqN, hK]
        rw [List.getLastD_eq_getLast?, List.getLastD_eq_getLast?, List.getLast?_append, List.getLast?_append]
        cases ys with
        | nil => exact absurd rfl hy
        | cons y yt => simp [List.getLast?_cons_cons]
    · rw [up_other _ _ _ hq, ← h.lst q hq1 hqN]
      by_cases hqc : q = c
      · subst hqc; rw [up_same]
      · rw [up_other _ _ _ hqc]
        split
        · rw [up_other _ _ _ hq]
        · rfl
  · intro q
    by_cases hq : q = p
    · subst hq
      rw [up_same, seg_append]
      have hxy : ∀ k, k ∈ xs → ys ≠ [] → k ≠ ys.headD 0 := fun k hk hy => hdis k hk _ (List.mem_cons_of_mem _ (head_mem hy 0))
      have hyx : ∀ k, k ∈ ys → xs ≠ [] → k ≠ xs.getLastD 0 := fun k hk hx e => hdis _ (last_mem hx 0) k (List.mem_cons_of_mem _ hk) e.symm
      have nx : ∀ k, k ∈ xs → k ≠ c := fun k hk e => hcx (e ▸ hk)
      have ny : ∀ k, k ∈ ys → k ≠ c := fun k hk e => hcy (e ▸ hk)
      constructor
      · refine seg_next (b := s.bhd) (nx := c) hndx ?_ ?_ (seg_congr (a := s.ahd) (b := s.bhd) (fun k hk => a_same k (nx k hk) (hxy k hk)) (fun _ _ => rfl) sx)
        · intro hx
          rw [eB, up_other _ _ _ (nx _ (last_mem hx 0)), if_neg (fun e => hx ((getLastD_zero hnzx).1 e)), up_same]
        · intro k hk hkl
          exact b_same k (nx k hk) (fun _ => hkl)
      · refine seg_prev (a := s.ahd) (q := c) hndy ?_ ?_ (seg_congr (a := s.ahd) (b := s.bhd) (fun _ _ => rfl) (fun k hk => b_same k (ny k hk) (hyx k hk)) sy)
        · intro hy
          rw [eA, up_other _ _ _ (ny _ (head_mem hy 0)), if_neg (fun e => hy ((headD_zero hnzy).1 e)), up_same]
        · intro k hk hkl
          exact a_same k (ny k hk) (fun _ => hkl)
    · rw [up_other _ _ _ hq]
      have hk' : ∀ k, k ∈ K q → s.par k ≠ p := fun k hk e => hq ((h.kid q k hk).2.2.2.2.symm.trans e)
      refine seg_congr (fun k hk => a_same k (fun e => hk' k hk (by rw [e]; exact hp)) (fun hy e => hk' k hk (by rw [e]; exact hpy _ (head_mem hy 0)))) (fun k hk => b_same k (fun e => hk' k hk (by rw [e]; exact hp)) (fun hx e => hk' k hk (by rw [e]; exact hpx _ (last_mem hx 0)))) (h.seg q)
  · intro k hk
    rw [eP]
    exact acy_up ⟨0, rfl⟩ (h.acy k hk)
  · have h1 := sumTo_up (n := N) (f := fun q => (K q).length) (g := fun q => (up K p (xs ++ ys) q).length) hpN.1 hpN.2 (fun i hi => by simp [up_other _ _ _ hi])
    have h2 := sumTo_up (n := N) (f := fun k => if s.par k = 0 then 0 else 1) (g := fun k => if (s.remove c).par k = 0 then 0 else 1) hc1 hcN (fun i hi => by simp [eP, up_other _ _ _ hi])
    have h3 := h.cnt
    simp only [up_same, hK, eP, List.length_append, List.length_cons] at h1 h2
    rw [if_neg (by rw [hp]; exact hp0), if_pos trivial] at h2
    rw [eP]
    omega

theorem insert_wf (h : WF N s K) {c p : Nat} {xs ys : List Nat} (hc1 : 1 ≤ c) (hcN : c ≤ N) (hc : s.par c = 0) (hp1 : 1 ≤ p) (hpN : p ≤ N) (hK : K p = xs ++ ys) (hd : ¬ Desc s.par p c) :
    WF N (s.insert p c (ys.headD 0)) (up K p (xs ++ c :: ys)) := by
  have hout : ∀ q, c ∉ K q := fun q hq => by have := h.kid q c hq; omega
  have hcp : p ≠ c := fun e => hd (e ▸ Desc.refl s.par p)
  have hnd := h.nd p
  rw [hK] at hnd
  have hndx : xs.Nodup := (List.nodup_append.1 hnd).1
  have hndy : ys.Nodup := (List.nodup_append.1 hnd).2.1
  have hdis : ∀ a, a ∈ xs → ∀ b, b ∈ ys → a ≠ b := (List.nodup_append.1 hnd).2.2
  have hcx : c ∉ xs := fun e => hout p (by rw [hK]; simp [e])
  have hcy : c ∉ ys := fun e => hout p (by rw [hK]; simp [e])
  have hnzx : ∀ k, k ∈ xs → k ≠ 0 := fun k hk => nz_of_kid h (p := p) (by rw [hK]; simp [hk])
  have hnzy : ∀ k, k ∈ ys → k ≠ 0 := fun k hk => nz_of_kid h (p := p) (by rw [hK]; simp [hk])
  have hpx : ∀ k, k ∈ xs → s.par k = p := fun k hk => (h.kid p k (by rw [hK]; simp [hk])).2.2.2.2
  have hpy : ∀ k, k ∈ ys → s.par k = p := fun k hk => (h.kid p k (by rw [hK]; simp [hk])).2.2.2.2
  have ha : (if ys.headD 0 = 0 then s.lst p else s.ahd (ys.headD 0)) = xs.getLastD 0 := by
    by_cases hy : ys = []
    · subst hy
      simp only [List.append_nil] at hK
      simp [h.lst p hp1 hpN, hK]
    · rw [if_neg (fun e => hy ((headD_zero hnzy).1 e))]
      cases ys with
      | nil => exact absurd rfl hy
      | cons y yt => simpa using (h.sides hK).1
  have hc0 : c ≠ 0 := by omega
  have eP : (s.insert p c (ys.headD 0)).par = up s.par c p := rfl
  have eA : (s.insert p c (ys.headD 0)).ahd = if ys.headD 0 = 0 then up s.ahd c (xs.getLastD 0) else up (up s.ahd c (xs.getLastD 0)) (ys.headD 0) c := by
    simp only [Fo.insert, Fo.join, ha, Fo.setPar, if_neg hc0]
  have eB : (s.insert p c (ys.headD 0)).bhd = up (if xs.getLastD 0 = 0 then s.bhd else up s.bhd (xs.getLastD 0) c) c (ys.headD 0) := by
    simp only [Fo.insert, Fo.join, ha, Fo.setPar, if_neg hc0]
  have eF : (s.insert p c (ys.headD 0)).fst = if xs.getLastD 0 = 0 then up s.fst p c else s.fst := by
    simp only [Fo.insert, Fo.join, ha, Fo.setPar, if_neg hc0]
  have eL : (s.insert p c (ys.headD 0)).lst = if ys.headD 0 = 0 then up s.lst p c else s.lst := by
    simp only [Fo.insert, Fo.join, ha, Fo.setPar, if_neg hc0]
  have hseg := h.seg p
  rw [hK, seg_append] at hseg
  obtain ⟨sx, sy⟩ := hseg
  generalize s.insert p c (ys.headD 0) = t at *
  have a_same : ∀ k, k ≠ c → (ys ≠ [] → k ≠ ys.headD 0) → t.ahd k = s.ahd k := by
    intro k h1 h2
    rw [eA]
    by_cases hy : ys = []
    · simp [hy, up_other _ _ _ h1]
    · rw [if_neg (fun e => hy ((headD_zero hnzy).1 e)), up_other _ _ _ (h2 hy), up_other _ _ _ h1]
  have b_same : ∀ k, k ≠ c → (xs ≠ [] → k ≠ xs.getLastD 0) → t.bhd k = s.bhd k := by
    intro k h1 h2
    rw [eB, up_other _ _ _ h1]
    by_cases hx : xs = []
    · simp [hx]
    · rw [if_neg (fun e => hx ((getLastD_zero hnzx).1 e)), up_other _ _ _ (h2 hx)]
  refine ⟨?_, ?_, ?_, ?_, ?_, ?_, ?_, ?_, ?_⟩
  · rw [eP, up_other _ _ _ (by omega)]; exact h.z
  · intro q k hk
    by_cases hq : q = p
    · subst hq
      rw [up_same] at hk
      by_cases hkc : k = c
      · subst hkc
        rw [eP, up_same]
        exact ⟨hp1, hpN, hc1, hcN, rfl⟩
      · have hk' : k ∈ K q := by
          rw [hK]
          rcases List.mem_append.1 hk with h1 | h1
          · simp [h1]
          · rcases List.mem_cons.1 h1 with h2 | h2
            · exact absurd h2 hkc
            · simp [h2]
        rw [eP, up_other _ _ _ hkc]
        exact h.kid q k hk'
    · rw [up_other _ _ _ hq] at hk
      have hkc : k ≠ c := by rintro rfl; exact hout q hk
      rw [eP, up_other _ _ _ hkc]
      exact h.kid q k hk
  · intro k hk1 hkN hk0
    rw [eP] at hk0 ⊢
    by_cases hkc : k = c
    · subst hkc
      rw [up_same, up_same]
      simp
    · rw [up_other _ _ _ hkc] at hk0 ⊢
      have := h.own k hk1 hkN hk0
      by_cases hq : s.par k = p
      · rw [hq, up_same]
        rw [hq, hK] at this
        rcases List.mem_append.1 this with h1 | h1 <;> simp [h1]
      · rw [up_other _ _ _ hq]; exact this
  · intro q
    by_cases hq : q = p
    · subst hq
      rw [up_same]
      refine List.nodup_append.2 ⟨hndx, List.nodup_cons.2 ⟨hcy, hndy⟩, fun a ha b hb => ?_⟩
      rcases List.mem_cons.1 hb with h2 | h2
      · rintro rfl; exact hcx (h2 ▸ ha)
      · exact hdis a ha b h2
    · rw [up_other _ _ _ hq]; exact h.nd q
  · intro q hq1 hqN
    rw [eF]
    by_cases hq : q = p
    · subst hq
      rw [up_same]
      by_cases hx : xs = []
      · subst hx; simp [up_same]
      · rw [if_neg (fun e => hx ((getLastD_zero hnzx).1 e)), h.fst q hq1 hqN, hK]
        cases xs with
        | nil => exact absurd rfl hx
        | cons x xt => simp
    · rw [up_other _ _ _ hq, ← h.fst q hq1 hqN]
      split
      · rw [up_other _ _ _ hq]
      · rfl
  · intro q hq1 hqN
    rw [eL]
    by_cases hq : q = p
    · subst hq
      rw [up_same]
      by_cases hy : ys = []
      · subst hy; simp [up_same]
      · rw [if_neg (fun e => hy ((headD_zero hnzy).1 e)), h.lst q hq1 hqN, hK]
        rw [List.getLastD_eq_getLast?, List.getLastD_eq_getLast?, List.getLast?_append, List.getLast?_append]
        cases ys with
        | nil => exact absurd rfl hy
        | cons y yt => simp [List.getLast?_cons_cons]
    · rw [up_other _ _ _ hq, ← h.lst q hq1 hqN]
      split
      · rw [up_other _ _ _ hq]
      · rfl
  · intro q
    by_cases hq : q = p
    · subst hq
      rw [up_same, seg_append]
      have hxy : ∀ k, k ∈ xs → ys ≠ [] → k ≠ ys.headD 0 := fun k hk hy => hdis k hk _ (head_mem hy 0)
      have hyx : ∀ k, k ∈ ys → xs ≠ [] → k ≠ xs.getLastD 0 := fun k hk hx e => hdis _ (last_mem hx 0) k hk e.symm
      have nx : ∀ k, k ∈ xs → k ≠ c := fun k hk e => hcx (e ▸ hk)
      have ny : ∀ k, k ∈ ys → k ≠ c := fun k hk e => hcy (e ▸ hk)
      refine ⟨?_, ?_, ?_, ?_⟩
      · refine seg_next (b := s.bhd) (nx := ys.headD 0) hndx ?_ ?_ (seg_congr (a := s.ahd) (b := s.bhd) (fun k hk => a_same k (nx k hk) (hxy k hk)) (fun _ _ => rfl) sx)
        · intro hx
          rw [eB, up_other _ _ _ (nx _ (last_mem hx 0)), if_neg (fun e => hx ((getLastD_zero hnzx).1 e)), up_same]
          rfl
        · intro k hk hkl
          exact b_same k (nx k hk) (fun _ => hkl)
      · rw [eA]
        by_cases hy : ys = []
        · simp [hy, up_same]
        · rw [if_neg (fun e => hy ((headD_zero hnzy).1 e)), up_other _ _ _ (fun e => ny _ (head_mem hy 0) e.symm), up_same]
      · rw [eB, up_same]
      · refine seg_prev (a := s.ahd) (q := xs.getLastD 0) hndy ?_ ?_ (seg_congr (a := s.ahd) (b := s.bhd) (fun _ _ => rfl) (fun k hk => b_same k (ny k hk) (hyx k hk)) sy)
        · intro hy
          rw [eA, if_neg (fun e => hy ((headD_zero hnzy).1 e)), up_same]
        · intro k hk hkl
          exact a_same k (ny k hk) (fun _ => hkl)
    · rw [up_other _ _ _ hq]
      have hk' : ∀ k, k ∈ K q → s.par k ≠ p := fun k hk e => hq ((h.kid q k hk).2.2.2.2.symm.trans e)
      refine seg_congr (fun k hk => a_same k (fun e => hout q (e ▸ hk)) (fun hy e => hk' k hk (by rw [e]; exact hpy _ (head_mem hy 0)))) (fun k hk => b_same k (fun e => hout q (e ▸ hk)) (fun hx e => hk' k hk (by rw [e]; exact hpx _ (last_mem hx 0)))) (h.seg q)
  · intro k hk
    rw [eP]
    obtain ⟨m, hm⟩ := h.acy p hpN
    exact acy_up ⟨m, by rw [anc_up_same hd]; exact hm⟩ (h.acy k hk)
  · have h1 := sumTo_up (n := N) (f := fun q => (K q).length) (g := fun q => (up K p (xs ++ c :: ys) q).length) hp1 hpN (fun i hi => by simp [up_other _ _ _ hi])
    have h2 := sumTo_up (n := N) (f := fun k => if s.par k = 0 then 0 else 1) (g := fun k => if t.par k = 0 then 0 else 1) hc1 hcN (fun i hi => by simp [eP, up_other _ _ _ hi])
    have h3 := h.cnt
    simp only [up_same, hK, eP, List.length_append, List.length_cons] at h1 h2
    rw [if_pos hc, if_neg (by omega)] at h2
    rw [eP]
    omega
end

end Go.Proofs.YtcedebpoihcbdaaDoor.Gv
