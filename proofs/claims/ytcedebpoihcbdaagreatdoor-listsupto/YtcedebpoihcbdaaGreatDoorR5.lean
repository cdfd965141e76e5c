/-
  The document's own answer: what its Take does.
-/
import Derived.Test.YtcedebpoihcbdaaGreatDoorR4
namespace Go.Proofs.YtcedebpoihcbdaaGreatDoor
set_option linter.unusedVariables false
open Go.RowKit Gv

theorem nums_take {xs ys : List Nat} (j : Nat) (u : Value) (hj : (ints xs)[j]? = some u) : (ints (xs ++ ys))[j]? = some u := by
  simp only [ints, List.getElem?_map] at hj ⊢
  by_cases h : j < xs.length
  · rw [List.getElem?_append_left h]; exact hj
  · rw [List.getElem?_eq_none (by omega)] at hj; simp at hj

theorem nums_drop {xs ys : List Nat} (j : Nat) (u : Value) (hj : (ints ys)[j]? = some u) : (ints (xs ++ ys))[xs.length + j]? = some u := by
  simp only [ints, List.getElem?_map] at hj ⊢
  rw [List.getElem?_append_right (by omega), Nat.add_sub_cancel_left]; exact hj

theorem nums_append (xs ys : List Nat) : ints xs ++ ints ys = ints (xs ++ ys) := by simp [ints]

theorem at_add (g o j : Nat) : (⟨g, o, none⟩ : Addr).add j = ⟨g, o + j, none⟩ := by unfold Addr.add; split <;> simp_all

/-- A piece of a list that lies in memory. -/
theorem piece {w : World} {g n : Nat} {l xs ys zs : List Nat} (hc : ∀ j, j < n → w.cell? ⟨g, j, none⟩ = (ints l)[j]?) (hn : n = l.length) (hl : l = xs ++ (ys ++ zs)) : ∀ j u, (ints ys)[j]? = some u → w.cell? ((⟨g, xs.length, none⟩ : Addr).add j) = some u := by
  intro j u hj
  rw [at_add]
  have hjy : j < ys.length := by
    have := (List.getElem?_eq_some_iff.1 hj).1
    simpa [ints] using this
  rw [hc _ (by rw [hn, hl]; simp; omega), hl]
  exact nums_drop j u (nums_take j u hj)

theorem idx_at {xs ys : List Nat} {m k : Nat} (h1 : m ∉ xs) (h2 : m ∉ ys) (h : (xs ++ m :: ys)[k]? = some m) : k = xs.length := by
  rcases Nat.lt_trichotomy k xs.length with hk | hk | hk
  · rw [List.getElem?_append_left hk] at h
    exact absurd (List.mem_of_getElem? h) h1
  · exact hk
  · rw [List.getElem?_append_right (by omega)] at h
    have e : k - xs.length = (k - xs.length - 1) + 1 := by omega
    rw [e, List.getElem?_cons_succ] at h
    exact absurd (List.mem_of_getElem? h) h2


section
variable {w w' : World} {r : Rx} {s : Fo} {K : Nat → List Nat}

/-- The document's grove behind a Take that takes. -/
def Rx.took (r : Rx) (s : Fo) (K : Nat → List Nat) (m : Nat) (nv : Value) : Rx := { r with par := (s.remove m).par, kv := up r.kv (s.par m) nv, K := dropK K m, il := r.il.map (It.leave r.N s m) }

/-- Its two stores. -/
theorem take_end {W w4 : World} {m : Nat} {nv : Value} {xs ys : List Nat} (h : RefOK W { r with il := r.il.map (It.leave r.N s m) }) (hp : r.par = s.par) (hK : r.K = K) (hwf : WF r.N s K) (hF : Fr r.own w W) (hm1 : 1 ≤ m) (hm : m ≤ r.N) (h0 : s.par m ≠ 0) (hKp : K (s.par m) = xs ++ m :: ys)
    (hb : Below W.heap.size W w4) (hv : w4.ownsRow W.heap.size 3 1 nv (xs ++ ys).length (ints (xs ++ ys))) (hl : (xs ++ ys).length ≤ 300) :
    RPost w ((w4.setCell ⟨r.rn, s.par m * 5 + 4, none⟩ nv).setCell ⟨r.rn, m * 5 + 3, none⟩ (.int .i64 0)) r (r.took s K m nv) := by
  have hpL : s.par m ≤ r.N := hwf.parLe m hm
  have h5 := (h.since hb).putKids (i := s.par m) hpL (row_base hv (Nat.zero_le _)) hl
  have h6 := h5.putPar (i := m) 0 hm
  have e1 : up r.par m 0 = (s.remove m).par := by rw [hp]; rfl
  have e2 : up r.K (s.par m) (xs ++ ys) = dropK K m := by rw [hK, drop_kid hwf hKp]
  have h7 : RefOK ((w4.setCell ⟨r.rn, s.par m * 5 + 4, none⟩ nv).setCell ⟨r.rn, m * 5 + 3, none⟩ (.int .i64 0)) (r.took s K m nv) := by
    have e3 : r.took s K m nv = { r with par := up r.par m 0, kv := up r.kv (s.par m) nv, K := up r.K (s.par m) (xs ++ ys), il := r.il.map (It.leave r.N s m) } := by rw [e1, e2]; rfl
    rw [e3]
    exact h6
  refine ⟨h7, ?_, fun i hi => ?_, rfl⟩
  · have f1 : Fr r.own w w4 := hF.trans (Fr.of_below hb)
    exact (f1.setCell (p := ⟨r.rn, s.par m * 5 + 4, none⟩) Rx.own_n _).setCell (p := ⟨r.rn, m * 5 + 3, none⟩) Rx.own_n _
  · rcases hi with h | h | ⟨j, hj, h⟩ | h | h | h | h | ⟨x, hx, h⟩ | h
    · exact .inl (.inl h)
    · exact .inl (.inr (.inl h))
    · have h' : (up r.kv (s.par m) nv j).ownBlock = some i := h
      by_cases ej : j = s.par m
      · subst ej
        rw [up_same] at h'
        exact .inr (Nat.le_trans hF.size (hv.lt i h').1)
      · rw [up_other _ _ _ ej] at h'
        exact .inl (Rx.own_k hj h')
    · exact .inl (.inr (.inr (.inr (.inl h))))
    · exact .inl (Rx.own_w h)
    · exact .inl (Rx.own_i h)
    · exact .inl (Rx.own_q h)
    · obtain ⟨y, hy, rfl⟩ := List.mem_map.1 hx
      exact .inl (Rx.own_ir hy h)
    · exact .inl (.inr (.inr (.inr (.inr (.inr (.inr (.inr (.inr h))))))))

set_option maxRecDepth 100000 in
set_option maxHeartbeats 1000000 in
theorem refTakeOk (h : RefOK w r) (hp : r.par = s.par) (hK : r.K = K) (hwf : WF r.N s K) (hs : ∀ x, x ∈ r.il → x.Sound r.N s) (m : Nat) (h1 : 1 ≤ m) (hm : m ≤ r.N) (h0 : s.par m ≠ 0) :
    Calls Tryz.prog 93 #[.pointer (some ⟨r.rb, 0, none⟩), .int .i64 m] w fun e w' => e = .returned (.int .i64 0) ∧ ∃ nv, RPost w w' r (r.took s K m nv) := by
  have HH : Hid (RefOK w r) := h
  have HP : Hid (r.par = s.par) := hp
  have HK : Hid (r.K = K) := hK
  have HW : Hid (WF r.N s K) := hwf
  have HS : Hid (∀ x, x ∈ r.il → x.Sound r.N s) := hs
  have hN := h.hN
  obtain ⟨xs, ys, hKp⟩ := split_of_mem (hwf.own m h1 hm h0)
  have hnd := hwf.nd (s.par m)
  rw [hKp] at hnd
  have HND : Hid (m ∉ xs ∧ m ∉ ys) := split_nodup hnd
  have hpL : s.par m ≤ r.N := hwf.parLe m hm
  have hfew := h.few (s.par m) hpL
  rw [hK, hKp] at hfew
  have hlen : (xs ++ m :: ys).length = xs.length + 1 + ys.length := by simp; omega
  rw [hlen] at hfew
  obtain ⟨p, hpe⟩ : ∃ p, p = s.par m := ⟨_, rfl⟩
  have HPM : Hid (s.par m = p) := hpe.symm
  have HKP : Hid (K p = xs ++ m :: ys) := by rw [hpe]; exact hKp
  rw [← hpe] at hpL
  have hc := h.cpar hm
  rw [hp, ← hpe] at hc
  have hp0 : ((p : Int) == 0) = false := by simp; omega
  have hp1 : 1 ≤ p := by omega
  have hg := h.c0
  obtain ⟨L, hLe⟩ : ∃ L, L = r.N + 1 := ⟨_, rfl⟩
  rw [← hLe] at hg
  have HLe : Hid (L = r.N + 1) := hLe
  have hL3 : L ≤ 301 := by omega
  have hmL : (m : Int) < (L : Int) := by omega
  have hpLL : (p : Int) < (L : Int) := by omega
  have hbb : hasB (r.N + 1) (m : Int) = true := hasB_nat h1 hm
  have HBB : Hid (hasB (r.N + 1) (m : Int) = true) := hbb
  clear hbb
  obtain ⟨i0, hi, hz0, hz1, hz2⟩ := info_parts Tryz.info3
  clear h hp hK hwf hs hKp hnd hlen h0 hpe hLe
  go_enter Tryz.func93, Tryz.ntmps93
  go_wp2_with fail
  refine (refIs HH.out m).mono ?_
  rintro e w ⟨rfl, rfl⟩
  rw [HBB.out]
  go_wp2_with fail
  refine (refLeaving HH.out HP.out HK.out HW.out HS.out m h1 hm).mono ?_
  rintro e W2 ⟨rfl, hR1, hF1⟩
  have HR1 : Hid (RefOK W2 { r with il := r.il.map (It.leave r.N s m) }) := hR1
  have HF1 : Hid (Fr r.own w W2) := hF1
  have hg1 : W2.cell? ⟨r.rb, 0, none⟩ = some (.slice (some ⟨r.rn, 0, none⟩) L r.cap) := by rw [HLe.out]; exact hR1.c0
  have hrow : W2.ownsRow 0 3 1 (r.kv p) (K p).length (ints (K p)) := by rw [← HK.out]; exact hR1.kids p hpL
  have ck : W2.cell? ⟨r.rn, p * 5 + 4, none⟩ = some (r.kv p) := hR1.ckv hpL
  rw [HKP.out] at hrow
  have hlen : (xs ++ m :: ys).length = xs.length + 1 + ys.length := by simp; omega
  rw [hlen] at hrow
  obtain ⟨kao, kcap, hkv, hkc, hkcell⟩ := rowForm hrow
  rw [hkv] at ck hrow
  rcases hkcell with h0 | ⟨kg, hkg, hkgs, hkc2⟩
  · omega
  subst hkg
  have HROW : Hid (W2.ownsRow 0 3 1 (.slice (some ⟨kg, 0, none⟩) (xs.length + 1 + ys.length) kcap) (xs.length + 1 + ys.length) (ints (xs ++ m :: ys))) := hrow
  have P1 : Hid (∀ j u, (ints xs)[j]? = some u → W2.cell? ((⟨kg, 0, none⟩ : Addr).add j) = some u) := piece (xs := []) (ys := xs) (zs := m :: ys) (fun j hj => hkc2 j (by omega)) rfl rfl
  have P2 : Hid (∀ j u, (ints ys)[j]? = some u → W2.cell? ((⟨kg, xs.length + 1, none⟩ : Addr).add j) = some u) := by
    have h1 := piece (xs := xs ++ [m]) (ys := ys) (zs := []) (l := xs ++ m :: ys) (fun j hj => hkc2 j (by omega)) rfl (by simp)
    rw [List.length_append] at h1
    exact h1
  clear hR1 hF1 hrow hkv hkc2 hlen HH hg hc
  go_wp2_with fail
  refine (refAt W2 _ (xs ++ m :: ys) m (xs.length + 1 + ys.length) HROW.out (by simp; omega) (by simp; omega) (by simp)).mono ?_
  rintro e W3 ⟨hW3, k, hk, hget, rfl⟩
  have ek : k = xs.length := idx_at HND.out.1 HND.out.2 hget
  subst ek
  rw [hW3]
  clear hk hget hW3 HND
  have ib1 : (xs.length : Int) ≤ (kcap : Int) := by omega
  go_wp2_with (at_builtin; refine wpList_append_own _ rfl _ _ 25 rfl W2.heap.size 3 i0 (.int .i64 0) 1 8 Tryz.underlying25 hi hz0 hz1 hz2 rfl (by decide) (.slice none 0 0) 0 [] rfl (World.ownsRow_nil _ _ _ _) ⟨kg, 0, none⟩ xs.length kcap (ints xs) rfl ?a0 P1.out ?a2 ?a3 ?a4 (Nat.le_refl _) ?_)
  case a0 => simp [ints]
  case a2 => exact ints_one xs
  case a3 => unfold maxLen; omega
  case a4 => omega
  intro uv w3 hu hgrow3 _
  have hB3 : Below W2.heap.size W2 w3 := ⟨hgrow3.os, hgrow3.tape, hgrow3.output, hgrow3.size, fun k hk => hgrow3.block k hk (by simp [Value.ownBlock])⟩
  have HB3 : Hid (Below W2.heap.size W2 w3) := hB3
  have HU : Hid (w3.ownsRow W2.heap.size 3 1 uv xs.length (ints xs)) := hu
  have hsz3 := hB3.size
  have P2' : Hid (∀ j u, (ints ys)[j]? = some u → w3.cell? ((⟨kg, xs.length + 1, none⟩ : Addr).add j) = some u) := fun j u hj => by
    rw [at_add]
    have := P2.out j u hj
    rw [at_add] at this
    rw [← this]
    exact World.cell?_of_block (hB3.block kg hkgs)
  clear hu hgrow3 hB3 P1 P2
  by_cases hcap : kcap = xs.length + 1
  · have hys : ys = [] := by
      cases ys with
      | nil => rfl
      | cons y ys => simp at hkc; omega
    subst hys
    subst hcap
    go_wp2_with (at_builtin; refine wpList_append_own _ rfl _ _ 25 rfl W2.heap.size 3 i0 (.int .i64 0) 1 8 Tryz.underlying25 hi hz0 hz1 hz2 rfl (by decide) uv xs.length (ints xs) rfl HU.out _ 0 _ (ints []) rfl (by rfl) ?b1 ?b2 ?b3 ?b4 ?b5 ?_)
    case b1 => intro j u hj; simp [ints] at hj
    case b2 => exact ints_one []
    case b3 => unfold maxLen; omega
    case b4 => omega
    case b5 => exact hsz3
    intro nv w4 hv4 hg4 _
    have hB4 : Below W2.heap.size W2 w4 := HB3.out.trans ⟨hg4.os, hg4.tape, hg4.output, hg4.size, fun k hk => hg4.block k (by omega) (fun e => by have := (HU.out.lt k e.symm).1; omega)⟩
    rw [nums_append] at hv4
    obtain ⟨nao, ncap, hnv, _, _⟩ := rowForm hv4
    subst hnv
    have HE : Hid (RPost w ((w4.setCell ⟨r.rn, p * 5 + 4, none⟩ (.slice nao (xs.length + 0) ncap)).setCell ⟨r.rn, m * 5 + 3, none⟩ (.int .i64 0)) r (r.took s K m (.slice nao (xs.length + 0) ncap))) := by
      rw [← HPM.out]
      exact take_end HR1.out HP.out HK.out HW.out HF1.out h1 hm (by rw [HPM.out]; omega) (by rw [HPM.out]; exact HKP.out) hB4 (by simpa using hv4) (by simp; omega)
    have H4 : RefOK w4 { r with il := r.il.map (It.leave r.N s m) } := HR1.out.since hB4
    have hg' : w4.cell? ⟨r.rb, 0, none⟩ = some (.slice (some ⟨r.rn, 0, none⟩) L r.cap) := by rw [HLe.out]; exact H4.c0
    obtain ⟨u4, hp4⟩ : ∃ u, w4.cell? ⟨r.rn, p * 5 + 4, none⟩ = some u := ⟨_, H4.ckv hpL⟩
    have hm4 : w4.cell? ⟨r.rn, m * 5 + 3, none⟩ = some (.int .i64 (r.par m)) := H4.cpar hm
    have fr' : ∀ j, w4.frozen? ⟨r.rn, j, none⟩ = false := H4.free
    have hne : r.rb ≠ r.rn := H4.ne
    clear hv4 hg4 hB4 H4 HB3 HU hg1 ck hsz3 HR1 HF1
    go_wp2_with fail
    go_ret
    exact ⟨rfl, _, HE.out⟩
  · have hcap' : xs.length + 1 < kcap := by omega
    go_wp2_with (at_builtin; refine wpList_append_own _ rfl _ _ 25 rfl W2.heap.size 3 i0 (.int .i64 0) 1 8 Tryz.underlying25 hi hz0 hz1 hz2 rfl (by decide) uv xs.length (ints xs) rfl HU.out ⟨kg, xs.length + 1, none⟩ ys.length (kcap - (xs.length + 1)) (ints ys) rfl ?b0 P2'.out ?b2 ?b3 ?b4 ?b5 ?_)
    case b0 => simp [ints]
    case b2 => exact ints_one ys
    case b3 => unfold maxLen; omega
    case b4 => omega
    case b5 => exact hsz3
    intro nv w4 hv4 hg4 _
    have hB4 : Below W2.heap.size W2 w4 := HB3.out.trans ⟨hg4.os, hg4.tape, hg4.output, hg4.size, fun k hk => hg4.block k (by omega) (fun e => by have := (HU.out.lt k e.symm).1; omega)⟩
    rw [nums_append] at hv4
    obtain ⟨nao, ncap, hnv, _, _⟩ := rowForm hv4
    subst hnv
    have HE : Hid (RPost w ((w4.setCell ⟨r.rn, p * 5 + 4, none⟩ (.slice nao (xs.length + ys.length) ncap)).setCell ⟨r.rn, m * 5 + 3, none⟩ (.int .i64 0)) r (r.took s K m (.slice nao (xs.length + ys.length) ncap))) := by
      rw [← HPM.out]
      exact take_end HR1.out HP.out HK.out HW.out HF1.out h1 hm (by rw [HPM.out]; omega) (by rw [HPM.out]; exact HKP.out) hB4 (by simpa using hv4) (by simp; omega)
    have H4 : RefOK w4 { r with il := r.il.map (It.leave r.N s m) } := HR1.out.since hB4
    have hg' : w4.cell? ⟨r.rb, 0, none⟩ = some (.slice (some ⟨r.rn, 0, none⟩) L r.cap) := by rw [HLe.out]; exact H4.c0
    obtain ⟨u4, hp4⟩ : ∃ u, w4.cell? ⟨r.rn, p * 5 + 4, none⟩ = some u := ⟨_, H4.ckv hpL⟩
    have hm4 : w4.cell? ⟨r.rn, m * 5 + 3, none⟩ = some (.int .i64 (r.par m)) := H4.cpar hm
    have fr' : ∀ j, w4.frozen? ⟨r.rn, j, none⟩ = false := H4.free
    have hne : r.rb ≠ r.rn := H4.ne
    clear hv4 hg4 hB4 H4 HB3 HU hg1 ck hsz3 HR1 HF1
    go_wp2_with fail
    go_ret
    exact ⟨rfl, _, HE.out⟩

theorem refTake (h : RefOK w r) (hp : r.par = s.par) (hK : r.K = K) (hwf : WF r.N s K) (hs : ∀ x, x ∈ r.il → x.Sound r.N s) (c : Int) :
    Calls Tryz.prog 93 #[.pointer (some ⟨r.rb, 0, none⟩), .int .i64 c] w fun e w' =>
      (e = .returned (.int .i64 5) ∧ hasB (r.N + 1) c = false ∧ w' = w) ∨ ∃ n : Nat, c = n ∧ 1 ≤ n ∧ n ≤ r.N ∧
        ((e = .returned (.int .i64 8) ∧ s.par n = 0 ∧ w' = w) ∨ (e = .returned (.int .i64 0) ∧ s.par n ≠ 0 ∧ ∃ nv, RPost w w' r (r.took s K n nv))) := by
  cases hb : hasB (r.N + 1) c with
  | false =>
    have HH : Hid (RefOK w r) := h
    have HB : Hid (hasB (r.N + 1) c = false) := hb
    clear hb h hp hK hwf hs
    go_enter Tryz.func93, Tryz.ntmps93
    go_wp2_with fail
    refine (refIs HH.out c).mono ?_
    rintro e w ⟨rfl, rfl⟩
    rw [HB.out]
    go_wp2_with fail
    go_ret
    exact .inl ⟨rfl, trivial, rfl⟩
  | true =>
    obtain ⟨n, rfl, h1, hn⟩ := has_nat hb
    by_cases h0 : s.par n = 0
    · have HH : Hid (RefOK w r) := h
      have HB : Hid (hasB (r.N + 1) n = true) := hb
      have H0 : Hid (s.par n = 0) := h0
      have hc := h.cpar hn
      rw [hp, h0] at hc
      have hg := h.c0
      have hN := h.hN
      obtain ⟨L, hLe⟩ : ∃ L, L = r.N + 1 := ⟨_, rfl⟩
      rw [← hLe] at hg
      have hL3 : L ≤ 301 := by omega
      have hnL : (n : Int) < (L : Int) := by omega
      clear hb h hp hK hwf hs hLe h0
      go_enter Tryz.func93, Tryz.ntmps93
      go_wp2_with fail
      refine (refIs HH.out n).mono ?_
      rintro e w ⟨rfl, rfl⟩
      rw [HB.out]
      go_wp2_with fail
      go_ret
      exact .inr ⟨n, rfl, h1, hn, .inl ⟨rfl, H0.out, rfl⟩⟩
    · refine (refTakeOk h hp hK hwf hs n h1 hn h0).mono ?_
      rintro e w' ⟨rfl, nv, hP⟩
      exact .inr ⟨n, rfl, h1, hn, .inr ⟨rfl, h0, nv, hP⟩⟩
end
end Go.Proofs.YtcedebpoihcbdaaGreatDoor
