/-
  slices.DeleteFunc at the list's look.
-/
import Derived.Test.YtcedebpoihcbdaaDoorL3
namespace Go.Proofs.YtcedebpoihcbdaaDoor
open Go.RowKit Gv

theorem take_snocN {l : List Nat} {j : Nat} (h : j < l.length) : l.take (j + 1) = l.take j ++ [l.getD j 0] := by
  rw [List.take_add_one, List.getElem?_eq_getElem h, List.getD_eq_getElem?_getD, List.getElem?_eq_getElem h]; rfl

theorem filt_keep {l : List Nat} {p : Nat → Bool} {j : Nat} (h : j < l.length) (hp : p (l.getD j 0) = false) : (l.take (j + 1)).filter (fun x => !p x) = (l.take j).filter (fun x => !p x) ++ [l.getD j 0] := by
  rw [take_snocN h, List.filter_append]; generalize l.getD j 0 = y at *; simp [hp]

theorem filt_skip {l : List Nat} {p : Nat → Bool} {j : Nat} (h : j < l.length) (hp : p (l.getD j 0) = true) : (l.take (j + 1)).filter (fun x => !p x) = (l.take j).filter (fun x => !p x) := by
  rw [take_snocN h, List.filter_append]; generalize l.getD j 0 = y at *; simp [hp]

theorem filt_first {l : List Nat} {p : Nat → Bool} : ∀ k, k ≤ l.length → (∀ j, j < k → p (l.getD j 0) = false) → (l.take k).filter (fun x => !p x) = l.take k
  | 0, _, _ => by simp
  | k + 1, hk, h => by
    rw [filt_keep (by omega) (h k (by omega)), filt_first k (by omega) (fun j hj => h j (by omega)), take_snocN (by omega)]

/-- The row while the loop goes: the first ones are those that stay of the first j; from j on all is as it was. -/
structure Going (w : World) (g c : Nat) (l : List Nat) (p : Nat → Bool) (j : Nat) (W : World) : Prop where
  fr : Fr (fun i => i = g) w W
  row : ∃ cur, W.heap[g]? = some (.cells cur 3 (0, 0)) ∧ cur.size = c ∧ (∀ k, k < ((l.take j).filter (fun x => !p x)).length → cur[k]? = some (.int .i64 (((l.take j).filter (fun x => !p x)).getD k 0 : Nat))) ∧ ∀ k, j ≤ k → k < l.length → cur[k]? = some (.int .i64 (l.getD k 0 : Nat))

theorem Going.below {w : World} {g c : Nat} {l : List Nat} {p : Nat → Bool} {j : Nat} {W W' : World} (h : Going w g c l p j W) (hB : Below W.heap.size W W') : Going w g c l p j W' := by
  obtain ⟨hf, cur, h1, h2⟩ := h
  exact ⟨hf.trans (Fr.of_below hB), cur, by rw [hB.block g (lt_of_block h1)]; exact h1, h2⟩

theorem Going.skip {w : World} {g c : Nat} {l : List Nat} {p : Nat → Bool} {j : Nat} {W : World} (h : Going w g c l p j W) (hj : j < l.length) (hp : p (l.getD j 0) = true) : Going w g c l p (j + 1) W := by
  obtain ⟨hf, cur, h1, h2, h3, h4⟩ := h
  exact ⟨hf, cur, h1, h2, by rw [filt_skip hj hp]; exact h3, fun k hk => h4 k (by omega)⟩

theorem Going.keep {w : World} {g c : Nat} {l : List Nat} {p : Nat → Bool} {j : Nat} {W : World} (h : Going w g c l p j W) (hj : j < l.length) (hc : l.length ≤ c) (hp : p (l.getD j 0) = false) : Going w g c l p (j + 1) (W.setCell ⟨g, ((l.take j).filter (fun x => !p x)).length, none⟩ (.int .i64 (l.getD j 0 : Nat))) := by
  obtain ⟨hf, cur, h1, h2, h3, h4⟩ := h
  have hle : ((l.take j).filter (fun x => !p x)).length ≤ j := by have := List.length_filter_le (fun x => !p x) (l.take j); simp at this; omega
  refine ⟨hf.setCell (p := ⟨g, _, none⟩) rfl _, _, cells_setCell h1, by simp [h2], ?_, fun k hk hk2 => ?_⟩
  · rw [filt_keep hj hp]
    intro k hk
    simp only [List.length_append, List.length_cons, List.length_nil] at hk
    by_cases e : k = ((l.take j).filter (fun x => !p x)).length
    · subst e
      rw [Array.getElem?_setIfInBounds_self_of_lt (by omega)]
      generalize l.getD j 0 = y
      simp
    · rw [Array.getElem?_setIfInBounds_ne (by omega), h3 k (by omega), List.getD_eq_getElem?_getD, List.getD_eq_getElem?_getD, List.getElem?_append_left (by omega)]
  · rw [Array.getElem?_setIfInBounds_ne (by omega)]
    exact h4 k (by omega) hk2

theorem ints_toList {cur : Array Value} {F : List Nat} (h : ∀ k, k < F.length → cur[k]? = some (.int .i64 (F.getD k 0 : Nat))) : cur.toList.take (F.length * 1) = ints F := by
  apply List.ext_getElem?
  intro k
  rw [Nat.mul_one, List.getElem?_take]
  by_cases hk : k < F.length
  · rw [if_pos hk]
    have := h k hk
    rw [Array.getElem?_toList, this]
    simp [ints, hk]
  · rw [if_neg hk]
    simp [ints, hk]

theorem Going.done {w : World} {g c : Nat} {l : List Nat} {p : Nat → Bool} {W : World} {D : Nat} (h : Going w g c l p l.length W) (hc : l.length ≤ c) (hm : c ≤ maxLen) (hD : D ≤ g) (vs : List Value) :
    (W.setCells g (l.filter (fun x => !p x)).length vs).ownsRow D 3 1 (.slice (some ⟨g, 0, none⟩) (l.filter (fun x => !p x)).length c) (l.filter (fun x => !p x)).length (ints (l.filter (fun x => !p x))) ∧ Fr (fun i => i = g) w (W.setCells g (l.filter (fun x => !p x)).length vs) := by
  obtain ⟨hf, cur, h1, h2, h3, -⟩ := h
  rw [List.take_length] at h3
  have hle := List.length_filter_le (fun x => !p x) l
  obtain ⟨cur', e1, e2, e3⟩ := cells_setCells vs (l.filter (fun x => !p x)).length W cur h1
  refine ⟨⟨by simp [ints], .inr ⟨g, c, cur', rfl, hD, e1, by omega, hm, by omega, ?_⟩⟩, fr_setCells (S := fun i => i = g) rfl _ _ _ _ hf⟩
  exact ints_toList (fun k hk => by rw [e3 k hk]; exact h3 k hk)

set_option maxRecDepth 100000 in
set_option maxHeartbeats 1000000 in
theorem deleteF (b1 b2 : Nat) (p : Nat → Bool) (l : List Nat) (D : Nat) (v : Value) (w : World) (hl : l.length ≤ 1000) (hv : w.ownsRow D 3 1 v l.length (ints l)) (hp : Tells b1 b2 (fun i => v.ownBlock = some i) p l w) :
    Calls Tryd.prog 67 #[v, .func (.func 68) #[] #[.pointer (some ⟨b1, 0, none⟩), .pointer (some ⟨b2, 0, none⟩)]] w fun e w' => ∃ v', e = .returned v' ∧ w'.ownsRow D 3 1 v' (l.filter (fun x => !p x)).length (ints (l.filter (fun x => !p x))) ∧ Fr (fun i => v.ownBlock = some i) w w' := by
  obtain ⟨-, ao, c, rfl, hcap, hN⟩ := nums_of hv
  have HX : Hid _ := indexF b1 b2 (fun i => (Value.slice ao l.length c).ownBlock = some i) p l ao c w hl hN hp
  have HV : Hid _ := hv
  have HP : Hid _ := hp
  clear hv hp hN
  go_enter Tryd.func67, Tryd.ntmps67
  go_wp2_with fail
  refine Calls.mono HX.out ?_
  clear HX
  rintro e w1 ⟨hB, ⟨rfl, hall⟩ | ⟨k, hk, rfl, hpk, hno⟩⟩
  · have HB : Hid _ := hB
    have HA : Hid (∀ x, x ∈ l → p x = false) := hall
    clear hB hall
    go_wp2_with fail
    go_ret
    have e : l.filter (fun x => !p x) = l := List.filter_eq_self.2 (fun x hx => by simp [HA.out x hx])
    exact ⟨_, rfl, by rw [e]; exact ownsRow_since HV.out HB.out, Fr.of_below HB.out⟩
  · have hk1 : (((k : Nat) : Int) == -1) = false := beq_eq_false_iff_ne.2 (by omega)
    obtain ⟨g, hao, hDg, hcm, hG⟩ : ∃ g, ao = some ⟨g, 0, none⟩ ∧ D ≤ g ∧ c ≤ maxLen ∧ Going w g c l p k w1 := by
      rcases HV.out.2 with ⟨h1, h2⟩ | ⟨g, cap, cur, h1, h2, h3, h4, h5, h6, h7⟩
      · omega
      · simp only [Value.slice.injEq, true_and] at h1
        obtain ⟨rfl, rfl⟩ := h1
        have hcell : ∀ j, j < l.length → cur[j]? = some (.int .i64 (l.getD j 0 : Nat)) := fun j hj => by
          have := congrArg (fun z => z[j]?) h7
          simp only [Nat.mul_one, List.getElem?_take, if_pos hj, Array.getElem?_toList] at this
          rw [this]
          simp [ints, hj]
        refine ⟨g, rfl, h2, h5, Fr.of_below hB, cur, by rw [hB.block g (lt_of_block h3)]; exact h3, by omega, ?_, fun j _ hj => hcell j hj⟩
        rw [filt_first k (by omega) hno]
        intro j hj
        simp only [List.length_take] at hj
        rw [hcell j (by omega), List.getD_eq_getElem?_getD, List.getD_eq_getElem?_getD, List.getElem?_take, if_pos (by omega)]
    subst hao
    have hfl : ((l.take (k + 1)).filter (fun x => !p x)).length = k := by rw [filt_skip hk hpk, filt_first k (by omega) hno]; simp; omega
    have HG : Hid (Going w g c l p (k + 1) w1) := hG.skip hk hpk
    have HFL : Hid (((l.take (k + 1)).filter (fun x => !p x)).length = k) := hfl
    clear hG hB hno hpk hfl
    go_wp2_with fail
    go_loopg [5, 6] (l.length - (k + 1)) (fun m a b wr => ∃ i j : Nat, a = .int .i64 i ∧ b = .int .i64 j ∧ m + j = l.length ∧ i < j ∧ Hid (i = ((l.take j).filter (fun x => !p x)).length) ∧ Hid (Going w g c l p j wr))
    case atStart => exact ⟨k, k + 1, rfl, by go_num, by omega, by omega, HFL.out.symm, HG.out⟩
    case round =>
      obtain ⟨i, j, rfl, rfl, hm, hij, HI, HGo⟩ := hrel
      obtain ⟨hFr, cur, hcur, hcs, hlow, hhigh⟩ := HGo.out
      by_cases hlt : j < l.length
      · have hlt' : (j : Int) < ((l.length : Nat) : Int) := by omega
        have hcell : wr.cell? ⟨g, j, none⟩ = some (.int .i64 (l.getD j 0 : Nat)) := (cells_of hcur j).trans (hhigh j (Nat.le_refl _) hlt)
        have HC : Hid _ := HP.out (l.getD j 0) (getD_mem hlt) wr (hFr.mono (fun i hi => by rw [hi]; rfl))
        clear hFr hcur hlow hhigh
        generalize hx : l.getD j 0 = x at *
        have HX : Hid (l.getD j 0 = x) := hx
        clear hx
        go_wp2_with fail
        refine Calls.mono HC.out ?_
        clear HC
        rintro e w2 ⟨rfl, hB2⟩
        have HG2 : Hid (Going w g c l p j w2) := HGo.out.below hB2
        obtain ⟨-, cur2, hcur2, hcs2, -, -⟩ := HG2.out
        have hci : ∃ old, w2.cell? ⟨g, i, none⟩ = some old := by rw [cells_of hcur2 i]; exact ⟨_, Array.getElem?_eq_getElem (by omega)⟩
        obtain ⟨old, hci⟩ := hci
        have hfi := frees_of hcur2 i
        clear hB2 hcur2 hcs2 HGo
        cases hpx : p x with
        | true =>
          go_wp2_with fail
          go_roundg (gk - 1)
          case measure => omega
          case rel => exact ⟨i, j + 1, rfl, by go_num, by omega, by omega, by rw [filt_skip hlt (by rw [HX.out]; exact hpx)]; exact HI.out, HG2.out.skip hlt (by rw [HX.out]; exact hpx)⟩
        | false =>
          go_wp2_with fail
          go_roundg (gk - 1)
          case measure => omega
          case rel =>
            refine ⟨i + 1, j + 1, by go_num, by go_num, by omega, by omega, ?_, ?_⟩
            · show i + 1 = _
              rw [filt_keep hlt (by rw [HX.out]; exact hpx), List.length_append, ← HI.out]; rfl
            · have := HG2.out.keep hlt hcap (by rw [HX.out]; exact hpx)
              rw [← HI.out, HX.out] at this
              exact this
      · obtain rfl : j = l.length := by omega
        have hltz : ¬ ((l.length : Nat) : Int) < ((l.length : Nat) : Int) := by omega
        have hcl : ∀ ty, (Builtin.clear_ #[22] ty #[.slice (some ⟨g, 0 + i, none⟩) (l.length - i) (c - i)]).run Tryd.prog wr = .ok (.tuple #[]) (wr.setCells g (0 + i) (List.replicate (l.length - i) (.int .i64 0))) :=
          fun ty => Lib.run_clear_slice wr _ _ ty _ Tryd.underlying22 Tryd.zeroValue3 rfl rfl g (0 + i) _ _ (by omega) (fun t ht => by rw [cells_of hcur, Array.getElem?_eq_getElem (by omega)]; rfl) (fun t ht => frees_of hcur _)
        rw [Nat.zero_add] at hcl
        clear hFr hcur hlow hhigh
        go_wp2_with fail
        go_ret
        have hI := HI.out
        rw [List.take_length] at hI
        have hd := HGo.out.done hcap hcm hDg (List.replicate (l.length - i) (.int .i64 0))
        rw [← hI] at hd
        rw [← hI]
        exact ⟨_, rfl, hd.1, hd.2.mono (fun i hi => by rw [hi]; rfl)⟩
end Go.Proofs.YtcedebpoihcbdaaDoor
