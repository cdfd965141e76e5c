/-
  What the forest's Kids and Within do, and the grove's Parent and Kids.
-/
import Derived.Test.YtcedebpoihcbdaaDoorW1
import Derived.Deep.LoopGhost
namespace Go.Proofs.YtcedebpoihcbdaaDoor
open Go.RowKit Gv

theorem Tryd.info3 : (Tryd.prog.info? 3).map (fun i => (i.zero, i.size, i.bytes)) = some (some (.int .i64 0), 1, 8) := by kernel_rfl

def ints (l : List Nat) : List Value := l.map (fun k : Nat => Value.int .i64 (k : Int))

/-- What is known of a slice of numbers that a call has made: its shape, and its cells. -/
theorem ints_shape {w : World} {D n : Nat} {v : Value} {l : List Nat} (h : w.ownsRow D 3 1 v n (ints l)) :
    n = l.length ∧ ∃ ao cap, v = .slice ao n cap ∧ n ≤ cap ∧ (n = 0 ∨ ∃ g, ao = some ⟨g, 0, none⟩ ∧ D ≤ g ∧ g < w.heap.size ∧ ∀ i, i < n → w.cell? ⟨g, i, none⟩ = some (.int .i64 (l.getD i 0 : Nat))) := by
  have hl : n = l.length := by have := h.1; simp [ints] at this; omega
  refine ⟨hl, ?_⟩
  rcases h.2 with ⟨rfl, rfl⟩ | ⟨g, cap, cur, rfl, hb, hg, hnc, _⟩
  · exact ⟨none, 0, rfl, Nat.le_refl _, .inl rfl⟩
  · refine ⟨some ⟨g, 0, none⟩, cap, rfl, hnc, .inr ⟨g, rfl, hb, lt_of_block hg, fun i hi => ?_⟩⟩
    rw [h.cellAt i (by omega)]
    simp only [ints, List.getElem?_map]
    rw [List.getElem?_eq_getElem (by omega), List.getD_eq_getElem?_getD, List.getElem?_eq_getElem (by omega)]
    rfl

theorem ints_append (xs : List Nat) (y : Nat) : ints xs ++ [.int .i64 (y : Int)] = ints (xs ++ [y]) := by simp [ints]

section
variable {w : World} {B gb nb cap N : Nat} {s : Fo} {kd : Nat → Value} {K : Nat → List Nat} {r : Re}

set_option maxRecDepth 100000 in
set_option maxHeartbeats 400000 in
theorem kidsF (h : Held w B gb nb cap (N + 1) s kd r) (hwf : WF N s K) (n : Nat) (h1 : 1 ≤ n) (hn : n ≤ N) :
    Calls Tryd.prog 51 #[.pointer (some ⟨gb, 0, none⟩), .int .i64 n] w fun e w' => ∃ v, e = .returned v ∧ w'.ownsRow w.heap.size 3 1 v (K n).length (ints (K n)) ∧ Below w.heap.size w w' := by
  have HH : Hid (Held w B gb nb cap (N + 1) s kd r) := h
  have HW : Hid (WF N s K) := hwf
  have hL := h.hL
  have hfst : Hid (s.fst n = (K n).headD 0) := hwf.fst n h1 hn
  have hlen : (K n).length ≤ 100000 := by have := hwf.few n; omega
  obtain ⟨i0, hi, hz0, hz1, hz2⟩ := info_parts Tryd.info3
  clear h hwf
  go_enter Tryd.func51, Tryd.ntmps51
  go_wp2_with fail
  refine (firstF HH.out n (by omega)).mono ?_
  rintro e w ⟨rfl, rfl⟩
  go_wp2_with fail
  go_loopg [5, 6] (K n).length (fun m v i wr => ∃ xs ys, K n = xs ++ ys ∧ ys.length = m ∧ i = .int .i64 (ys.headD 0) ∧ wr.ownsRow w.heap.size 3 1 v xs.length (ints xs) ∧ Below w.heap.size w wr)
  case atStart => exact ⟨[], K n, rfl, rfl, by rw [hfst.out], World.ownsRow_nil _ _ _ _, Below.refl _ _⟩
  case round =>
    obtain ⟨xs, ys, hK, hm, rfl, hown, hbel⟩ := hrel
    cases ys with
    | nil =>
      have HK : Hid (K n = xs ++ []) := hK
      clear hK
      simp only [List.headD_nil]
      go_wp2_with fail
      go_ret
      have e : K n = xs := by rw [HK.out]; simp
      rw [e]
      exact ⟨_, rfl, hown, hbel⟩
    | cons y yt =>
      have hy := HW.out.kid n y (by rw [hK]; simp)
      have hsd := (HW.out.sides hK).2
      have hnz : ((y : Int) == 0) = false := by simp; omega
      have HK : Hid (K n = xs ++ y :: yt) := hK
      have HS : Hid (s.bhd y = yt.headD 0) := hsd
      have hlx : xs.length ≤ 100000 := by rw [hK] at hlen; simp at hlen; omega
      clear hK hsd
      simp only [List.headD_cons]
      go_wp2_with (at_builtin; refine wpList_append_own _ rfl _ _ 22 rfl w.heap.size 3 i0 (.int .i64 0) 1 8 Tryd.underlying22 hi hz0 hz1 hz2 rfl (by decide) _ _ _ rfl (hown.alloc _) ⟨wr.heap.size, 0, none⟩ 1 1 [.int .i64 y] rfl rfl ?c1 ?c2 ?c3 ?c4 ?c5 ?_)
      case c1 =>
        intro j u hj
        match j, hj with
        | 0, hj => simp at hj; subst hj; simp [Addr.add]
      case c2 => intro u hu; simp at hu; subst hu; rfl
      case c3 => unfold maxLen; omega
      case c4 => omega
      case c5 => have := hbel.size; simp; omega
      intro v' w1 hown' hgrow _
      have hb1 : Below w.heap.size w w1 := (hbel.alloc hbel.size _).grown hgrow (by have := hbel.size; simp; omega) (fun k hk => (hown.lt k hk).1)
      have H1 : Hid (Held w1 B gb nb cap (N + 1) s kd r) := HH.out.since hb1
      rw [ints_append] at hown'
      have HO : Hid (w1.ownsRow w.heap.size 3 1 v' (xs ++ [y]).length (ints (xs ++ [y]))) := by rw [List.length_append]; exact hown'
      have HB : Hid (Below w.heap.size w w1) := hb1
      clear hown' hgrow hown hb1 hbel
      go_wp2_with fail
      refine (behindF H1.out y (by omega)).mono ?_
      rintro e w2 ⟨rfl, rfl⟩
      go_wp2_with fail
      go_roundg yt.length
      case measure => simp at hm; omega
      case rel => exact ⟨xs ++ [y], yt, by rw [HK.out]; simp, rfl, by rw [HS.out], HO.out, HB.out⟩

theorem desc_zero {f : Nat → Nat} {t : Nat} (h0 : f 0 = 0) (ht : 1 ≤ t) : ¬ Desc f 0 t := by
  rintro ⟨m, hm⟩
  rw [anc_zero h0] at hm
  omega

theorem desc_step {f : Nat → Nat} {x t : Nat} (h : x ≠ t) : Desc f x t ↔ Desc f (f x) t := by
  constructor
  · rintro ⟨m, hm⟩
    cases m with
    | zero => exact absurd hm h
    | succ m => exact ⟨m, hm⟩
  · exact Desc.head

set_option maxRecDepth 100000 in
set_option maxHeartbeats 400000 in
theorem withinF (h : Held w B gb nb cap (N + 1) s kd r) (hwf : WF N s K) (n t : Nat) (hn : n ≤ N) (ht : 1 ≤ t) (htN : t ≤ N) :
    Calls Tryd.prog 40 #[.pointer (some ⟨gb, 0, none⟩), .int .i64 n, .int .i64 t] w fun e w' => ∃ b : Bool, e = .returned (.bool b) ∧ (b = true ↔ Desc s.par n t) ∧ w' = w := by
  have HH : Hid (Held w B gb nb cap (N + 1) s kd r) := h
  have HW : Hid (WF N s K) := hwf
  have hL := h.hL
  clear h hwf
  go_enter Tryd.func40, Tryd.ntmps40
  go_wp2_with fail
  go_loopg [1] N (fun m i wr => ∃ x : Nat, i = .int .i64 x ∧ x ≤ N ∧ wr = w ∧ anc s.par m x = 0 ∧ (Desc s.par n t ↔ Desc s.par x t))
  case atStart => exact ⟨n, rfl, hn, rfl, HW.out.top n hn, Iff.rfl⟩
  case round =>
    obtain ⟨x, rfl, hx, rfl, ha, hd⟩ := hrel
    have HA : Hid (anc s.par gk x = 0) := ha
    have HD : Hid (Desc s.par n t ↔ Desc s.par x t) := hd
    clear ha hd
    by_cases e0 : x = 0
    · subst e0
      have et : ((0 : Int) == (t : Int)) = false := by simp; omega
      go_wp2_with fail
      go_ret
      exact ⟨_, rfl, by rw [HD.out]; simp [desc_zero HW.out.z ht], rfl⟩
    · have e0' : ((x : Int) != 0) = true := by simp; omega
      by_cases et : x = t
      · subst et
        go_wp2_with fail
        go_ret
        exact ⟨_, rfl, by rw [HD.out]; simp [Desc.refl], rfl⟩
      · have et' : ((x : Int) != (t : Int)) = true := by simp; omega
        have ET : Hid (x ≠ t) := et
        have E0 : Hid (x ≠ 0) := e0
        clear et e0
        go_wp2_with fail
        refine (parentF HH.out x (by omega)).mono ?_
        rintro e w ⟨rfl, rfl⟩
        go_wp2_with fail
        cases gk with
        | zero => exact absurd HA.out E0.out
        | succ m =>
          go_roundg m
          case measure => omega
          case rel => exact ⟨s.par x, rfl, HW.out.parLe x hx, rfl, HA.out, HD.out.trans (desc_step ET.out)⟩

theorem kidsG (h : Held w B gb nb cap (N + 1) s kd r) (hwf : WF N s K) (n : Nat) (h1 : 1 ≤ n) (hn : n ≤ N) :
    Calls Tryd.prog 31 #[.pointer (some ⟨gb, 0, none⟩), .int .i64 n] w fun e w' => ∃ v, e = .returned (.tuple #[v, .int .i64 0]) ∧ w'.ownsRow w.heap.size 3 1 v (K n).length (ints (K n)) ∧ Below w.heap.size w w' := by
  have HH : Hid (Held w B gb nb cap (N + 1) s kd r) := h
  have HW : Hid (WF N s K) := hwf
  have hL := h.hL
  have hb : hasB (N + 1) n = true := by simp [hasB]; omega
  clear h hwf
  go_enter Tryd.func31, Tryd.ntmps31
  go_wp2_with fail
  refine (hasF HH.out n).mono ?_
  rintro e w ⟨rfl, rfl⟩
  go_wp2_with fail
  refine (kidsF HH.out HW.out n h1 hn).mono ?_
  rintro e w1 ⟨v, rfl, hown, hbel⟩
  go_wp2_with fail
  go_ret2
  exact ⟨v, rfl, hown, hbel⟩
end
end Go.Proofs.YtcedebpoihcbdaaDoor
