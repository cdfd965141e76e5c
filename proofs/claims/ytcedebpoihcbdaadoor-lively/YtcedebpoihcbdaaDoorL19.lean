/-
  The law's 'looked'.
-/
import Derived.Test.YtcedebpoihcbdaaDoorL18
import Derived.Maps.AppendAt
namespace Go.Proofs.YtcedebpoihcbdaaDoor
open Go.RowKit Go.Shelf Gv

section
variable {B : Nat} {w w' : World} {gb nb cap N : Nat} {kd : Nat → Value} {mp : Nat → Nat} {σ : St} {r : Re} {A : Nat → ByteArray → Option ByteArray} {ls : List Ls} {len : Nat} {zs : List Int}

def strX : ByteArray := ⟨#[120]⟩
def lisHow (k : Nat) : Nat := if k ≤ 1 then 1 else if k = 2 then 2 else 4
def lisWhat (k : Nat) : ByteArray := if k = 0 then strA else if k = 1 then strStar else if k = 2 then strX else ByteArray.empty

/-- The lists that the law makes: four of each of the roots 1 and 2. -/
def LsIs (ls : List Ls) : Prop := ∀ root k : Nat, 1 ≤ root → root ≤ 2 → k < 4 → ∃ x : Ls, ls[4 * (root - 1) + k]? = some x ∧ x.root = root ∧ x.how = lisHow k ∧ x.what = lisWhat k

theorem LsIs.like {ls ls' : List Ls} (h : LsIs ls) (hk : Ls.like ls ls') : LsIs ls' := fun root k h1 h2 h3 => by
  obtain ⟨x, hx, e1, e2, e3⟩ := h root k h1 h2 h3
  obtain ⟨y, hy, f1, f2, f3⟩ := hk.2 _ x hx
  exact ⟨y, hy, f1.trans e1, f2.trans e2, f3.trans e3⟩

theorem look_tag (N : Nat) (kk : Nat → Nat) (tg : Nat → ByteArray) (A : Nat → ByteArray → Option ByteArray) (K : Nat → List Nat) (root : Nat) : lookF N kk tg A K root 1 strA = tagF kk tg (P N K root) (P N K root).length := by
  unfold lookF tagF
  rw [if_pos (by omega), List.take_length]
  congr 1
  funext n
  unfold wantsF
  rw [if_pos rfl]
  have e1 : (strA.toList == [42]) = false := by rw [Lib.toList_data]; rfl
  rw [e1, Bool.false_or]
  by_cases h2 : tg n = strA
  · simp [h2]
  · have : (strA.toList == (tg n).toList) = false := by
      rw [beq_eq_false_iff_ne]
      exact fun e => h2 (toList_inj e.symm)
    simp [this, h2]

theorem look_star (N : Nat) (kk : Nat → Nat) (tg : Nat → ByteArray) (A : Nat → ByteArray → Option ByteArray) (K : Nat → List Nat) (root : Nat) : lookF N kk tg A K root 1 strStar = elsF kk (P N K root) (P N K root).length := by
  unfold lookF elsF
  rw [if_pos (by omega), List.take_length]
  congr 1
  funext n
  unfold wantsF
  rw [if_pos rfl]
  have e1 : (strStar.toList == [42]) = true := by rw [Lib.toList_data]; rfl
  rw [e1, Bool.true_or, Bool.and_true]

theorem look_kids (N : Nat) (kk : Nat → Nat) (tg : Nat → ByteArray) (A : Nat → ByteArray → Option ByteArray) (K : Nat → List Nat) (root : Nat) (what : ByteArray) : lookF N kk tg A K root 4 what = K root := by
  unfold lookF
  rw [if_neg (by omega)]
  exact List.filter_eq_self.2 (fun _ _ => rfl)

theorem look_class (N : Nat) (kk : Nat → Nat) (tg : Nat → ByteArray) (A : Nat → ByteArray → Option ByteArray) (K : Nat → List Nat) (root : Nat) (what : ByteArray) : (lookF N kk tg A K root 2 what).length ≤ (elsF kk (P N K root) (P N K root).length).length := by
  unfold lookF elsF
  rw [if_pos (by omega), List.take_length]
  generalize (P N K root).tail = l
  induction l with
  | nil => simp
  | cons a l ih =>
    rw [List.filter_cons, List.filter_cons]
    by_cases h : kk a = 2
    · rw [if_pos (show decide (kk a = 2) = true by simpa using h)]
      split
      · simpa using ih
      · simp; omega
    · rw [if_neg (show ¬ decide (kk a = 2) = true by simpa using h), if_neg (by simp [wantsF, h])]
      exact ih

theorem listedOf (h : Grl B w gb nb cap N (kkR len zs) (tgR len zs) kd mp σ r A ls) (hN : 1 ≤ N) (hls : LsIs ls) (root k : Nat) (h1 : 1 ≤ root) (h2 : root ≤ 2) (hk : k < 4) {D : Nat} {v : Value} {l : List Nat} (hl : lookF N (kkR len zs) (tgR len zs) A σ.K root (lisHow k) (lisWhat k) = l) (hv : w.ownsRow D 3 1 v l.length (ints l)) {m : Int} (hm : m = ((4 * (root - 1) + k + 1 : Nat) : Int)) :
    Calls Tryd.prog 33 #[.pointer (some ⟨gb, 0, none⟩), .int .i64 m, v] w fun e w' => e = .returned (.bool true) ∧ ∃ ls', Grl B w' gb nb cap N (kkR len zs) (tgR len zs) kd mp σ r A ls' ∧ Ls.like ls ls' ∧ Fr (lvSet r) w w' := by
  obtain ⟨x, hx, e1, e2, e3⟩ := hls root k h1 h2 hk
  subst hm
  refine listedC h hN hx (D := D) ?_
  rw [e1, e2, e3, hl]
  exact hv

theorem lenOf (h : Grl B w gb nb cap N (kkR len zs) (tgR len zs) kd mp σ r A ls) (hN : 1 ≤ N) (hls : LsIs ls) (root k : Nat) (h1 : 1 ≤ root) (h2 : root ≤ 2) (hk : k < 4) {m : Int} (hm : m = ((4 * (root - 1) + k + 1 : Nat) : Int)) :
    Calls Tryd.prog 34 #[.pointer (some ⟨gb, 0, none⟩), .int .i64 m] w fun e w' => e = .returned (.tuple #[.int .i64 ((lookF N (kkR len zs) (tgR len zs) A σ.K root (lisHow k) (lisWhat k)).length : Nat), .int .i64 0]) ∧ ∃ ls', Grl B w' gb nb cap N (kkR len zs) (tgR len zs) kd mp σ r A ls' ∧ Ls.like ls ls' ∧ Fr (lvSet r) w w' := by
  obtain ⟨x, hx, e1, e2, e3⟩ := hls root k h1 h2 hk
  subst hm
  have := lenS h hN hx
  rw [e1, e2, e3] at this
  exact this

theorem elsF_len (kk : Nat → Nat) (l : List Nat) (k : Nat) : (elsF kk l k).length ≤ l.length := by
  unfold elsF
  refine Nat.le_trans (List.length_filter_le _ _) ?_
  rw [List.length_tail, List.length_take]; omega
theorem tagF_len (kk : Nat → Nat) (tg : Nat → ByteArray) (l : List Nat) (k : Nat) : (tagF kk tg l k).length ≤ l.length := by
  unfold tagF
  refine Nat.le_trans (List.length_filter_le _ _) ?_
  rw [List.length_tail, List.length_take]; omega
theorem elsF_one (kk : Nat → Nat) (l : List Nat) : elsF kk l 1 = [] := by cases l <;> simp [elsF]
theorem tagF_one (kk : Nat → Nat) (tg : Nat → ByteArray) (l : List Nat) : tagF kk tg l 1 = [] := by cases l <;> simp [tagF]

set_option maxRecDepth 100000 in
set_option maxHeartbeats 4000000 in
theorem lookedC (h : Grl B w gb nb cap N (kkR len zs) (tgR len zs) kd mp σ r A ls) (hN : 1 ≤ N) (hls : LsIs ls) {a : Option Addr} {rc : Nat} (hlen : len ≤ maxLen) (hR : ∀ W, Below B w W → RawIs W a len zs) (root : Nat) (h1 : 1 ≤ root) (h2 : root ≤ 2) (hrN : root ≤ N) :
    Calls Tryd.prog 12 #[.pointer (some ⟨gb, 0, none⟩), .int .i64 root, .int .i64 N, .slice a len rc] w fun e w' => e = .returned (.bool true) ∧ ∃ ls', Grl B w' gb nb cap N (kkR len zs) (tgR len zs) kd mp σ r A ls' ∧ Ls.like ls ls' ∧ Fr (lvSet r) w w' := by
  obtain ⟨i0, hi, hz0, hz1, hz2⟩ := info_parts Tryd.info3
  have hN3 := h.gro.N1
  have HWi : Hid _ := withinL (s := σ.s) (K := σ.K) (kd := kd) (r := r) (B := B) (gb := gb) (nb := nb) (cap := cap) h.gro.wf N w root N h.gro.held h1 hrN (by omega) (by omega)
  rw [wi_P h.gro.wf hN h1 hrN] at HWi
  have HIn : Hid (∀ y, y ∈ P N σ.K root → 1 ≤ y ∧ y ≤ N) := fun y hy => pre_le h.gro.wf N root y h1 hrN hy
  have HPl : Hid ((P N σ.K root).length ≤ 300 ∧ 1 ≤ (P N σ.K root).length) := ⟨Nat.le_trans (P_len h.gro.wf h1 hrN) hN3, by obtain ⟨t, ht⟩ := P_head N σ.K root; rw [ht]; simp⟩
  have hBw : B ≤ w.heap.size := by have := h.gro.held.hB; have := h.gro.held.ltg; omega
  have HH : Hid _ := h
  have HR : Hid (∀ W, Below B w W → RawIs W a len zs) := hR
  have HLs : Hid (LsIs ls) := hls
  have HLk1 : Hid _ := look_tag N (kkR len zs) (tgR len zs) A σ.K root
  have HLk2 : Hid _ := look_star N (kkR len zs) (tgR len zs) A σ.K root
  have HLk3 : Hid _ := look_class N (kkR len zs) (tgR len zs) A σ.K root strX
  have hlen2 : (len : Int) ≤ 9223372036854775807 := by unfold maxLen at hlen; omega
  clear h hR hls
  generalize hpl : P N σ.K root = pl at *
  have HPL : Hid (P N σ.K root = pl) := hpl
  clear hpl
  have hp3 := HPl.out.1
  have hp1 := HPl.out.2
  go_enter Tryd.func12, Tryd.ntmps12
  go_wp2_with fail
  refine Calls.mono HWi.out ?_
  rintro e w1 ⟨v9, rfl, hv9, hB1⟩
  obtain ⟨ao, cp, rfl, -⟩ := found_form hv9
  have HG1 : Hid _ := HH.out.since hB1
  have HB1 : Hid _ := hB1
  have HV9 : Hid (∀ W, Below w1.heap.size w1 W → Nums W ao pl.length pl) := fun W hW => by
    obtain ⟨_, ao', cp', e, _, hn⟩ := nums_of (ownsRow_since hv9 hW)
    simp only [Value.slice.injEq] at e
    rw [← e.1] at hn
    exact hn
  have HR1 : Hid (∀ W, Below w1.heap.size w1 W → RawIs W a len zs) := fun W hW => HR.out W ((hB1.mono hBw).trans (hW.mono (Nat.le_trans hBw hB1.size)))
  clear hB1 hv9 HWi
  go_wp2_with fail
  obtain ⟨D, hD⟩ : ∃ D, D = w1.heap.size := ⟨_, rfl⟩
  have HDe : Hid (D = w1.heap.size) := hD
  have HDb : Hid (D ≤ w1.heap.size) := Nat.le_of_eq hD
  clear hD
  go_loopg [10, 11, 12] (pl.length - 1) (fun m a b i wr => ∃ k : Nat, i = .int .i64 k ∧ m + k = pl.length ∧ 1 ≤ k ∧ Hid (Two D wr a (tagF (kkR len zs) (tgR len zs) pl k) b (elsF (kkR len zs) pl k)) ∧ Hid (Below D w1 wr))
  case atStart =>
    refine ⟨1, rfl, by omega, Nat.le_refl _, ?_, Below.refl _ _⟩
    show Two _ _ _ _ _ _
    rw [elsF_one, tagF_one]
    exact ⟨World.ownsRow_nil _ _ _ _, World.ownsRow_nil _ _ _ _, fun g hg => by simp [Value.ownBlock] at hg⟩
  case round =>
    obtain ⟨k, rfl, hm, hk1, HT, HBl⟩ := hrel
    have HBs : Hid (D ≤ wr.heap.size) := Nat.le_trans HDb.out HBl.out.size
    by_cases hk : k < pl.length
    · have hkI : (k : Int) < ((pl.length : Nat) : Int) := by omega
      have hmem : pl.getD k 0 ∈ pl := by rw [List.getD_eq_getElem?_getD, List.getElem?_eq_getElem hk]; exact List.getElem_mem _
      have hy := HIn.out _ hmem
      have HEy : Hid (kkR len zs (pl.getD k 0) = 2 → elsF (kkR len zs) pl (k + 1) = elsF (kkR len zs) pl k ++ [pl.getD k 0]) := fun e => elsF_yes hk1 hk e
      have HEn : Hid (kkR len zs (pl.getD k 0) ≠ 2 → elsF (kkR len zs) pl (k + 1) = elsF (kkR len zs) pl k) := fun e => elsF_no hk1 hk e
      have HTy : Hid (kkR len zs (pl.getD k 0) = 2 → tgR len zs (pl.getD k 0) = strA → tagF (kkR len zs) (tgR len zs) pl (k + 1) = tagF (kkR len zs) (tgR len zs) pl k ++ [pl.getD k 0]) := fun e e' => tagF_yes hk1 hk e e'
      have HTn : Hid (¬ (kkR len zs (pl.getD k 0) = 2 ∧ tgR len zs (pl.getD k 0) = strA) → tagF (kkR len zs) (tgR len zs) pl (k + 1) = tagF (kkR len zs) (tgR len zs) pl k) := fun e => tagF_no hk1 hk e
      have hel := elsF_len (kkR len zs) pl k
      have htl := tagF_len (kkR len zs) (tgR len zs) pl k
      have HCl : Hid (∀ W, Below D w1 W → ∃ g, ao = some ⟨g, 0, none⟩ ∧ W.cell? ⟨g, k, none⟩ = some (.int .i64 (pl.getD k 0 : Nat))) := fun W hW => by
        rcases HV9.out W (HDe.out ▸ hW) with h0 | ⟨g, rfl, hg, hc⟩
        · omega
        · exact ⟨g, rfl, hc k hk⟩
      obtain ⟨lg, rfl, hcell⟩ := HCl.out wr HBl.out
      have HC2 : Hid (∀ W, Below D w1 W → W.cell? ⟨lg, k, none⟩ = some (.int .i64 (pl.getD k 0 : Nat))) := fun W hW => by
        obtain ⟨g, e, hc⟩ := HCl.out W hW
        simp only [Option.some.injEq, Addr.mk.injEq, and_true] at e
        rw [e]; exact hc
      have HR2 : Hid (RawIs wr a len zs) := HR1.out wr (HDe.out ▸ HBl.out)
      clear hmem HCl
      generalize pl.getD k 0 = y at *
      generalize elsF (kkR len zs) pl k = ys at *
      generalize tagF (kkR len zs) (tgR len zs) pl k = xs at *
      have wy : IntKind.i64.wrap ((y : Int) - 1) = (y : Int) - 1 := IntWalk.i64_in _ (by omega)
      have wn : ((y : Int) - 1).toNat = y - 1 := by omega
      have wn0 : (0 : Int) ≤ (y : Int) - 1 := by omega
      by_cases hr : y - 1 < len
      · have hrI : (y : Int) - 1 < (len : Int) := by omega
        rcases HR2.out with h0 | ⟨rb, off, rfl, hbs, hcs⟩
        · omega
        have rcell := (hcs (y - 1) hr).1
        have rbd := (hcs (y - 1) hr).2
        have HRA : Hid (rawAt len zs (y - 1) = pickF (zs.getD (y - 1) 0) 12) := by show rawAt len zs (y - 1) = _; unfold rawAt; rw [if_pos hr]
        clear hcs
        generalize zs.getD (y - 1) 0 = z at *
        have hc12 := pickF_lt z (n := 12) (by omega)
        go_wp2_with fail
        refine (pickX z 12 wr (by omega) (by omega) rbd.1 rbd.2).mono ?_
        rintro e wr ⟨rfl, rfl⟩
        generalize pickF z 12 = c at *
        by_cases y1 : y = 1
        · have y1' : ((y : Int) == 1) = true := by simp; omega
          have HK : Hid (kkR len zs y = 2) := kkR_yes (.inl y1)
          clear y1
          by_cases c3 : c % 3 = 0
          · have c3' : ((c : Int) % 3 == 0) = true := by simp; omega
            have HG3 : Hid (tgR len zs y = strA) := tgR_yes (by rw [HRA.out]; exact c3)
            have HEx : Hid (elsF (kkR len zs) pl (k + 1) = ys ++ [y]) := HEy.out HK.out
            have HTx : Hid (tagF (kkR len zs) (tgR len zs) pl (k + 1) = xs ++ [y]) := HTy.out HK.out HG3.out
            clear c3
            go_wp2_with (at_builtin; refine wpList_append_own_at _ rfl _ _ 22 rfl D 3 i0 (.int .i64 0) 1 8 Tryd.underlying22 hi hz0 hz1 hz2 rfl (by decide) _ _ _ rfl (World.ownsRow.alloc HT.out.rb _) ⟨wr.heap.size, 0, none⟩ 1 1 [.int .i64 (y : Nat)] rfl rfl (cell_one_new _ _ _) ?c2 ?c3 ?c4 ?c5 ?_)
            case c2 => first | rfl | (intro u hu; simp at hu; subst hu; rfl)
            case c3 => unfold maxLen; omega
            case c4 => omega
            case c5 => have := HBs.out; simp; omega
            intro v5 w5 hown5 hgrow5 _ hat5
            obtain ⟨t5, b5⟩ := HT.out.more HBs.out hown5 hgrow5 (by rw [World.size_alloc]; exact hat5)
            have HT5 : Hid _ := t5
            have HBl5 : Hid (Below D w1 w5) := HBl.out.trans b5
            have HBs5 : Hid (D ≤ w5.heap.size) := Nat.le_trans HBs.out b5.size
            clear t5 b5 hown5 hgrow5 hat5
            have hcell5 := HC2.out w5 HBl5.out
            go_wp2_with (at_builtin; refine wpList_append_own_at _ rfl _ _ 22 rfl D 3 i0 (.int .i64 0) 1 8 Tryd.underlying22 hi hz0 hz1 hz2 rfl (by decide) _ _ _ rfl (World.ownsRow.alloc HT5.out.symm.rb _) ⟨w5.heap.size, 0, none⟩ 1 1 [.int .i64 (y : Nat)] rfl rfl (cell_one_new _ _ _) ?c2 ?c3 ?c4 ?c5 ?_)
            case c2 => first | rfl | (intro u hu; simp at hu; subst hu; rfl)
            case c3 => unfold maxLen; omega
            case c4 => omega
            case c5 => have := HBs5.out; simp; omega
            intro v6 w6 hown6 hgrow6 _ hat6
            obtain ⟨t6, b6⟩ := HT5.out.symm.more HBs5.out hown6 hgrow6 (by rw [World.size_alloc]; exact hat6)
            have HT6 : Hid _ := t6.symm
            have HBl6 : Hid (Below D w1 w6) := HBl5.out.trans b6
            have HBs6 : Hid (D ≤ w6.heap.size) := Nat.le_trans HBs5.out b6.size
            clear t6 b6 hown6 hgrow6 hat6
            go_wp2_with fail
            go_roundg (gk - 1)
            case measure => omega
            case rel => exact ⟨k + 1, by go_num, by omega, by omega, by show Two _ _ _ _ _ _; rw [HEx.out, HTx.out]; exact HT6.out, HBl6.out⟩
          · have c3' : ((c : Int) % 3 == 0) = false := by simp; omega
            have HG3 : Hid (tgR len zs y ≠ strA) := tgR_not (by rw [HRA.out]; exact c3)
            have HEx : Hid (elsF (kkR len zs) pl (k + 1) = ys ++ [y]) := HEy.out HK.out
            have HTx : Hid (tagF (kkR len zs) (tgR len zs) pl (k + 1) = xs) := HTn.out (fun e => HG3.out e.2)
            clear c3
            go_wp2_with (at_builtin; refine wpList_append_own_at _ rfl _ _ 22 rfl D 3 i0 (.int .i64 0) 1 8 Tryd.underlying22 hi hz0 hz1 hz2 rfl (by decide) _ _ _ rfl (World.ownsRow.alloc HT.out.rb _) ⟨wr.heap.size, 0, none⟩ 1 1 [.int .i64 (y : Nat)] rfl rfl (cell_one_new _ _ _) ?c2 ?c3 ?c4 ?c5 ?_)
            case c2 => first | rfl | (intro u hu; simp at hu; subst hu; rfl)
            case c3 => unfold maxLen; omega
            case c4 => omega
            case c5 => have := HBs.out; simp; omega
            intro v5 w5 hown5 hgrow5 _ hat5
            obtain ⟨t5, b5⟩ := HT.out.more HBs.out hown5 hgrow5 (by rw [World.size_alloc]; exact hat5)
            have HT5 : Hid _ := t5
            have HBl5 : Hid (Below D w1 w5) := HBl.out.trans b5
            have HBs5 : Hid (D ≤ w5.heap.size) := Nat.le_trans HBs.out b5.size
            clear t5 b5 hown5 hgrow5 hat5
            go_wp2_with fail
            go_roundg (gk - 1)
            case measure => omega
            case rel => exact ⟨k + 1, by go_num, by omega, by omega, by show Two _ _ _ _ _ _; rw [HEx.out, HTx.out]; exact HT5.out, HBl5.out⟩
        · have y1' : ((y : Int) == 1) = false := by simp; omega
          by_cases c4 : c % 4 = 3
          · have c4' : ((c : Int) % 4 != 3) = false := by simp; omega
            have c4'' : ((c : Int) % 4 == 3) = true := by simp; omega
            have HK : Hid (kkR len zs y ≠ 2) := kkR_not (by omega) y1 (by rw [HRA.out]; exact c4)
            have HEx : Hid (elsF (kkR len zs) pl (k + 1) = ys) := HEn.out HK.out
            have HTx : Hid (tagF (kkR len zs) (tgR len zs) pl (k + 1) = xs) := HTn.out (fun e => HK.out e.1)
            clear c4
            go_wp2_with fail
            go_roundg (gk - 1)
            case measure => omega
            case rel => exact ⟨k + 1, by go_num, by omega, by omega, by show Two _ _ _ _ _ _; rw [HEx.out, HTx.out]; exact HT.out, HBl.out⟩
          · have c4' : ((c : Int) % 4 != 3) = true := by simp; omega
            have c4'' : ((c : Int) % 4 == 3) = false := by simp; omega
            have HK : Hid (kkR len zs y = 2) := kkR_yes (.inr (by rw [HRA.out]; exact c4))
            clear c4
            by_cases c3 : c % 3 = 0
            · have c3' : ((c : Int) % 3 == 0) = true := by simp; omega
              have HG3 : Hid (tgR len zs y = strA) := tgR_yes (by rw [HRA.out]; exact c3)
              have HEx : Hid (elsF (kkR len zs) pl (k + 1) = ys ++ [y]) := HEy.out HK.out
              have HTx : Hid (tagF (kkR len zs) (tgR len zs) pl (k + 1) = xs ++ [y]) := HTy.out HK.out HG3.out
              clear c3
              go_wp2_with (at_builtin; refine wpList_append_own_at _ rfl _ _ 22 rfl D 3 i0 (.int .i64 0) 1 8 Tryd.underlying22 hi hz0 hz1 hz2 rfl (by decide) _ _ _ rfl (World.ownsRow.alloc HT.out.rb _) ⟨wr.heap.size, 0, none⟩ 1 1 [.int .i64 (y : Nat)] rfl rfl (cell_one_new _ _ _) ?c2 ?c3 ?c4 ?c5 ?_)
              case c2 => first | rfl | (intro u hu; simp at hu; subst hu; rfl)
              case c3 => unfold maxLen; omega
              case c4 => omega
              case c5 => have := HBs.out; simp; omega
              intro v5 w5 hown5 hgrow5 _ hat5
              obtain ⟨t5, b5⟩ := HT.out.more HBs.out hown5 hgrow5 (by rw [World.size_alloc]; exact hat5)
              have HT5 : Hid _ := t5
              have HBl5 : Hid (Below D w1 w5) := HBl.out.trans b5
              have HBs5 : Hid (D ≤ w5.heap.size) := Nat.le_trans HBs.out b5.size
              clear t5 b5 hown5 hgrow5 hat5
              have hcell5 := HC2.out w5 HBl5.out
              go_wp2_with (at_builtin; refine wpList_append_own_at _ rfl _ _ 22 rfl D 3 i0 (.int .i64 0) 1 8 Tryd.underlying22 hi hz0 hz1 hz2 rfl (by decide) _ _ _ rfl (World.ownsRow.alloc HT5.out.symm.rb _) ⟨w5.heap.size, 0, none⟩ 1 1 [.int .i64 (y : Nat)] rfl rfl (cell_one_new _ _ _) ?c2 ?c3 ?c4 ?c5 ?_)
              case c2 => first | rfl | (intro u hu; simp at hu; subst hu; rfl)
              case c3 => unfold maxLen; omega
              case c4 => omega
              case c5 => have := HBs5.out; simp; omega
              intro v6 w6 hown6 hgrow6 _ hat6
              obtain ⟨t6, b6⟩ := HT5.out.symm.more HBs5.out hown6 hgrow6 (by rw [World.size_alloc]; exact hat6)
              have HT6 : Hid _ := t6.symm
              have HBl6 : Hid (Below D w1 w6) := HBl5.out.trans b6
              have HBs6 : Hid (D ≤ w6.heap.size) := Nat.le_trans HBs5.out b6.size
              clear t6 b6 hown6 hgrow6 hat6
              go_wp2_with fail
              go_roundg (gk - 1)
              case measure => omega
              case rel => exact ⟨k + 1, by go_num, by omega, by omega, by show Two _ _ _ _ _ _; rw [HEx.out, HTx.out]; exact HT6.out, HBl6.out⟩
            · have c3' : ((c : Int) % 3 == 0) = false := by simp; omega
              have HG3 : Hid (tgR len zs y ≠ strA) := tgR_not (by rw [HRA.out]; exact c3)
              have HEx : Hid (elsF (kkR len zs) pl (k + 1) = ys ++ [y]) := HEy.out HK.out
              have HTx : Hid (tagF (kkR len zs) (tgR len zs) pl (k + 1) = xs) := HTn.out (fun e => HG3.out e.2)
              clear c3
              go_wp2_with (at_builtin; refine wpList_append_own_at _ rfl _ _ 22 rfl D 3 i0 (.int .i64 0) 1 8 Tryd.underlying22 hi hz0 hz1 hz2 rfl (by decide) _ _ _ rfl (World.ownsRow.alloc HT.out.rb _) ⟨wr.heap.size, 0, none⟩ 1 1 [.int .i64 (y : Nat)] rfl rfl (cell_one_new _ _ _) ?c2 ?c3 ?c4 ?c5 ?_)
              case c2 => first | rfl | (intro u hu; simp at hu; subst hu; rfl)
              case c3 => unfold maxLen; omega
              case c4 => omega
              case c5 => have := HBs.out; simp; omega
              intro v5 w5 hown5 hgrow5 _ hat5
              obtain ⟨t5, b5⟩ := HT.out.more HBs.out hown5 hgrow5 (by rw [World.size_alloc]; exact hat5)
              have HT5 : Hid _ := t5
              have HBl5 : Hid (Below D w1 w5) := HBl.out.trans b5
              have HBs5 : Hid (D ≤ w5.heap.size) := Nat.le_trans HBs.out b5.size
              clear t5 b5 hown5 hgrow5 hat5
              go_wp2_with fail
              go_roundg (gk - 1)
              case measure => omega
              case rel => exact ⟨k + 1, by go_num, by omega, by omega, by show Two _ _ _ _ _ _; rw [HEx.out, HTx.out]; exact HT5.out, HBl5.out⟩
      · have hrI : ¬ (y : Int) - 1 < (len : Int) := by omega
        have HRA : Hid (rawAt len zs (y - 1) = 0) := by show rawAt len zs (y - 1) = 0; unfold rawAt; rw [if_neg hr]
        have HK : Hid (kkR len zs y = 2) := kkR_yes (.inr (by rw [HRA.out]; decide))
        have HG3 : Hid (tgR len zs y = strA) := tgR_yes (by rw [HRA.out])
        have HEx : Hid (elsF (kkR len zs) pl (k + 1) = ys ++ [y]) := HEy.out HK.out
        have HTx : Hid (tagF (kkR len zs) (tgR len zs) pl (k + 1) = xs ++ [y]) := HTy.out HK.out HG3.out
        by_cases y1 : y = 1
        · have y1' : ((y : Int) == 1) = true := by simp; omega
          clear y1
          go_wp2_with (at_builtin; refine wpList_append_own_at _ rfl _ _ 22 rfl D 3 i0 (.int .i64 0) 1 8 Tryd.underlying22 hi hz0 hz1 hz2 rfl (by decide) _ _ _ rfl (World.ownsRow.alloc HT.out.rb _) ⟨wr.heap.size, 0, none⟩ 1 1 [.int .i64 (y : Nat)] rfl rfl (cell_one_new _ _ _) ?c2 ?c3 ?c4 ?c5 ?_)
          case c2 => first | rfl | (intro u hu; simp at hu; subst hu; rfl)
          case c3 => unfold maxLen; omega
          case c4 => omega
          case c5 => have := HBs.out; simp; omega
          intro v5 w5 hown5 hgrow5 _ hat5
          obtain ⟨t5, b5⟩ := HT.out.more HBs.out hown5 hgrow5 (by rw [World.size_alloc]; exact hat5)
          have HT5 : Hid _ := t5
          have HBl5 : Hid (Below D w1 w5) := HBl.out.trans b5
          have HBs5 : Hid (D ≤ w5.heap.size) := Nat.le_trans HBs.out b5.size
          clear t5 b5 hown5 hgrow5 hat5
          have hcell5 := HC2.out w5 HBl5.out
          go_wp2_with (at_builtin; refine wpList_append_own_at _ rfl _ _ 22 rfl D 3 i0 (.int .i64 0) 1 8 Tryd.underlying22 hi hz0 hz1 hz2 rfl (by decide) _ _ _ rfl (World.ownsRow.alloc HT5.out.symm.rb _) ⟨w5.heap.size, 0, none⟩ 1 1 [.int .i64 (y : Nat)] rfl rfl (cell_one_new _ _ _) ?c2 ?c3 ?c4 ?c5 ?_)
          case c2 => first | rfl | (intro u hu; simp at hu; subst hu; rfl)
          case c3 => unfold maxLen; omega
          case c4 => omega
          case c5 => have := HBs5.out; simp; omega
          intro v6 w6 hown6 hgrow6 _ hat6
          obtain ⟨t6, b6⟩ := HT5.out.symm.more HBs5.out hown6 hgrow6 (by rw [World.size_alloc]; exact hat6)
          have HT6 : Hid _ := t6.symm
          have HBl6 : Hid (Below D w1 w6) := HBl5.out.trans b6
          have HBs6 : Hid (D ≤ w6.heap.size) := Nat.le_trans HBs5.out b6.size
          clear t6 b6 hown6 hgrow6 hat6
          go_wp2_with fail
          go_roundg (gk - 1)
          case measure => omega
          case rel => exact ⟨k + 1, by go_num, by omega, by omega, by show Two _ _ _ _ _ _; rw [HEx.out, HTx.out]; exact HT6.out, HBl6.out⟩
        · have y1' : ((y : Int) == 1) = false := by simp; omega
          go_wp2_with (at_builtin; refine wpList_append_own_at _ rfl _ _ 22 rfl D 3 i0 (.int .i64 0) 1 8 Tryd.underlying22 hi hz0 hz1 hz2 rfl (by decide) _ _ _ rfl (World.ownsRow.alloc HT.out.rb _) ⟨wr.heap.size, 0, none⟩ 1 1 [.int .i64 (y : Nat)] rfl rfl (cell_one_new _ _ _) ?c2 ?c3 ?c4 ?c5 ?_)
          case c2 => first | rfl | (intro u hu; simp at hu; subst hu; rfl)
          case c3 => unfold maxLen; omega
          case c4 => omega
          case c5 => have := HBs.out; simp; omega
          intro v5 w5 hown5 hgrow5 _ hat5
          obtain ⟨t5, b5⟩ := HT.out.more HBs.out hown5 hgrow5 (by rw [World.size_alloc]; exact hat5)
          have HT5 : Hid _ := t5
          have HBl5 : Hid (Below D w1 w5) := HBl.out.trans b5
          have HBs5 : Hid (D ≤ w5.heap.size) := Nat.le_trans HBs.out b5.size
          clear t5 b5 hown5 hgrow5 hat5
          have hcell5 := HC2.out w5 HBl5.out
          go_wp2_with (at_builtin; refine wpList_append_own_at _ rfl _ _ 22 rfl D 3 i0 (.int .i64 0) 1 8 Tryd.underlying22 hi hz0 hz1 hz2 rfl (by decide) _ _ _ rfl (World.ownsRow.alloc HT5.out.symm.rb _) ⟨w5.heap.size, 0, none⟩ 1 1 [.int .i64 (y : Nat)] rfl rfl (cell_one_new _ _ _) ?c2 ?c3 ?c4 ?c5 ?_)
          case c2 => first | rfl | (intro u hu; simp at hu; subst hu; rfl)
          case c3 => unfold maxLen; omega
          case c4 => omega
          case c5 => have := HBs5.out; simp; omega
          intro v6 w6 hown6 hgrow6 _ hat6
          obtain ⟨t6, b6⟩ := HT5.out.symm.more HBs5.out hown6 hgrow6 (by rw [World.size_alloc]; exact hat6)
          have HT6 : Hid _ := t6.symm
          have HBl6 : Hid (Below D w1 w6) := HBl5.out.trans b6
          have HBs6 : Hid (D ≤ w6.heap.size) := Nat.le_trans HBs5.out b6.size
          clear t6 b6 hown6 hgrow6 hat6
          go_wp2_with fail
          go_roundg (gk - 1)
          case measure => omega
          case rel => exact ⟨k + 1, by go_num, by omega, by omega, by show Two _ _ _ _ _ _; rw [HEx.out, HTx.out]; exact HT6.out, HBl6.out⟩
    · obtain rfl : k = pl.length := by omega
      have hkI : ¬ ((pl.length : Nat) : Int) < ((pl.length : Nat) : Int) := by omega
      have HG2 : Hid _ := HG1.out.since (HDe.out ▸ HBl.out)
      have HTa : Hid _ := HT.out.ra
      have HTb : Hid _ := HT.out.rb
      obtain ⟨ea, ec, rfl, -⟩ := found_form HTb.out
      go_wp2_with fail
      refine (kidsG HG2.out.gro.held HG2.out.gro.wf root h1 hrN).mono ?_
      rintro e w3 ⟨kv, rfl, hkown, hkbel⟩
      have HG3 : Hid _ := HG2.out.since hkbel
      have HA3 : Hid _ := ownsRow_since HTa.out hkbel
      have HB3 : Hid _ := ownsRow_since HTb.out hkbel
      have HK3 : Hid _ := hkown
      have HF3 : Hid (Fr (lvSet r) w w3) := (Fr.of_below HB1.out).trans ((Fr.of_below (HDe.out ▸ HBl.out)).trans (Fr.of_below hkbel))
      have HLkd : Hid _ := look_kids N (kkR len zs) (tgR len zs) A σ.K root ByteArray.empty
      clear hkown hkbel HT HTa HTb
      have q1 : IntKind.i64.wrap (4 * (root : Int)) = 4 * (root : Int) := IntWalk.i64_in _ (by omega)
      have q2 : IntKind.i64.wrap (4 * (root : Int) - 3) = 4 * (root : Int) - 3 := IntWalk.i64_in _ (by omega)
      have q3 : IntKind.i64.wrap (4 * (root : Int) - 2) = 4 * (root : Int) - 2 := IntWalk.i64_in _ (by omega)
      have q4 : IntKind.i64.wrap (4 * (root : Int) - 1) = 4 * (root : Int) - 1 := IntWalk.i64_in _ (by omega)
      go_wp2_with fail
      refine (listedOf HG3.out hN HLs.out root 0 h1 h2 (by omega) HLk1.out HA3.out (by omega)).mono ?_
      rintro e w4 ⟨rfl, l4, hG, hk, hF⟩
      have HG4 : Hid _ := hG
      have HLs4 : Hid _ := LsIs.like HLs.out hk
      have HB4 : Hid _ := own_keeps HG3.out hF HB3.out
      have HK4 : Hid _ := own_keeps HG3.out hF HK3.out
      have HF4 : Hid _ := HF3.out.trans hF
      have HKe4 : Hid _ := hk
      clear hG hk hF
      go_wp2_with fail
      refine (listedOf HG4.out hN HLs4.out root 1 h1 h2 (by omega) HLk2.out HB4.out (by omega)).mono ?_
      rintro e w5 ⟨rfl, l5, hG, hk, hF⟩
      have HG5 : Hid _ := hG
      have HLs5 : Hid _ := LsIs.like HLs4.out hk
      have HK5 : Hid _ := own_keeps HG4.out hF HK4.out
      have HF5 : Hid _ := HF4.out.trans hF
      have HKe5 : Hid _ := Ls.like.trans HKe4.out hk
      clear hG hk hF
      go_wp2_with fail
      refine (listedOf HG5.out hN HLs5.out root 3 h1 h2 (by omega) HLkd.out HK5.out (by omega)).mono ?_
      rintro e w6 ⟨rfl, l6, hG, hk, hF⟩
      have HG6 : Hid _ := hG
      have HLs6 : Hid _ := LsIs.like HLs5.out hk
      have HF6 : Hid _ := HF5.out.trans hF
      have HKe6 : Hid _ := Ls.like.trans HKe5.out hk
      clear hG hk hF
      go_wp2_with fail
      refine (lenOf HG6.out hN HLs6.out root 2 h1 h2 (by omega) (by omega)).mono ?_
      rintro e w7 ⟨rfl, l7, hG, hk, hF⟩
      have HG7 : Hid _ := hG
      have HF7 : Hid _ := HF6.out.trans hF
      have HKe7 : Hid _ := Ls.like.trans HKe6.out hk
      have hle : (((lookF N (kkR len zs) (tgR len zs) A σ.K root (lisHow 2) (lisWhat 2)).length : Nat) : Int) ≤ (((elsF (kkR len zs) pl pl.length).length : Nat) : Int) := Int.ofNat_le.2 HLk3.out
      clear hG hk hF
      generalize (lookF N (kkR len zs) (tgR len zs) A σ.K root (lisHow 2) (lisWhat 2)).length = ln at *
      go_wp2_with fail
      go_ret
      exact ⟨rfl, l7, HG7.out, HKe7.out, HF7.out⟩
end
end Go.Proofs.YtcedebpoihcbdaaDoor
