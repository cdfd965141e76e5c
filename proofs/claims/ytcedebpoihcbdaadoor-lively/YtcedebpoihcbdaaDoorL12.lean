/-
  A grove with lists: Len and Item.
-/
import Derived.Test.YtcedebpoihcbdaaDoorL11
namespace Go.Proofs.YtcedebpoihcbdaaDoor
open Go.RowKit Gv

theorem numberedL (w : World) (ib n icap k : Nat) (hn : n ≤ 50) (h1 : 1 ≤ k) (hk : k ≤ n) :
    Calls Tryd.prog 28 #[.slice (some ⟨ib, 0, none⟩) n icap, .int .i64 k] w fun e w' => e = .returned (.pointer (some ⟨ib, (k - 1) * 6, none⟩)) ∧ w' = w := by
  obtain ⟨k, rfl⟩ : ∃ j, k = j + 1 := ⟨k - 1, by omega⟩
  go_enter Tryd.func28, Tryd.ntmps28
  go_wp2
  go_ret
  exact ⟨by simp, rfl⟩

/-- The lists of a grove, and what else its lists hang on. -/
structure Grl (B : Nat) (w : World) (gb nb cap N : Nat) (kk : Nat → Nat) (tg : Nat → ByteArray) (kd : Nat → Value) (mp : Nat → Nat) (σ : St) (r : Re) (A : Nat → ByteArray → Option ByteArray) (ls : List Ls) : Prop where
  gro : Gro B w gb nb cap N kk tg kd mp σ r
  ats : Ats w B N kk mp A
  lss : Lss w B r.lv ls
  ok : ∀ x, x ∈ ls → x.OK N kk tg A σ.K r

/-- What was to be found by each list, and by its number. -/
def Ls.like (ls ls' : List Ls) : Prop := ls'.length = ls.length ∧ ∀ (i : Nat) (x : Ls), ls[i]? = some x → ∃ y : Ls, ls'[i]? = some y ∧ y.root = x.root ∧ y.how = x.how ∧ y.what = x.what

def lvSet (r : Re) : Nat → Prop := fun i => r.lv.ownBlock = some i

section
variable {B : Nat} {w w' : World} {gb nb cap N : Nat} {kk : Nat → Nat} {tg : Nat → ByteArray} {kd : Nat → Value} {mp : Nat → Nat} {σ : St} {r : Re} {A : Nat → ByteArray → Option ByteArray} {ls : List Ls}

theorem Ls.like_refl (ls : List Ls) : Ls.like ls ls := ⟨rfl, fun _ x h => ⟨x, h, rfl, rfl, rfl⟩⟩
theorem Ls.like.trans {a b c : List Ls} (h : Ls.like a b) (k : Ls.like b c) : Ls.like a c := ⟨k.1.trans h.1, fun i x hx => by
  obtain ⟨y, hy, e1, e2, e3⟩ := h.2 i x hx
  obtain ⟨z, hz, f1, f2, f3⟩ := k.2 i y hy
  exact ⟨z, hz, f1.trans e1, f2.trans e2, f3.trans e3⟩⟩
theorem Ls.like_set {ls : List Ls} {i : Nat} {x y : Ls} (hi : ls[i]? = some x) (h1 : y.root = x.root) (h2 : y.how = x.how) (h3 : y.what = x.what) : Ls.like ls (ls.set i y) := by
  have hl : i < ls.length := (List.getElem?_eq_some_iff.1 hi).1
  refine ⟨by simp, fun j z hz => ?_⟩
  by_cases e : i = j
  · subst e
    rw [hi] at hz
    cases hz
    exact ⟨y, by rw [List.getElem?_set]; simp [hl], h1, h2, h3⟩
  · exact ⟨z, by rw [List.getElem?_set, if_neg e]; exact hz, rfl, rfl, rfl⟩

theorem Ls.OK.fresh {x : Ls} (h : x.OK N kk tg A σ.K r) (v : Value) : (x.fresh v (lookF N kk tg A σ.K x.root x.how x.what) r).OK N kk tg A σ.K r :=
  ⟨h.root, h.how, Int.le_refl _, fun e => by have e2 : x.how = 2 := e; show nowCl x.how r ≤ r.cl; unfold nowCl; rw [if_pos e2]; exact Int.le_refl _, fun _ _ => rfl⟩

/-- Only the lists' row has turned. -/
theorem Grl.looked (h : Grl B w gb nb cap N kk tg kd mp σ r A ls) {i : Nat} {x : Ls} (hi : ls[i]? = some x) {v : Value} (hF : Fr (lvSet r) w w') (hL : Lss w' B r.lv (ls.set i (x.fresh v (lookF N kk tg A σ.K x.root x.how x.what) r))) :
    Grl B w' gb nb cap N kk tg kd mp σ r A (ls.set i (x.fresh v (lookF N kk tg A σ.K x.root x.how x.what) r)) := by
  obtain ⟨cur, hn, _⟩ := h.gro.held.block
  have n1 : ¬ lvSet r gb := fun e => row_apart h.lss.row h.gro.held.g (by decide) e
  have n2 : ¬ lvSet r nb := fun e => row_apart h.lss.row hn (by decide) e
  refine ⟨⟨h.gro.held.fr hF n1 n2, h.gro.wf, h.gro.kinds, h.gro.its.fr hF (fun g hg e => ?_), h.gro.sound, fun k h1 h2 h3 => (h.gro.els k h1 h2 h3).fr hF (fun i cs fr hi e => row_apart h.lss.row e (by decide) hi)⟩, h.ats.fr hF (fun i es c hi e => ?_), hL, fun y hy => ?_⟩
  · rcases row_form h.gro.its.row with ⟨e', _⟩ | ⟨g', c', e', _, _, ⟨cur, hc⟩, _⟩
    · rw [e'] at hg; simp [Value.ownBlock] at hg
    · rw [e'] at hg
      simp only [Value.ownBlock, Option.some.injEq] at hg
      subst hg
      exact row_apart h.lss.row hc (by decide) e
  · rcases row_form h.lss.row with ⟨e', _⟩ | ⟨g', c', e', _, _, ⟨cur, hc⟩, _⟩
    · unfold lvSet at hi; rw [e'] at hi; simp [Value.ownBlock] at hi
    · unfold lvSet at hi
      rw [e'] at hi
      simp only [Value.ownBlock, Option.some.injEq] at hi
      subst hi
      rw [hc] at e; cases e
  · rcases List.mem_or_eq_of_mem_set hy with hy | rfl
    · exact h.ok y hy
    · exact (h.ok x (List.mem_of_getElem? hi)).fresh v

theorem lookF_len (hwf : WF N σ.s σ.K) {root how : Nat} {what : ByteArray} (h1 : 1 ≤ root) (hn : root ≤ N) : (lookF N kk tg A σ.K root how what).length ≤ N := by
  unfold lookF
  refine Nat.le_trans (List.length_filter_le _ _) ?_
  split
  · rw [List.length_tail]; have := P_len hwf h1 hn; omega
  · exact hwf.few root

/-- A slice of numbers: its shape and its cells. -/
theorem found_form {w : World} {v : Value} {l : List Nat} (h : w.ownsRow B 3 1 v l.length (ints l)) : ∃ ao cp, v = .slice ao l.length cp ∧ Nums w ao l.length l := by
  obtain ⟨_, ao, cp, e, _, hn⟩ := nums_of h
  exact ⟨ao, cp, e, hn⟩

/-- What nodes hands back, once it has looked: so many, and which. -/
theorem fresh_form {w' : World} {lb n c i : Nat} {x : Ls} {v : Value} {l : List Nat} (hi : ls[i]? = some x) (hL : Lss w' B (.slice (some ⟨lb, 0, none⟩) n c) (ls.set i (x.fresh v l r))) : ∃ ao cp, v = .slice ao l.length cp ∧ Nums w' ao l.length l := by
  have hl : i < ls.length := (List.getElem?_eq_some_iff.1 hi).1
  exact found_form (hL.found (x.fresh v l r) (List.mem_of_getElem? (i := i) (by rw [List.getElem?_set]; simp [hl])))

set_option maxRecDepth 100000 in
theorem listLen (h : Gro B w gb nb cap N kk tg kd mp σ r) (hA : Ats w B N kk mp A) (hN : 1 ≤ N) {lb n c i : Nat} {x : Ls} (hL : Lss w B (.slice (some ⟨lb, 0, none⟩) n c) ls) (hi : ls[i]? = some x) (hx : x.OK N kk tg A σ.K r) :
    Calls Tryd.prog 52 #[.pointer (some ⟨lb, i * 6, none⟩), .pointer (some ⟨gb, 0, none⟩)] w fun e w' => e = .returned (.int .i64 ((lookF N kk tg A σ.K x.root x.how x.what).length : Nat)) ∧ ∃ v, Lss w' B (.slice (some ⟨lb, 0, none⟩) n c) (ls.set i (x.fresh v (lookF N kk tg A σ.K x.root x.how x.what) r)) ∧ Fr (fun k => k = lb) w w' := by
  have HNd : Hid _ := nodesC h hA hN hL hi hx
  have HI : Hid _ := hi
  clear h hA hL hi hx
  generalize lookF N kk tg A σ.K x.root x.how x.what = lf at *
  go_enter Tryd.func52, Tryd.ntmps52
  go_wp2_with fail
  refine Calls.mono HNd.out ?_
  rintro e w1 ⟨v, rfl, hL1, hF1⟩
  obtain ⟨ao, cp, rfl, -⟩ := fresh_form HI.out hL1
  have HL1 : Hid _ := hL1
  have HF1 : Hid _ := hF1
  clear hL1 hF1 HNd
  go_wp2_with fail
  go_ret
  exact ⟨rfl, _, HL1.out, HF1.out⟩

/-- The i-th of a list as Item tells it. -/
def itemF (l : List Nat) (j : Int) : Nat := if j < 0 then 0 else l.getD j.toNat 0

set_option maxRecDepth 100000 in
theorem listItem (h : Gro B w gb nb cap N kk tg kd mp σ r) (hA : Ats w B N kk mp A) (hN : 1 ≤ N) {lb n c i : Nat} {x : Ls} (hL : Lss w B (.slice (some ⟨lb, 0, none⟩) n c) ls) (hi : ls[i]? = some x) (hx : x.OK N kk tg A σ.K r) (j : Int) :
    Calls Tryd.prog 29 #[.pointer (some ⟨lb, i * 6, none⟩), .pointer (some ⟨gb, 0, none⟩), .int .i64 j] w fun e w' => e = .returned (.int .i64 (itemF (lookF N kk tg A σ.K x.root x.how x.what) j : Nat)) ∧ ∃ v, Lss w' B (.slice (some ⟨lb, 0, none⟩) n c) (ls.set i (x.fresh v (lookF N kk tg A σ.K x.root x.how x.what) r)) ∧ Fr (fun k => k = lb) w w' := by
  have HNd : Hid _ := nodesC h hA hN hL hi hx
  have HI : Hid _ := hi
  have HLen : Hid ((lookF N kk tg A σ.K x.root x.how x.what).length ≤ 300) := Nat.le_trans (lookF_len h.wf hx.root.1 hx.root.2) h.N1
  clear h hA hL hi hx
  generalize lookF N kk tg A σ.K x.root x.how x.what = lf at *
  have hlen := HLen.out
  go_enter Tryd.func29, Tryd.ntmps29
  go_wp2_with fail
  refine Calls.mono HNd.out ?_
  rintro e w1 ⟨v, rfl, hL1, hF1⟩
  obtain ⟨ao, cp, rfl, hnum⟩ := fresh_form HI.out hL1
  have HL1 : Hid _ := hL1
  have HF1 : Hid _ := hF1
  have HNm : Hid (Nums w1 ao lf.length lf) := hnum
  clear hL1 hF1 HNd hnum
  by_cases hj : j < 0
  · have HR : Hid (itemF lf j = 0) := by show itemF lf j = 0; unfold itemF; rw [if_pos hj]
    go_wp2_with fail
    go_ret
    exact ⟨ret_int (by rw [HR.out]; rfl), _, HL1.out, HF1.out⟩
  · by_cases hj2 : ((lf.length : Nat) : Int) ≤ j
    · have HR : Hid (itemF lf j = 0) := by
        show itemF lf j = 0
        unfold itemF
        rw [if_neg hj, List.getD_eq_getElem?_getD, List.getElem?_eq_none (by omega)]; rfl
      go_wp2_with fail
      go_ret
      exact ⟨ret_int (by rw [HR.out]; rfl), _, HL1.out, HF1.out⟩
    · obtain ⟨k, rfl⟩ : ∃ k : Nat, j = k := ⟨j.toNat, by omega⟩
      have HR : Hid (itemF lf k = lf.getD k 0) := by
        show itemF lf k = _
        unfold itemF
        rw [if_neg hj]; rfl
      rcases HNm.out with h0 | ⟨g, rfl, hg, hc⟩
      · omega
      have hcell := hc k (by omega)
      have hk : (k : Int) < ((lf.length : Nat) : Int) := by omega
      clear hc hj hj2
      generalize lf.getD k 0 = y at *
      go_wp2_with fail
      go_ret
      exact ⟨ret_int (by rw [HR.out]), _, HL1.out, HF1.out⟩

theorem Grl.form (h : Grl B w gb nb cap N kk tg kd mp σ r A ls) {i : Nat} {x : Ls} (hi : ls[i]? = some x) : ∃ lb lc, r.lv = .slice (some ⟨lb, 0, none⟩) ls.length lc := by
  have hl : i < ls.length := (List.getElem?_eq_some_iff.1 hi).1
  rcases row_form h.lss.row with ⟨_, e⟩ | ⟨g', c', e, _⟩
  · omega
  · exact ⟨g', c', e⟩

set_option maxRecDepth 100000 in
set_option maxHeartbeats 400000 in
theorem lenS (h : Grl B w gb nb cap N kk tg kd mp σ r A ls) (hN : 1 ≤ N) {i : Nat} {x : Ls} (hi : ls[i]? = some x) :
    Calls Tryd.prog 34 #[.pointer (some ⟨gb, 0, none⟩), .int .i64 ((i + 1 : Nat) : Int)] w fun e w' => e = .returned (.tuple #[.int .i64 ((lookF N kk tg A σ.K x.root x.how x.what).length : Nat), .int .i64 0]) ∧ ∃ ls', Grl B w' gb nb cap N kk tg kd mp σ r A ls' ∧ Ls.like ls ls' ∧ Fr (lvSet r) w w' := by
  have hl : i < ls.length := (List.getElem?_eq_some_iff.1 hi).1
  have hfew := h.lss.few
  obtain ⟨lb, lc, hlv⟩ := h.form hi
  have hlvc : w.cell? ⟨gb, 3, none⟩ = some (.slice (some ⟨lb, 0, none⟩) ls.length lc) := by rw [← hlv]; exact h.gro.held.glv
  have hLs : Lss w B (.slice (some ⟨lb, 0, none⟩) ls.length lc) ls := by rw [← hlv]; exact h.lss
  have HNd : Hid _ := listLen h.gro h.ats hN hLs hi (h.ok x (List.mem_of_getElem? hi))
  have HH : Hid _ := h
  have HI : Hid (ls[i]? = some x) := hi
  have HLV : Hid (r.lv = .slice (some ⟨lb, 0, none⟩) ls.length lc) := hlv
  clear h hi hLs hlv
  go_enter Tryd.func34, Tryd.ntmps34
  go_wp2_with fail
  refine (numberedL w lb ls.length lc (i + 1) hfew (by omega) (by omega)).mono ?_
  rintro e w ⟨rfl, rfl⟩
  rw [Nat.add_sub_cancel]
  go_wp2_with fail
  refine Calls.mono HNd.out ?_
  rintro e w1 ⟨rfl, v, hL1, hF1⟩
  have HL1 : Hid _ := hL1
  have HF1 : Hid (Fr (lvSet r) w w1) := hF1.mono (fun k hk => by show r.lv.ownBlock = some k; rw [HLV.out, hk]; rfl)
  clear hL1 hF1 HNd
  go_wp2_with fail
  go_ret2
  exact ⟨rfl, _, HH.out.looked HI.out HF1.out (by rw [HLV.out]; exact HL1.out), Ls.like_set HI.out rfl rfl rfl, HF1.out⟩

set_option maxRecDepth 100000 in
set_option maxHeartbeats 400000 in
theorem itemS (h : Grl B w gb nb cap N kk tg kd mp σ r A ls) (hN : 1 ≤ N) {i : Nat} {x : Ls} (hi : ls[i]? = some x) (j : Int) :
    Calls Tryd.prog 10 #[.pointer (some ⟨gb, 0, none⟩), .int .i64 ((i + 1 : Nat) : Int), .int .i64 j] w fun e w' => e = .returned (.tuple #[.int .i64 (itemF (lookF N kk tg A σ.K x.root x.how x.what) j : Nat), .int .i64 0]) ∧ ∃ ls', Grl B w' gb nb cap N kk tg kd mp σ r A ls' ∧ Ls.like ls ls' ∧ Fr (lvSet r) w w' := by
  have hl : i < ls.length := (List.getElem?_eq_some_iff.1 hi).1
  have hfew := h.lss.few
  obtain ⟨lb, lc, hlv⟩ := h.form hi
  have hlvc : w.cell? ⟨gb, 3, none⟩ = some (.slice (some ⟨lb, 0, none⟩) ls.length lc) := by rw [← hlv]; exact h.gro.held.glv
  have hLs : Lss w B (.slice (some ⟨lb, 0, none⟩) ls.length lc) ls := by rw [← hlv]; exact h.lss
  have HNd : Hid _ := listItem h.gro h.ats hN hLs hi (h.ok x (List.mem_of_getElem? hi)) j
  have HH : Hid _ := h
  have HI : Hid (ls[i]? = some x) := hi
  have HLV : Hid (r.lv = .slice (some ⟨lb, 0, none⟩) ls.length lc) := hlv
  clear h hi hLs hlv
  go_enter Tryd.func10, Tryd.ntmps10
  go_wp2_with fail
  refine (numberedL w lb ls.length lc (i + 1) hfew (by omega) (by omega)).mono ?_
  rintro e w ⟨rfl, rfl⟩
  rw [Nat.add_sub_cancel]
  go_wp2_with fail
  refine Calls.mono HNd.out ?_
  rintro e w1 ⟨rfl, v, hL1, hF1⟩
  have HL1 : Hid _ := hL1
  have HF1 : Hid (Fr (lvSet r) w w1) := hF1.mono (fun k hk => by show r.lv.ownBlock = some k; rw [HLV.out, hk]; rfl)
  clear hL1 hF1 HNd
  go_wp2_with fail
  go_ret2
  exact ⟨rfl, _, HH.out.looked HI.out HF1.out (by rw [HLV.out]; exact HL1.out), Ls.like_set HI.out rfl rfl rfl, HF1.out⟩
end
end Go.Proofs.YtcedebpoihcbdaaDoor
