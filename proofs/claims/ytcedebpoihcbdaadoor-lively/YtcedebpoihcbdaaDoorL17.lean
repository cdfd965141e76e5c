/-
  The law's 'change' where there are lists; and its 'listed'.
-/
import Derived.Test.YtcedebpoihcbdaaDoorL16
namespace Go.Proofs.YtcedebpoihcbdaaDoor
open Go.RowKit Go.Shelf Gv

section
variable {B : Nat} {w w' : World} {gb nb cap N : Nat} {kk : Nat → Nat} {tg : Nat → ByteArray} {kd : Nat → Value} {mp : Nat → Nat} {σ σ' : St} {r r' : Re} {A A' : Nat → ByteArray → Option ByteArray} {ls : List Ls}

/-- The trees have changed: the lists' stamps tell it. -/
theorem Grl.moved (h : Grl B w gb nb cap N kk tg kd mp σ r A ls) (hG : Gro B w' gb nb cap N kk tg kd mp σ' r') (hF : Fr (gset gb nb r.iv) w w') {m : Nat} (hl : r.like r' m) (hs : r'.pl = r.pl → σ' = σ) : Grl B w' gb nb cap N kk tg kd mp σ' r' A ls := by
  obtain ⟨cur, hn, _⟩ := h.gro.held.block
  have hty : ∀ i cs t fr, gset gb nb r.iv i → w.heap[i]? = some (.cells cs t fr) → t = 48 ∨ t = 86 ∨ t = 91 := by
    rintro i cs t fr (rfl | rfl | hi) e
    · rw [h.gro.held.g] at e
      simp only [Option.some.injEq, Obj.cells.injEq] at e
      exact .inl e.2.1.symm
    · rw [hn] at e
      simp only [Option.some.injEq, Obj.cells.injEq] at e
      exact .inr (.inl e.2.1.symm)
    · by_cases ht : t = 91
      · exact .inr (.inr ht)
      · exact absurd hi (row_apart h.gro.its.row e (fun e' => ht e'.symm))
  have hmaps : ∀ i es c, gset gb nb r.iv i → w.heap[i]? ≠ some (.map es c) := by
    rintro i es c (rfl | rfl | hi) e
    · rw [h.gro.held.g] at e; cases e
    · rw [hn] at e; cases e
    · rcases row_form h.gro.its.row with ⟨e', _⟩ | ⟨g', c', e', _, _, ⟨cur, hc⟩, _⟩
      · rw [e'] at hi; simp [Value.ownBlock] at hi
      · rw [e'] at hi
        simp only [Value.ownBlock, Option.some.injEq] at hi
        subst hi
        rw [hc] at e; cases e
  obtain ⟨l1, l2, l3, l4, l5, l6⟩ := hl
  refine ⟨hG, h.ats.fr hF hmaps, ?_, fun x hx => ?_⟩
  · rw [l2]
    refine h.lss.fr hF (fun i cs t fr hi e => ?_)
    rcases hty _ _ _ _ hi e with rfl | rfl | rfl <;> decide
  · obtain ⟨a1, a2, a3, a4, a5⟩ := h.ok x hx
    have hnow : nowCl x.how r' = nowCl x.how r := by unfold nowCl; rw [l1]
    refine ⟨a1, a2, by omega, fun e => by have := a4 e; rw [l1]; exact this, fun e1 e2 => ?_⟩
    have e3 : r'.pl = r.pl := by omega
    rw [hs e3]
    exact a5 (by omega) (by rw [← hnow]; exact e2)

theorem changeG (h : Grl B w gb nb cap N kk tg kd mp σ r A ls) (hno : ∀ i, kk i ≠ 1) (hpl : 0 ≤ r.pl) (hpl2 : r.pl ≤ 1000000) (hN : 1 ≤ N) (a b c : Int) (ha : -9223372036854775808 ≤ a ∧ a ≤ 9223372036854775807) (hb : -9223372036854775808 ≤ b ∧ b ≤ 9223372036854775807) (hc : -9223372036854775808 ≤ c ∧ c ≤ 9223372036854775807) :
    Calls Tryd.prog 11 #[.pointer (some ⟨gb, 0, none⟩), .int .i64 N, .int .i64 a, .int .i64 b, .int .i64 c] w fun e w' => e = .returned (.tuple #[]) ∧ ∃ r', Grl B w' gb nb cap N kk tg kd mp (σ.change N kk a b c) r' A ls ∧ r.like r' 2 ∧ Fr (gset gb nb r.iv) w w' := by
  refine (changeS2 h.gro hno hpl hpl2 hN a b c ha hb hc).mono ?_
  rintro e w' ⟨rfl, r', hG, hl, hF, hs⟩
  exact ⟨rfl, r', h.moved hG hF hl hs, hl, hF⟩

theorem own_keeps (h : Grl B w gb nb cap N kk tg kd mp σ r A ls) (hF : Fr (lvSet r) w w') {D n : Nat} {v : Value} {xs : List Value} (hv : w.ownsRow D 3 1 v n xs) : w'.ownsRow D 3 1 v n xs := by
  refine ownsRow_fr hv hF (fun g hg e => ?_)
  rcases row_form hv with ⟨e', _⟩ | ⟨g', c', e', _, _, ⟨cur, hc⟩, _⟩
  · rw [e'] at hg; simp [Value.ownBlock] at hg
  · rw [e'] at hg
    simp only [Value.ownBlock, Option.some.injEq] at hg
    subst hg
    exact row_apart h.lss.row hc (by decide) e

set_option maxRecDepth 100000 in
set_option maxHeartbeats 1000000 in
theorem listedC (h : Grl B w gb nb cap N kk tg kd mp σ r A ls) (hN : 1 ≤ N) {i : Nat} {x : Ls} (hi : ls[i]? = some x) {D : Nat} {v : Value} (hv : w.ownsRow D 3 1 v (lookF N kk tg A σ.K x.root x.how x.what).length (ints (lookF N kk tg A σ.K x.root x.how x.what))) :
    Calls Tryd.prog 33 #[.pointer (some ⟨gb, 0, none⟩), .int .i64 ((i + 1 : Nat) : Int), v] w fun e w' => e = .returned (.bool true) ∧ ∃ ls', Grl B w' gb nb cap N kk tg kd mp σ r A ls' ∧ Ls.like ls ls' ∧ Fr (lvSet r) w w' := by
  have HLn : Hid ((lookF N kk tg A σ.K x.root x.how x.what).length ≤ 300) := Nat.le_trans (lookF_len h.gro.wf (h.ok x (List.mem_of_getElem? hi)).root.1 (h.ok x (List.mem_of_getElem? hi)).root.2) h.gro.N1
  have HLenS : Hid _ := lenS h hN hi
  have HItem : Hid (∀ (w2 : World) (l2 : List Ls), Grl B w2 gb nb cap N kk tg kd mp σ r A l2 → Ls.like ls l2 → ∀ j : Int, Calls Tryd.prog 10 #[.pointer (some ⟨gb, 0, none⟩), .int .i64 ((i + 1 : Nat) : Int), .int .i64 j] w2 fun e w' => e = .returned (.tuple #[.int .i64 (itemF (lookF N kk tg A σ.K x.root x.how x.what) j : Nat), .int .i64 0]) ∧ ∃ ls', Grl B w' gb nb cap N kk tg kd mp σ r A ls' ∧ Ls.like l2 ls' ∧ Fr (lvSet r) w2 w') := by
    intro w2 l2 h2 hk j
    obtain ⟨y, hy, e1, e2, e3⟩ := hk.2 i x hi
    have := itemS h2 hN hy j
    rw [e1, e2, e3] at this
    exact this
  obtain ⟨ao, cp, rfl, -⟩ := found_form hv
  have HV : Hid (∀ w', Fr (lvSet r) w w' → Nums w' ao (lookF N kk tg A σ.K x.root x.how x.what).length (lookF N kk tg A σ.K x.root x.how x.what)) := fun w' hF => by
    obtain ⟨_, ao', cp', e, _, hn⟩ := nums_of (own_keeps h hF hv)
    simp only [Value.slice.injEq] at e
    rw [← e.1] at hn
    exact hn
  clear h hi hv
  generalize lookF N kk tg A σ.K x.root x.how x.what = lf at *
  have hlen := HLn.out
  go_enter Tryd.func33, Tryd.ntmps33
  go_wp2_with fail
  refine Calls.mono HLenS.out ?_
  rintro e w1 ⟨rfl, l1, hG1, hk1, hF1⟩
  have HG1 : Hid _ := hG1
  have HK1 : Hid _ := hk1
  have HF1 : Hid _ := hF1
  clear hG1 hk1 hF1 HLenS
  go_wp2_with fail
  go_loopg [9] (lf.length + 2) (fun m a wr => ∃ j : Int, a = .int .i64 j ∧ -1 ≤ j ∧ (m : Int) + j = (lf.length : Nat) + 1 ∧ ∃ l2, Hid (Grl B wr gb nb cap N kk tg kd mp σ r A l2) ∧ Hid (Ls.like ls l2) ∧ Hid (Fr (lvSet r) w wr))
  case atStart => exact ⟨-1, rfl, by omega, by omega, l1, HG1.out, HK1.out, HF1.out⟩
  case round =>
    obtain ⟨j, rfl, hj1, hm, l2, HG2, HK2, HF2⟩ := hrel
    by_cases hle : j ≤ ((lf.length : Nat) : Int)
    · have hw1 : IntKind.i64.wrap (j + 1) = j + 1 := IntWalk.i64_in _ (by omega)
      by_cases h0 : j < 0
      · obtain rfl : j = -1 := by omega
        have hit : itemF lf (-1) = 0 := rfl
        go_wp2_with fail
        refine Calls.mono (HItem.out wr l2 HG2.out HK2.out (-1)) ?_
        rintro e w3 ⟨rfl, l3, hG3, hk3, hF3⟩
        rw [hit]
        have HG3 : Hid _ := hG3
        have HK3 : Hid _ := HK2.out.trans hk3
        have HF3 : Hid _ := HF2.out.trans hF3
        clear hG3 hk3 hF3 hit
        go_wp2_with fail
        go_roundg (gk - 1)
        case measure => omega
        case rel => exact ⟨0, rfl, by omega, by omega, l3, HG3.out, HK3.out, HF3.out⟩
      · by_cases hlt : j < ((lf.length : Nat) : Int)
        · obtain ⟨k, rfl⟩ : ∃ k : Nat, j = k := ⟨j.toNat, by omega⟩
          have hit : itemF lf k = lf.getD k 0 := by unfold itemF; rw [if_neg h0]; rfl
          go_wp2_with fail
          refine Calls.mono (HItem.out wr l2 HG2.out HK2.out k) ?_
          rintro e w3 ⟨rfl, l3, hG3, hk3, hF3⟩
          rw [hit]
          have HG3 : Hid _ := hG3
          have HK3 : Hid _ := HK2.out.trans hk3
          have HF3 : Hid _ := HF2.out.trans hF3
          rcases HV.out w3 HF3.out with h00 | ⟨g, rfl, hg, hc⟩
          · omega
          have hcell := hc k (by omega)
          clear hG3 hk3 hF3 hit hc
          generalize lf.getD k 0 = y at *
          go_wp2_with fail
          go_roundg (gk - 1)
          case measure => omega
          case rel => exact ⟨(k : Int) + 1, rfl, by omega, by omega, l3, HG3.out, HK3.out, HF3.out⟩
        · obtain rfl : j = ((lf.length : Nat) : Int) := by omega
          have hit : itemF lf ((lf.length : Nat) : Int) = 0 := by
            unfold itemF
            rw [if_neg h0, List.getD_eq_getElem?_getD, List.getElem?_eq_none (by simp)]; rfl
          go_wp2_with fail
          refine Calls.mono (HItem.out wr l2 HG2.out HK2.out ((lf.length : Nat) : Int)) ?_
          rintro e w3 ⟨rfl, l3, hG3, hk3, hF3⟩
          rw [hit]
          have HG3 : Hid _ := hG3
          have HK3 : Hid _ := HK2.out.trans hk3
          have HF3 : Hid _ := HF2.out.trans hF3
          clear hG3 hk3 hF3 hit
          go_wp2_with fail
          go_roundg (gk - 1)
          case measure => omega
          case rel => exact ⟨((lf.length : Nat) : Int) + 1, rfl, by omega, by omega, l3, HG3.out, HK3.out, HF3.out⟩
    · go_wp2_with fail
      go_ret
      exact ⟨rfl, l2, HG2.out, HK2.out, HF2.out⟩
end
end Go.Proofs.YtcedebpoihcbdaaDoor
