/-
  Step at the grove; 'within' by the order of the tree; the law's 'gone'.
-/
import Derived.Test.YtcedebpoihcbdaaY3
namespace Go.Proofs.Ytcedebpoihcbdaa
open Go.RowKit Gv

/-- A slice of numbers that has been made since: where it lies, and what it has. -/
def Lst (w : World) (D g : Nat) (l : List Nat) : Prop := D ≤ g ∧ g < w.heap.size ∧ ∀ i, i < l.length → w.cell? ⟨g, i, none⟩ = some (.int .i64 (l.getD i 0 : Nat))

theorem Lst.since {w w' : World} {D g : Nat} {l : List Nat} (h : Lst w D g l) (hb : Below w.heap.size w w') : Lst w' D g l :=
  ⟨h.1, Nat.lt_of_lt_of_le h.2.1 hb.size, fun i hi => (hb.cell (p := ⟨g, i, none⟩) h.2.1).trans (h.2.2 i hi)⟩
theorem Lst.fr {S : Nat → Prop} {w w' : World} {D g : Nat} {l : List Nat} (h : Lst w D g l) (hf : Fr S w w') (hn : ¬ S g) : Lst w' D g l :=
  ⟨h.1, Nat.lt_of_lt_of_le h.2.1 hf.size, fun i hi => hf.cell (h.2.2 i hi) hn⟩
theorem Lst.nums {w : World} {D g : Nat} {l : List Nat} (h : Lst w D g l) : Nums w (some ⟨g, 0, none⟩) l.length l := .inr ⟨g, rfl, h.2.1, h.2.2⟩

section
variable {B : Nat} {w : World} {gb nb cap N : Nat} {kk : Nat → Nat} {tg : Nat → ByteArray} {kd : Nat → Value} {mp : Nat → Nat} {σ : St} {r : Re}

theorem withinS (h : Gro B w gb nb cap N kk tg kd mp σ r) (n : Nat) (h1 : 1 ≤ n) (hn : n ≤ N) :
    Calls Try.prog 9 #[.pointer (some ⟨gb, 0, none⟩), .int .i64 n, .int .i64 N] w fun e w' => ∃ g c, e = .returned (.slice (some ⟨g, 0, none⟩) (P N σ.K n).length c) ∧ Lst w' w.heap.size g (P N σ.K n) ∧ (P N σ.K n).length ≤ c ∧ Below w.heap.size w w' := by
  have h3 := h.N1
  refine (withinL h.wf N w n N h.held h1 hn (by omega) (by omega)).mono ?_
  rw [wi_P h.wf (by omega) h1 hn]
  rintro e w' ⟨v, rfl, hown, hb⟩
  have hp : 0 < (P N σ.K n).length := by obtain ⟨t, ht⟩ := P_head N σ.K n; rw [ht]; simp
  obtain ⟨_, ao, c, hv, hc, h4⟩ := ints_shape hown
  rcases h4 with h4 | ⟨g, rfl, hg1, hg2, hcell⟩
  · omega
  · exact ⟨g, c, by rw [hv], ⟨hg1, hg2, hcell⟩, hc, hb⟩

/-- The place of one that is in the list. -/
theorem atS (w : World) {D g c x : Nat} {l : List Nat} (h : Lst w D g l) (hn : l.Nodup) (hl : l.length ≤ 1000) {k : Nat} (hk : l[k]? = some x) :
    Calls Try.prog 13 #[.slice (some ⟨g, 0, none⟩) l.length c, .int .i64 x] w fun e w' => e = .returned (.int .i64 k) ∧ w' = w := by
  refine (atL w (some ⟨g, 0, none⟩) l.length c x l (Nat.le_refl _) hl h.nums).mono ?_
  rintro e w' ⟨rfl, hcase⟩
  refine ⟨?_, rfl⟩
  rcases hcase with ⟨hno, _⟩ | ⟨k', _, hk', he⟩
  · rw [List.take_of_length_le (Nat.le_refl _)] at hno
    exact absurd (List.mem_of_getElem? hk) hno
  · rw [he, idx_unique hn hk' hk]

theorem atN (w : World) {D g c x : Nat} {l : List Nat} (h : Lst w D g l) (hl : l.length ≤ 1000) (hx : x ∉ l) :
    Calls Try.prog 13 #[.slice (some ⟨g, 0, none⟩) l.length c, .int .i64 x] w fun e w' => e = .returned (.int .i64 (-1)) ∧ w' = w := by
  refine (atL w (some ⟨g, 0, none⟩) l.length c x l (Nat.le_refl _) hl h.nums).mono ?_
  rintro e w' ⟨rfl, hcase⟩
  refine ⟨?_, rfl⟩
  rcases hcase with ⟨_, he⟩ | ⟨k', _, hk', _⟩
  · exact he
  · exact absurd (List.mem_of_getElem? hk') hx

theorem stepS (h : Gro B w gb nb cap N kk tg kd mp σ r) {i : Nat} {it : It} (hi : σ.its[i]? = some it) {rules : List Rule} (hR : Rls w B it.rules rules) (back : Bool) :
    Calls Try.prog 17 #[.pointer (some ⟨gb, 0, none⟩), .int .i64 (i + 1 : Nat), .bool back] w fun e w' => e = .returned (.tuple #[.int .i64 (stepTo N σ.K (accB kk tg it.see rules) it.spot back : Nat), .int .i64 0]) ∧ Gro B w' gb nb cap N kk tg kd mp { σ with its := σ.its.set i { it with spot := it.spot.stepped N σ.K (accB kk tg it.see rules) back } } r ∧ Fr (gset gb nb r.iv) w w' := by
  obtain ⟨ib, icap, hv⟩ := h.ivForm hi
  have hl := (List.getElem?_eq_some_iff.1 hi).1
  have hfew := h.its.few
  have giv := h.held.giv
  rw [hv] at giv
  have HG : Hid (Gro B w gb nb cap N kk tg kd mp σ r) := h
  have HR : Hid (Rls w B it.rules rules) := hR
  have HI0 : Hid (σ.its[i]? = some it) := hi
  have HV : Hid (r.iv = .slice (some ⟨ib, 0, none⟩) σ.its.length icap) := hv
  clear h hR hi hv
  go_enter Try.func17, Try.ntmps17
  go_wp2_with fail
  refine (numberedI w ib σ.its.length icap (i + 1) hfew (by omega) (by omega)).mono ?_
  rintro e w ⟨rfl, rfl⟩
  rw [Nat.add_sub_cancel]
  go_wp2_with fail
  refine (itStep HG.out HI0.out HV.out HR.out back).mono ?_
  rintro e w1 ⟨rfl, hI1, hF1⟩
  have HI1 : Hid _ := hI1
  have HF1 : Hid (Fr (fun j => j = ib) w w1) := hF1
  clear hI1 hF1
  go_wp2_with fail
  go_ret2
  have hF : Fr (gset gb nb r.iv) w w1 := HF1.out.mono (fun j hj => .inr (.inr (by rw [HV.out]; simp [Value.ownBlock]; exact hj.symm)))
  have ha := ib_apart HG.out.held (by have := HG.out.its; rw [HV.out] at this; exact this)
  refine ⟨rfl, ⟨HG.out.held.fr HF1.out (fun e => ha.1 e.symm) (fun e => ha.2.1 e.symm), HG.out.wf, HG.out.kinds, HI1.out, fun x hx => ?_, HG.out.els' hF⟩, hF⟩
  obtain ⟨s1, s2, s3, s4, s5⟩ := HG.out.sound it (List.mem_of_getElem? HI0.out)
  rcases List.mem_or_eq_of_mem_set hx with hx | hx
  · exact HG.out.sound x hx
  · subst hx
    by_cases hz : stepTo N σ.K (accB kk tg it.see rules) it.spot back = 0
    · have e : it.spot.stepped N σ.K (accB kk tg it.see rules) back = it.spot := by unfold Spot.stepped; rw [if_pos hz]
      rw [e]; exact ⟨s1, s2, s3, s4, s5⟩
    · have e : it.spot.stepped N σ.K (accB kk tg it.see rules) back = { it.spot with place := stepTo N σ.K (accB kk tg it.see rules) it.spot back, ahead := back } := by unfold Spot.stepped; rw [if_neg hz]
      rw [e]
      have hm := stepTo_mem hz
      have hb := pre_le HG.out.wf N it.spot.root _ s1 s2 hm
      exact ⟨s1, s2, hb.1, hb.2, pre_desc HG.out.wf N it.spot.root _ hm⟩
end
end Go.Proofs.Ytcedebpoihcbdaa
