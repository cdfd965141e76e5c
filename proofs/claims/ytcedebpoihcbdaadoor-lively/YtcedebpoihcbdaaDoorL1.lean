/-
  What the forest's Under goes through, as a range over a function sees it.
-/
import Derived.RangeFuncNested
import Derived.RangeFuncBound
import Derived.RangeFuncCalls
import Derived.RangeFuncLeaves
import Derived.RangeFuncBox
import Derived.Shelf.Abstract
import Derived.Shelf.RegionOpen
import Derived.OwnWalkIn
import Derived.TacticsInMore
import Derived.LoopNIn
import Derived.LoopIn
import Derived.Sort.LoopGhostIn
import Derived.Maps.AppendAt
import Derived.Test.YtcedebpoihcbdaaDoorW5
namespace Go.Proofs.YtcedebpoihcbdaaDoor
open Go.RowKit Go.Shelf Gv

attribute [local go_sem] Oper.semAt_some

section
variable {B gb nb cap N : Nat} {s : Fo} {kd : Nat → Value} {K : Nat → List Nat} {r : Re}

theorem tail_head (hwf : WF N s K) (hN : 1 ≤ N) {t : Nat} (ht : 1 ≤ t) (htN : t ≤ N) : nextF s (N + 1) t t = (P N K t).tail.headD 0 := by
  obtain ⟨l, hl⟩ := P_head N K t
  have h := (nb_fact hwf hN ht htN (k := 0) (p := t) (by rw [hl]; rfl)).2
  rw [h, hl]
  cases l <;> simp

theorem tail_next (hwf : WF N s K) (hN : 1 ≤ N) {t y : Nat} (ht : 1 ≤ t) (htN : t ≤ N) {pre ys : List Nat} (h : (P N K t).tail = pre ++ y :: ys) : nextF s (N + 1) y t = ys.headD 0 := by
  obtain ⟨l, hl⟩ := P_head N K t
  rw [hl] at h
  simp only [List.tail_cons] at h
  have h2 := (nb_fact hwf hN ht htN (k := pre.length + 1) (p := y) (by rw [hl, h, List.getElem?_cons_succ, List.getElem?_append_right (Nat.le_refl _)]; simp)).2
  rw [h2, hl, h, List.getD_eq_getElem?_getD, List.getElem?_cons_succ, List.getElem?_append_right (by omega), show pre.length + 1 - pre.length = 1 by omega]
  cases ys <;> simp

theorem tail_in (hwf : WF N s K) {t y : Nat} (ht : 1 ≤ t) (htN : t ≤ N) (h : y ∈ (P N K t).tail) : 1 ≤ y ∧ y ≤ N := pre_le hwf N t y ht htN (List.mem_of_mem_tail h)

set_option maxRecDepth 100000 in
set_option maxHeartbeats 1000000 in
theorem under1 (n : Nat) (hn : 1 ≤ n) (l Bf Bt n₀ t : Nat) (hwf : WF N s K) (hN : 1 ≤ N) (ht : 1 ≤ t) (htN : t ≤ N) (J Jx : List Nat → World → Prop)
    (hY : ∀ pre x W, J pre W → pre.length < (P N K t).tail.length → YieldAt Fence.wide (n - 1) Tryd.prog l #[.int .i64 (x : Nat)] W fun e W' =>
      (e = .returned (.bool true) ∧ J (pre ++ [x]) W' ∧ Below n₀ W W') ∨ (e = .returned (.bool false) ∧ Jx (pre ++ [x]) W'))
    (W : World) (h : Held W B gb nb cap (N + 1) s kd r) (hg : gb < n₀) (hnb : nb < n₀) (hf : Bf < n₀) (hb : Bt < n₀)
    (hcf : W.cell? ⟨Bf, 0, none⟩ = some (.pointer (some ⟨gb, 0, none⟩))) (hct : W.cell? ⟨Bt, 0, none⟩ = some (.int .i64 t)) (h0 : J [] W) :
    CallsIn Fence.wide n Tryd.prog 75 #[.func (.yield l) #[] #[], .pointer (some ⟨Bf, 0, none⟩), .pointer (some ⟨Bt, 0, none⟩)] W fun e W' => (∃ v, e = .returned v) ∧
      ((∃ ys, ys = (P N K t).tail ∧ J ys W') ∨ (∃ pre, pre <+: (P N K t).tail ∧ Jx pre W')) := by
  have HH : Hid (∀ W', Below n₀ W W' → Held W' B gb nb cap (N + 1) s kd r) := fun W' hb' => h.below hb' hg hnb
  have HY : Hid (∀ pre x W, J pre W → pre.length < (P N K t).tail.length → YieldAt Fence.wide (n - 1) Tryd.prog l #[.int .i64 (x : Nat)] W fun e W' =>
      (e = .returned (.bool true) ∧ J (pre ++ [x]) W' ∧ Below n₀ W W') ∨ (e = .returned (.bool false) ∧ Jx (pre ++ [x]) W')) := hY
  have HW : Hid (WF N s K) := hwf
  have HT : Hid (∀ pre y ys, (P N K t).tail = pre ++ y :: ys → nextF s (N + 1) y t = ys.headD 0) := fun pre y ys e => tail_next hwf hN ht htN e
  have HI : Hid (∀ y, y ∈ (P N K t).tail → 1 ≤ y ∧ y ≤ N) := fun y hy => tail_in hwf ht htN hy
  have h1 := tail_head hwf hN ht htN
  have h2 : Hid (Held W B gb nb cap (N + 1) s kd r) := h
  clear h hY hwf
  generalize hl : (P N K t).tail = xs at *
  clear hl
  refine callsIn_of_wp Tryd.func75 rfl trivial ?_ rfl
  simp only [Tryd.ntmps75, List.size_toArray, List.length_cons, List.length_nil, Nat.reduceAdd, Nat.reduceSub, Array.replicate_succ, Array.replicate_zero, List.push_toArray, List.append_toArray, List.nil_append, List.cons_append]
  gi_wp2_with (refine ⟨trivial, ?_⟩; gi_at_call 76; refine CallsIn.mono (callsIn_wide.2 (nextC h2.out HW.out t t htN htN)) ?_; rintro e W ⟨rfl, rfl⟩)
  gi_loopg [4] xs.length (fun m i wr => ∃ (pre rest : List Nat) (x : Nat), m = rest.length ∧ i = .int .i64 x ∧ x = rest.head?.getD 0 ∧ xs = pre ++ rest ∧ J pre wr ∧ Below n₀ W wr)
  case atStart =>
    exact ⟨[], xs, _, rfl, rfl, by simp, rfl, h0, Below.refl _ _⟩
  case round =>
    obtain ⟨pre, rest, x, hm, rfl, hx0, hx, hJs, hB⟩ := hrel
    have HX : Hid (xs = pre ++ rest) := hx
    have HM : Hid (gk = rest.length) := hm
    clear hx hm h1
    cases rest with
    | nil =>
      have hx1 : x = 0 := hx0
      clear hx0
      subst hx1
      gi_wp2
      refine ⟨fun _ h => (by cases h), ?_⟩
      gi_wp2
      go_end0
      exact ⟨⟨_, rfl⟩, .inl ⟨pre, by simp [HX.out], hJs⟩⟩
    | cons y rest =>
      have hx1 : x = y := hx0
      clear hx0
      subst hx1
      have hx1 := HI.out x (by rw [HX.out]; simp)
      have hne : ((x : Int) != 0) = true := by simp; omega
      obtain ⟨fn, tmps, assign, body, hy, hR⟩ := HY.out pre x wr hJs (by rw [HX.out]; simp)
      gi_wp2
      refine hR.mono ?_
      rintro e W3 (⟨rfl, hJ3, hk3⟩ | ⟨rfl, hJx3⟩)
      · have hcf3 : W3.cell? ⟨Bf, 0, none⟩ = some (.pointer (some ⟨gb, 0, none⟩)) := ((hB.trans hk3).cell (p := ⟨Bf, 0, none⟩) hf).trans hcf
        have hct3 : W3.cell? ⟨Bt, 0, none⟩ = some (.int .i64 t) := ((hB.trans hk3).cell (p := ⟨Bt, 0, none⟩) hb).trans hct
        have H3 : Hid (Held W3 B gb nb cap (N + 1) s kd r) := HH.out W3 (hB.trans hk3)
        gi_wp2_with (refine ⟨trivial, ?_⟩; gi_at_call 76; refine CallsIn.mono (callsIn_wide.2 (nextC H3.out HW.out x t hx1.2 htN)) ?_; rintro e W3 ⟨rfl, rfl⟩)
        gi_roundg rest.length
        case rel => exact ⟨pre ++ [x], rest, _, rfl, rfl, by rw [HT.out pre x rest HX.out]; simp, by simp [HX.out], hJ3, hB.trans hk3⟩
        case measure => have hm := HM.out; simp at hm; omega
      · gi_wp2
        go_end0
        exact ⟨⟨_, rfl⟩, .inr ⟨pre ++ [x], ⟨rest, by simp [HX.out]⟩, hJx3⟩⟩

/-- Under makes two boxes, and a function that holds them. -/
theorem underF (gb t : Nat) (w : World) :
    Calls Tryd.prog 66 #[.pointer (some ⟨gb, 0, none⟩), .int .i64 t] w fun e w' => e = .returned (.func (.func 75) #[] #[.pointer (some ⟨w.heap.size, 0, none⟩), .pointer (some ⟨w.heap.size + 1, 0, none⟩)]) ∧ w' = (w.alloc (.cells #[.pointer (some ⟨gb, 0, none⟩)] 65)).alloc (.cells #[.int .i64 t] 3) := by
  go_enter Tryd.func66, Tryd.ntmps66
  go_wp2_with fail
  go_ret
  exact ⟨rfl, rfl⟩

/-- What Under's function goes through, for whatever body that leaves all of before as it is. -/
theorem under_stops (n : Nat) (hn : 1 ≤ n) (t : Nat) (hwf : WF N s K) (hN : 1 ≤ N) (ht : 1 ≤ t) (htN : t ≤ N) (w : World) (h : Held w B gb nb cap (N + 1) s kd r) {Bf Bt : Nat} (hf : Bf < w.heap.size) (hb : Bt < w.heap.size)
    (hcf : w.cell? ⟨Bf, 0, none⟩ = some (.pointer (some ⟨gb, 0, none⟩))) (hct : w.cell? ⟨Bt, 0, none⟩ = some (.int .i64 t)) :
    SeqStopsK Fence.wide n Tryd.prog 75 #[.pointer (some ⟨Bf, 0, none⟩), .pointer (some ⟨Bt, 0, none⟩)] (fun x : Nat => #[Value.int .i64 (x : Nat)]) (Below w.heap.size) (fun ys => ys = (P N K t).tail) (fun pre => pre <+: (P N K t).tail) (P N K t).tail.length w :=
  fun l J Jx W hW _ _ hY h0 => under1 n hn l Bf Bt w.heap.size t hwf hN ht htN J Jx hY W (h.since hW) h.ltg h.ltn hf hb ((hW.cell (p := ⟨Bf, 0, none⟩) hf).trans hcf) ((hW.cell (p := ⟨Bt, 0, none⟩) hb).trans hct) h0
end
end Go.Proofs.YtcedebpoihcbdaaDoor
