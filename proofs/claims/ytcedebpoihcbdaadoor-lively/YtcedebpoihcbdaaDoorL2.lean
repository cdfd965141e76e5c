/-
  slices.AppendSeq and slices.Collect over what the forest's Under goes through.
-/
import Derived.Test.YtcedebpoihcbdaaDoorL1
import Derived.Test.YtcedebpoihcbdaaDoorW6
namespace Go.Proofs.YtcedebpoihcbdaaDoor
open Go.RowKit Go.Shelf Gv

attribute [local go_sem] Oper.semAt_some

section
variable {B gb nb cap N : Nat} {s : Fo} {kd : Nat → Value} {K : Nat → List Nat} {r : Re}

theorem ints_snoc (l : List Nat) (x : Nat) : ints (l ++ [x]) = ints l ++ [.int .i64 (x : Nat)] := by simp [ints]
theorem ints_len (l : List Nat) : (ints l).length = l.length := by simp [ints]

set_option maxRecDepth 100000 in
set_option maxHeartbeats 2000000 in
theorem appendIn (t : Nat) (hwf : WF N s K) (hN : 1 ≤ N) (ht : 1 ≤ t) (htN : t ≤ N) (w : World) (h : Held w B gb nb cap (N + 1) s kd r) {Bf Bt : Nat} (hf : Bf < w.heap.size) (hb : Bt < w.heap.size)
    (hcf : w.cell? ⟨Bf, 0, none⟩ = some (.pointer (some ⟨gb, 0, none⟩))) (hct : w.cell? ⟨Bt, 0, none⟩ = some (.int .i64 t)) :
    CallsIn Fence.wide 5 Tryd.prog 74 #[.slice none 0 0, .func (.func 75) #[] #[.pointer (some ⟨Bf, 0, none⟩), .pointer (some ⟨Bt, 0, none⟩)]] w fun e w' => ∃ v, e = .returned v ∧ w'.ownsRow w.heap.size 3 1 v (P N K t).tail.length (ints (P N K t).tail) ∧ Below w.heap.size w w' := by
  have HU : Hid (∀ w', Below w.heap.size w w' → SeqStopsK Fence.wide (5 - 1) Tryd.prog 75 #[.pointer (some ⟨Bf, 0, none⟩), .pointer (some ⟨Bt, 0, none⟩)] (fun x : Nat => #[Value.int .i64 (x : Nat)]) (Below w.heap.size) (fun ys => ys = (P N K t).tail) (fun pre => pre <+: (P N K t).tail) (P N K t).tail.length w') := by
    intro w' hw l J Jx W hW _ _ hY h0
    have hB := hw.trans (hW.mono hw.size)
    exact under1 (5 - 1) (by omega) l Bf Bt w.heap.size t hwf hN ht htN J Jx hY W (h.below hB h.ltg h.ltn) h.ltg h.ltn hf hb ((hB.cell (p := ⟨Bf, 0, none⟩) hf).trans hcf) ((hB.cell (p := ⟨Bt, 0, none⟩) hb).trans hct) h0
  have hlen : (P N K t).tail.length ≤ 300 := by
    have h1 := P_len hwf ht htN
    have h2 := h.hL
    rw [List.length_tail]
    omega
  clear hcf hct hf hb h hwf
  generalize (P N K t).tail = xs at *
  obtain ⟨i0, hi, hz0, hz1, hz2⟩ := info_parts Tryd.info3
  refine callsIn_of_wp_marks Tryd.func74 rfl trivial ?_ rfl
  simp only [Tryd.ntmps74, List.size_toArray, List.length_cons, List.length_nil, Nat.reduceAdd, Nat.reduceSub, Array.replicate_succ, Array.replicate_zero, List.push_toArray, List.append_toArray, List.nil_append, List.cons_append]
  gi_wp2
  have bO := Boxed.new w 22 (.slice none 0 0)
  have hB0 : Below w.heap.size w (w.alloc (.cells #[.slice none 0 0] 22)) := (Below.refl _ w).alloc (Nat.le_refl _) _
  refine wpIn_rangeFunc_ownG rfl (by omega) (gf := 75) (lb := #[.pointer (some ⟨Bf, 0, none⟩), .pointer (some ⟨Bt, 0, none⟩)]) rfl trivial (enters_of Tryd.func75 (by kernel_rfl) rfl)
    (HU.out _ hB0) belowK_t (belowK_b (by simp)) (Below.refl _ _) (fun _ => rfl)
    (fun pre W => (∃ v, Boxed W w.heap.size 22 v ∧ W.ownsRow w.heap.size 3 1 v pre.length (ints pre) ∧ True) ∧ Below w.heap.size w W)
    (fun _ _ _ => False)
    (OwnFrom.and (Own.from (holdsRow_own w.heap.size w.heap.size 22 3 1 (fun pre : List Nat => pre.length) (fun pre => ints pre) (fun _ _ => True)) _) (ownFrom_below (Nat.le_refl _) (by simp)))
    (fun _ _ _ _ _ hs _ _ => hs)
    ⟨⟨_, bO, World.ownsRow_nil _ _ _ _, trivial⟩, hB0⟩
    (fun x => { tmps := #[.slice none 0 0, .func (.func 75) #[] #[.pointer (some ⟨Bf, 0, none⟩), .pointer (some ⟨Bt, 0, none⟩)], .pointer (some ⟨w.heap.size, 0, none⟩), undef, .slice none 0 0, .int .i64 (x : Nat), .func (.func 75) #[] #[.pointer (some ⟨Bf, 0, none⟩), .pointer (some ⟨Bt, 0, none⟩)], .int .i64 (x : Nat), undef, undef, undef, undef, undef], defers := [] }) ?assign ?body ?done ?stop
  case assign =>
    intro l x W K hK
    gi_wp2
    exact hK
  case body =>
    rintro l pre x W ⟨⟨v, hv, hrow, -⟩, hB⟩ hlt
    have hc := hv.cell
    gi_wp2_with (gi_at_builtin; refine wpListIn_append_own _ rfl _ _ 22 rfl w.heap.size 3 i0 (.int .i64 0) 1 8 Tryd.underlying22 hi hz0 hz1 hz2 rfl (by decide) _ _ _ rfl (hrow.alloc _) ⟨W.heap.size, 0, none⟩ 1 1 [.int .i64 (x : Nat)] rfl rfl (cell_one_new _ _ _) (by simp [Value.oneCell']) (by simp [maxLen]; omega) (by omega) (by have := hB.size; simp; omega) ?_; intro v' w1 hown' hgrow _; obtain ⟨g', cap', rfl⟩ := ownsRow_succ hown'; obtain ⟨hv1, hv2, hr2, hk2, hb2⟩ := hv.appended (by decide) hrow hB.size (Nat.le_refl _) hown' hgrow; have hc1 := hv1.cell; have hf1 := hv1.frozen)
    exact ⟨hk2.from _, hb2, ⟨_, hv2, by rw [ints_snoc, List.length_append]; simpa using hr2, trivial⟩, hB.trans hb2⟩
  case done =>
    rintro D ys W hD rfl ⟨⟨v, hv, hrow, -⟩, hB⟩ hK
    have hc := hv.cell
    gi_wp2
    refine ⟨by simp, .inl ⟨_, _, rfl, run_takeDeferred hK, ?_⟩⟩
    exact ⟨_, results_tmp rfl _ _ _, v, rfl, ownsRow_putObj hrow _ hK rfl, hB.trans (belowK_b (w := w) (Nat.le_refl _) W D _ _ (by simp at hD; omega) hK rfl rfl)⟩
  case stop =>
    rintro D c pre W _ _ h _
    exact h.elim

theorem collectF (t : Nat) (hwf : WF N s K) (hN : 1 ≤ N) (ht : 1 ≤ t) (htN : t ≤ N) (w : World) (h : Held w B gb nb cap (N + 1) s kd r) {Bf Bt : Nat} (hf : Bf < w.heap.size) (hb : Bt < w.heap.size)
    (hcf : w.cell? ⟨Bf, 0, none⟩ = some (.pointer (some ⟨gb, 0, none⟩))) (hct : w.cell? ⟨Bt, 0, none⟩ = some (.int .i64 t)) :
    Calls Tryd.prog 65 #[.func (.func 75) #[] #[.pointer (some ⟨Bf, 0, none⟩), .pointer (some ⟨Bt, 0, none⟩)]] w fun e w' => ∃ v, e = .returned v ∧ w'.ownsRow w.heap.size 3 1 v (P N K t).tail.length (ints (P N K t).tail) ∧ Below w.heap.size w w' := by
  have HA : Hid _ := callsIn_wide.1 (appendIn t hwf hN ht htN w h hf hb hcf hct)
  clear h hwf hcf hct
  go_enter Tryd.func65, Tryd.ntmps65
  go_wp2_with fail
  refine Calls.mono HA.out ?_
  rintro e w' ⟨v, rfl, hv, hbel⟩
  have HV : Hid _ := hv
  have HBl : Hid _ := hbel
  clear hv hbel
  go_wp2_with fail
  go_ret
  exact ⟨v, rfl, HV.out, HBl.out⟩
end
end Go.Proofs.YtcedebpoihcbdaaDoor
