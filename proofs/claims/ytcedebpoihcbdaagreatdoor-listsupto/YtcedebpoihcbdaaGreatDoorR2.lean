/-
  The document's own answer: all nodes within one, in the order of the tree.
-/
import Derived.Test.YtcedebpoihcbdaaGreatDoorR1
import Derived.Test.YtcedebpoihcbdaaGreatDoorWC
namespace Go.Proofs.YtcedebpoihcbdaaGreatDoor
open Go.RowKit Gv

section
variable {N : Nat} {s : Fo} {K : Nat → List Nat} {r : Rx} {w : World}

/-- What stands in the list ahead of the k-th kid. -/
def toKid (N : Nat) (K : Nat → List Nat) (x k : Nat) : List Nat := x :: ((K x).take k).flatMap (P N K)

theorem toKid_zero (N : Nat) (K : Nat → List Nat) (x : Nat) : toKid N K x 0 = [x] := by simp [toKid]
theorem toKid_succ (N : Nat) (K : Nat → List Nat) (x k : Nat) (hk : k < (K x).length) : toKid N K x (k + 1) = toKid N K x k ++ P N K ((K x).getD k 0) := by
  unfold toKid
  have e : (K x).take (k + 1) = (K x).take k ++ [(K x).getD k 0] := by rw [List.take_add_one, List.getD_eq_getElem?_getD, List.getElem?_eq_getElem hk]; rfl
  rw [e, List.flatMap_append]
  simp
theorem toKid_all (hwf : WF N s K) (hN : 1 ≤ N) {x : Nat} (hx : 1 ≤ x) : toKid N K x (K x).length = P N K x := by
  rw [P_eq hwf hx hN]; simp [toKid]
theorem toKid_len (hwf : WF N s K) {x : Nat} (hx : 1 ≤ x) (hxN : x ≤ N) (k : Nat) : (toKid N K x k).length ≤ N := by
  have h1 : (toKid N K x k).length ≤ (toKid N K x (K x).length).length := by
    unfold toKid
    simp only [List.length_cons, List.length_flatMap, Nat.add_le_add_iff_right]
    rw [List.take_of_length_le (Nat.le_refl _)]
    have e : (K x) = (K x).take k ++ (K x).drop k := (List.take_append_drop k (K x)).symm
    conv => rhs; rw [e]
    rw [List.map_append, List.sum_append]
    omega
  have h2 := P_len hwf hx hxN
  rw [toKid_all hwf (by omega) hx] at h1
  omega

def RefWithin (r : Rx) (K : Nat → List Nat) (f : Nat) : Prop :=
  ∀ (w : World) (x : Nat), RefOK w r → 1 ≤ x → x ≤ r.N → Deep K f x →
    Calls Tryz.prog 153 #[.pointer (some ⟨r.rb, 0, none⟩), .int .i64 x] w fun e w' => ∃ v, e = .returned v ∧ w'.ownsRow w.heap.size 3 1 v (P r.N K x).length (ints (P r.N K x)) ∧ Below w.heap.size w w'

set_option maxRecDepth 100000 in
set_option maxHeartbeats 1000000 in
theorem refWithinStep (hwf : WF r.N s K) (hK : r.K = K) (f : Nat) (ih : ∀ f', f = f' + 1 → RefWithin r K f') : RefWithin r K f := by
  intro w n h h1 hn hdeep
  have HW : Hid (WF r.N s K) := hwf
  have HI : Hid (∀ f', f = f' + 1 → RefWithin r K f') := ih
  have HDp : Hid (Deep K f n) := hdeep
  have hfew : (K n).length ≤ r.N := hwf.few n
  obtain ⟨i0, hi, hz0, hz1, hz2⟩ := info_parts Tryz.info3
  have HH : Hid (RefOK w r) := h
  have hL := h.hN
  have HKE : Hid (r.K = K) := hK
  obtain ⟨L, hLe⟩ : ∃ L, L = r.N + 1 := ⟨_, rfl⟩
  have HLe : Hid (L = r.N + 1) := hLe
  have hnL : (n : Int) < (L : Int) := by omega
  have hL3 : L ≤ 301 := by omega
  have hkrow := h.kids n hn
  rw [hK] at hkrow
  obtain ⟨_, kao, kcap, hkv, hkc, hkn⟩ := nums_of hkrow
  have HKN : Hid (Nums w kao (K n).length (K n)) := hkn
  have HKV : Hid (r.kv n = .slice kao (K n).length kcap) := hkv
  clear hwf ih h hdeep hK hkv hkn hkrow hLe
  go_enter Tryz.func153, Tryz.ntmps153
  go_wp2_with fail
  have hl0 : (w.alloc (.cells #[.int .i64 (n : Int)] 3)).ownsRow w.heap.size 3 1 (.slice (some ⟨w.heap.size, 0, none⟩) 1 1) 1 (ints [n]) := World.ownsRow_lit (e := 3) (size := 1) (base := w.heap.size) w #[.int .i64 (n : Int)] 1 (Nat.le_refl _) (by decide) rfl
  have HL0 : Hid _ := hl0
  clear hl0
  go_loopw [5, 6] (fun v i wr => ∃ (k g vc : Nat), k ≤ (K n).length ∧ i = .int .i64 k ∧ v = .slice (some ⟨g, 0, none⟩) (toKid r.N K n k).length vc ∧ wr.ownsRow w.heap.size 3 1 v (toKid r.N K n k).length (ints (toKid r.N K n k)) ∧ Below w.heap.size w wr) (fun _ i _ => (K n).length - (intOf i).toNat)
  case atStart => exact ⟨0, w.heap.size, 1, Nat.zero_le _, rfl, by rw [toKid_zero]; rfl, by rw [toKid_zero]; exact HL0.out, (Below.refl _ _).alloc (Nat.le_refl _) _⟩
  case round =>
    obtain ⟨k, g, vc, hk, rfl, rfl, hown, hbel⟩ := hrel
    clear HL0
    have hr := HH.out.since hbel
    have c0 := hr.c0
    rw [← HLe.out] at c0
    have ck := hr.ckv hn
    rw [HKV.out] at ck
    have HHr : Hid (RefOK wr r) := hr
    have hTl := toKid_len HW.out h1 hn k
    have HT : Hid (k < (K n).length → toKid r.N K n (k + 1) = toKid r.N K n k ++ P r.N K ((K n).getD k 0)) := toKid_succ r.N K n k
    have HT2l := toKid_len HW.out h1 hn (k + 1)
    have HTL : Hid ((toKid r.N K n (k + 1)).length ≤ r.N) := HT2l
    have HA : Hid (k = (K n).length → toKid r.N K n k = P r.N K n) := by rintro rfl; exact toKid_all HW.out (by omega) h1
    have HB : Hid (Below w.heap.size w wr) := hbel
    have HO : Hid _ := hown
    clear hr hown hbel HT2l
    generalize toKid r.N K n k = T at *
    by_cases hkl : k < (K n).length
    · rcases HKN.out with h0 | ⟨kg, rfl, hkgs, hkc'⟩
      · omega
      have hcell := (HB.out.cell (p := ⟨kg, k, none⟩) hkgs).trans (hkc' k hkl)
      have hmem : (K n).getD k 0 ∈ K n := by rw [List.getD_eq_getElem?_getD, List.getElem?_eq_getElem hkl]; exact List.getElem_mem _
      have hyk := HW.out.kid n _ hmem
      obtain ⟨f', hf'⟩ : ∃ f', f = f' + 1 := by
        cases f with
        | zero => have := HDp.out; unfold Deep at this; rw [this] at hkl; simp at hkl
        | succ f => exact ⟨f, rfl⟩
      have hdk : Deep K f' ((K n).getD k 0) := by have := HDp.out; rw [hf'] at this; exact this _ hmem
      have HT' : Hid _ := HT.out hkl
      clear hkc' hmem HT HA
      generalize (K n).getD k 0 = y at *
      have HDk : Hid (Deep K f' y) := hdk
      have hyp : 1 ≤ y ∧ y ≤ r.N := ⟨hyk.2.2.1, hyk.2.2.2.1⟩
      have ib : (k : Int) < ((K n).length : Int) := by omega
      clear hyk hdk
      go_wp2_with fail
      refine (HI.out f' hf' wr y HHr.out hyp.1 hyp.2 HDk.out).mono ?_
      rintro e w2 ⟨v2, rfl, hown2, hbel2⟩
      obtain ⟨_, ao2, cap2, hv2, _, hN2⟩ := nums_of hown2
      have hRl : 1 ≤ (P r.N K y).length := by obtain ⟨t, ht⟩ := P_head r.N K y; rw [ht]; simp
      have hRn : T.length + (P r.N K y).length ≤ r.N := by have h2 := HTL.out; rw [HT'.out, List.length_append] at h2; exact h2
      generalize P r.N K y = R at *
      have hT2 : w2.ownsRow w.heap.size 3 1 (.slice (some ⟨g, 0, none⟩) T.length vc) T.length (ints T) := World.ownsRow.kept HO.out (below_grownBy hbel2 none) (by simp [Value.ownBlock])
      have hB2 : Below w.heap.size w w2 := HB.out.trans (hbel2.mono HB.out.size)
      rcases hN2 with h0 | ⟨g2, hg2, hg2s, hc2⟩
      · omega
      rw [hg2] at hv2
      rw [hv2]
      have HHC : Hid _ := ints_cells hc2 rfl
      have HHT : Hid (w2.ownsRow w.heap.size 3 1 (.slice (some ⟨g, 0, none⟩) T.length vc) T.length (ints T)) := hT2
      have HHB : Hid (Below w.heap.size w w2) := hB2
      clear hT2 hB2 hc2 hown2 hbel2 hv2 hg2 HO HB HHr
      go_wp2_with (at_builtin; refine wpList_append_lies _ rfl _ _ 25 rfl w.heap.size 3 i0 (.int .i64 0) 1 8 Tryz.underlying25 hi hz0 hz1 hz2 rfl (by decide) _ _ _ rfl HHT.out ⟨g2, 0, none⟩ R.length cap2 (ints R) rfl ?c0 ?c1 ?c2 ?cm ?c3 ?c4 ?c5 _ rfl ?_)
      case c0 => simp [ints]
      case c1 => exact HHC.out
      case c2 => exact ints_one R
      case cm => omega
      case c3 => unfold maxLen; omega
      case c4 => omega
      case c5 => exact HHB.out.size
      intro g3 cap3 w3 hown3 hgrow3 hat3 hlt3
      have hB3 : Below w.heap.size w w3 := HHB.out.grown hgrow3 HHB.out.size (fun q hq => (World.ownsRow.lt HHT.out q hq).1)
      have hO3 : w3.ownsRow w.heap.size 3 1 (.slice (some ⟨g3, 0, none⟩) (T ++ R).length cap3) (T ++ R).length (ints (T ++ R)) := by
        rw [List.length_append]
        have e : ints (T ++ R) = ints T ++ ints R := by simp [ints]
        rw [e]; exact hown3
      have W3 : Hid (Below w.heap.size w w3) := hB3
      have W4 : Hid (w3.ownsRow w.heap.size 3 1 (.slice (some ⟨g3, 0, none⟩) (T ++ R).length cap3) (T ++ R).length (ints (T ++ R))) := hO3
      clear hB3 hO3 hown3 hgrow3 hat3
      go_wp2_with fail
      go_roundw
      case rel => exact ⟨k + 1, g3, cap3, by omega, by go_num, by rw [HT'.out, List.length_append], by rw [HT'.out, ← List.length_append]; exact W4.out, W3.out⟩
      case measure => simp [intOf]; omega
    · have e := HA.out (by omega)
      have HE : Hid (T = P r.N K n) := e
      clear e HA HT
      go_wp2_with fail
      go_ret
      rw [← HE.out]
      exact ⟨_, rfl, HO.out, HB.out⟩

theorem refWithinF (hwf : WF r.N s K) (hK : r.K = K) (f : Nat) : RefWithin r K f := by
  induction f with
  | zero => exact refWithinStep hwf hK 0 (fun f' h => by omega)
  | succ f ih => exact refWithinStep hwf hK (f + 1) (fun f' h => (show f = f' by omega) ▸ ih)

theorem refWithin (h : RefOK w r) (hwf : WF r.N s K) (hK : r.K = K) (n : Nat) (h1 : 1 ≤ n) (hn : n ≤ r.N) :
    Calls Tryz.prog 153 #[.pointer (some ⟨r.rb, 0, none⟩), .int .i64 n] w fun e w' => ∃ v, e = .returned v ∧ w'.ownsRow w.heap.size 3 1 v (P r.N K n).length (ints (P r.N K n)) ∧ Below w.heap.size w w' :=
  refWithinF hwf hK r.N w n h h1 hn (hwf.deepN h1 (by omega))
end
end Go.Proofs.YtcedebpoihcbdaaGreatDoor
