/-
  The document's own answer: what its Put refuses.
-/
import Derived.Test.YtcedebpoihcbdaaGreatDoorR7
import Derived.Deep.CutBlock
import Derived.Deep.DeepCutAuto
namespace Go.Proofs.YtcedebpoihcbdaaGreatDoor
set_option linter.unusedVariables false
open Go.RowKit Go.Shelf Gv

section
variable {w w' : World} {r : Rx} {s : Fo} {K : Nat → List Nat}

set_option maxRecDepth 100000 in
set_option maxHeartbeats 1000000 in
theorem refPut5 (h : RefOK w r) (p c b : Int) (hno : ¬ (hasB (r.N + 1) p = true ∧ hasB (r.N + 1) c = true ∧ (b = 0 ∨ hasB (r.N + 1) b = true))) :
    Calls Tryz.prog 92 #[.pointer (some ⟨r.rb, 0, none⟩), .int .i64 p, .int .i64 c, .int .i64 b] w fun e w' => e = .returned (.int .i64 5) ∧ w' = w := by
  have HH : Hid (RefOK w r) := h
  have HN : Hid (¬ (hasB (r.N + 1) p = true ∧ hasB (r.N + 1) c = true ∧ (b = 0 ∨ hasB (r.N + 1) b = true))) := hno
  clear h hno
  go_enter Tryz.func92, Tryz.ntmps92
  go_wp2_with fail
  refine (refIs HH.out p).mono ?_
  rintro e w ⟨rfl, rfl⟩
  go_wp2_with fail
  refine (refIs HH.out c).mono ?_
  rintro e w ⟨rfl, rfl⟩
  go_wp2_with fail
  refine (refIs HH.out b).mono ?_
  rintro e w ⟨rfl, rfl⟩
  have hn := HN.out
  cases hp : hasB (r.N + 1) p with
  | false =>
    clear hn
    go_wp2_with fail
    go_ret
    exact ⟨rfl, rfl⟩
  | true =>
    cases hc : hasB (r.N + 1) c with
    | false =>
      clear hn
      go_wp2_with fail
      go_ret
      exact ⟨rfl, rfl⟩
    | true =>
      cases hb : hasB (r.N + 1) b with
      | true => exact absurd ⟨hp, hc, .inr hb⟩ hn
      | false =>
        have hb0 : (b != 0) = true := by
          simp only [bne_iff_ne, ne_eq]
          exact fun e => hn ⟨hp, hc, .inl e⟩
        clear hn
        go_wp2_with fail
        go_ret
        exact ⟨rfl, rfl⟩

/-- The document's grove behind a Put that puts. -/
def Rx.put (r : Rx) (s : Fo) (K : Nat → List Nat) (p c b : Nat) (kv : Nat → Value) : Rx :=
  { r with par := ((Fo.out s c).insert p c (markOf s c b)).par, K := chK K p c (markOf s c b), kv := kv, il := itsOut r.N s c r.il }

/-- What the document's Put answers and leaves, where all three nodes are there. -/
def PutPost (w : World) (r : Rx) (s : Fo) (K : Nat → List Nat) (p c b : Nat) (e : Ending) (w' : World) : Prop :=
  ∃ q : Int, e = .returned (.int .i64 q) ∧ ((q = 6 ∧ w' = w ∧ (2 < r.kn p ∨ r.kn c = 1 ∨ Desc s.par p c)) ∨ (¬ (2 < r.kn p ∨ r.kn c = 1 ∨ Desc s.par p c) ∧
    ((q = 7 ∧ w' = w ∧ b ≠ 0 ∧ s.par b ≠ p) ∨ ((b = 0 ∨ s.par b = p) ∧ ((q = 6 ∧ w' = w ∧ Full r.kn K p c) ∨ (q = 0 ∧ ¬ Full r.kn K p c ∧ ∃ kv, RPost w w' r (r.put s K p c b kv)))))))

theorem PutPost.bad {w : World} {r : Rx} {s : Fo} {K : Nat → List Nat} {p c b : Nat} (h : 2 < r.kn p ∨ r.kn c = 1 ∨ Desc s.par p c) : PutPost w r s K p c b (.returned (.int .i64 6)) w := ⟨6, rfl, .inl ⟨rfl, rfl, h⟩⟩
theorem PutPost.ahead {w : World} {r : Rx} {s : Fo} {K : Nat → List Nat} {p c b : Nat} (h : ¬ (2 < r.kn p ∨ r.kn c = 1 ∨ Desc s.par p c)) (h1 : b ≠ 0) (h2 : s.par b ≠ p) : PutPost w r s K p c b (.returned (.int .i64 7)) w := ⟨7, rfl, .inr ⟨h, .inl ⟨rfl, rfl, h1, h2⟩⟩⟩
theorem PutPost.full {w : World} {r : Rx} {s : Fo} {K : Nat → List Nat} {p c b : Nat} (h : ¬ (2 < r.kn p ∨ r.kn c = 1 ∨ Desc s.par p c)) (h1 : b = 0 ∨ s.par b = p) (h2 : Full r.kn K p c) : PutPost w r s K p c b (.returned (.int .i64 6)) w := ⟨6, rfl, .inr ⟨h, .inr ⟨h1, .inl ⟨rfl, rfl, h2⟩⟩⟩⟩
theorem PutPost.done {w w' : World} {r : Rx} {s : Fo} {K : Nat → List Nat} {p c b : Nat} {kv : Nat → Value} (h : ¬ (2 < r.kn p ∨ r.kn c = 1 ∨ Desc s.par p c)) (h1 : b = 0 ∨ s.par b = p) (h2 : ¬ Full r.kn K p c) (h3 : RPost w w' r (r.put s K p c b kv)) : PutPost w r s K p c b (.returned (.int .i64 0)) w' := ⟨0, rfl, .inr ⟨h, .inr ⟨h1, .inr ⟨rfl, h2, kv, h3⟩⟩⟩⟩

/-- The node is taken out, if it stands somewhere. -/
def Outed (r : Rx) (s : Fo) (K : Nat → List Nat) (c : Nat) (r1 : Rx) : Prop := ∃ kv, r1 = { r with par := (Fo.out s c).par, K := dropK K c, kv := kv, il := itsOut r.N s c r.il }

theorem outed_self (hp : r.par = s.par) (hK : r.K = K) (hwf : WF r.N s K) {c : Nat} (h0 : s.par c = 0) : Outed r s K c r := by
  refine ⟨r.kv, ?_⟩
  have e1 : (Fo.out s c).par = r.par := by unfold Fo.out; rw [if_pos h0, hp]
  have e2 : dropK K c = r.K := by rw [drop_loose hwf h0, hK]
  have e3 : itsOut r.N s c r.il = r.il := by unfold itsOut; rw [if_pos h0]
  rw [e1, e2, e3]
theorem outed_took {c : Nat} {nv : Value} (h0 : s.par c ≠ 0) : Outed r s K c (r.took s K c nv) := by
  refine ⟨up r.kv (s.par c) nv, ?_⟩
  have e1 : Fo.out s c = s.remove c := by unfold Fo.out; rw [if_neg h0]
  have e3 : itsOut r.N s c r.il = r.il.map (It.leave r.N s c) := by unfold itsOut; rw [if_neg h0]
  rw [e1, e3]
  rfl

/-- The last two stores of a Put. -/
theorem put_end {W w6 : World} {r1 : Rx} {p c b mk : Nat} {kv1 : Nat → Value} {nv : Value} {us vs : List Nat} (hP1 : RPost w W r r1) (hr1 : r1 = { r with par := (Fo.out s c).par, K := dropK K c, kv := kv1, il := itsOut r.N s c r.il }) (hwf : WF r.N s K)
    (hp1 : 1 ≤ p) (hpN : p ≤ r.N) (hc1 : 1 ≤ c) (hcN : c ≤ r.N) (hd : ¬ Desc s.par p c) (hb : b = 0 ∨ b ∈ K p) (hmk : mk = markOf s c b) (hus : dropK K c p = us ++ vs) (hvs : vs.headD 0 = mk) (hnd : (us ++ vs).Nodup) (hpos : ∀ x, x ∈ us ++ vs → x ≠ 0)
    (hbel : Below W.heap.size W w6) (hv : w6.ownsRow W.heap.size 3 1 nv (us ++ c :: vs).length (ints (us ++ c :: vs))) :
    RPost w ((w6.setCell ⟨r.rn, p * 5 + 4, none⟩ nv).setCell ⟨r.rn, c * 5 + 3, none⟩ (.int .i64 p)) r (r.put s K p c b (up kv1 p nv)) := by
  have o1 : RefOK W { r with par := (Fo.out s c).par, K := dropK K c, kv := kv1, il := itsOut r.N s c r.il } := by rw [← hr1]; exact hP1.ok
  have eK : chK K p c mk = up (dropK K c) p (us ++ c :: vs) := by unfold chK; rw [hus, insK_eq hnd hpos hvs]
  have hl : (us ++ c :: vs).length ≤ 300 := by
    have h1 := (put_chK hwf hc1 hcN hp1 hpN hd hb).few p
    rw [← hmk, eK, up_same] at h1
    have := o1.hN
    have h2 : r.N ≤ 300 := this
    omega
  have h5 := (o1.since hbel).putKids (i := p) hpN (row_base hv (Nat.zero_le _)) hl
  have h6 := h5.putPar (i := c) p hcN
  have h7 : RefOK ((w6.setCell ⟨r.rn, p * 5 + 4, none⟩ nv).setCell ⟨r.rn, c * 5 + 3, none⟩ (.int .i64 p)) (r.put s K p c b (up kv1 p nv)) := by
    have e3 : r.put s K p c b (up kv1 p nv) = { r with par := up (Fo.out s c).par c p, kv := up kv1 p nv, K := up (dropK K c) p (us ++ c :: vs), il := itsOut r.N s c r.il } := by
      unfold Rx.put
      rw [← hmk, eK]
      rfl
    rw [e3]
    exact h6
  have hown1 : ∀ i, (r.put s K p c b (up kv1 p nv)).own i → r1.own i ∨ W.heap.size ≤ i := by
    intro i hi
    subst hr1
    rcases hi with h | h | ⟨j, hj, h⟩ | h | h | h | h | h | h
    · exact .inl (.inl h)
    · exact .inl (.inr (.inl h))
    · have h' : (up kv1 p nv j).ownBlock = some i := h
      by_cases ej : j = p
      · subst ej
        rw [up_same] at h'
        exact .inr (hv.lt i h').1
      · rw [up_other _ _ _ ej] at h'
        exact .inl (.inr (.inr (.inl ⟨j, hj, h'⟩)))
    · exact .inl (.inr (.inr (.inr (.inl h))))
    · exact .inl (.inr (.inr (.inr (.inr (.inl h)))))
    · exact .inl (.inr (.inr (.inr (.inr (.inr (.inl h))))))
    · exact .inl (.inr (.inr (.inr (.inr (.inr (.inr (.inl h)))))))
    · exact .inl (.inr (.inr (.inr (.inr (.inr (.inr (.inr (.inl h))))))))
    · exact .inl (.inr (.inr (.inr (.inr (.inr (.inr (.inr (.inr h))))))))
  refine ⟨h7, ?_, fun i hi => ?_, rfl⟩
  · have f1 : Fr r.own w w6 := hP1.fr.trans (Fr.of_below hbel)
    exact (f1.setCell (p := ⟨r.rn, p * 5 + 4, none⟩) Rx.own_n _).setCell (p := ⟨r.rn, c * 5 + 3, none⟩) Rx.own_n _
  · rcases hown1 i hi with h | h
    · exact hP1.own i h
    · exact .inr (Nat.le_trans hP1.fr.size h)

end
end Go.Proofs.YtcedebpoihcbdaaGreatDoor
