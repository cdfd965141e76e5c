/-
  Plain mathematics, no Go: the kids behind a Put, as a function.
-/
import Derived.Test.YtcedebpoihcbdaaDoorMath5
namespace Go.Proofs.YtcedebpoihcbdaaDoor.Gv

/-- A list with one more, just ahead of the mark; behind all if the mark is not in it. -/
def insK (l : List Nat) (m c : Nat) : List Nat := l.takeWhile (fun x => x != m) ++ c :: l.dropWhile (fun x => x != m)

def chK (K : Nat → List Nat) (p c m : Nat) : Nat → List Nat := up (dropK K c) p (insK (dropK K c p) m c)

theorem takeWhile_in {us vs : List Nat} {m : Nat} (h : m ∉ us) : (us ++ vs).takeWhile (fun x => x != m) = us ++ vs.takeWhile (fun x => x != m) ∧ (us ++ vs).dropWhile (fun x => x != m) = vs.dropWhile (fun x => x != m) := by
  induction us with
  | nil => exact ⟨rfl, rfl⟩
  | cons a us ih =>
    have ha : (a != m) = true := by simp; rintro rfl; exact h (by simp)
    have := ih (fun e => h (by simp [e]))
    rw [List.cons_append, List.takeWhile_cons, List.dropWhile_cons, ha]
    simp only [if_true]
    exact ⟨by rw [this.1]; rfl, this.2⟩

theorem insK_eq {us vs : List Nat} {m c : Nat} (hn : (us ++ vs).Nodup) (hz : ∀ x, x ∈ us ++ vs → x ≠ 0) (hm : vs.headD 0 = m) : insK (us ++ vs) m c = us ++ c :: vs := by
  unfold insK
  cases vs with
  | nil =>
    simp at hm
    subst hm
    have h0 : 0 ∉ us := fun e => hz 0 (by simp [e]) rfl
    have := takeWhile_in (us := us) (vs := []) h0
    rw [this.1, this.2]
    simp
  | cons v vt =>
    simp at hm
    subst hm
    have h0 : v ∉ us := fun e => (List.nodup_append.1 hn).2.2 v e v (by simp) rfl
    have := takeWhile_in (us := us) (vs := v :: vt) h0
    rw [this.1, this.2]
    simp

section
variable {N : Nat} {s : Fo} {K : Nat → List Nat}

theorem put_chK (h : WF N s K) {p c b : Nat} (hc1 : 1 ≤ c) (hcN : c ≤ N) (hp1 : 1 ≤ p) (hpN : p ≤ N) (hd : ¬ Desc s.par p c) (hb : b = 0 ∨ b ∈ K p) :
    WF N ((Fo.out s c).insert p c (markOf s c b)) (chK K p c (markOf s c b)) := by
  obtain ⟨us, vs, e1, e2, e3, _, _⟩ := put_wf h hc1 hcN hp1 hpN hd hb
  have ho := out_wf h hc1 hcN
  unfold chK
  rw [e1, insK_eq (by rw [← e1]; exact ho.nd p) (fun x hx => nz_of_kid ho (p := p) (by rw [e1]; exact hx)) e2]
  exact e3
end
end Go.Proofs.YtcedebpoihcbdaaDoor.Gv
