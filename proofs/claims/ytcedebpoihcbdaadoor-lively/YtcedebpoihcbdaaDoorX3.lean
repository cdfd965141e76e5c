/-
  Put where no node is a root and the mark is a kid of the parent, or none; and where there are no iterators.
-/
import Derived.Test.YtcedebpoihcbdaaDoorW9
namespace Go.Proofs.YtcedebpoihcbdaaDoor
open Go.RowKit Gv

section
variable {w : World} {B gb nb cap N : Nat} {s : Fo} {kd : Nat → Value} {K : Nat → List Nat} {r : Re} {kk : Nat → Nat} {its : List It}

theorem kkR_ne (len : Nat) (zs : List Int) (i : Nat) : kkR len zs i ≠ 1 := by unfold kkR; split <;> omega
theorem kkR_one (len : Nat) (zs : List Int) : kkR len zs 1 = 2 := by simp [kkR]

theorem hasB_nat {n : Nat} (h1 : 1 ≤ n) (hn : n ≤ N) : hasB (N + 1) (n : Int) = true := by simp [hasB]; omega

/-- Where the law's own Put can go: in, or it is refused as a place that cannot be. -/
theorem putErr_leafy {p c b : Nat} {q : Int} (hwf : WF N s K) (hno : ∀ i, kk i ≠ 1) (h1 : 1 ≤ p) (hn : p ≤ N) (hc1 : 1 ≤ c) (hcN : c ≤ N) (hb : b = 0 ∨ b ∈ K p) (h : PutErr N s K kk p c b q) :
    (q = 0 ∧ ¬ Desc s.par p c) ∨ (q = 6 ∧ (Desc s.par p c ∨ 2 < kk p)) := by
  rcases h with ⟨_, h⟩ | ⟨p', c', b', e1, e2, e3, _, _, _, _, _, h6⟩
  · exfalso
    refine h ⟨hasB_nat h1 hn, hasB_nat hc1 hcN, ?_⟩
    rcases hb with rfl | hb
    · exact .inl rfl
    · have := hwf.kid p b hb
      exact .inr (hasB_nat this.2.2.1 this.2.2.2.1)
  · obtain rfl : p = p' := by omega
    obtain rfl : c = c' := by omega
    obtain rfl : b = b' := by omega
    rcases h6 with ⟨h, h'⟩ | ⟨k1, k2, k3, h7⟩
    · refine .inr ⟨h, ?_⟩
      rcases h' with h' | h' | h'
      · exact .inr h'
      · exact absurd h' (hno c)
      · exact .inl h'
    · rcases h7 with ⟨_, h, h'⟩ | ⟨_, h8⟩
      · exfalso
        rcases hb with hb | hb
        · exact h hb
        · exact h' (hwf.kid p b hb).2.2.2.2
      · rcases h8 with ⟨_, h⟩ | ⟨h, _⟩
        · exact absurd h.1 (hno p)
        · exact .inl ⟨h, k3⟩

/-- No iterators; so many changes at most. -/
def Rk (r : Re) (m : Nat) : Prop := r.iv = .slice none 0 0 ∧ 0 ≤ r.pl ∧ r.pl ≤ m

theorem Rk.more {m : Nat} (h : Rk r m) : Rk r.more (m + 1) := ⟨h.1, by show 0 ≤ r.pl + 1; have := h.2.1; omega, by show r.pl + 1 ≤ _; have := h.2.2; omega⟩
theorem Rk.up {m n : Nat} (h : Rk r m) (hn : m ≤ n) : Rk r n := ⟨h.1, h.2.1, by have := h.2.2; omega⟩
theorem Rk.outed {m : Nat} (h : Rk r m) (s : Fo) (c : Nat) : Rk (r.outed s c) (m + 1) := by
  unfold Re.outed
  split
  · exact h.up (by omega)
  · exact h.more

theorem its_none (w : World) (B : Nat) : Its w B (.slice none 0 0) [] := ⟨World.ownsRow_nil _ _ _ _, by simp⟩

theorem gset_none {gb nb i : Nat} (h : gset gb nb (.slice none 0 0) i) : gn gb nb i := by
  rcases h with h | h | h
  · exact .inl h
  · exact .inr h
  · simp [Value.ownBlock] at h

theorem putG (h : Held w B gb nb cap (N + 1) s kd r) (hwf : WF N s K) (hk : Kinds N kk kd) (hno : ∀ i, kk i ≠ 1) {m : Nat} (hr : Rk r m) (hm : m ≤ 1000000) (p c b : Nat) (h1 : 1 ≤ p) (hn : p ≤ N) (hc1 : 1 ≤ c) (hcN : c ≤ N) (hb : b = 0 ∨ b ∈ K p) :
    Calls Tryd.prog 6 #[.pointer (some ⟨gb, 0, none⟩), .int .i64 p, .int .i64 c, .int .i64 b] w fun e w' => ∃ (q : Int) (r' : Re), e = .returned (.int .i64 q) ∧ Fr (gn gb nb) w w' ∧ Rk r' (m + 2) ∧
      ((q = 0 ∧ ¬ Desc s.par p c ∧ Held w' B gb nb cap (N + 1) ((Fo.out s c).insert p c (markOf s c b)) kd r') ∨ (q = 6 ∧ (Desc s.par p c ∨ 2 < kk p) ∧ Held w' B gb nb cap (N + 1) s kd r')) := by
  obtain ⟨hv, hp0, hp1⟩ := hr
  have hI : Its w B r.iv [] := by rw [hv]; exact its_none w B
  refine (putC h hwf hk hI (fun it hit => by simp at hit) p c b hp0 (by omega)).mono ?_
  rintro e w' ⟨q, rfl, hF, hq, hcase⟩
  have hF' : Fr (gn gb nb) w w' := by rw [hv] at hF; exact hF.mono (fun i hi => gset_none hi)
  have hq' := putErr_leafy hwf hno h1 hn hc1 hcN hb hq
  have R0 : Rk r m := ⟨hv, hp0, hp1⟩
  rcases hcase with ⟨hq0, hH, _⟩ | ⟨hq0, p', c', b', e1, e2, e3, hH, _⟩
  · refine ⟨q, r, rfl, hF', R0.up (by omega), ?_⟩
    rcases hq' with ⟨h, _⟩ | ⟨h, h'⟩
    · exact absurd h hq0
    · exact .inr ⟨h, h', hH⟩
  · obtain rfl : p = p' := by omega
    obtain rfl : c = c' := by omega
    obtain rfl : b = b' := by omega
    refine ⟨q, _, rfl, hF', (R0.outed s c).more, ?_⟩
    rcases hq' with ⟨h, h'⟩ | ⟨h, _⟩
    · exact .inl ⟨h, h', hH⟩
    · omega
end
end Go.Proofs.YtcedebpoihcbdaaDoor
