/-
  The stamps: what a list's now tells; and what its nodes does.
-/
import Derived.Test.YtcedebpoihcbdaaDoorL9
namespace Go.Proofs.YtcedebpoihcbdaaDoor
open Go.RowKit Gv

section
variable {B : Nat} {w w' : World} {gb nb cap N L : Nat} {s : Fo} {kk : Nat → Nat} {tg : Nat → ByteArray} {kd : Nat → Value} {mp : Nat → Nat} {σ : St} {r : Re} {A : Nat → ByteArray → Option ByteArray}

set_option maxRecDepth 100000 in
theorem stampF (h : Held w B gb nb cap L s kd r) :
    Calls Tryd.prog 64 #[.pointer (some ⟨gb, 0, none⟩)] w fun e w' => e = .returned (.agg #[.int .i64 r.pl, .int .i64 r.cl]) ∧ w' = w.alloc (.cells #[.int .i64 r.pl, .int .i64 r.cl] 41) := by
  have h1 := h.gpl
  have h2 := h.gcl
  have l1 := h.ltg
  clear h
  go_enter Tryd.func64, Tryd.ntmps64
  go_wp2_with fail
  exact bodyPost_ret (v := .agg #[.int .i64 r.pl, .int .i64 r.cl]) (by simp [results, Tryd.results64, go_sem]) rfl ⟨rfl, rfl⟩

/-- What of the stamp of now a list of this kind hangs on. -/
def nowCl (how : Nat) (r : Re) : Int := if how = 2 then r.cl else 0

set_option maxRecDepth 100000 in
theorem nowF (h : Held w B gb nb cap L s kd r) {lb o : Nat} (how : Nat) (hlb : lb < w.heap.size) (hh : w.cell? ⟨lb, o + 1, none⟩ = some (.int .i64 how)) :
    Calls Tryd.prog 59 #[.pointer (some ⟨lb, o, none⟩), .pointer (some ⟨gb, 0, none⟩)] w fun e w' => e = .returned (.agg #[.int .i64 r.pl, .int .i64 (nowCl how r)]) ∧ Below w.heap.size w w' := by
  have HH : Hid _ := h
  have hh3 : (((w.alloc (.cells #[.int .i64 0, .int .i64 0] 41)).alloc (.cells #[.int .i64 r.pl, .int .i64 r.cl] 41)).alloc (.cells #[.int .i64 r.pl, .int .i64 r.cl] 41)).cell? ⟨lb, o + 1, none⟩ = some (.int .i64 how) := ((((Below.refl _ w).alloc (Nat.le_refl _) _).alloc (by simp) _).alloc (by simp; omega) _ |>.cell (p := ⟨lb, o + 1, none⟩) hlb).trans hh
  clear h hh
  by_cases h2 : how = 2
  · subst h2
    have HN : Hid (nowCl 2 r = r.cl) := rfl
    generalize nowCl 2 r = q at *
    go_enter Tryd.func59, Tryd.ntmps59
    go_wp2_with fail
    refine (stampF (HH.out.alloc _)).mono ?_
    rintro e w2 ⟨rfl, rfl⟩
    go_wp2_with fail
    exact bodyPost_ret (v := .agg #[.int .i64 r.pl, .int .i64 r.cl]) (by simp [results, Tryd.results59, go_sem]) rfl ⟨by rw [HN.out], (((Below.refl _ w).alloc (Nat.le_refl _) _).alloc (by simp) _).alloc (by simp; omega) _⟩
  · have HN : Hid (nowCl how r = 0) := by show nowCl how r = 0; unfold nowCl; rw [if_neg h2]
    have h2' : (((how : Nat) : Int) != 2) = true := by simp; omega
    generalize nowCl how r = q at *
    clear h2
    go_enter Tryd.func59, Tryd.ntmps59
    go_wp2_with fail
    refine (stampF (HH.out.alloc _)).mono ?_
    rintro e w2 ⟨rfl, rfl⟩
    go_wp2_with fail
    exact bodyPost_ret (v := .agg #[.int .i64 r.pl, .int .i64 0]) (by simp [results, Tryd.results59, go_sem]) rfl ⟨by rw [HN.out], (((Below.refl _ w).alloc (Nat.le_refl _) _).alloc (by simp) _).alloc (by simp; omega) _⟩
end
end Go.Proofs.YtcedebpoihcbdaaDoor
