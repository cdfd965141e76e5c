/-
  What a walker's other moves do where its filter shows all and has no rules; the table of the moves.
-/
import Derived.Test.YtcedebpoihcbdaaZ1
namespace Go.Proofs.Ytcedebpoihcbdaa
open Go.RowKit Gv

section
variable {B : Nat} {w : World} {gb nb cap N : Nat} {kk : Nat → Nat} {tg : Nat → ByteArray} {kd : Nat → Value} {mp : Nat → Nat} {σ : St} {r : Re} {wb o root here : Nat}

def outF (s : Fo) (n : Nat) (back : Bool) : Nat := if back = true then s.lst n else s.fst n
def sibF (s : Fo) (n : Nat) (back : Bool) : Nat := if back = true then s.ahd n else s.bhd n

theorem outerC (h : Held w B gb nb cap (N + 1) σ.s kd r) (n : Nat) (hn : n ≤ N) (back : Bool) :
    Calls Try.prog 89 #[.pointer (some ⟨gb, 0, none⟩), .int .i64 n, .bool back] w fun e w' => e = .returned (.int .i64 (outF σ.s n back : Nat)) ∧ w' = w := by
  have HH : Hid (Held w B gb nb cap (N + 1) σ.s kd r) := h
  clear h
  cases back with
  | true =>
    go_enter Try.func89, Try.ntmps89
    go_wp2_with fail
    refine (lastF HH.out n (by omega)).mono ?_
    rintro e w ⟨rfl, rfl⟩
    go_wp2_with fail
    go_ret
    exact ⟨rfl, rfl⟩
  | false =>
    go_enter Try.func89, Try.ntmps89
    go_wp2_with fail
    refine (firstF HH.out n (by omega)).mono ?_
    rintro e w ⟨rfl, rfl⟩
    go_wp2_with fail
    go_ret
    exact ⟨rfl, rfl⟩

theorem siblingC (h : Held w B gb nb cap (N + 1) σ.s kd r) (n : Nat) (hn : n ≤ N) (back : Bool) :
    Calls Try.prog 92 #[.pointer (some ⟨gb, 0, none⟩), .int .i64 n, .bool back] w fun e w' => e = .returned (.int .i64 (sibF σ.s n back : Nat)) ∧ w' = w := by
  have HH : Hid (Held w B gb nb cap (N + 1) σ.s kd r) := h
  clear h
  cases back with
  | true =>
    go_enter Try.func92, Try.ntmps92
    go_wp2_with fail
    refine (aheadF HH.out n (by omega)).mono ?_
    rintro e w ⟨rfl, rfl⟩
    go_wp2_with fail
    go_ret
    exact ⟨rfl, rfl⟩
  | false =>
    go_enter Try.func92, Try.ntmps92
    go_wp2_with fail
    refine (behindF HH.out n (by omega)).mono ?_
    rintro e w ⟨rfl, rfl⟩
    go_wp2_with fail
    go_ret
    exact ⟨rfl, rfl⟩

set_option maxRecDepth 100000 in
theorem wKid (h : Gro B w gb nb cap N kk tg kd mp σ r) (hc : Wc w wb o root here) (hh : here ≤ N) (back : Bool) (hx : outF σ.s here back ≤ N) :
    Calls Try.prog 84 #[.pointer (some ⟨wb, o, none⟩), .pointer (some ⟨gb, 0, none⟩), .bool back] w fun e w' => e = .returned (.int .i64 (outF σ.s here back : Nat)) ∧ Below w.heap.size w w' := by
  have HG : Hid (Gro B w gb nb cap N kk tg kd mp σ r) := h
  have HC : Hid (Wc w wb o root here) := hc
  have c3 := hc.c3
  clear h hc
  obtain ⟨x, hxe⟩ : ∃ x, outF σ.s here back = x := ⟨_, rfl⟩
  have HXE : Hid (outF σ.s here back = x) := hxe
  rw [hxe] at hx
  clear hxe
  go_enter Try.func84, Try.ntmps84
  go_wp2_with fail
  refine (outerC HG.out.held here hh back).mono ?_
  rintro e w ⟨rfl, rfl⟩
  rw [HXE.out]
  go_wp2_with fail
  go_loopw [7] (fun n wr => n = .int .i64 x ∧ wr = w) (fun _ _ => 0)
  case atStart => exact ⟨rfl, rfl⟩
  case round =>
    obtain ⟨rfl, rfl⟩ := hrel
    obtain ⟨w, rfl⟩ : ∃ w : World, w = wr := ⟨_, rfl⟩
    by_cases hx0 : x = 0
    · subst hx0
      go_wp2_with fail
      go_ret
      exact ⟨ret_int (by rw [HXE.out]; rfl), Below.refl _ _⟩
    · have hx0' : ((x : Int) != 0) = true := by simp; omega
      have hx1 : 1 ≤ x := by omega
      clear hx0
      go_wp2_with fail
      refine (wSays HG.out HC.out x hx1 hx).mono ?_
      rintro e w1 ⟨rfl, hb⟩
      have HB1 : Hid (Below w.heap.size w w1) := hb
      clear hb
      go_wp2_with fail
      go_ret
      exact ⟨ret_int (by rw [HXE.out]), HB1.out⟩

set_option maxRecDepth 100000 in
set_option maxHeartbeats 1000000 in
theorem wSib (h : Gro B w gb nb cap N kk tg kd mp σ r) (hc : Wc w wb o root here) (h1 : 1 ≤ here) (hh : here ≤ N) (hne : here ≠ root) (hp : σ.s.par here ≠ 0) (back : Bool) :
    Calls Try.prog 85 #[.pointer (some ⟨wb, o, none⟩), .pointer (some ⟨gb, 0, none⟩), .bool back] w fun e w' => e = .returned (.int .i64 (sibF σ.s here back : Nat)) ∧ Below w.heap.size w w' := by
  have HG : Hid (Gro B w gb nb cap N kk tg kd mp σ r) := h
  have HC : Hid (Wc w wb o root here) := hc
  have c0 := hc.c0
  have c3 := hc.c3
  have hab := ahd_le h.wf h1 hh hp
  have hpN := h.wf.parLe here hh
  have hx : sibF σ.s here back ≤ N := by unfold sibF; split; exact hab.1; exact hab.2
  have pp : 1 ≤ σ.s.par here := by omega
  have hn0 : ((here : Int) != 0) = true := by simp; omega
  have hnr : ((here : Int) != (root : Int)) = true := by simp; omega
  have hpz : (((σ.s.par here : Nat) : Int) != 0) = true := by simp; omega
  clear h hc hab hp hne
  obtain ⟨x, hxe⟩ : ∃ x, sibF σ.s here back = x := ⟨_, rfl⟩
  have HXE : Hid (sibF σ.s here back = x) := hxe
  rw [hxe] at hx
  clear hxe
  go_enter Try.func85, Try.ntmps85
  go_wp2_with fail
  go_loopw [7] (fun n wr => n = .int .i64 here ∧ wr = w) (fun _ _ => 0)
  case atStart => exact ⟨rfl, rfl⟩
  case round =>
    obtain ⟨rfl, rfl⟩ := hrel
    obtain ⟨w, rfl⟩ : ∃ w : World, w = wr := ⟨_, rfl⟩
    go_wp2_with fail
    refine (siblingC HG.out.held here hh back).mono ?_
    rintro e w ⟨rfl, rfl⟩
    rw [HXE.out]
    go_wp2_with fail
    go_loopw [7, 8] (fun n s2 wr => n = .int .i64 here ∧ s2 = .int .i64 x ∧ wr = w) (fun _ _ _ => 0)
    case atStart => exact ⟨rfl, rfl, rfl⟩
    case round =>
      obtain ⟨rfl, rfl, rfl⟩ := hrel
      obtain ⟨w, rfl⟩ : ∃ w : World, w = wr := ⟨_, rfl⟩
      by_cases hx0 : x = 0
      · subst hx0
        go_wp2_with fail
        refine (parentF HG.out.held here (by omega)).mono ?_
        rintro e w ⟨rfl, rfl⟩
        go_wp2_with fail
        refine (wAcc HG.out HC.out (σ.s.par here) pp hpN).mono ?_
        rintro e w1 ⟨rfl, hb⟩
        have HB1 : Hid (Below w.heap.size w w1) := hb
        clear hb
        go_wp2_with fail
        go_ret
        exact ⟨ret_int (by rw [HXE.out]; rfl), HB1.out⟩
      · have hx0' : ((x : Int) != 0) = true := by simp; omega
        have hx1 : 1 ≤ x := by omega
        clear hx0
        go_wp2_with fail
        refine (wSays HG.out HC.out x hx1 hx).mono ?_
        rintro e w1 ⟨rfl, hb⟩
        have HB1 : Hid (Below w.heap.size w w1) := hb
        clear hb
        go_wp2_with fail
        go_ret
        exact ⟨ret_int (by rw [HXE.out]), HB1.out⟩

set_option maxRecDepth 100000 in
theorem wPar (h : Gro B w gb nb cap N kk tg kd mp σ r) (hc : Wc w wb o root here) (hh : here ≤ N) (hne : here ≠ root) (hp : σ.s.par here ≠ 0) :
    Calls Try.prog 74 #[.pointer (some ⟨wb, o, none⟩), .pointer (some ⟨gb, 0, none⟩)] w fun e w' => e = .returned (.int .i64 (σ.s.par here : Nat)) ∧ Below w.heap.size w w' := by
  have HG : Hid (Gro B w gb nb cap N kk tg kd mp σ r) := h
  have HC : Hid (Wc w wb o root here) := hc
  have c0 := hc.c0
  have c3 := hc.c3
  have hpN := h.wf.parLe here hh
  have pp : 1 ≤ σ.s.par here := by omega
  have hnr : ((here : Int) != (root : Int)) = true := by simp; omega
  have hpz : (((σ.s.par here : Nat) : Int) == 0) = false := by simp; omega
  clear h hc hp hne
  go_enter Try.func74, Try.ntmps74
  go_wp2_with fail
  go_loopw [5] (fun n wr => n = .int .i64 here ∧ wr = w) (fun _ _ => 0)
  case atStart => exact ⟨rfl, rfl⟩
  case round =>
    obtain ⟨rfl, rfl⟩ := hrel
    obtain ⟨w, rfl⟩ : ∃ w : World, w = wr := ⟨_, rfl⟩
    go_wp2_with fail
    refine (parentF HG.out.held here (by omega)).mono ?_
    rintro e w ⟨rfl, rfl⟩
    go_wp2_with fail
    refine (wAcc HG.out HC.out (σ.s.par here) pp hpN).mono ?_
    rintro e w1 ⟨rfl, hb⟩
    have HB1 : Hid (Below w.heap.size w w1) := hb
    clear hb
    go_wp2_with fail
    go_ret
    exact ⟨rfl, HB1.out⟩
end

theorem stNil (a : Addr) (w : World) : (store a Value.nilFunc).run Try.prog w = stored Try.prog w a Value.nilFunc .plain := run_store Try.prog w a _ .plain rfl
theorem stFun (f : FuncId) (a : Addr) (w : World) : (store a (Value.func (Fn.func f) #[] #[])).run Try.prog w = stored Try.prog w a (Value.func (Fn.func f) #[] #[]) .plain := run_store Try.prog w a _ .plain rfl

/-- The move of a number is a function of the program. -/
def Finds (how f : Nat) : Prop := ∀ w : World, Calls Try.prog 59 #[.int .i64 how] w fun e w' => e = .returned (.func (.func f) #[] #[]) ∧ Below w.heap.size w w'

set_option maxRecDepth 100000 in
theorem finds1 : Finds 1 74 := by
  intro w
  have s1 := stNil
  have s2 := stFun
  go_enter Try.func59, Try.ntmps59
  go_wp2
  go_ret
  exact ⟨rfl, (Below.refl _ _).alloc (Nat.le_refl _) _⟩

set_option maxRecDepth 100000 in
theorem finds2 : Finds 2 75 := by
  intro w
  have s1 := stNil
  have s2 := stFun
  go_enter Try.func59, Try.ntmps59
  go_wp2
  go_ret
  exact ⟨rfl, (Below.refl _ _).alloc (Nat.le_refl _) _⟩

set_option maxRecDepth 100000 in
theorem finds3 : Finds 3 76 := by
  intro w
  have s1 := stNil
  have s2 := stFun
  go_enter Try.func59, Try.ntmps59
  go_wp2
  go_ret
  exact ⟨rfl, (Below.refl _ _).alloc (Nat.le_refl _) _⟩

set_option maxRecDepth 100000 in
theorem finds4 : Finds 4 77 := by
  intro w
  have s1 := stNil
  have s2 := stFun
  go_enter Try.func59, Try.ntmps59
  go_wp2
  go_ret
  exact ⟨rfl, (Below.refl _ _).alloc (Nat.le_refl _) _⟩

set_option maxRecDepth 100000 in
theorem finds5 : Finds 5 78 := by
  intro w
  have s1 := stNil
  have s2 := stFun
  go_enter Try.func59, Try.ntmps59
  go_wp2
  go_ret
  exact ⟨rfl, (Below.refl _ _).alloc (Nat.le_refl _) _⟩

set_option maxRecDepth 100000 in
theorem finds6 : Finds 6 79 := by
  intro w
  have s1 := stNil
  have s2 := stFun
  go_enter Try.func59, Try.ntmps59
  go_wp2
  go_ret
  exact ⟨rfl, (Below.refl _ _).alloc (Nat.le_refl _) _⟩

set_option maxRecDepth 100000 in
theorem finds7 : Finds 7 80 := by
  intro w
  have s1 := stNil
  have s2 := stFun
  go_enter Try.func59, Try.ntmps59
  go_wp2
  go_ret
  exact ⟨rfl, (Below.refl _ _).alloc (Nat.le_refl _) _⟩
end Go.Proofs.Ytcedebpoihcbdaa
