/-
  What the forest's small methods do: Has, Count, Parent, First, Behind, Kind, join, Insert, Remove.
-/
import Derived.Test.YtcedebpoihcbdaaDoorChecked
import Derived.Test.YtcedebpoihcbdaaDoorMem
namespace Go.Proofs.YtcedebpoihcbdaaDoor
open Go.RowKit Gv
section
variable {w : World} {B gb nb cap L : Nat} {s : Fo} {kd : Nat → Value} {r : Re}

theorem parentF (h : Held w B gb nb cap L s kd r) (n : Nat) (hn : n < L) :
    Calls Tryd.prog 18 #[.pointer (some ⟨gb, 0, none⟩), .int .i64 n] w fun e w' => e = .returned (.int .i64 (s.par n)) ∧ w' = w := by
  have hL := h.hL
  have hg := h.gcell
  have hc := h.cpar hn
  clear h
  go_enter Tryd.func18, Tryd.ntmps18
  go_wp2
  go_ret
  exact ⟨rfl, rfl⟩

theorem firstF (h : Held w B gb nb cap L s kd r) (n : Nat) (hn : n < L) :
    Calls Tryd.prog 61 #[.pointer (some ⟨gb, 0, none⟩), .int .i64 n] w fun e w' => e = .returned (.int .i64 (s.fst n)) ∧ w' = w := by
  have hL := h.hL
  have hg := h.gcell
  have hc := h.cfst hn
  clear h
  go_enter Tryd.func61, Tryd.ntmps61
  go_wp2
  go_ret
  exact ⟨rfl, rfl⟩

theorem behindF (h : Held w B gb nb cap L s kd r) (n : Nat) (hn : n < L) :
    Calls Tryd.prog 17 #[.pointer (some ⟨gb, 0, none⟩), .int .i64 n] w fun e w' => e = .returned (.int .i64 (s.bhd n)) ∧ w' = w := by
  have hL := h.hL
  have hg := h.gcell
  have hc := h.cbhd hn
  clear h
  go_enter Tryd.func17, Tryd.ntmps17
  go_wp2
  go_ret
  exact ⟨rfl, rfl⟩

theorem aheadF (h : Held w B gb nb cap L s kd r) (n : Nat) (hn : n < L) :
    Calls Tryd.prog 45 #[.pointer (some ⟨gb, 0, none⟩), .int .i64 n] w fun e w' => e = .returned (.int .i64 (s.ahd n)) ∧ w' = w := by
  have hL := h.hL
  have hg := h.gcell
  have hc := h.cahd hn
  clear h
  go_enter Tryd.func45, Tryd.ntmps45
  go_wp2
  go_ret
  exact ⟨rfl, rfl⟩

theorem lastF (h : Held w B gb nb cap L s kd r) (n : Nat) (hn : n < L) :
    Calls Tryd.prog 44 #[.pointer (some ⟨gb, 0, none⟩), .int .i64 n] w fun e w' => e = .returned (.int .i64 (s.lst n)) ∧ w' = w := by
  have hL := h.hL
  have hg := h.gcell
  have hc := h.clst hn
  clear h
  go_enter Tryd.func44, Tryd.ntmps44
  go_wp2
  go_ret
  exact ⟨rfl, rfl⟩

theorem countF (h : Held w B gb nb cap L s kd r) (hL1 : 1 ≤ L) :
    Calls Tryd.prog 37 #[.pointer (some ⟨gb, 0, none⟩)] w fun e w' => e = .returned (.int .i64 ((L : Int) - 1)) ∧ w' = w := by
  have hL := h.hL
  have hg := h.gcell
  clear h
  go_enter Tryd.func37, Tryd.ntmps37
  go_wp2
  go_ret
  exact ⟨rfl, rfl⟩

def hasB (L : Nat) (n : Int) : Bool := decide (1 ≤ n ∧ n < L)

theorem hasF (h : Held w B gb nb cap L s kd r) (n : Int) :
    Calls Tryd.prog 21 #[.pointer (some ⟨gb, 0, none⟩), .int .i64 n] w fun e w' => e = .returned (.bool (hasB L n)) ∧ w' = w := by
  have hL := h.hL
  have hg := h.gcell
  clear h
  by_cases h1 : 1 ≤ n
  · by_cases h2 : n < L
    · have e1 : hasB L n = true := by simp [hasB, h1, h2]
      rw [e1]; clear e1
      go_enter Tryd.func21, Tryd.ntmps21
      go_wp2
      go_ret
      exact ⟨rfl, rfl⟩
    · have e1 : hasB L n = false := by simp [hasB, h2]
      rw [e1]; clear e1
      have h3 : (L : Int) ≤ n := by omega
      go_enter Tryd.func21, Tryd.ntmps21
      go_wp2
      go_ret
      exact ⟨rfl, rfl⟩
  · have e1 : hasB L n = false := by simp [hasB, h1]
    rw [e1]; clear e1
    have h3 : n < 1 := by omega
    go_enter Tryd.func21, Tryd.ntmps21
    go_wp2
    go_ret
    exact ⟨rfl, rfl⟩

theorem kindF (h : Held w B gb nb cap L s kd r) (n : Nat) (hn : n < L) {t : TypeId} {x : Value} (hk : kd n = .iface t x) :
    Calls Tryd.prog 39 #[.pointer (some ⟨gb, 0, none⟩), .int .i64 n] w fun e w' => e = .returned (.iface t x) ∧ w' = w := by
  have hL := h.hL
  have hg := h.gcell
  have hc := h.ckd hn
  rw [hk] at hc
  clear h hk
  go_enter Tryd.func39, Tryd.ntmps39
  go_wp2
  go_ret
  exact ⟨rfl, rfl⟩

set_option maxRecDepth 100000 in
set_option maxHeartbeats 400000 in
theorem joinF (h : Held w B gb nb cap L s kd r) (p a b : Nat) (hp : p < L) (ha : a < L) (hb : b < L) :
    Calls Tryd.prog 46 #[.pointer (some ⟨gb, 0, none⟩), .int .i64 p, .int .i64 a, .int .i64 b] w fun e w' => e = .returned (.tuple #[]) ∧ Held w' B gb nb cap L (s.join p a b) kd r ∧ Fr (gn gb nb) w w' := by
  have HH : Hid (Held w B gb nb cap L s kd r) := h
  have hL := h.hL
  have hg := h.gcell
  have hne := h.ne
  have hne' : nb ≠ gb := fun e => h.ne e.symm
  have fr := fun i => h.free i
  have c1 := h.cfst hp
  have c2 := h.clst hp
  have c3 := h.cbhd ha
  have c4 := h.cahd hb
  clear h
  by_cases ea : a = 0
  · subst ea
    by_cases eb : b = 0
    · subst eb
      go_enter Tryd.func46, Tryd.ntmps46
      go_wp2
      go_end0
      have R1 := HH.out.putF 0 hp
      have R2 := R1.1.putL 0 hp
      exact ⟨rfl, by rw [join_eq, if_pos rfl, if_pos rfl]; exact R2.1, R1.2.trans R2.2⟩
    · have eb' : ((b : Int) == 0) = false := by simp; omega
      have EB : Hid (b ≠ 0) := eb
      clear eb
      go_enter Tryd.func46, Tryd.ntmps46
      go_wp2
      go_end0
      have R1 := HH.out.putF b hp
      have R2 := R1.1.putA 0 hb
      exact ⟨rfl, by rw [join_eq, if_neg EB.out, if_pos rfl]; exact R2.1, R1.2.trans R2.2⟩
  · have ea' : ((a : Int) == 0) = false := by simp; omega
    have EA : Hid (a ≠ 0) := ea
    clear ea
    by_cases eb : b = 0
    · subst eb
      go_enter Tryd.func46, Tryd.ntmps46
      go_wp2
      go_end0
      have R1 := HH.out.putB 0 ha
      have R2 := R1.1.putL a hp
      exact ⟨rfl, by rw [join_eq, if_pos rfl, if_neg EA.out]; exact R2.1, R1.2.trans R2.2⟩
    · have eb' : ((b : Int) == 0) = false := by simp; omega
      have EB : Hid (b ≠ 0) := eb
      clear eb
      go_enter Tryd.func46, Tryd.ntmps46
      go_wp2
      go_end0
      have R1 := HH.out.putB b ha
      have R2 := R1.1.putA a hb
      exact ⟨rfl, by rw [join_eq, if_neg EB.out, if_neg EA.out]; exact R2.1, R1.2.trans R2.2⟩

theorem setPar_ahd (s : Fo) (c p : Nat) : (s.setPar c p).ahd = s.ahd := rfl

set_option maxRecDepth 100000 in
set_option maxHeartbeats 400000 in
theorem insertF (h : Held w B gb nb cap L s kd r) (p c b : Nat) (hp : p < L) (hc : c < L) (hb : b < L) (hl : s.lst p < L) (ha : b ≠ 0 → s.ahd b < L) (hpl : 0 ≤ r.pl) (hpl2 : r.pl ≤ 4611686018427387904) :
    Calls Tryd.prog 20 #[.pointer (some ⟨gb, 0, none⟩), .int .i64 p, .int .i64 c, .int .i64 b] w fun e w' => e = .returned (.tuple #[]) ∧ Held w' B gb nb cap L (s.insert p c b) kd r.more ∧ Fr (gn gb nb) w w' := by
  have HH : Hid (Held w B gb nb cap L s kd r) := h
  have hL := h.hL
  have hg := h.gcell
  have hne := h.ne
  have hne' : nb ≠ gb := fun e => h.ne e.symm
  have fr := fun i => h.free i
  have c1 := h.clst hp
  have c2 := h.cahd hb
  have c3 := h.cpar hc
  have HA : Hid (b ≠ 0 → s.ahd b < L) := ha
  clear h ha
  by_cases eb : b = 0
  · subst eb
    go_enter Tryd.func20, Tryd.ntmps20
    go_wp2_with fail
    refine (lastF HH.out p hp).mono ?_
    rintro e w ⟨rfl, rfl⟩
    go_wp2_with fail
    have R1 := HH.out.putP p hc
    refine (joinF R1.1 p (s.lst p) c hp hl hc).mono ?_
    rintro e w1 ⟨rfl, H1, G1⟩
    go_wp2_with fail
    refine (joinF H1 p c 0 hp hc hb).mono ?_
    rintro e w2 ⟨rfl, H2, G2⟩
    have c5 := H2.gpl
    have f5 := fun i => H2.gfree i
    have H2' : Hid _ := H2
    have G2' : Hid _ := G2
    clear H2 G2
    go_wp2_with fail
    go_end0
    have R3 := H2'.out.count
    exact ⟨rfl, R3.1, ((R1.2.trans G1).trans G2'.out).trans R3.2⟩
  · have eb' : ((b : Int) == 0) = false := by simp; omega
    have EB : Hid (b ≠ 0) := eb
    clear eb
    go_enter Tryd.func20, Tryd.ntmps20
    go_wp2_with fail
    refine (lastF HH.out p hp).mono ?_
    rintro e w ⟨rfl, rfl⟩
    go_wp2_with fail
    refine (aheadF HH.out b hb).mono ?_
    rintro e w ⟨rfl, rfl⟩
    go_wp2_with fail
    have R1 := HH.out.putP p hc
    refine (joinF R1.1 p (s.ahd b) c hp (HA.out EB.out) hc).mono ?_
    rintro e w1 ⟨rfl, H1, G1⟩
    go_wp2_with fail
    refine (joinF H1 p c b hp hc hb).mono ?_
    rintro e w2 ⟨rfl, H2, G2⟩
    have c5 := H2.gpl
    have f5 := fun i => H2.gfree i
    have H2' : Hid _ := H2
    have G2' : Hid _ := G2
    clear H2 G2
    go_wp2_with fail
    go_end0
    have R3 := H2'.out.count
    exact ⟨rfl, by unfold Fo.insert; rw [if_neg EB.out]; exact R3.1, ((R1.2.trans G1).trans G2'.out).trans R3.2⟩

theorem remove_end {w1 : World} {n : Nat} (h : Held w1 B gb nb cap L (s.join (s.par n) (s.ahd n) (s.bhd n)) kd r) (hG : Fr (gn gb nb) w w1) (hn : n < L) :
    Held (((((w1.setCell ⟨nb, n * 6, none⟩ (.int .i64 0)).setCell ⟨nb, n * 6 + 1, none⟩ (.int .i64 0)).setCell ⟨nb, n * 6 + 2, none⟩ (.int .i64 0)).setCell ⟨nb, n * 6 + 3, none⟩ (.int .i64 (s.fst n))).setCell ⟨nb, n * 6 + 4, none⟩ (.int .i64 (s.lst n))).drew B gb nb cap L (s.remove n) kd r ∧
    Fr (gn gb nb) w (((((w1.setCell ⟨nb, n * 6, none⟩ (.int .i64 0)).setCell ⟨nb, n * 6 + 1, none⟩ (.int .i64 0)).setCell ⟨nb, n * 6 + 2, none⟩ (.int .i64 0)).setCell ⟨nb, n * 6 + 3, none⟩ (.int .i64 (s.fst n))).setCell ⟨nb, n * 6 + 4, none⟩ (.int .i64 (s.lst n))).drew := by
  have R1 := h.putP 0 hn
  have R2 := R1.1.putA 0 hn
  have R3 := R2.1.putB 0 hn
  have R4 := R3.1.putF (s.fst n) hn
  have R5 := R4.1.putL (s.lst n) hn
  have g5 := ((((hG.trans R1.2).trans R2.2).trans R3.2).trans R4.2).trans R5.2
  constructor
  · exact R5.1.drew
  · exact g5.drew

set_option maxRecDepth 100000 in
set_option maxHeartbeats 400000 in
theorem removeF (h : Held w B gb nb cap L s kd r) (n : Nat) (hn : n < L) (hp : s.par n < L) (ha : s.ahd n < L) (hb : s.bhd n < L) (hpl : 0 ≤ r.pl) (hpl2 : r.pl ≤ 4611686018427387904) :
    Calls Tryd.prog 43 #[.pointer (some ⟨gb, 0, none⟩), .int .i64 n] w fun e w' => e = .returned (.tuple #[]) ∧ Held w' B gb nb cap L (s.remove n) kd r.more ∧ Fr (gn gb nb) w w' := by
  have HH : Hid (Held w B gb nb cap L s kd r) := h
  have hL := h.hL
  have hg := h.gcell
  have hne := h.ne
  have hne' : nb ≠ gb := fun e => h.ne e.symm
  have fr := fun i => h.free i
  have c1 := h.cpar hn
  have c2 := h.cahd hn
  have c3 := h.cbhd hn
  have c4 := h.cfst hn
  have c5 := h.clst hn
  clear h
  go_enter Tryd.func43, Tryd.ntmps43
  go_wp2_with fail
  have lt := HH.out.ltn
  have ltg := HH.out.ltg
  refine (joinF (HH.out.alloc _) (s.par n) (s.ahd n) (s.bhd n) hp ha hb).mono ?_
  rintro e w1 ⟨rfl, H1, G1⟩
  have q3 : w1.cell? ⟨w.heap.size, 3, none⟩ = some (.int .i64 (s.fst n)) := G1.cell (by simp [World.cell?_alloc_at]) (by simp [gn]; omega)
  have q4 : w1.cell? ⟨w.heap.size, 4, none⟩ = some (.int .i64 (s.lst n)) := G1.cell (by simp [World.cell?_alloc_at]) (by simp [gn]; omega)
  have G : Hid (Fr (gn gb nb) w w1) := ((Fr.refl _ _).alloc _).trans G1
  clear hg fr c1 c2 c3 c4 c5 G1
  have hg1 := H1.gcell
  have fr1 := fun i => H1.free i
  have c1 := H1.cpar hn
  have c2 := H1.cahd hn
  have c3 := H1.cbhd hn
  have c4 := H1.cfst hn
  have c5 := H1.clst hn
  have HH1 : Hid (Held w1 B gb nb cap L (s.join (s.par n) (s.ahd n) (s.bhd n)) kd r) := H1
  clear H1
  go_wp2_with fail
  go_region
  have R := remove_end HH1.out G.out hn
  clear hg1 fr1 c1 c2 c3 c4 c5 q3 q4 HH1 G
  generalize (((((w1.setCell ⟨nb, n * 6, none⟩ (.int .i64 0)).setCell ⟨nb, n * 6 + 1, none⟩ (.int .i64 0)).setCell ⟨nb, n * 6 + 2, none⟩ (.int .i64 0)).setCell ⟨nb, n * 6 + 3, none⟩ (.int .i64 (s.fst n))).setCell ⟨nb, n * 6 + 4, none⟩ (.int .i64 (s.lst n))).drew = w5 at *
  have c6 := R.1.gpl
  have f6 := fun i => R.1.gfree i
  have RR : Hid _ := R
  clear R
  go_wp2_with fail
  go_end0
  have R3 := RR.out.1.count
  exact ⟨rfl, R3.1, RR.out.2.trans R3.2⟩
end
end Go.Proofs.YtcedebpoihcbdaaDoor
