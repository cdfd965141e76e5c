/-
  A live list in memory, and what its wants tells of a node.
-/
import Derived.Test.YtcedebpoihcbdaaDoorL7
import Derived.Test.YtcedebpoihcbdaaDoorY0
namespace Go.Proofs.YtcedebpoihcbdaaDoor
open Go.RowKit Gv

/-- The attributes of all elements; no two have one map. -/
structure Ats (w : World) (B N : Nat) (kk : Nat → Nat) (mp : Nat → Nat) (A : Nat → ByteArray → Option ByteArray) : Prop where
  at_ : ∀ i, 1 ≤ i → i ≤ N → kk i = 2 → Att w (mp i) (A i)
  short : ∀ i k v, A i k = some v → v.size ≤ 40
  low : ∀ i, 1 ≤ i → i ≤ N → kk i = 2 → B ≤ mp i
  inj : ∀ i j, 1 ≤ i → i ≤ N → 1 ≤ j → j ≤ N → kk i = 2 → kk j = 2 → mp i = mp j → i = j

def strStar : ByteArray := ⟨#[42]⟩

/-- Does the list want this node? -/
def wantsF (kk : Nat → Nat) (tg : Nat → ByteArray) (A : Nat → ByteArray → Option ByteArray) (how : Nat) (what : ByteArray) (n : Nat) : Bool :=
  if how = 1 then decide (kk n = 2) && ((what.toList == [42]) || (what.toList == (tg n).toList))
  else if how = 2 then decide (kk n = 2) && hasCls (A n) what
  else if how = 3 then decide (kk n = 2)
  else true

section
variable {B : Nat} {w w' : World} {gb nb cap N : Nat} {kk : Nat → Nat} {tg : Nat → ByteArray} {kd : Nat → Value} {mp : Nat → Nat} {σ : St} {r : Re} {A : Nat → ByteArray → Option ByteArray}

theorem Ats.since (h : Ats w B N kk mp A) (hb : Below w.heap.size w w') : Ats w' B N kk mp A := ⟨fun i h1 h2 h3 => (h.at_ i h1 h2 h3).since hb, h.short, h.low, h.inj⟩
theorem Ats.fr {S : Nat → Prop} (h : Ats w B N kk mp A) (hf : Fr S w w') (hS : ∀ i es c, S i → w.heap[i]? ≠ some (.map es c)) : Ats w' B N kk mp A := ⟨fun i h1 h2 h3 => (h.at_ i h1 h2 h3).fr hf hS, h.short, h.low, h.inj⟩

theorem Ats.cls (h : Ats w B N kk mp A) (n : Nat) : ((A n strClass).getD ByteArray.empty).size < 4294967281 := by
  cases e : A n strClass with
  | none => simp
  | some v => have := h.short n _ _ e; simp; omega

set_option maxRecDepth 100000 in
set_option maxHeartbeats 1000000 in
theorem wants1 (h : Gro B w gb nb cap N kk tg kd mp σ r) {lb o : Nat} (what : ByteArray) (hh : w.cell? ⟨lb, o + 1, none⟩ = some (.int .i64 1)) (hw : w.cell? ⟨lb, o + 2, none⟩ = some (.string what)) (n : Nat) (h1 : 1 ≤ n) (hn : n ≤ N) :
    Calls Tryd.prog 69 #[.pointer (some ⟨lb, o, none⟩), .pointer (some ⟨gb, 0, none⟩), .int .i64 n] w fun e w' => e = .returned (.bool (wantsF kk tg A 1 what n)) ∧ Below w.heap.size w w' := by
  have HE : Hid _ := elementF h.held n hn (h.kinds n h1 hn)
  have HEl : Hid (kk n = 2 → El w B (kd n) (tg n) (mp n)) := h.els n h1 hn
  have HF : Hid (wantsF kk tg A 1 what n = (decide (kk n = 2) && ((what.toList == [42]) || (what.toList == (tg n).toList)))) := rfl
  clear h
  go_enter Tryd.func69, Tryd.ntmps69
  go_wp2_with fail
  refine Calls.mono HE.out ?_
  rintro e w1 ⟨rfl, ⟨hk, eb, hkd, rfl⟩ | ⟨hk, rfl⟩⟩
  · have htag : w1.cell? ⟨eb, 0, none⟩ = some (.string (tg n)) := by
      obtain ⟨eb', e1, e2, -⟩ := HEl.out hk
      rw [hkd] at e1
      simp only [Value.iface.injEq, Value.pointer.injEq, Option.some.injEq, Addr.mk.injEq, and_true, true_and] at e1
      rw [e1]
      exact cells_of e2 0
    have HF2 : Hid (wantsF kk tg A 1 what n = ((what.toList == [42]) || (what.toList == (tg n).toList))) := by show wantsF kk tg A 1 what n = _; rw [HF.out]; simp [hk]
    clear HE HEl HF hk hkd
    by_cases hs : (what.toList == [42]) = true
    · have HF3 : Hid (wantsF kk tg A 1 what n = true) := by show wantsF kk tg A 1 what n = true; rw [HF2.out, hs]; rfl
      clear HF2
      go_wp2_with fail
      go_region
      go_wp2_with fail
      go_ret
      exact ⟨by rw [HF3.out]; rfl, (Below.refl _ _).drew⟩
    · have hs' : (what.toList == [42]) = false := by simpa using hs
      have HF3 : Hid (wantsF kk tg A 1 what n = (what.toList == (tg n).toList)) := by show wantsF kk tg A 1 what n = _; rw [HF2.out, hs']; rfl
      clear HF2 hs
      go_wp2_with fail
      go_region
      go_wp2_with fail
      go_ret
      exact ⟨by rw [HF3.out]; rfl, (Below.refl _ _).drew⟩
  · have HF2 : Hid (wantsF kk tg A 1 what n = false) := by show wantsF kk tg A 1 what n = _; rw [HF.out]; simp [hk]
    clear HE HEl HF hk
    go_wp2_with fail
    go_region
    go_wp2_with fail
    go_ret
    exact ⟨by rw [HF2.out]; rfl, (Below.refl _ _).drew⟩

set_option maxRecDepth 100000 in
set_option maxHeartbeats 1000000 in
theorem wants2 (h : Gro B w gb nb cap N kk tg kd mp σ r) (hA : Ats w B N kk mp A) {lb o : Nat} (what : ByteArray) (hh : w.cell? ⟨lb, o + 1, none⟩ = some (.int .i64 2)) (hw : w.cell? ⟨lb, o + 2, none⟩ = some (.string what)) (n : Nat) (h1 : 1 ≤ n) (hn : n ≤ N) :
    Calls Tryd.prog 69 #[.pointer (some ⟨lb, o, none⟩), .pointer (some ⟨gb, 0, none⟩), .int .i64 n] w fun e w' => e = .returned (.bool (wantsF kk tg A 2 what n)) ∧ Below w.heap.size w w' := by
  have HE : Hid _ := elementF h.held n hn (h.kinds n h1 hn)
  have HEl : Hid (kk n = 2 → El w B (kd n) (tg n) (mp n)) := h.els n h1 hn
  have HF : Hid (wantsF kk tg A 2 what n = (decide (kk n = 2) && hasCls (A n) what)) := rfl
  have HA : Hid _ := hA
  clear h hA
  go_enter Tryd.func69, Tryd.ntmps69
  go_wp2_with fail
  refine Calls.mono HE.out ?_
  rintro e w1 ⟨rfl, ⟨hk, eb, hkd, rfl⟩ | ⟨hk, rfl⟩⟩
  · have hel : w1.heap[eb]? = some (.cells #[.string (tg n), .map (some (mp n))] 98 (0, 0)) := by
      obtain ⟨eb', e1, e2, -⟩ := HEl.out hk
      rw [hkd] at e1
      simp only [Value.iface.injEq, Value.pointer.injEq, Option.some.injEq, Addr.mk.injEq, and_true, true_and] at e1
      rw [e1]
      exact e2
    have HC : Hid _ := hasClass eb (mp n) (tg n) (A n) what w1 hel (HA.out.at_ n h1 hn hk) (HA.out.cls n)
    have HF2 : Hid (wantsF kk tg A 2 what n = hasCls (A n) what) := by show wantsF kk tg A 2 what n = _; rw [HF.out]; simp [hk]
    clear HE HEl HF hk hkd hel HA
    go_wp2_with fail
    refine Calls.mono HC.out ?_
    rintro e w2 ⟨rfl, hB⟩
    have HB : Hid _ := hB
    clear HC hB
    go_wp2_with fail
    go_ret
    exact ⟨by rw [HF2.out]; rfl, HB.out⟩
  · have HF2 : Hid (wantsF kk tg A 2 what n = false) := by show wantsF kk tg A 2 what n = _; rw [HF.out]; simp [hk]
    clear HE HEl HF hk HA
    go_wp2_with fail
    go_ret
    exact ⟨by rw [HF2.out]; rfl, Below.refl _ _⟩

set_option maxRecDepth 100000 in
set_option maxHeartbeats 1000000 in
theorem wants3 (h : Gro B w gb nb cap N kk tg kd mp σ r) {lb o : Nat} (what : ByteArray) (hh : w.cell? ⟨lb, o + 1, none⟩ = some (.int .i64 3)) (n : Nat) (h1 : 1 ≤ n) (hn : n ≤ N) :
    Calls Tryd.prog 69 #[.pointer (some ⟨lb, o, none⟩), .pointer (some ⟨gb, 0, none⟩), .int .i64 n] w fun e w' => e = .returned (.bool (wantsF kk tg A 3 what n)) ∧ Below w.heap.size w w' := by
  have HE : Hid _ := elementF h.held n hn (h.kinds n h1 hn)
  have HF : Hid (wantsF kk tg A 3 what n = decide (kk n = 2)) := rfl
  clear h
  go_enter Tryd.func69, Tryd.ntmps69
  go_wp2_with fail
  refine Calls.mono HE.out ?_
  rintro e w1 ⟨rfl, ⟨hk, eb, hkd, rfl⟩ | ⟨hk, rfl⟩⟩
  · have HF2 : Hid (wantsF kk tg A 3 what n = true) := by show wantsF kk tg A 3 what n = _; rw [HF.out]; simp [hk]
    clear HE HF hk hkd
    go_wp2_with fail
    go_ret
    exact ⟨by rw [HF2.out]; rfl, Below.refl _ _⟩
  · have HF2 : Hid (wantsF kk tg A 3 what n = false) := by show wantsF kk tg A 3 what n = _; rw [HF.out]; simp [hk]
    clear HE HF hk
    go_wp2_with fail
    go_ret
    exact ⟨by rw [HF2.out]; rfl, Below.refl _ _⟩

set_option maxRecDepth 100000 in
set_option maxHeartbeats 1000000 in
theorem wants4 (h : Gro B w gb nb cap N kk tg kd mp σ r) {lb o : Nat} (what : ByteArray) (hh : w.cell? ⟨lb, o + 1, none⟩ = some (.int .i64 4)) (n : Nat) (h1 : 1 ≤ n) (hn : n ≤ N) :
    Calls Tryd.prog 69 #[.pointer (some ⟨lb, o, none⟩), .pointer (some ⟨gb, 0, none⟩), .int .i64 n] w fun e w' => e = .returned (.bool (wantsF kk tg A 4 what n)) ∧ Below w.heap.size w w' := by
  have HE : Hid _ := elementF h.held n hn (h.kinds n h1 hn)
  have HF : Hid (wantsF kk tg A 4 what n = true) := rfl
  clear h
  go_enter Tryd.func69, Tryd.ntmps69
  go_wp2_with fail
  refine Calls.mono HE.out ?_
  rintro e w1 ⟨rfl, ⟨hk, eb, hkd, rfl⟩ | ⟨hk, rfl⟩⟩
  all_goals
    clear HE
    go_wp2_with fail
    go_ret
    exact ⟨by rw [HF.out]; rfl, Below.refl _ _⟩

theorem wantsC (h : Gro B w gb nb cap N kk tg kd mp σ r) (hA : Ats w B N kk mp A) {lb o : Nat} (how : Nat) (hw4 : 1 ≤ how ∧ how ≤ 4) (what : ByteArray) (hh : w.cell? ⟨lb, o + 1, none⟩ = some (.int .i64 how)) (hw : w.cell? ⟨lb, o + 2, none⟩ = some (.string what)) (n : Nat) (h1 : 1 ≤ n) (hn : n ≤ N) :
    Calls Tryd.prog 69 #[.pointer (some ⟨lb, o, none⟩), .pointer (some ⟨gb, 0, none⟩), .int .i64 n] w fun e w' => e = .returned (.bool (wantsF kk tg A how what n)) ∧ Below w.heap.size w w' := by
  obtain rfl | rfl | rfl | rfl : how = 1 ∨ how = 2 ∨ how = 3 ∨ how = 4 := by omega
  · exact wants1 h what hh hw n h1 hn
  · exact wants2 h hA what hh hw n h1 hn
  · exact wants3 h what hh n h1 hn
  · exact wants4 h what hh n h1 hn

set_option maxRecDepth 100000 in
/-- The function that look hands to DeleteFunc. -/
theorem lookFn (h : Gro B w gb nb cap N kk tg kd mp σ r) (hA : Ats w B N kk mp A) {lb o b1 b2 : Nat} (how : Nat) (hw4 : 1 ≤ how ∧ how ≤ 4) (what : ByteArray) (hh : w.cell? ⟨lb, o + 1, none⟩ = some (.int .i64 how)) (hw : w.cell? ⟨lb, o + 2, none⟩ = some (.string what)) (n : Nat) (h1 : 1 ≤ n) (hn : n ≤ N)
    (hb1 : w.cell? ⟨b1, 0, none⟩ = some (.pointer (some ⟨lb, o, none⟩))) (hb2 : w.cell? ⟨b2, 0, none⟩ = some (.pointer (some ⟨gb, 0, none⟩))) :
    Calls Tryd.prog 68 #[.int .i64 n, .pointer (some ⟨b1, 0, none⟩), .pointer (some ⟨b2, 0, none⟩)] w fun e w' => e = .returned (.bool (!wantsF kk tg A how what n)) ∧ Below w.heap.size w w' := by
  have HW : Hid _ := wantsC h hA how hw4 what hh hw n h1 hn
  clear h hA hh hw
  generalize wantsF kk tg A how what n = q at HW ⊢
  go_enter Tryd.func68, Tryd.ntmps68
  go_wp2_with fail
  refine Calls.mono HW.out ?_
  rintro e w2 ⟨rfl, hB⟩
  have HB : Hid _ := hB
  clear HW hB
  go_wp2_with fail
  go_ret
  exact ⟨rfl, HB.out⟩
end
end Go.Proofs.YtcedebpoihcbdaaDoor
