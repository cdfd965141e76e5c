/-
  The grove's Set and Unset.
-/
import Derived.Test.YtcedebpoihcbdaaDoorL15
namespace Go.Proofs.YtcedebpoihcbdaaDoor
open Go.RowKit Go.Shelf Gv

/-- What forbids an attribute. -/
def haveErr (N : Nat) (kk : Nat → Nat) (n : Int) (name : ByteArray) : Int := if hasB (N + 1) n = false then 5 else if kk n.toNat ≠ 2 then 1 else if nameB name.data.toList = false then 2 else 0

section
variable {B : Nat} {w w' : World} {gb nb cap N : Nat} {kk : Nat → Nat} {tg : Nat → ByteArray} {kd : Nat → Value} {mp : Nat → Nat} {σ : St} {r : Re} {A A' : Nat → ByteArray → Option ByteArray} {ls : List Ls}

set_option maxRecDepth 100000 in
theorem mayHaveC (h : Gro B w gb nb cap N kk tg kd mp σ r) (n : Int) (name : ByteArray) (hs : name.size ≤ maxLen) :
    Calls Tryd.prog 23 #[.pointer (some ⟨gb, 0, none⟩), .int .i64 n, .string name] w fun e w' => e = .returned (.int .i64 (haveErr N kk n name)) ∧ w' = w := by
  have HH : Hid _ := h
  clear h
  cases hb : hasB (N + 1) n with
  | false =>
    have HR : Hid (haveErr N kk n name = 5) := by show haveErr N kk n name = 5; unfold haveErr; rw [if_pos hb]
    go_enter Tryd.func23, Tryd.ntmps23
    go_wp2_with fail
    refine (hasF HH.out.held n).mono ?_
    rintro e w ⟨rfl, rfl⟩
    rw [hb]
    go_wp2_with fail
    go_ret
    exact ⟨ret_int (by rw [HR.out]), rfl⟩
  | true =>
    obtain ⟨m, rfl, h1, hm⟩ := has_nat hb
    by_cases h2 : kk m = 2
    · cases hn : nameB name.data.toList with
      | false =>
        have HR : Hid (haveErr N kk m name = 2) := by show haveErr N kk m name = 2; unfold haveErr; rw [if_neg (by rw [hb]; decide), if_neg (by simp [h2]), if_pos hn]
        go_enter Tryd.func23, Tryd.ntmps23
        go_wp2_with fail
        refine (hasF HH.out.held m).mono ?_
        rintro e w ⟨rfl, rfl⟩
        rw [hb]
        go_wp2_with fail
        refine Calls.mono (elementF HH.out.held m hm (HH.out.kinds m h1 hm)) ?_
        rintro e w1 ⟨rfl, ⟨hk, eb, hkd, rfl⟩ | ⟨hk, rfl⟩⟩
        · go_wp2_with fail
          refine (isName name _ hs).mono ?_
          rintro e w1 ⟨rfl, rfl⟩
          rw [hn]
          go_wp2_with fail
          go_ret
          exact ⟨ret_int (by rw [HR.out]), rfl⟩
        · exact absurd h2 hk
      | true =>
        have HR : Hid (haveErr N kk m name = 0) := by show haveErr N kk m name = 0; unfold haveErr; rw [if_neg (by rw [hb]; decide), if_neg (by simp [h2]), if_neg (by rw [hn]; decide)]
        go_enter Tryd.func23, Tryd.ntmps23
        go_wp2_with fail
        refine (hasF HH.out.held m).mono ?_
        rintro e w ⟨rfl, rfl⟩
        rw [hb]
        go_wp2_with fail
        refine Calls.mono (elementF HH.out.held m hm (HH.out.kinds m h1 hm)) ?_
        rintro e w1 ⟨rfl, ⟨hk, eb, hkd, rfl⟩ | ⟨hk, rfl⟩⟩
        · go_wp2_with fail
          refine (isName name _ hs).mono ?_
          rintro e w1 ⟨rfl, rfl⟩
          rw [hn]
          go_wp2_with fail
          go_ret
          exact ⟨ret_int (by rw [HR.out]), rfl⟩
        · exact absurd h2 hk
    · have HR : Hid (haveErr N kk m name = 1) := by show haveErr N kk m name = 1; unfold haveErr; rw [if_neg (by rw [hb]; decide), if_pos (by simpa using h2)]
      go_enter Tryd.func23, Tryd.ntmps23
      go_wp2_with fail
      refine (hasF HH.out.held m).mono ?_
      rintro e w ⟨rfl, rfl⟩
      rw [hb]
      go_wp2_with fail
      refine Calls.mono (elementF HH.out.held m hm (HH.out.kinds m h1 hm)) ?_
      rintro e w1 ⟨rfl, ⟨hk, eb, hkd, rfl⟩ | ⟨hk, rfl⟩⟩
      · exact absurd hk h2
      · go_wp2_with fail
        go_ret
        exact ⟨ret_int (by rw [HR.out]), rfl⟩

theorem have_zero {n : Int} {name : ByteArray} (h : haveErr N kk n name = 0) : ∃ m : Nat, n = m ∧ 1 ≤ m ∧ m ≤ N ∧ kk m = 2 ∧ nameB name.data.toList = true := by
  unfold haveErr at h
  split at h
  · omega
  · rename_i hb
    obtain ⟨m, rfl, h1, hm⟩ := has_nat (by simpa using hb)
    split at h
    · omega
    · rename_i h2
      split at h
      · omega
      · rename_i h3
        exact ⟨m, rfl, h1, hm, by simpa using h2, by simpa using h3⟩

theorem have_ne {N : Nat} {kk : Nat → Nat} {n : Int} {name : ByteArray} : (haveErr N kk n name != 0) = !(haveErr N kk n name == 0) := rfl

/-- What Set answers, and what it makes of the attributes. -/
def setErr (N : Nat) (kk : Nat → Nat) (n : Int) (name value : ByteArray) : Int := if haveErr N kk n name ≠ 0 then haveErr N kk n name else if 40 < value.size then 3 else 0

def setA (N : Nat) (kk : Nat → Nat) (A : Nat → ByteArray → Option ByteArray) (n : Int) (name value : ByteArray) : Nat → ByteArray → Option ByteArray := if setErr N kk n name value = 0 then upA A n.toNat (setAtt (A n.toNat) name value) else A
def setR (N : Nat) (kk : Nat → Nat) (r : Re) (n : Int) (name value : ByteArray) : Re := if setErr N kk n name value = 0 then r.cnt name else r

set_option maxRecDepth 100000 in
set_option maxHeartbeats 400000 in
theorem setS (h : Grl B w gb nb cap N kk tg kd mp σ r A ls) (n : Int) (name value : ByteArray) (hs : name.size ≤ maxLen) (hv : value.size ≤ 1000000) (h0 : 0 ≤ r.cl) (h01 : r.cl ≤ 1000000) :
    Calls Tryd.prog 8 #[.pointer (some ⟨gb, 0, none⟩), .int .i64 n, .string name, .string value] w fun e w' => e = .returned (.int .i64 (setErr N kk n name value)) ∧ Grl B w' gb nb cap N kk tg kd mp σ (setR N kk r n name value) (setA N kk A n name value) ls ∧ Fr (fun i => i = gb ∨ ∃ m, 1 ≤ m ∧ m ≤ N ∧ kk m = 2 ∧ i = mp m) w w' := by
  have HH : Hid _ := h
  have HM : Hid _ := mayHaveC h.gro n name hs
  clear h
  by_cases he : haveErr N kk n name = 0
  · obtain ⟨m, rfl, h1, hm, h2, h3⟩ := have_zero he
    by_cases hl : 40 < value.size
    · have HR : Hid (setErr N kk m name value = 3) := by show setErr N kk m name value = 3; unfold setErr; rw [if_neg (by simp [he]), if_pos hl]
      rw [he] at HM
      clear h3
      go_enter Tryd.func8, Tryd.ntmps8
      go_wp2_with fail
      refine Calls.mono HM.out ?_
      rintro e w ⟨rfl, rfl⟩
      go_wp2_with fail
      go_ret
      refine ⟨ret_int (by rw [HR.out]), ?_, Fr.refl _ _⟩
      unfold setR setA
      rw [HR.out, if_neg (by decide), if_neg (by decide)]
      exact HH.out
    · have HR : Hid (setErr N kk m name value = 0) := by show setErr N kk m name value = 0; unfold setErr; rw [if_neg (by simp [he]), if_neg hl]
      rw [he] at HM
      have hl' : ¬ (40 : Int) < ((value.size : Nat) : Int) := by omega
      clear h3
      go_enter Tryd.func8, Tryd.ntmps8
      go_wp2_with fail
      refine Calls.mono HM.out ?_
      rintro e w ⟨rfl, rfl⟩
      go_wp2_with fail
      refine (setF HH.out m h1 hm h2 name value (by omega) h0 h01).mono ?_
      rintro e w1 ⟨rfl, hG, hF⟩
      have HG : Hid _ := hG
      have HF : Hid _ := hF
      clear hG hF
      go_wp2_with fail
      go_ret
      refine ⟨ret_int (by rw [HR.out]), ?_, HF.out.mono (fun i hi => hi.imp id (fun e => ⟨m, h1, hm, h2, e⟩))⟩
      unfold setR setA
      rw [HR.out, if_pos rfl, if_pos rfl]
      exact HG.out
  · have HR : Hid (setErr N kk n name value = haveErr N kk n name) := by show setErr N kk n name value = _; unfold setErr; rw [if_pos he]
    have HE : Hid (haveErr N kk n name ≠ 0) := he
    have hne : (haveErr N kk n name != 0) = true := by simpa using he
    clear he
    generalize haveErr N kk n name = q at *
    go_enter Tryd.func8, Tryd.ntmps8
    go_wp2_with fail
    refine Calls.mono HM.out ?_
    rintro e w ⟨rfl, rfl⟩
    go_wp2_with fail
    go_ret
    refine ⟨ret_int (by rw [HR.out]), ?_, Fr.refl _ _⟩
    unfold setR setA
    rw [HR.out, if_neg HE.out, if_neg HE.out]
    exact HH.out

set_option maxRecDepth 100000 in
theorem hasAtt (eb mb : Nat) (t : ByteArray) (A : ByteArray → Option ByteArray) (k : ByteArray) (w : World) (he : w.heap[eb]? = some (.cells #[.string t, .map (some mb)] 98 (0, 0))) (hA : Att w mb A) :
    Calls Tryd.prog 26 #[.pointer (some ⟨eb, 0, none⟩), .string k] w fun e w' => e = .returned (.bool (A k).isSome) ∧ Below w.heap.size w w' := by
  have hcell : w.cell? ⟨eb, 1, none⟩ = some (.map (some mb)) := cells_of he 1
  have hlk := (hA.lookup (P := Tryd.prog) (mty := 96) Tryd.underlying96 Tryd.underlying9 Tryd.zeroValue95 k).2
  clear hA he
  generalize (A k).isSome = q at *
  generalize (A k).getD ByteArray.empty = v at *
  go_enter Tryd.func26, Tryd.ntmps26
  go_wp2_with fail
  go_ret
  exact ⟨rfl, (Below.refl _ _).alloc (Nat.le_refl _) _⟩

/-- What Unset answers, and what it makes of the attributes. -/
def unsetErr (N : Nat) (kk : Nat → Nat) (A : Nat → ByteArray → Option ByteArray) (n : Int) (name : ByteArray) : Int := if haveErr N kk n name ≠ 0 then haveErr N kk n name else if (A n.toNat name).isSome = false then 9 else 0

def unsetA (N : Nat) (kk : Nat → Nat) (A : Nat → ByteArray → Option ByteArray) (n : Int) (name : ByteArray) : Nat → ByteArray → Option ByteArray := if unsetErr N kk A n name = 0 then upA A n.toNat (unsetAtt (A n.toNat) name) else A
def unsetR (N : Nat) (kk : Nat → Nat) (A : Nat → ByteArray → Option ByteArray) (r : Re) (n : Int) (name : ByteArray) : Re := if unsetErr N kk A n name = 0 then r.cnt name else r

set_option maxRecDepth 100000 in
set_option maxHeartbeats 400000 in
theorem unsetS (h : Grl B w gb nb cap N kk tg kd mp σ r A ls) (n : Int) (name : ByteArray) (hs : name.size ≤ maxLen) (h0 : 0 ≤ r.cl) (h01 : r.cl ≤ 1000000) :
    Calls Tryd.prog 9 #[.pointer (some ⟨gb, 0, none⟩), .int .i64 n, .string name] w fun e w' => e = .returned (.int .i64 (unsetErr N kk A n name)) ∧ Grl B w' gb nb cap N kk tg kd mp σ (unsetR N kk A r n name) (unsetA N kk A n name) ls ∧ Fr (fun i => i = gb ∨ ∃ m, 1 ≤ m ∧ m ≤ N ∧ kk m = 2 ∧ i = mp m) w w' := by
  have HH : Hid _ := h
  have HM : Hid _ := mayHaveC h.gro n name hs
  clear h
  by_cases he : haveErr N kk n name = 0
  · obtain ⟨m, rfl, h1, hm, h2, h3⟩ := have_zero he
    rw [he] at HM
    clear h3
    go_enter Tryd.func9, Tryd.ntmps9
    go_wp2_with fail
    refine Calls.mono HM.out ?_
    rintro e w ⟨rfl, rfl⟩
    go_wp2_with fail
    refine Calls.mono (elementF HH.out.gro.held m hm (HH.out.gro.kinds m h1 hm)) ?_
    rintro e w1 ⟨rfl, ⟨hk, eb, hkd, rfl⟩ | ⟨hk, rfl⟩⟩
    · have HA : Hid _ := hasAtt eb (mp m) (tg m) (A m) name w1 (HH.out.elem h1 hm h2 hkd) (HH.out.ats.at_ m h1 hm h2)
      clear hkd hk
      cases hq : (A m name).isSome with
      | false =>
        have HR : Hid (unsetErr N kk A m name = 9) := by show unsetErr N kk A m name = 9; unfold unsetErr; rw [if_neg (by simp [he]), if_pos (by exact hq)]
        rw [hq] at HA
        clear he
        go_wp2_with fail
        refine Calls.mono HA.out ?_
        rintro e w2 ⟨rfl, hB⟩
        have HB : Hid _ := hB
        clear hB
        go_wp2_with fail
        go_ret
        refine ⟨ret_int (by rw [HR.out]), ?_, Fr.of_below HB.out⟩
        unfold unsetR unsetA
        rw [HR.out, if_neg (by decide), if_neg (by decide)]
        exact HH.out.since HB.out
      | true =>
        have HR : Hid (unsetErr N kk A m name = 0) := by show unsetErr N kk A m name = 0; unfold unsetErr; rw [if_neg (by simp [he]), if_neg (by intro e'; rw [show (A (m : Int).toNat name).isSome = true from hq] at e'; cases e')]
        rw [hq] at HA
        clear he
        go_wp2_with fail
        refine Calls.mono HA.out ?_
        rintro e w2 ⟨rfl, hB⟩
        have HB : Hid _ := hB
        clear hB
        go_wp2_with fail
        refine (unsetF (HH.out.since HB.out) m h1 hm h2 name h0 h01).mono ?_
        rintro e w3 ⟨rfl, hG, hF⟩
        have HG : Hid _ := hG
        have HF : Hid _ := hF
        clear hG hF
        go_wp2_with fail
        go_ret
        refine ⟨ret_int (by rw [HR.out]), ?_, (Fr.of_below HB.out).trans (HF.out.mono (fun i hi => hi.imp id (fun e => ⟨m, h1, hm, h2, e⟩)))⟩
        unfold unsetR unsetA
        rw [HR.out, if_pos rfl, if_pos rfl]
        exact HG.out
    · exact absurd h2 hk
  · have HR : Hid (unsetErr N kk A n name = haveErr N kk n name) := by show unsetErr N kk A n name = _; unfold unsetErr; rw [if_pos he]
    have HE : Hid (haveErr N kk n name ≠ 0) := he
    have hne : (haveErr N kk n name != 0) = true := by simpa using he
    clear he
    generalize haveErr N kk n name = q at *
    go_enter Tryd.func9, Tryd.ntmps9
    go_wp2_with fail
    refine Calls.mono HM.out ?_
    rintro e w ⟨rfl, rfl⟩
    go_wp2_with fail
    go_ret
    refine ⟨ret_int (by rw [HR.out]), ?_, Fr.refl _ _⟩
    unfold unsetR unsetA
    rw [HR.out, if_neg HE.out, if_neg HE.out]
    exact HH.out
end
end Go.Proofs.YtcedebpoihcbdaaDoor
