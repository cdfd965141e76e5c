/-
  strings.Split at a blank, and the element's classes.
-/
import Derived.Test.YtcedebpoihcbdaaDoorL5
import Derived.Test.YtcedebpoihcbdaaDoorL6
import Derived.Test.YtcedebpoihcbdaaDoorW8
namespace Go.Proofs.YtcedebpoihcbdaaDoor
open Go.RowKit Go.Shelf Gv

def blank : ByteArray := ⟨#[32]⟩
/-- What a text is cut into at its blanks. -/
def cut (s : ByteArray) : List ByteArray := Lib.splitB blank 0 (Lib.countB s blank) s

theorem cut_len (s : ByteArray) : (cut s).length = Lib.countB s blank + 1 := Lib.splitB_all blank (by decide) 0 _ s rfl

theorem splitG (s : ByteArray) (w : World) (hs : s.size < 4294967281) :
    Calls Tryd.prog 84 #[.string s, .string ⟨#[32]⟩, .int .i64 0, .int .i64 (-1)] w fun e w' => e = .returned (.slice (some ⟨w.heap.size, 0, none⟩) (Lib.countB s blank + 1) (Lib.countB s blank + 1)) ∧ w' = w.alloc (.cells ((cut s).map Value.string).toArray 9) := by
  have hle : Lib.countB s blank ≤ s.size := Lib.countB_le blank (by decide) s.size s (Nat.le_refl _)
  have hC : Calls Tryd.prog (Tryd.lays221_ren.f 138) #[.string s, .string blank] w fun e w' => e = .returned (.int .i64 (Lib.countB s blank)) ∧ w' = w := by
    refine (Any.strings_Count_one { Tryd.lays221 with } s 32 w).mono fun e w' ⟨he, hw⟩ => ⟨?_, hw⟩
    rw [he]
    show _ = Ending.returned (Value.int .i64 ((Lib.count s.data.toList [32] : Nat) : Int))
    rw [Lib.count_one]
    rfl
  have hI : ∀ (x : ByteArray) (c : Array Value), x.size ≤ s.size → Calls Tryd.prog (Tryd.lays221_ren.f 143) #[.string x, .string blank] (w.alloc (.cells c (Tryd.lays221_ren.t 9))) fun e w' => e = .returned (.int .i64 (Lib.indexB x blank)) ∧ w' = w.alloc (.cells c (Tryd.lays221_ren.t 9)) := by
    intro x c _
    refine (Any.strings_Index_one { Tryd.lays221 with } x 32 _).mono fun e w' ⟨he, hw⟩ => ⟨?_, hw⟩
    rw [he]
    show _ = Ending.returned (Value.int .i64 (Lib.index x.data.toList [32]))
    rw [Lib.index_one]
  have c := Any.strings_genSplit_core Tryd.lays221 Tryd.hi221 s blank 0 (-1) (Lib.countB s blank + 1) w hs (by decide) (Nat.zero_le _) hI hC (by decide) (by decide) (by rw [if_pos (by decide)]; omega)
  have hlen := cut_len s
  have e1 : Lib.splitB blank 0 (Lib.countB s blank + 1 - 1) s = cut s := rfl
  rw [e1, hlen] at c
  have e2 : Lib.cellsOf (cut s) (Lib.countB s blank + 1) = ((cut s).map Value.string).toArray := by rw [← hlen]; exact Lib.cellsOf_full _
  rw [e2] at c
  exact c

theorem splitC (s : ByteArray) (w : World) (hs : s.size < 4294967281) :
    Calls Tryd.prog 82 #[.string s, .string ⟨#[32]⟩] w fun e w' => e = .returned (.slice (some ⟨w.heap.size, 0, none⟩) (Lib.countB s blank + 1) (Lib.countB s blank + 1)) ∧ w' = w.alloc (.cells ((cut s).map Value.string).toArray 9) := by
  have HS : Hid _ := splitG s w hs
  go_enter Tryd.func82, Tryd.ntmps82
  go_wp2_with fail
  refine Calls.mono HS.out ?_
  rintro e w' ⟨rfl, rfl⟩
  clear HS
  go_wp2_with fail
  go_ret
  exact ⟨rfl, rfl⟩

/-- Is this one of the classes that the text is cut into? -/
def inCut (s c : ByteArray) : Bool := Lib.containsS (cut s) c

theorem containsC (s c : ByteArray) (w : World) (hs : s.size < 4294967281) :
    Calls Tryd.prog 81 #[.slice (some ⟨w.heap.size, 0, none⟩) (Lib.countB s blank + 1) (Lib.countB s blank + 1), .string c] (w.alloc (.cells ((cut s).map Value.string).toArray 9)) fun e w' => e = .returned (.bool (inCut s c)) ∧ w' = w.alloc (.cells ((cut s).map Value.string).toArray 9) := by
  have hlen := cut_len s
  have hle : Lib.countB s blank ≤ s.size := Lib.countB_le blank (by decide) s.size s (Nat.le_refl _)
  have h := Any.slices_Contains_string Tryd.lays110 w.heap.size 0 (Lib.countB s blank + 1) (Lib.countB s blank + 1) (cut s) c (w.alloc (.cells ((cut s).map Value.string).toArray 9)) (by omega) (by omega) (fun j hj => by
    rw [World.cell?_alloc_at _ _ _ _ (by simp)]
    simp [List.getD_eq_getElem?_getD, hj])
  rw [List.take_of_length_le (by omega)] at h
  exact h

def strClass : ByteArray := ⟨#[99, 108, 97, 115, 115]⟩

def hasCls (A : ByteArray → Option ByteArray) (c : ByteArray) : Bool := if c.toList.isEmpty = true then false else inCut ((A strClass).getD ByteArray.empty) c

theorem fieldAtt (v : ByteArray) (w : World) : (Instr.field 95 (.agg #[.string v]) 0).run Tryd.prog w = .ok (.string v) w := by kernel_rfl

set_option maxRecDepth 100000 in
set_option maxHeartbeats 400000 in
theorem hasClass (eb mb : Nat) (t : ByteArray) (A : ByteArray → Option ByteArray) (c : ByteArray) (w : World) (he : w.heap[eb]? = some (.cells #[.string t, .map (some mb)] 98 (0, 0))) (hA : Att w mb A) (hs : ((A strClass).getD ByteArray.empty).size < 4294967281) :
    Calls Tryd.prog 78 #[.pointer (some ⟨eb, 0, none⟩), .string c] w fun e w' => e = .returned (.bool (hasCls A c)) ∧ Below w.heap.size w w' := by
  have hcell : w.cell? ⟨eb, 1, none⟩ = some (.map (some mb)) := cells_of he 1
  have hlk := (hA.lookup (P := Tryd.prog) (mty := 96) Tryd.underlying96 Tryd.underlying9 Tryd.zeroValue95 strClass).1
  have hlk' : (Instr.lookup 96 (.map (some mb)) (.string ⟨#[99, 108, 97, 115, 115]⟩) false).run Tryd.prog w = .ok (.agg #[.string ((A strClass).getD ByteArray.empty)]) w := hlk
  have HC : Hid (hasCls A c = if c.toList.isEmpty = true then false else inCut ((A strClass).getD ByteArray.empty) c) := rfl
  clear hlk hA he
  generalize (A strClass).getD ByteArray.empty = v at *
  have HS : Hid _ := splitC v w hs
  have HN : Hid _ := containsC v c w hs
  have hfd := fieldAtt v
  by_cases hse : c.toList.isEmpty = true
  · have HE : Hid (hasCls A c = false) := by show hasCls A c = false; rw [HC.out, if_pos hse]
    clear HC HS HN
    go_enter Tryd.func78, Tryd.ntmps78
    go_wp2_with fail
    go_ret
    exact ⟨by rw [HE.out]; rfl, Below.refl _ _⟩
  · have HE : Hid (hasCls A c = inCut v c) := by show hasCls A c = inCut v c; rw [HC.out, if_neg hse]
    have hse' : c.toList.isEmpty = false := by simpa using hse
    clear HC hse
    go_enter Tryd.func78, Tryd.ntmps78
    go_wp2_with fail
    refine Calls.mono HS.out ?_
    rintro e w1 ⟨rfl, rfl⟩
    clear HS
    go_wp2_with fail
    refine Calls.mono HN.out ?_
    rintro e w1 ⟨rfl, rfl⟩
    clear HN
    go_wp2_with fail
    go_ret
    exact ⟨by rw [HE.out]; rfl, (Below.refl _ _).alloc (Nat.le_refl _) _⟩
end Go.Proofs.YtcedebpoihcbdaaDoor
