/-
  The library's functions that the element's classes are told by: laid at this dump.
-/
import Derived.Test.YtcedebpoihcbdaaDoorChecked
import Derived.Ground.NamesProg
import Derived.Shelf.Lay
import Derived.Shelf.Strings.SplitCore
import Derived.Shelf.Strings.Search3
import Derived.Shelf.Strings.Count
import Derived.Shelf.Slices.Turned
import Derived.Lib.SplitLaws
namespace Go.Proofs
open Go.Shelf

shelf_lay Lays.n221 Nm 221 at Tryd as Tryd.lays221
shelf_lay Lays.n146 Nm 146 at Tryd as Tryd.lays146
shelf_lay Lays.n110 Nm 110 at Tryd as Tryd.lays110
shelf_lay Lays.n144 Nm 144 at Tryd as Tryd.lays144

theorem Tryd.hi221 : (Tryd.prog.info? (Tryd.lays221_ren.t 9)).map (fun i => (i.zero, i.size, i.bytes)) = some (some (.string ByteArray.empty), 1, 16) := by kernel_rfl


theorem Tryd.num221 : Tryd.lays221_ren.f 221 = 84 ∧ Tryd.lays221_ren.t 9 = 9 ∧ Tryd.lays110_ren.f 110 = 81 ∧ Tryd.lays144_ren.f 144 = 48 := by decide
end Go.Proofs
