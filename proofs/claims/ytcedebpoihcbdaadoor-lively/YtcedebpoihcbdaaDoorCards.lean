/-
  DERIVED. GIVEN WITH THE SEED: THE CARDS: each row of YtcedebpoihcbdaaDoorRows.lean that lists a variable, with what it lists TIED to the program's text (the seventh form; the later family's looks); each row that meets fmt, with fmt's text TOLD by the authors' own Lean function (tested against real Go, not proved from fmt's source: count such statements apart). THE CARD IS WHAT COUNTS. Prove the row's statement (the work); the ties are given (YtcedebpoihcbdaaDoorTie.lean); close each card by the builder's one call (the guide's Derived/Test/ToyasCard.lean, 'card_holds'). Laid BY PROGRAM, IN A SANDBOX (cutbox-door.mjs). By AI agents, Wed Nov 11 2026. No macro, syntax, notation, axiom, sorry.
-/
import Derived.Test.YtcedebpoihcbdaaDoorRows
import GoSem.ClaimSeven
namespace Go.Proofs.YtcedebpoihcbdaaDoor
namespace Rows

/-- THE TIED CARD OF 'grovekeep.Lively'. -/
def livelyCard : Claim7 := { stood := { row := livelyRow, standIns := [], harness := (true, "2fe451bfdde03c687c7ef8a1d21b286d309938b03a6dc23403c893a9bc127aae"), looks := true }, kinds := [], alts := [], laidByText := true, laidKinds := [.data, .pinned], laidTests := true, laidLooks := .later }
def LivelyCardSaid : Prop := Claim7.holds Tryd.pinned (.plain (OpenSpec.ofChange livelySpec)) livelyCard

/-- THE SECOND FORM's CARD OF 'grovekeep.Lively'. -/
def livelyUptoCard : Claim7 := { stood := { row := livelyUptoRow, standIns := [], harness := (true, "2fe451bfdde03c687c7ef8a1d21b286d309938b03a6dc23403c893a9bc127aae"), looks := true }, kinds := [], alts := [], laidByText := true, laidKinds := [.data, .pinned], laidTests := true, laidLooks := .later }
def LivelyUptoCardSaid : Prop := Claim7.holds Tryd.pinned (.plain (OpenSpec.upto livelySpec)) livelyUptoCard
end Rows
end Go.Proofs.YtcedebpoihcbdaaDoor
