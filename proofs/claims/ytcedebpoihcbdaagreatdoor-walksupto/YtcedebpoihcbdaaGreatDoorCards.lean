/-
  DERIVED. GIVEN WITH THE SEED: THE CARDS: each row of YtcedebpoihcbdaaGreatDoorRows.lean that lists a variable, with what it lists TIED to the program's text (the seventh form; the later family's looks); each row that meets fmt, with fmt's text TOLD by the authors' own Lean function (tested against real Go, not proved from fmt's source: count such statements apart). THE CARD IS WHAT COUNTS. Prove the row's statement (the work); the ties are given (YtcedebpoihcbdaaGreatDoorTie.lean); close each card by the builder's one call (the guide's Derived/Test/ToyasCard.lean, 'card_holds'). Laid BY PROGRAM, IN A SANDBOX (cutbox-door.mjs). By AI agents, Wed Nov 11 2026. No macro, syntax, notation, axiom, sorry.
-/
import Derived.Test.YtcedebpoihcbdaaGreatDoorRows
import GoSem.ClaimSeven
namespace Go.Proofs.YtcedebpoihcbdaaGreatDoor
namespace Rows

/-- THE TIED CARD OF 'grovelaw.Trees'. -/
def treesCard : Claim7 := { stood := { row := treesRow, standIns := [], harness := (true, "5be7e8c104ec15c09f5deb854c5f9474bdb804836a94c3862e3f734fa60e20a2"), looks := true }, kinds := [], alts := [], laidByText := true, laidKinds := [.data, .pinned], laidTests := true, laidLooks := .later }
def TreesCardSaid : Prop := Claim7.holds Tryz.pinned (.plain (OpenSpec.ofChange treesSpec)) treesCard

/-- THE TIED CARD OF 'grovelaw.Lists'. -/
def listsCard : Claim7 := { stood := { row := listsRow, standIns := [], harness := (true, "5be7e8c104ec15c09f5deb854c5f9474bdb804836a94c3862e3f734fa60e20a2"), looks := true }, kinds := [], alts := [], laidByText := true, laidKinds := [.data, .pinned], laidTests := true, laidLooks := .later }
def ListsCardSaid : Prop := Claim7.holds Tryz.pinned (.plain (OpenSpec.ofChange listsSpec)) listsCard

/-- THE TIED CARD OF 'grovelaw.Iters'. -/
def itersCard : Claim7 := { stood := { row := itersRow, standIns := [], harness := (true, "5be7e8c104ec15c09f5deb854c5f9474bdb804836a94c3862e3f734fa60e20a2"), looks := true }, kinds := [], alts := [], laidByText := true, laidKinds := [.data, .pinned], laidTests := true, laidLooks := .later }
def ItersCardSaid : Prop := Claim7.holds Tryz.pinned (.plain (OpenSpec.ofChange itersSpec)) itersCard

/-- THE TIED CARD OF 'grovelaw.Walks'. -/
def walksCard : Claim7 := { stood := { row := walksRow, standIns := [], harness := (true, "5be7e8c104ec15c09f5deb854c5f9474bdb804836a94c3862e3f734fa60e20a2"), looks := true }, kinds := [], alts := [], laidByText := true, laidKinds := [.data, .pinned], laidTests := true, laidLooks := .later }
def WalksCardSaid : Prop := Claim7.holds Tryz.pinned (.plain (OpenSpec.ofChange walksSpec)) walksCard

/-- THE TIED CARD OF 'grovekeep.Unseen'. -/
def unseenCard : Claim7 := { stood := { row := unseenRow, standIns := [], harness := (true, "5be7e8c104ec15c09f5deb854c5f9474bdb804836a94c3862e3f734fa60e20a2"), looks := true }, kinds := [], alts := [], laidByText := true, laidKinds := [.data, .pinned], laidTests := true, laidLooks := .later }
def UnseenCardSaid : Prop := Claim7.holds Tryz.pinned (.plain (OpenSpec.ofChange unseenSpec)) unseenCard

/-- THE SECOND FORM's CARD OF 'grovelaw.Trees'. -/
def treesUptoCard : Claim7 := { stood := { row := treesUptoRow, standIns := [], harness := (true, "5be7e8c104ec15c09f5deb854c5f9474bdb804836a94c3862e3f734fa60e20a2"), looks := true }, kinds := [], alts := [], laidByText := true, laidKinds := [.data, .pinned], laidTests := true, laidLooks := .later }
def TreesUptoCardSaid : Prop := Claim7.holds Tryz.pinned (.plain (OpenSpec.upto treesSpec)) treesUptoCard

/-- THE SECOND FORM's CARD OF 'grovelaw.Lists'. -/
def listsUptoCard : Claim7 := { stood := { row := listsUptoRow, standIns := [], harness := (true, "5be7e8c104ec15c09f5deb854c5f9474bdb804836a94c3862e3f734fa60e20a2"), looks := true }, kinds := [], alts := [], laidByText := true, laidKinds := [.data, .pinned], laidTests := true, laidLooks := .later }
def ListsUptoCardSaid : Prop := Claim7.holds Tryz.pinned (.plain (OpenSpec.upto listsSpec)) listsUptoCard

/-- THE SECOND FORM's CARD OF 'grovelaw.Iters'. -/
def itersUptoCard : Claim7 := { stood := { row := itersUptoRow, standIns := [], harness := (true, "5be7e8c104ec15c09f5deb854c5f9474bdb804836a94c3862e3f734fa60e20a2"), looks := true }, kinds := [], alts := [], laidByText := true, laidKinds := [.data, .pinned], laidTests := true, laidLooks := .later }
def ItersUptoCardSaid : Prop := Claim7.holds Tryz.pinned (.plain (OpenSpec.upto itersSpec)) itersUptoCard

/-- THE SECOND FORM's CARD OF 'grovelaw.Walks'. -/
def walksUptoCard : Claim7 := { stood := { row := walksUptoRow, standIns := [], harness := (true, "5be7e8c104ec15c09f5deb854c5f9474bdb804836a94c3862e3f734fa60e20a2"), looks := true }, kinds := [], alts := [], laidByText := true, laidKinds := [.data, .pinned], laidTests := true, laidLooks := .later }
def WalksUptoCardSaid : Prop := Claim7.holds Tryz.pinned (.plain (OpenSpec.upto walksSpec)) walksUptoCard

/-- THE SECOND FORM's CARD OF 'grovekeep.Unseen'. -/
def unseenUptoCard : Claim7 := { stood := { row := unseenUptoRow, standIns := [], harness := (true, "5be7e8c104ec15c09f5deb854c5f9474bdb804836a94c3862e3f734fa60e20a2"), looks := true }, kinds := [], alts := [], laidByText := true, laidKinds := [.data, .pinned], laidTests := true, laidLooks := .later }
def UnseenUptoCardSaid : Prop := Claim7.holds Tryz.pinned (.plain (OpenSpec.upto unseenSpec)) unseenUptoCard
end Rows
end Go.Proofs.YtcedebpoihcbdaaGreatDoor
