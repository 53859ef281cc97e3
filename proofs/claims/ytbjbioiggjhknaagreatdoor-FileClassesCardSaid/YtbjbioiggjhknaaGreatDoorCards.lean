/-
  DERIVED. GIVEN WITH THE SEED: THE CARDS: each row of YtbjbioiggjhknaaGreatDoorRows.lean that lists a variable, with what it lists TIED to the program's text (the seventh form; the later family's looks); each row that meets fmt, with fmt's text TOLD by the authors' own Lean function (tested against real Go, not proved from fmt's source: count such statements apart). THE CARD IS WHAT COUNTS. Prove the row's statement (the work); the ties are given (YtbjbioiggjhknaaGreatDoorTie.lean); close each card by the builder's one call (the guide's Derived/Test/ToyasCard.lean, 'card_holds'). Laid BY PROGRAM, IN A SANDBOX (cutbox-door.mjs). By AI agents, Wed Nov 11 2026. No macro, syntax, notation, axiom, sorry.
-/
import Derived.Test.YtbjbioiggjhknaaGreatDoorRows
import GoSem.ClaimSeven
namespace Go.Proofs.YtbjbioiggjhknaaGreatDoor
namespace Rows

/-- THE TIED CARD OF 'archivumlaw07.PlanChecks'. -/
def planChecksCard : Claim7 := { stood := { row := planChecksRow, standIns := [], harness := (true, "ecc1f69437661388f6aea453479fc7f98a24f547cf7dcfc3ea6f896b930c8b95"), looks := true }, kinds := [], alts := [], laidByText := true, laidKinds := [.data, .data, .data, .data, .sentinel, .sentinel, .pinned], laidTests := true, laidLooks := .later }
def PlanChecksCardSaid : Prop := Claim7.holds Tryz.pinned (.plain (OpenSpec.ofChange planChecksSpec)) planChecksCard

/-- THE TIED CARD OF 'archivumlaw07.PlanFollows'. -/
def planFollowsCard : Claim7 := { stood := { row := planFollowsRow, standIns := [], harness := (true, "ecc1f69437661388f6aea453479fc7f98a24f547cf7dcfc3ea6f896b930c8b95"), looks := true }, kinds := [], alts := [], laidByText := true, laidKinds := [.data, .data, .data, .data, .sentinel, .sentinel, .pinned], laidTests := true, laidLooks := .later }
def PlanFollowsCardSaid : Prop := Claim7.holds Tryz.pinned (.plain (OpenSpec.ofChange planFollowsSpec)) planFollowsCard

/-- THE TIED CARD OF 'archivumlaw08.FileClasses'. -/
def fileClassesCard : Claim7 := { stood := { row := fileClassesRow, standIns := [], harness := (true, "ecc1f69437661388f6aea453479fc7f98a24f547cf7dcfc3ea6f896b930c8b95"), looks := true }, kinds := [], alts := [], laidByText := true, laidKinds := [.data, .data, .data, .data, .sentinel, .sentinel, .pinned], laidTests := true, laidLooks := .later }
def FileClassesCardSaid : Prop := Claim7.holds Tryz.pinned (.plain (OpenSpec.ofChange fileClassesSpec)) fileClassesCard

/-- THE SECOND FORM's CARD OF 'archivumlaw07.PlanChecks'. -/
def planChecksUptoCard : Claim7 := { stood := { row := planChecksUptoRow, standIns := [], harness := (true, "ecc1f69437661388f6aea453479fc7f98a24f547cf7dcfc3ea6f896b930c8b95"), looks := true }, kinds := [], alts := [], laidByText := true, laidKinds := [.data, .data, .data, .data, .sentinel, .sentinel, .pinned], laidTests := true, laidLooks := .later }
def PlanChecksUptoCardSaid : Prop := Claim7.holds Tryz.pinned (.plain (OpenSpec.upto planChecksSpec)) planChecksUptoCard

/-- THE SECOND FORM's CARD OF 'archivumlaw07.PlanFollows'. -/
def planFollowsUptoCard : Claim7 := { stood := { row := planFollowsUptoRow, standIns := [], harness := (true, "ecc1f69437661388f6aea453479fc7f98a24f547cf7dcfc3ea6f896b930c8b95"), looks := true }, kinds := [], alts := [], laidByText := true, laidKinds := [.data, .data, .data, .data, .sentinel, .sentinel, .pinned], laidTests := true, laidLooks := .later }
def PlanFollowsUptoCardSaid : Prop := Claim7.holds Tryz.pinned (.plain (OpenSpec.upto planFollowsSpec)) planFollowsUptoCard

/-- THE SECOND FORM's CARD OF 'archivumlaw08.FileClasses'. -/
def fileClassesUptoCard : Claim7 := { stood := { row := fileClassesUptoRow, standIns := [], harness := (true, "ecc1f69437661388f6aea453479fc7f98a24f547cf7dcfc3ea6f896b930c8b95"), looks := true }, kinds := [], alts := [], laidByText := true, laidKinds := [.data, .data, .data, .data, .sentinel, .sentinel, .pinned], laidTests := true, laidLooks := .later }
def FileClassesUptoCardSaid : Prop := Claim7.holds Tryz.pinned (.plain (OpenSpec.upto fileClassesSpec)) fileClassesUptoCard
end Rows
end Go.Proofs.YtbjbioiggjhknaaGreatDoor
