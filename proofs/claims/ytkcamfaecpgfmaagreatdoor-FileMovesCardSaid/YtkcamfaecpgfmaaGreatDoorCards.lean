/-
  DERIVED. GIVEN WITH THE SEED: THE CARDS: each row of YtkcamfaecpgfmaaGreatDoorRows.lean that lists a variable, with what it lists TIED to the program's text (the seventh form; the later family's looks); each row that meets fmt, with fmt's text TOLD by the authors' own Lean function (tested against real Go, not proved from fmt's source: count such statements apart). THE CARD IS WHAT COUNTS. Prove the row's statement (the work); the ties are given (YtkcamfaecpgfmaaGreatDoorTie.lean); close each card by the builder's one call (the guide's Derived/Test/ToyasCard.lean, 'card_holds'). Laid BY PROGRAM, IN A SANDBOX (cutbox-door.mjs). By AI agents, Wed Nov 11 2026. No macro, syntax, notation, axiom, sorry.
-/
import Derived.Test.YtkcamfaecpgfmaaGreatDoorRows
import GoSem.ClaimSeven
namespace Go.Proofs.YtkcamfaecpgfmaaGreatDoor
namespace Rows

/-- THE TIED CARD OF 'archivumlaw07.PlanChecks'. -/
def planChecksCard : Claim7 := { stood := { row := planChecksRow, standIns := [], harness := (true, "bf64569d5dd1fb788bb5076bf69eeae4603c827ac794faed475749ebcaeb6dc5"), looks := true }, kinds := [], alts := [], laidByText := true, laidKinds := [.data, .data, .data, .data, .sentinel, .sentinel, .pinned], laidTests := true, laidLooks := .later }
def PlanChecksCardSaid : Prop := Claim7.holds Tryz.pinned (.plain (OpenSpec.ofChange planChecksSpec)) planChecksCard

/-- THE TIED CARD OF 'archivumlaw07.PlanFollows'. -/
def planFollowsCard : Claim7 := { stood := { row := planFollowsRow, standIns := [], harness := (true, "bf64569d5dd1fb788bb5076bf69eeae4603c827ac794faed475749ebcaeb6dc5"), looks := true }, kinds := [], alts := [], laidByText := true, laidKinds := [.data, .data, .data, .data, .sentinel, .sentinel, .pinned], laidTests := true, laidLooks := .later }
def PlanFollowsCardSaid : Prop := Claim7.holds Tryz.pinned (.plain (OpenSpec.ofChange planFollowsSpec)) planFollowsCard

/-- THE TIED CARD OF 'archivumlaw08.FileClasses'. -/
def fileClassesCard : Claim7 := { stood := { row := fileClassesRow, standIns := [], harness := (true, "bf64569d5dd1fb788bb5076bf69eeae4603c827ac794faed475749ebcaeb6dc5"), looks := true }, kinds := [], alts := [], laidByText := true, laidKinds := [.data, .data, .data, .data, .sentinel, .sentinel, .pinned], laidTests := true, laidLooks := .later }
def FileClassesCardSaid : Prop := Claim7.holds Tryz.pinned (.plain (OpenSpec.ofChange fileClassesSpec)) fileClassesCard

/-- THE TIED CARD OF 'archivumlaw08.FileMoves'. -/
def fileMovesCard : Claim7 := { stood := { row := fileMovesRow, standIns := [], harness := (true, "bf64569d5dd1fb788bb5076bf69eeae4603c827ac794faed475749ebcaeb6dc5"), looks := true }, kinds := [], alts := [], laidByText := true, laidKinds := [.data, .data, .data, .data, .sentinel, .sentinel, .pinned], laidTests := true, laidLooks := .later }
def FileMovesCardSaid : Prop := Claim7.holds Tryz.pinned (.plain (OpenSpec.ofChange fileMovesSpec)) fileMovesCard

/-- THE SECOND FORM's CARD OF 'archivumlaw07.PlanChecks'. -/
def planChecksUptoCard : Claim7 := { stood := { row := planChecksUptoRow, standIns := [], harness := (true, "bf64569d5dd1fb788bb5076bf69eeae4603c827ac794faed475749ebcaeb6dc5"), looks := true }, kinds := [], alts := [], laidByText := true, laidKinds := [.data, .data, .data, .data, .sentinel, .sentinel, .pinned], laidTests := true, laidLooks := .later }
def PlanChecksUptoCardSaid : Prop := Claim7.holds Tryz.pinned (.plain (OpenSpec.upto planChecksSpec)) planChecksUptoCard

/-- THE SECOND FORM's CARD OF 'archivumlaw07.PlanFollows'. -/
def planFollowsUptoCard : Claim7 := { stood := { row := planFollowsUptoRow, standIns := [], harness := (true, "bf64569d5dd1fb788bb5076bf69eeae4603c827ac794faed475749ebcaeb6dc5"), looks := true }, kinds := [], alts := [], laidByText := true, laidKinds := [.data, .data, .data, .data, .sentinel, .sentinel, .pinned], laidTests := true, laidLooks := .later }
def PlanFollowsUptoCardSaid : Prop := Claim7.holds Tryz.pinned (.plain (OpenSpec.upto planFollowsSpec)) planFollowsUptoCard

/-- THE SECOND FORM's CARD OF 'archivumlaw08.FileClasses'. -/
def fileClassesUptoCard : Claim7 := { stood := { row := fileClassesUptoRow, standIns := [], harness := (true, "bf64569d5dd1fb788bb5076bf69eeae4603c827ac794faed475749ebcaeb6dc5"), looks := true }, kinds := [], alts := [], laidByText := true, laidKinds := [.data, .data, .data, .data, .sentinel, .sentinel, .pinned], laidTests := true, laidLooks := .later }
def FileClassesUptoCardSaid : Prop := Claim7.holds Tryz.pinned (.plain (OpenSpec.upto fileClassesSpec)) fileClassesUptoCard

/-- THE SECOND FORM's CARD OF 'archivumlaw08.FileMoves'. -/
def fileMovesUptoCard : Claim7 := { stood := { row := fileMovesUptoRow, standIns := [], harness := (true, "bf64569d5dd1fb788bb5076bf69eeae4603c827ac794faed475749ebcaeb6dc5"), looks := true }, kinds := [], alts := [], laidByText := true, laidKinds := [.data, .data, .data, .data, .sentinel, .sentinel, .pinned], laidTests := true, laidLooks := .later }
def FileMovesUptoCardSaid : Prop := Claim7.holds Tryz.pinned (.plain (OpenSpec.upto fileMovesSpec)) fileMovesUptoCard
end Rows
end Go.Proofs.YtkcamfaecpgfmaaGreatDoor
