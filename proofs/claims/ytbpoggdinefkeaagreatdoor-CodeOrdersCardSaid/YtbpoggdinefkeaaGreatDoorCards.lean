/-
  DERIVED. GIVEN WITH THE SEED: THE CARDS: each row of YtbpoggdinefkeaaGreatDoorRows.lean that lists a variable, with what it lists TIED to the program's text (the seventh form; the later family's looks); each row that meets fmt, with fmt's text TOLD by the authors' own Lean function (tested against real Go, not proved from fmt's source: count such statements apart). THE CARD IS WHAT COUNTS. Prove the row's statement (the work); the ties are given (YtbpoggdinefkeaaGreatDoorTie.lean); close each card by the builder's one call (the guide's Derived/Test/ToyasCard.lean, 'card_holds'). Laid BY PROGRAM, IN A SANDBOX (cutbox-door.mjs). By AI agents, Wed Nov 11 2026. No macro, syntax, notation, axiom, sorry.
-/
import Derived.Test.YtbpoggdinefkeaaGreatDoorRows
import GoSem.ClaimSeven
namespace Go.Proofs.YtbpoggdinefkeaaGreatDoor
namespace Rows

/-- THE TIED CARD OF 'archivumlaw05.CodeOrders'. -/
def codeOrdersCard : Claim7 := { stood := { row := codeOrdersRow, standIns := [], harness := (true, "0f45df184706ecf52932bfd233f427d6f2d69890488578ac90eb3f19d6a41dd0"), looks := true }, kinds := [], alts := [], laidByText := true, laidKinds := [.data, .data, .data, .data, .sentinel, .sentinel, .pinned], laidTests := true, laidLooks := .later }
def CodeOrdersCardSaid : Prop := Claim7.holds Tryz.pinned (.plain (OpenSpec.ofChange codeOrdersSpec)) codeOrdersCard

/-- THE TIED CARD OF 'archivumlaw05.CodeNames'. -/
def codeNamesCard : Claim7 := { stood := { row := codeNamesRow, standIns := [], harness := (true, "0f45df184706ecf52932bfd233f427d6f2d69890488578ac90eb3f19d6a41dd0"), looks := true }, kinds := [], alts := [], laidByText := true, laidKinds := [.data, .data, .data, .data, .sentinel, .sentinel, .pinned], laidTests := true, laidLooks := .later }
def CodeNamesCardSaid : Prop := Claim7.holds Tryz.pinned (.plain (OpenSpec.ofChange codeNamesSpec)) codeNamesCard

/-- THE TIED CARD OF 'archivumlaw05.CodeNatural'. -/
def codeNaturalCard : Claim7 := { stood := { row := codeNaturalRow, standIns := [], harness := (true, "0f45df184706ecf52932bfd233f427d6f2d69890488578ac90eb3f19d6a41dd0"), looks := true }, kinds := [], alts := [], laidByText := true, laidKinds := [.data, .data, .data, .data, .sentinel, .sentinel, .pinned], laidTests := true, laidLooks := .later }
def CodeNaturalCardSaid : Prop := Claim7.holds Tryz.pinned (.plain (OpenSpec.ofChange codeNaturalSpec)) codeNaturalCard

/-- THE SECOND FORM's CARD OF 'archivumlaw05.CodeOrders'. -/
def codeOrdersUptoCard : Claim7 := { stood := { row := codeOrdersUptoRow, standIns := [], harness := (true, "0f45df184706ecf52932bfd233f427d6f2d69890488578ac90eb3f19d6a41dd0"), looks := true }, kinds := [], alts := [], laidByText := true, laidKinds := [.data, .data, .data, .data, .sentinel, .sentinel, .pinned], laidTests := true, laidLooks := .later }
def CodeOrdersUptoCardSaid : Prop := Claim7.holds Tryz.pinned (.plain (OpenSpec.upto codeOrdersSpec)) codeOrdersUptoCard

/-- THE SECOND FORM's CARD OF 'archivumlaw05.CodeNames'. -/
def codeNamesUptoCard : Claim7 := { stood := { row := codeNamesUptoRow, standIns := [], harness := (true, "0f45df184706ecf52932bfd233f427d6f2d69890488578ac90eb3f19d6a41dd0"), looks := true }, kinds := [], alts := [], laidByText := true, laidKinds := [.data, .data, .data, .data, .sentinel, .sentinel, .pinned], laidTests := true, laidLooks := .later }
def CodeNamesUptoCardSaid : Prop := Claim7.holds Tryz.pinned (.plain (OpenSpec.upto codeNamesSpec)) codeNamesUptoCard

/-- THE SECOND FORM's CARD OF 'archivumlaw05.CodeNatural'. -/
def codeNaturalUptoCard : Claim7 := { stood := { row := codeNaturalUptoRow, standIns := [], harness := (true, "0f45df184706ecf52932bfd233f427d6f2d69890488578ac90eb3f19d6a41dd0"), looks := true }, kinds := [], alts := [], laidByText := true, laidKinds := [.data, .data, .data, .data, .sentinel, .sentinel, .pinned], laidTests := true, laidLooks := .later }
def CodeNaturalUptoCardSaid : Prop := Claim7.holds Tryz.pinned (.plain (OpenSpec.upto codeNaturalSpec)) codeNaturalUptoCard
end Rows
end Go.Proofs.YtbpoggdinefkeaaGreatDoor
