/-
  DERIVED. GIVEN WITH THE SEED: THE CARDS: each row of YtbjbioiggjhknaaDoorRows.lean that lists a variable, with what it lists TIED to the program's text (the seventh form; the later family's looks); each row that meets fmt, with fmt's text TOLD by the authors' own Lean function (tested against real Go, not proved from fmt's source: count such statements apart). THE CARD IS WHAT COUNTS. Prove the row's statement (the work); the ties are given (YtbjbioiggjhknaaDoorTie.lean); close each card by the builder's one call (the guide's Derived/Test/ToyasCard.lean, 'card_holds'). Laid BY PROGRAM, IN A SANDBOX (cutbox-door.mjs). By AI agents, Wed Nov 11 2026. No macro, syntax, notation, axiom, sorry.
-/
import Derived.Test.YtbjbioiggjhknaaDoorRows
import GoSem.ClaimSeven
namespace Go.Proofs.YtbjbioiggjhknaaDoor
namespace Rows

/-- THE TIED CARD OF 'archivumlaw07.PlanOnce'. -/
def planOnceCard : Claim7 := { stood := { row := planOnceRow, standIns := [], harness := (true, "2a984d467a553124131e0f87ff62d4649f814989eb44197dcc2025152144ab1d"), looks := true }, kinds := [], alts := [], laidByText := true, laidKinds := [.data, .data, .data, .data, .sentinel, .sentinel, .pinned], laidTests := true, laidLooks := .later }
def PlanOnceCardSaid : Prop := Claim7.holds Tryd.pinned (.plain (OpenSpec.ofChange planOnceSpec)) planOnceCard

/-- THE SECOND FORM's CARD OF 'archivumlaw07.PlanOnce'. -/
def planOnceUptoCard : Claim7 := { stood := { row := planOnceUptoRow, standIns := [], harness := (true, "2a984d467a553124131e0f87ff62d4649f814989eb44197dcc2025152144ab1d"), looks := true }, kinds := [], alts := [], laidByText := true, laidKinds := [.data, .data, .data, .data, .sentinel, .sentinel, .pinned], laidTests := true, laidLooks := .later }
def PlanOnceUptoCardSaid : Prop := Claim7.holds Tryd.pinned (.plain (OpenSpec.upto planOnceSpec)) planOnceUptoCard
end Rows
end Go.Proofs.YtbjbioiggjhknaaDoor
