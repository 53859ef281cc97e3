/-
  DERIVED. GIVEN WITH THE SEED: THE CARDS: each row of YtbpoggdinefkeaaDoorRows.lean that lists a variable, with what it lists TIED to the program's text (the seventh form; the later family's looks); each row that meets fmt, with fmt's text TOLD by the authors' own Lean function (tested against real Go, not proved from fmt's source: count such statements apart). THE CARD IS WHAT COUNTS. Prove the row's statement (the work); the ties are given (YtbpoggdinefkeaaDoorTie.lean); close each card by the builder's one call (the guide's Derived/Test/ToyasCard.lean, 'card_holds'). Laid BY PROGRAM, IN A SANDBOX (cutbox-door.mjs). By AI agents, Wed Nov 11 2026. No macro, syntax, notation, axiom, sorry.
-/
import Derived.Test.YtbpoggdinefkeaaDoorRows
import GoSem.ClaimSeven
namespace Go.Proofs.YtbpoggdinefkeaaDoor
namespace Rows

/-- THE TIED CARD OF 'archivumlaw05.CodeReads'. -/
def codeReadsCard : Claim7 := { stood := { row := codeReadsRow, standIns := [], harness := (true, "5585ac0de1e38fc76c382604bd46716503cfda96d5a3b4437f73ea2738781a5e"), looks := true }, kinds := [], alts := [], laidByText := true, laidKinds := [.data, .data, .data, .data, .sentinel, .sentinel, .pinned], laidTests := true, laidLooks := .later }
def CodeReadsCardSaid : Prop := Claim7.holds Tryd.pinned (.plain (OpenSpec.ofChange codeReadsSpec)) codeReadsCard

/-- THE TIED CARD OF 'archivumlaw05.CodeBack'. -/
def codeBackCard : Claim7 := { stood := { row := codeBackRow, standIns := [], harness := (true, "5585ac0de1e38fc76c382604bd46716503cfda96d5a3b4437f73ea2738781a5e"), looks := true }, kinds := [], alts := [], laidByText := true, laidKinds := [.data, .data, .data, .data, .sentinel, .sentinel, .pinned], laidTests := true, laidLooks := .later }
def CodeBackCardSaid : Prop := Claim7.holds Tryd.pinned (.plain (OpenSpec.ofChange codeBackSpec)) codeBackCard

/-- THE TIED CARD OF 'archivumlaw05.CodeTree'. -/
def codeTreeCard : Claim7 := { stood := { row := codeTreeRow, standIns := [], harness := (true, "5585ac0de1e38fc76c382604bd46716503cfda96d5a3b4437f73ea2738781a5e"), looks := true }, kinds := [], alts := [], laidByText := true, laidKinds := [.data, .data, .data, .data, .sentinel, .sentinel, .pinned], laidTests := true, laidLooks := .later }
def CodeTreeCardSaid : Prop := Claim7.holds Tryd.pinned (.plain (OpenSpec.ofChange codeTreeSpec)) codeTreeCard

/-- THE TIED CARD OF 'archivumlaw05.CodeTotal'. -/
def codeTotalCard : Claim7 := { stood := { row := codeTotalRow, standIns := [], harness := (true, "5585ac0de1e38fc76c382604bd46716503cfda96d5a3b4437f73ea2738781a5e"), looks := true }, kinds := [], alts := [], laidByText := true, laidKinds := [.data, .data, .data, .data, .sentinel, .sentinel, .pinned], laidTests := true, laidLooks := .later }
def CodeTotalCardSaid : Prop := Claim7.holds Tryd.pinned (.plain (OpenSpec.ofChange codeTotalSpec)) codeTotalCard

/-- THE TIED CARD OF 'archivumlaw05.CodeFree'. -/
def codeFreeCard : Claim7 := { stood := { row := codeFreeRow, standIns := [], harness := (true, "5585ac0de1e38fc76c382604bd46716503cfda96d5a3b4437f73ea2738781a5e"), looks := true }, kinds := [], alts := [], laidByText := true, laidKinds := [.data, .data, .data, .data, .sentinel, .sentinel, .pinned], laidTests := true, laidLooks := .later }
def CodeFreeCardSaid : Prop := Claim7.holds Tryd.pinned (.plain (OpenSpec.ofChange codeFreeSpec)) codeFreeCard

/-- THE SECOND FORM's CARD OF 'archivumlaw05.CodeReads'. -/
def codeReadsUptoCard : Claim7 := { stood := { row := codeReadsUptoRow, standIns := [], harness := (true, "5585ac0de1e38fc76c382604bd46716503cfda96d5a3b4437f73ea2738781a5e"), looks := true }, kinds := [], alts := [], laidByText := true, laidKinds := [.data, .data, .data, .data, .sentinel, .sentinel, .pinned], laidTests := true, laidLooks := .later }
def CodeReadsUptoCardSaid : Prop := Claim7.holds Tryd.pinned (.plain (OpenSpec.upto codeReadsSpec)) codeReadsUptoCard

/-- THE SECOND FORM's CARD OF 'archivumlaw05.CodeBack'. -/
def codeBackUptoCard : Claim7 := { stood := { row := codeBackUptoRow, standIns := [], harness := (true, "5585ac0de1e38fc76c382604bd46716503cfda96d5a3b4437f73ea2738781a5e"), looks := true }, kinds := [], alts := [], laidByText := true, laidKinds := [.data, .data, .data, .data, .sentinel, .sentinel, .pinned], laidTests := true, laidLooks := .later }
def CodeBackUptoCardSaid : Prop := Claim7.holds Tryd.pinned (.plain (OpenSpec.upto codeBackSpec)) codeBackUptoCard

/-- THE SECOND FORM's CARD OF 'archivumlaw05.CodeTree'. -/
def codeTreeUptoCard : Claim7 := { stood := { row := codeTreeUptoRow, standIns := [], harness := (true, "5585ac0de1e38fc76c382604bd46716503cfda96d5a3b4437f73ea2738781a5e"), looks := true }, kinds := [], alts := [], laidByText := true, laidKinds := [.data, .data, .data, .data, .sentinel, .sentinel, .pinned], laidTests := true, laidLooks := .later }
def CodeTreeUptoCardSaid : Prop := Claim7.holds Tryd.pinned (.plain (OpenSpec.upto codeTreeSpec)) codeTreeUptoCard

/-- THE SECOND FORM's CARD OF 'archivumlaw05.CodeTotal'. -/
def codeTotalUptoCard : Claim7 := { stood := { row := codeTotalUptoRow, standIns := [], harness := (true, "5585ac0de1e38fc76c382604bd46716503cfda96d5a3b4437f73ea2738781a5e"), looks := true }, kinds := [], alts := [], laidByText := true, laidKinds := [.data, .data, .data, .data, .sentinel, .sentinel, .pinned], laidTests := true, laidLooks := .later }
def CodeTotalUptoCardSaid : Prop := Claim7.holds Tryd.pinned (.plain (OpenSpec.upto codeTotalSpec)) codeTotalUptoCard

/-- THE SECOND FORM's CARD OF 'archivumlaw05.CodeFree'. -/
def codeFreeUptoCard : Claim7 := { stood := { row := codeFreeUptoRow, standIns := [], harness := (true, "5585ac0de1e38fc76c382604bd46716503cfda96d5a3b4437f73ea2738781a5e"), looks := true }, kinds := [], alts := [], laidByText := true, laidKinds := [.data, .data, .data, .data, .sentinel, .sentinel, .pinned], laidTests := true, laidLooks := .later }
def CodeFreeUptoCardSaid : Prop := Claim7.holds Tryd.pinned (.plain (OpenSpec.upto codeFreeSpec)) codeFreeUptoCard
end Rows
end Go.Proofs.YtbpoggdinefkeaaDoor
