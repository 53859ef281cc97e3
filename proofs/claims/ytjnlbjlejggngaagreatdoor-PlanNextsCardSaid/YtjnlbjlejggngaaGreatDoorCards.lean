/-
  DERIVED. GIVEN WITH THE SEED: THE CARDS: each row of YtjnlbjlejggngaaGreatDoorRows.lean that lists a variable, with what it lists TIED to the program's text (the seventh form; the later family's looks); each row that meets fmt, with fmt's text TOLD by the authors' own Lean function (tested against real Go, not proved from fmt's source: count such statements apart). THE CARD IS WHAT COUNTS. Prove the row's statement (the work); the ties are given (YtjnlbjlejggngaaGreatDoorTie.lean); close each card by the builder's one call (the guide's Derived/Test/ToyasCard.lean, 'card_holds'). Laid BY PROGRAM, IN A SANDBOX (cutbox-door.mjs). By AI agents, Wed Nov 11 2026. No macro, syntax, notation, axiom, sorry.
-/
import Derived.Test.YtjnlbjlejggngaaGreatDoorRows
import GoSem.ClaimSeven
namespace Go.Proofs.YtjnlbjlejggngaaGreatDoor
namespace Rows

/-- THE TIED CARD OF 'archivumlaw07.PlanNexts'. -/
def planNextsCard : Claim7 := { stood := { row := planNextsRow, standIns := [], harness := (true, "c80df58f0cb825ccc474b2251b69f38e8d8aabfc275a480989717639d46b41a4"), looks := true }, kinds := [], alts := [], laidByText := true, laidKinds := [.data, .data, .data, .data, .sentinel, .sentinel, .pinned], laidTests := true, laidLooks := .later }
def PlanNextsCardSaid : Prop := Claim7.holds Tryz.pinned (.plain (OpenSpec.ofChange planNextsSpec)) planNextsCard

/-- THE TIED CARD OF 'archivumlaw07.PlanKeeps'. -/
def planKeepsCard : Claim7 := { stood := { row := planKeepsRow, standIns := [], harness := (true, "c80df58f0cb825ccc474b2251b69f38e8d8aabfc275a480989717639d46b41a4"), looks := true }, kinds := [], alts := [], laidByText := true, laidKinds := [.data, .data, .data, .data, .sentinel, .sentinel, .pinned], laidTests := true, laidLooks := .later }
def PlanKeepsCardSaid : Prop := Claim7.holds Tryz.pinned (.plain (OpenSpec.ofChange planKeepsSpec)) planKeepsCard

/-- THE TIED CARD OF 'archivumlaw08.FileTriggers'. -/
def fileTriggersCard : Claim7 := { stood := { row := fileTriggersRow, standIns := [], harness := (true, "c80df58f0cb825ccc474b2251b69f38e8d8aabfc275a480989717639d46b41a4"), looks := true }, kinds := [], alts := [], laidByText := true, laidKinds := [.data, .data, .data, .data, .sentinel, .sentinel, .pinned], laidTests := true, laidLooks := .later }
def FileTriggersCardSaid : Prop := Claim7.holds Tryz.pinned (.plain (OpenSpec.ofChange fileTriggersSpec)) fileTriggersCard

/-- THE TIED CARD OF 'archivumlaw08.FileLearns'. -/
def fileLearnsCard : Claim7 := { stood := { row := fileLearnsRow, standIns := [], harness := (true, "c80df58f0cb825ccc474b2251b69f38e8d8aabfc275a480989717639d46b41a4"), looks := true }, kinds := [], alts := [], laidByText := true, laidKinds := [.data, .data, .data, .data, .sentinel, .sentinel, .pinned], laidTests := true, laidLooks := .later }
def FileLearnsCardSaid : Prop := Claim7.holds Tryz.pinned (.plain (OpenSpec.ofChange fileLearnsSpec)) fileLearnsCard

/-- THE TIED CARD OF 'archivumlaw08.FileLatest'. -/
def fileLatestCard : Claim7 := { stood := { row := fileLatestRow, standIns := [], harness := (true, "c80df58f0cb825ccc474b2251b69f38e8d8aabfc275a480989717639d46b41a4"), looks := true }, kinds := [], alts := [], laidByText := true, laidKinds := [.data, .data, .data, .data, .sentinel, .sentinel, .pinned], laidTests := true, laidLooks := .later }
def FileLatestCardSaid : Prop := Claim7.holds Tryz.pinned (.plain (OpenSpec.ofChange fileLatestSpec)) fileLatestCard

/-- THE SECOND FORM's CARD OF 'archivumlaw07.PlanNexts'. -/
def planNextsUptoCard : Claim7 := { stood := { row := planNextsUptoRow, standIns := [], harness := (true, "c80df58f0cb825ccc474b2251b69f38e8d8aabfc275a480989717639d46b41a4"), looks := true }, kinds := [], alts := [], laidByText := true, laidKinds := [.data, .data, .data, .data, .sentinel, .sentinel, .pinned], laidTests := true, laidLooks := .later }
def PlanNextsUptoCardSaid : Prop := Claim7.holds Tryz.pinned (.plain (OpenSpec.upto planNextsSpec)) planNextsUptoCard

/-- THE SECOND FORM's CARD OF 'archivumlaw07.PlanKeeps'. -/
def planKeepsUptoCard : Claim7 := { stood := { row := planKeepsUptoRow, standIns := [], harness := (true, "c80df58f0cb825ccc474b2251b69f38e8d8aabfc275a480989717639d46b41a4"), looks := true }, kinds := [], alts := [], laidByText := true, laidKinds := [.data, .data, .data, .data, .sentinel, .sentinel, .pinned], laidTests := true, laidLooks := .later }
def PlanKeepsUptoCardSaid : Prop := Claim7.holds Tryz.pinned (.plain (OpenSpec.upto planKeepsSpec)) planKeepsUptoCard

/-- THE SECOND FORM's CARD OF 'archivumlaw08.FileTriggers'. -/
def fileTriggersUptoCard : Claim7 := { stood := { row := fileTriggersUptoRow, standIns := [], harness := (true, "c80df58f0cb825ccc474b2251b69f38e8d8aabfc275a480989717639d46b41a4"), looks := true }, kinds := [], alts := [], laidByText := true, laidKinds := [.data, .data, .data, .data, .sentinel, .sentinel, .pinned], laidTests := true, laidLooks := .later }
def FileTriggersUptoCardSaid : Prop := Claim7.holds Tryz.pinned (.plain (OpenSpec.upto fileTriggersSpec)) fileTriggersUptoCard

/-- THE SECOND FORM's CARD OF 'archivumlaw08.FileLearns'. -/
def fileLearnsUptoCard : Claim7 := { stood := { row := fileLearnsUptoRow, standIns := [], harness := (true, "c80df58f0cb825ccc474b2251b69f38e8d8aabfc275a480989717639d46b41a4"), looks := true }, kinds := [], alts := [], laidByText := true, laidKinds := [.data, .data, .data, .data, .sentinel, .sentinel, .pinned], laidTests := true, laidLooks := .later }
def FileLearnsUptoCardSaid : Prop := Claim7.holds Tryz.pinned (.plain (OpenSpec.upto fileLearnsSpec)) fileLearnsUptoCard

/-- THE SECOND FORM's CARD OF 'archivumlaw08.FileLatest'. -/
def fileLatestUptoCard : Claim7 := { stood := { row := fileLatestUptoRow, standIns := [], harness := (true, "c80df58f0cb825ccc474b2251b69f38e8d8aabfc275a480989717639d46b41a4"), looks := true }, kinds := [], alts := [], laidByText := true, laidKinds := [.data, .data, .data, .data, .sentinel, .sentinel, .pinned], laidTests := true, laidLooks := .later }
def FileLatestUptoCardSaid : Prop := Claim7.holds Tryz.pinned (.plain (OpenSpec.upto fileLatestSpec)) fileLatestUptoCard
end Rows
end Go.Proofs.YtjnlbjlejggngaaGreatDoor
