/-
  DERIVED. GIVEN WITH THE SEED: THE CARDS: each row of YtjnlbjlejggngaaDoorRows.lean that lists a variable, with what it lists TIED to the program's text (the seventh form; the later family's looks); each row that meets fmt, with fmt's text TOLD by the authors' own Lean function (tested against real Go, not proved from fmt's source: count such statements apart). THE CARD IS WHAT COUNTS. Prove the row's statement (the work); the ties are given (YtjnlbjlejggngaaDoorTie.lean); close each card by the builder's one call (the guide's Derived/Test/ToyasCard.lean, 'card_holds'). Laid BY PROGRAM, IN A SANDBOX (cutbox-door.mjs). By AI agents, Wed Nov 11 2026. No macro, syntax, notation, axiom, sorry.
-/
import Derived.Test.YtjnlbjlejggngaaDoorRows
import GoSem.ClaimSeven
namespace Go.Proofs.YtjnlbjlejggngaaDoor
namespace Rows

/-- THE TIED CARD OF 'archivumlaw07.PlanThrough'. -/
def planThroughCard : Claim7 := { stood := { row := planThroughRow, standIns := [], harness := (true, "805ade9bbbd6bcb5d3bddc9f22c36a90fc34085696a18601d0ecd13c85acafed"), looks := true }, kinds := [], alts := [], laidByText := true, laidKinds := [.data, .data, .data, .data, .sentinel, .sentinel, .pinned], laidTests := true, laidLooks := .later }
def PlanThroughCardSaid : Prop := Claim7.holds Tryd.pinned (.plain (OpenSpec.ofChange planThroughSpec)) planThroughCard

/-- THE TIED CARD OF 'archivumlaw07.PlanTime'. -/
def planTimeCard : Claim7 := { stood := { row := planTimeRow, standIns := [], harness := (true, "805ade9bbbd6bcb5d3bddc9f22c36a90fc34085696a18601d0ecd13c85acafed"), looks := true }, kinds := [], alts := [], laidByText := true, laidKinds := [.data, .data, .data, .data, .sentinel, .sentinel, .pinned], laidTests := true, laidLooks := .later }
def PlanTimeCardSaid : Prop := Claim7.holds Tryd.pinned (.plain (OpenSpec.ofChange planTimeSpec)) planTimeCard

/-- THE SECOND FORM's CARD OF 'archivumlaw07.PlanThrough'. -/
def planThroughUptoCard : Claim7 := { stood := { row := planThroughUptoRow, standIns := [], harness := (true, "805ade9bbbd6bcb5d3bddc9f22c36a90fc34085696a18601d0ecd13c85acafed"), looks := true }, kinds := [], alts := [], laidByText := true, laidKinds := [.data, .data, .data, .data, .sentinel, .sentinel, .pinned], laidTests := true, laidLooks := .later }
def PlanThroughUptoCardSaid : Prop := Claim7.holds Tryd.pinned (.plain (OpenSpec.upto planThroughSpec)) planThroughUptoCard

/-- THE SECOND FORM's CARD OF 'archivumlaw07.PlanTime'. -/
def planTimeUptoCard : Claim7 := { stood := { row := planTimeUptoRow, standIns := [], harness := (true, "805ade9bbbd6bcb5d3bddc9f22c36a90fc34085696a18601d0ecd13c85acafed"), looks := true }, kinds := [], alts := [], laidByText := true, laidKinds := [.data, .data, .data, .data, .sentinel, .sentinel, .pinned], laidTests := true, laidLooks := .later }
def PlanTimeUptoCardSaid : Prop := Claim7.holds Tryd.pinned (.plain (OpenSpec.upto planTimeSpec)) planTimeUptoCard
end Rows
end Go.Proofs.YtjnlbjlejggngaaDoor
