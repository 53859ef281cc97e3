/-
  No cell of these rows narrows 'for every input' (looked for: loops, veiled, ifaces, maps, wideKeys, modest, calm, conditions, laid).
  DERIVED. THE GIVEN ROWS OF THIS SEAT. 7 by the template 'for every input the law returns true; each argument reads behind the call as it read before'; 0 by the template 'total and deterministic' (their statements: YtcgjhbjbfdbfaaaTotals.lean).
  GIVEN WITH THE SEED: the statements are not yours to turn. If you find one false, say at which input.
  Laid BY PROGRAM, IN A SANDBOX (cutbox-rows.mjs): the forced cells as the released guide's own fill.sh prints them over the translation 62ac9dff875885f3… (all of the seat's roots in one cut). By AI agents, Wed Nov 11 2026. No macro, syntax, notation, axiom, sorry.
-/
import Derived.Test.YtcgjhbjbfdbfaaaChecked
import GoSem.Claim
import GoSem.ClaimJoined
import GoSem.ClaimMapViews
import Derived.JoinedTies
import Derived.KernelRfl
namespace Go.Proofs.Ytcgjhbjbfdbfaaa
/- THE CELL 'sum', in the pinned program and in every row, IS THE sha256 OF THE DUMP (.gsa) THAT YtcgjhbjbfdbfaaaProg.lean LOADS. Nothing in Lean hashes anything: it is a label: what it is worth is what the hold of that sum in a sandbox is worth. -/
noncomputable def Try.pinned : Pinned := { name := "ytcgjhbjbfdbfaaa", sum := "62ac9dff875885f3b7dab96d719263b2f8347fd85aefe19a482792e4944af52e", checked := Try.checked }
namespace Rows
def none {H : Type} : Left H := { results := [], args := [] }

/-- 'archivumlaw04.TimelineLooks': WHATEVER THE INPUT: true; the input reads as it did. -/
def timelineLooksSpec : ChangeSpec := { name := "timelineLooks", fn := fun _ => fun
  | [d1, d2, d3, d4] => { results := [.lit (.bool true)], args := [d1, d2, d3, d4] }
  | _ => none }
def timelineLooksRow : OpenClaim := { program := "ytcgjhbjbfdbfaaa", sum := "62ac9dff875885f3b7dab96d719263b2f8347fd85aefe19a482792e4944af52e", func := "archivum/archivumlaw04.TimelineLooks", spec := "timelineLooks", inPlace := ["slices.overlaps[archivum/api.Piece]"], unfollowed := true, recurses := true, apart := false }
def TimelineLooksSaid : Prop := timelineLooksRow.holds Try.pinned (OpenSpec.ofChange timelineLooksSpec)

/-- ITS FALSE NEIGHBOUR: 'it returns false'. Refute it at one input. -/
def timelineLooksWrong : ChangeSpec := { name := "timelineLooks", fn := fun _ => fun
  | [d1, d2, d3, d4] => { results := [.lit (.bool false)], args := [d1, d2, d3, d4] }
  | _ => none }
def TimelineLooksWrongFalsely : Prop := timelineLooksRow.holds Try.pinned (OpenSpec.ofChange timelineLooksWrong)

/-- 'archivumlaw04.TimelineSets': WHATEVER THE INPUT: true; the input reads as it did. -/
def timelineSetsSpec : ChangeSpec := { name := "timelineSets", fn := fun _ => fun
  | [d1, d2, d3] => { results := [.lit (.bool true)], args := [d1, d2, d3] }
  | _ => none }
def timelineSetsRow : OpenClaim := { program := "ytcgjhbjbfdbfaaa", sum := "62ac9dff875885f3b7dab96d719263b2f8347fd85aefe19a482792e4944af52e", func := "archivum/archivumlaw04.TimelineSets", spec := "timelineSets", inPlace := ["slices.overlaps[archivum/api.Piece]"], unfollowed := true, recurses := true, apart := false }
def TimelineSetsSaid : Prop := timelineSetsRow.holds Try.pinned (OpenSpec.ofChange timelineSetsSpec)

/-- ITS FALSE NEIGHBOUR: 'it returns false'. Refute it at one input. -/
def timelineSetsWrong : ChangeSpec := { name := "timelineSets", fn := fun _ => fun
  | [d1, d2, d3] => { results := [.lit (.bool false)], args := [d1, d2, d3] }
  | _ => none }
def TimelineSetsWrongFalsely : Prop := timelineSetsRow.holds Try.pinned (OpenSpec.ofChange timelineSetsWrong)

/-- 'archivumlaw04.TimelineJoins': WHATEVER THE INPUT: true; the input reads as it did. -/
def timelineJoinsSpec : ChangeSpec := { name := "timelineJoins", fn := fun _ => fun
  | [d1, d2] => { results := [.lit (.bool true)], args := [d1, d2] }
  | _ => none }
def timelineJoinsRow : OpenClaim := { program := "ytcgjhbjbfdbfaaa", sum := "62ac9dff875885f3b7dab96d719263b2f8347fd85aefe19a482792e4944af52e", func := "archivum/archivumlaw04.TimelineJoins", spec := "timelineJoins", inPlace := ["slices.overlaps[archivum/api.Piece]"], unfollowed := true, recurses := true, apart := false }
def TimelineJoinsSaid : Prop := timelineJoinsRow.holds Try.pinned (OpenSpec.ofChange timelineJoinsSpec)

/-- ITS FALSE NEIGHBOUR: 'it returns false'. Refute it at one input. -/
def timelineJoinsWrong : ChangeSpec := { name := "timelineJoins", fn := fun _ => fun
  | [d1, d2] => { results := [.lit (.bool false)], args := [d1, d2] }
  | _ => none }
def TimelineJoinsWrongFalsely : Prop := timelineJoinsRow.holds Try.pinned (OpenSpec.ofChange timelineJoinsWrong)

/-- 'archivumlaw04.TimelineKeeps': WHATEVER THE INPUT: true; the input reads as it did. -/
def timelineKeepsSpec : ChangeSpec := { name := "timelineKeeps", fn := fun _ => fun
  | [d1, d2, d3, d4] => { results := [.lit (.bool true)], args := [d1, d2, d3, d4] }
  | _ => none }
def timelineKeepsRow : OpenClaim := { program := "ytcgjhbjbfdbfaaa", sum := "62ac9dff875885f3b7dab96d719263b2f8347fd85aefe19a482792e4944af52e", func := "archivum/archivumlaw04.TimelineKeeps", spec := "timelineKeeps", inPlace := ["slices.overlaps[archivum/api.Piece]"], unfollowed := true, recurses := true, apart := false }
def TimelineKeepsSaid : Prop := timelineKeepsRow.holds Try.pinned (OpenSpec.ofChange timelineKeepsSpec)

/-- ITS FALSE NEIGHBOUR: 'it returns false'. Refute it at one input. -/
def timelineKeepsWrong : ChangeSpec := { name := "timelineKeeps", fn := fun _ => fun
  | [d1, d2, d3, d4] => { results := [.lit (.bool false)], args := [d1, d2, d3, d4] }
  | _ => none }
def TimelineKeepsWrongFalsely : Prop := timelineKeepsRow.holds Try.pinned (OpenSpec.ofChange timelineKeepsWrong)

/-- 'archivumlaw04.TimelineTwice': WHATEVER THE INPUT: true; the input reads as it did. -/
def timelineTwiceSpec : ChangeSpec := { name := "timelineTwice", fn := fun _ => fun
  | [d1, d2, d3, d4] => { results := [.lit (.bool true)], args := [d1, d2, d3, d4] }
  | _ => none }
def timelineTwiceRow : OpenClaim := { program := "ytcgjhbjbfdbfaaa", sum := "62ac9dff875885f3b7dab96d719263b2f8347fd85aefe19a482792e4944af52e", func := "archivum/archivumlaw04.TimelineTwice", spec := "timelineTwice", inPlace := ["slices.overlaps[archivum/api.Piece]"], unfollowed := true, recurses := true, apart := false }
def TimelineTwiceSaid : Prop := timelineTwiceRow.holds Try.pinned (OpenSpec.ofChange timelineTwiceSpec)

/-- ITS FALSE NEIGHBOUR: 'it returns false'. Refute it at one input. -/
def timelineTwiceWrong : ChangeSpec := { name := "timelineTwice", fn := fun _ => fun
  | [d1, d2, d3, d4] => { results := [.lit (.bool false)], args := [d1, d2, d3, d4] }
  | _ => none }
def TimelineTwiceWrongFalsely : Prop := timelineTwiceRow.holds Try.pinned (OpenSpec.ofChange timelineTwiceWrong)

/-- 'archivumlaw04.TimelineDiffers': WHATEVER THE INPUT: true; the input reads as it did. -/
def timelineDiffersSpec : ChangeSpec := { name := "timelineDiffers", fn := fun _ => fun
  | [d1, d2, d3] => { results := [.lit (.bool true)], args := [d1, d2, d3] }
  | _ => none }
def timelineDiffersRow : OpenClaim := { program := "ytcgjhbjbfdbfaaa", sum := "62ac9dff875885f3b7dab96d719263b2f8347fd85aefe19a482792e4944af52e", func := "archivum/archivumlaw04.TimelineDiffers", spec := "timelineDiffers", inPlace := ["slices.overlaps[archivum/api.Piece]"], unfollowed := true, recurses := true, apart := false }
def TimelineDiffersSaid : Prop := timelineDiffersRow.holds Try.pinned (OpenSpec.ofChange timelineDiffersSpec)

/-- ITS FALSE NEIGHBOUR: 'it returns false'. Refute it at one input. -/
def timelineDiffersWrong : ChangeSpec := { name := "timelineDiffers", fn := fun _ => fun
  | [d1, d2, d3] => { results := [.lit (.bool false)], args := [d1, d2, d3] }
  | _ => none }
def TimelineDiffersWrongFalsely : Prop := timelineDiffersRow.holds Try.pinned (OpenSpec.ofChange timelineDiffersWrong)

/-- 'archivumlaw04.TimelineLayers': WHATEVER THE INPUT: true; the input reads as it did. -/
def timelineLayersSpec : ChangeSpec := { name := "timelineLayers", fn := fun _ => fun
  | [d1, d2, d3] => { results := [.lit (.bool true)], args := [d1, d2, d3] }
  | _ => none }
def timelineLayersRow : OpenClaim := { program := "ytcgjhbjbfdbfaaa", sum := "62ac9dff875885f3b7dab96d719263b2f8347fd85aefe19a482792e4944af52e", func := "archivum/archivumlaw04.TimelineLayers", spec := "timelineLayers", inPlace := ["slices.overlaps[archivum/api.Piece]"], unfollowed := true, recurses := true, apart := false }
def TimelineLayersSaid : Prop := timelineLayersRow.holds Try.pinned (OpenSpec.ofChange timelineLayersSpec)

/-- ITS FALSE NEIGHBOUR: 'it returns false'. Refute it at one input. -/
def timelineLayersWrong : ChangeSpec := { name := "timelineLayers", fn := fun _ => fun
  | [d1, d2, d3] => { results := [.lit (.bool false)], args := [d1, d2, d3] }
  | _ => none }
def TimelineLayersWrongFalsely : Prop := timelineLayersRow.holds Try.pinned (OpenSpec.ofChange timelineLayersWrong)

/- THE SECOND FORM. 'bulk': how many values and letters a reading holds, each counted each time it is reached (what is shared counts as often as it is met; a slice's spare places count too). A statement '..UptoSaid' is the law's where the arguments, and the package variables that the reading takes, are together of bulk at most 1048576: NARROWER than '..Said'. Prove '..Said' where nothing that the law and all that it calls make is longer than what came in: it says more and counts as full. Else prove '..UptoSaid'. A law counts once. -/
mutual
def uptoBulk {H : Type} : DataW H → Nat
  | .lit (.string bytes) => bytes.length + 1
  | .lit _ => 1
  | .nil => 1
  | .ptr d => uptoBulk d + 1
  | .slice elems spare => uptoBulkAll elems + uptoBulkAll spare + 1
  | .agg parts => uptoBulkAll parts + 1
  | .iface _ d => uptoBulk d + 1
  | .map entries => uptoBulkEntries entries + 1
  | .held _ => 1
def uptoBulkAll {H : Type} : List (DataW H) → Nat
  | [] => 0
  | d :: r => uptoBulk d + uptoBulkAll r
def uptoBulkEntries {H : Type} : List (Lit × DataW H) → Nat
  | [] => 0
  | x :: r => uptoBulkEntry x + uptoBulkEntries r
def uptoBulkEntry {H : Type} : Lit × DataW H → Nat
  | (.string bytes, d) => bytes.length + uptoBulk d + 1
  | (_, d) => uptoBulk d + 1
 end
def uptoSmall : (H : Type) → List (DataW H) → Bool := fun _ ds => decide (uptoBulkAll ds ≤ 1048576)
def OpenSpec.upto (s : _root_.Go.ChangeSpec) : _root_.Go.OpenSpec := { _root_.Go.OpenSpec.ofChange s with cond := some uptoSmall }

/-- 'archivumlaw04.TimelineLooks', WHERE WHAT IT READS IS OF BULK AT MOST 1048576: true; the input reads as it did. -/
def timelineLooksUptoRow : OpenClaim := { program := "ytcgjhbjbfdbfaaa", sum := "62ac9dff875885f3b7dab96d719263b2f8347fd85aefe19a482792e4944af52e", func := "archivum/archivumlaw04.TimelineLooks", spec := "timelineLooks", inPlace := ["slices.overlaps[archivum/api.Piece]"], unfollowed := true, recurses := true, apart := false, narrowed := true }
def TimelineLooksUptoSaid : Prop := timelineLooksUptoRow.holds Try.pinned (OpenSpec.upto timelineLooksSpec)

/-- 'archivumlaw04.TimelineSets', WHERE WHAT IT READS IS OF BULK AT MOST 1048576: true; the input reads as it did. -/
def timelineSetsUptoRow : OpenClaim := { program := "ytcgjhbjbfdbfaaa", sum := "62ac9dff875885f3b7dab96d719263b2f8347fd85aefe19a482792e4944af52e", func := "archivum/archivumlaw04.TimelineSets", spec := "timelineSets", inPlace := ["slices.overlaps[archivum/api.Piece]"], unfollowed := true, recurses := true, apart := false, narrowed := true }
def TimelineSetsUptoSaid : Prop := timelineSetsUptoRow.holds Try.pinned (OpenSpec.upto timelineSetsSpec)

/-- 'archivumlaw04.TimelineJoins', WHERE WHAT IT READS IS OF BULK AT MOST 1048576: true; the input reads as it did. -/
def timelineJoinsUptoRow : OpenClaim := { program := "ytcgjhbjbfdbfaaa", sum := "62ac9dff875885f3b7dab96d719263b2f8347fd85aefe19a482792e4944af52e", func := "archivum/archivumlaw04.TimelineJoins", spec := "timelineJoins", inPlace := ["slices.overlaps[archivum/api.Piece]"], unfollowed := true, recurses := true, apart := false, narrowed := true }
def TimelineJoinsUptoSaid : Prop := timelineJoinsUptoRow.holds Try.pinned (OpenSpec.upto timelineJoinsSpec)

/-- 'archivumlaw04.TimelineKeeps', WHERE WHAT IT READS IS OF BULK AT MOST 1048576: true; the input reads as it did. -/
def timelineKeepsUptoRow : OpenClaim := { program := "ytcgjhbjbfdbfaaa", sum := "62ac9dff875885f3b7dab96d719263b2f8347fd85aefe19a482792e4944af52e", func := "archivum/archivumlaw04.TimelineKeeps", spec := "timelineKeeps", inPlace := ["slices.overlaps[archivum/api.Piece]"], unfollowed := true, recurses := true, apart := false, narrowed := true }
def TimelineKeepsUptoSaid : Prop := timelineKeepsUptoRow.holds Try.pinned (OpenSpec.upto timelineKeepsSpec)

/-- 'archivumlaw04.TimelineTwice', WHERE WHAT IT READS IS OF BULK AT MOST 1048576: true; the input reads as it did. -/
def timelineTwiceUptoRow : OpenClaim := { program := "ytcgjhbjbfdbfaaa", sum := "62ac9dff875885f3b7dab96d719263b2f8347fd85aefe19a482792e4944af52e", func := "archivum/archivumlaw04.TimelineTwice", spec := "timelineTwice", inPlace := ["slices.overlaps[archivum/api.Piece]"], unfollowed := true, recurses := true, apart := false, narrowed := true }
def TimelineTwiceUptoSaid : Prop := timelineTwiceUptoRow.holds Try.pinned (OpenSpec.upto timelineTwiceSpec)

/-- 'archivumlaw04.TimelineDiffers', WHERE WHAT IT READS IS OF BULK AT MOST 1048576: true; the input reads as it did. -/
def timelineDiffersUptoRow : OpenClaim := { program := "ytcgjhbjbfdbfaaa", sum := "62ac9dff875885f3b7dab96d719263b2f8347fd85aefe19a482792e4944af52e", func := "archivum/archivumlaw04.TimelineDiffers", spec := "timelineDiffers", inPlace := ["slices.overlaps[archivum/api.Piece]"], unfollowed := true, recurses := true, apart := false, narrowed := true }
def TimelineDiffersUptoSaid : Prop := timelineDiffersUptoRow.holds Try.pinned (OpenSpec.upto timelineDiffersSpec)

/-- 'archivumlaw04.TimelineLayers', WHERE WHAT IT READS IS OF BULK AT MOST 1048576: true; the input reads as it did. -/
def timelineLayersUptoRow : OpenClaim := { program := "ytcgjhbjbfdbfaaa", sum := "62ac9dff875885f3b7dab96d719263b2f8347fd85aefe19a482792e4944af52e", func := "archivum/archivumlaw04.TimelineLayers", spec := "timelineLayers", inPlace := ["slices.overlaps[archivum/api.Piece]"], unfollowed := true, recurses := true, apart := false, narrowed := true }
def TimelineLayersUptoSaid : Prop := timelineLayersUptoRow.holds Try.pinned (OpenSpec.upto timelineLayersSpec)

end Rows
end Go.Proofs.Ytcgjhbjbfdbfaaa
