/-
  NARROWER THAN 'FOR EVERY INPUT', by the rows' own cells (each row's printed sentence says how): DigestPermutes: laid · DigestSums: laid · DigestTexts: laid · DigestDiffers: laid · DigestStreams: laid · DigestClones: laid · DigestBack: laid.
  DERIVED. THE GIVEN ROWS OF THIS SEAT. 7 by the template 'for every input the law returns true; each argument reads behind the call as it read before'; 0 by the template 'total and deterministic' (their statements: YtojmolemhdonfaaDoorTotals.lean).
  GIVEN WITH THE SEED: the statements are not yours to turn. If you find one false, say at which input.
  Laid BY PROGRAM, IN A SANDBOX (cutbox-rows.mjs): the forced cells as the released guide's own fill.sh prints them over the translation d4a89f6057cdd988… (all of the seat's roots in one cut). By AI agents, Wed Nov 11 2026. No macro, syntax, notation, axiom, sorry.
-/
import Derived.Test.YtojmolemhdonfaaDoorChecked
import GoSem.Claim
import GoSem.ClaimJoined
import GoSem.ClaimMapViews
import Derived.JoinedTies
import Derived.KernelRfl
namespace Go.Proofs.YtojmolemhdonfaaDoor
/- THE CELL 'sum', in the pinned program and in every row, IS THE sha256 OF THE DUMP (.gsa) THAT YtojmolemhdonfaaDoorProg.lean LOADS. Nothing in Lean hashes anything: it is a label: what it is worth is what the hold of that sum in a sandbox is worth. -/
noncomputable def Tryd.pinned : Pinned := { name := "ytojmolemhdonfaadoor", sum := "d4a89f6057cdd9888dd1cb6ab8fe5b90ff8d1e872e15bce1ca239cdc9683fb00", checked := Tryd.checked }
namespace Rows
def none {H : Type} : Left H := { results := [], args := [] }

/- WHAT THE LISTED PACKAGE-LEVEL VARIABLES READ AS WHEN THE CALL BEGINS. Each datum BY PROGRAM (the guide's laid-datum.mjs) off the statement by which the dump's own 'gosem.cut.vars' lays the variable. In a bare row this is a premise. The card (YtojmolemhdonfaaDoorCards.lean) ties it to the program's text. -/
def laid_archivum_digest_roundConstants {H : Type} : DataW H := .agg [.lit (.int .u64 1), .lit (.int .u64 32898), .lit (.int .u64 9223372036854808714), .lit (.int .u64 9223372039002292224), .lit (.int .u64 32907), .lit (.int .u64 2147483649), .lit (.int .u64 9223372039002292353), .lit (.int .u64 9223372036854808585), .lit (.int .u64 138), .lit (.int .u64 136), .lit (.int .u64 2147516425), .lit (.int .u64 2147483658), .lit (.int .u64 2147516555), .lit (.int .u64 9223372036854775947), .lit (.int .u64 9223372036854808713), .lit (.int .u64 9223372036854808579), .lit (.int .u64 9223372036854808578), .lit (.int .u64 9223372036854775936), .lit (.int .u64 32778), .lit (.int .u64 9223372039002259466), .lit (.int .u64 9223372039002292353), .lit (.int .u64 9223372036854808704), .lit (.int .u64 2147483649), .lit (.int .u64 9223372039002292232)]
def laid_archivum_digest_rotations {H : Type} : DataW H := .agg [.lit (.int .i64 0), .lit (.int .i64 1), .lit (.int .i64 62), .lit (.int .i64 28), .lit (.int .i64 27), .lit (.int .i64 36), .lit (.int .i64 44), .lit (.int .i64 6), .lit (.int .i64 55), .lit (.int .i64 20), .lit (.int .i64 3), .lit (.int .i64 10), .lit (.int .i64 43), .lit (.int .i64 25), .lit (.int .i64 39), .lit (.int .i64 41), .lit (.int .i64 45), .lit (.int .i64 15), .lit (.int .i64 21), .lit (.int .i64 8), .lit (.int .i64 18), .lit (.int .i64 2), .lit (.int .i64 61), .lit (.int .i64 56), .lit (.int .i64 14)]

/-- 'archivumlaw01.DigestPermutes': WHATEVER THE INPUT: true; the input reads as it did. -/
def digestPermutesSpec : ChangeSpec := { name := "digestPermutes", fn := fun _ => fun
  | [d] => { results := [.lit (.bool true)], args := [d] }
  | _ => none }
def digestPermutesRow : OpenClaim := { program := "ytojmolemhdonfaadoor", sum := "d4a89f6057cdd9888dd1cb6ab8fe5b90ff8d1e872e15bce1ca239cdc9683fb00", func := "archivum/archivumlaw01.DigestPermutes", spec := "digestPermutes", named := ["archivum/digest.roundConstants", "archivum/digest.rotations"], apart := false, laid := [("archivum/digest.roundConstants", laid_archivum_digest_roundConstants), ("archivum/digest.rotations", laid_archivum_digest_rotations)] }
def DigestPermutesSaid : Prop := digestPermutesRow.holds Tryd.pinned (OpenSpec.ofChange digestPermutesSpec)

/-- ITS FALSE NEIGHBOUR: 'it returns false'. Refute it at one input. -/
def digestPermutesWrong : ChangeSpec := { name := "digestPermutes", fn := fun _ => fun
  | [d] => { results := [.lit (.bool false)], args := [d] }
  | _ => none }
def DigestPermutesWrongFalsely : Prop := digestPermutesRow.holds Tryd.pinned (OpenSpec.ofChange digestPermutesWrong)

/-- 'archivumlaw01.DigestSums': WHATEVER THE INPUT: true; the input reads as it did. -/
def digestSumsSpec : ChangeSpec := { name := "digestSums", fn := fun _ => fun
  | [d] => { results := [.lit (.bool true)], args := [d] }
  | _ => none }
def digestSumsRow : OpenClaim := { program := "ytojmolemhdonfaadoor", sum := "d4a89f6057cdd9888dd1cb6ab8fe5b90ff8d1e872e15bce1ca239cdc9683fb00", func := "archivum/archivumlaw01.DigestSums", spec := "digestSums", named := ["archivum/digest.roundConstants", "archivum/digest.rotations"], apart := false, laid := [("archivum/digest.roundConstants", laid_archivum_digest_roundConstants), ("archivum/digest.rotations", laid_archivum_digest_rotations)] }
def DigestSumsSaid : Prop := digestSumsRow.holds Tryd.pinned (OpenSpec.ofChange digestSumsSpec)

/-- ITS FALSE NEIGHBOUR: 'it returns false'. Refute it at one input. -/
def digestSumsWrong : ChangeSpec := { name := "digestSums", fn := fun _ => fun
  | [d] => { results := [.lit (.bool false)], args := [d] }
  | _ => none }
def DigestSumsWrongFalsely : Prop := digestSumsRow.holds Tryd.pinned (OpenSpec.ofChange digestSumsWrong)

/-- 'archivumlaw01.DigestTexts': WHATEVER THE INPUT: true; the input reads as it did. -/
def digestTextsSpec : ChangeSpec := { name := "digestTexts", fn := fun _ => fun
  | [d1, d2] => { results := [.lit (.bool true)], args := [d1, d2] }
  | _ => none }
def digestTextsRow : OpenClaim := { program := "ytojmolemhdonfaadoor", sum := "d4a89f6057cdd9888dd1cb6ab8fe5b90ff8d1e872e15bce1ca239cdc9683fb00", func := "archivum/archivumlaw01.DigestTexts", spec := "digestTexts", named := ["archivum/digest.roundConstants", "archivum/digest.rotations"], apart := false, laid := [("archivum/digest.roundConstants", laid_archivum_digest_roundConstants), ("archivum/digest.rotations", laid_archivum_digest_rotations)] }
def DigestTextsSaid : Prop := digestTextsRow.holds Tryd.pinned (OpenSpec.ofChange digestTextsSpec)

/-- ITS FALSE NEIGHBOUR: 'it returns false'. Refute it at one input. -/
def digestTextsWrong : ChangeSpec := { name := "digestTexts", fn := fun _ => fun
  | [d1, d2] => { results := [.lit (.bool false)], args := [d1, d2] }
  | _ => none }
def DigestTextsWrongFalsely : Prop := digestTextsRow.holds Tryd.pinned (OpenSpec.ofChange digestTextsWrong)

/-- 'archivumlaw01.DigestDiffers': WHATEVER THE INPUT: true; the input reads as it did. -/
def digestDiffersSpec : ChangeSpec := { name := "digestDiffers", fn := fun _ => fun
  | [d1, d2] => { results := [.lit (.bool true)], args := [d1, d2] }
  | _ => none }
def digestDiffersRow : OpenClaim := { program := "ytojmolemhdonfaadoor", sum := "d4a89f6057cdd9888dd1cb6ab8fe5b90ff8d1e872e15bce1ca239cdc9683fb00", func := "archivum/archivumlaw01.DigestDiffers", spec := "digestDiffers", named := ["archivum/digest.roundConstants", "archivum/digest.rotations"], apart := false, laid := [("archivum/digest.roundConstants", laid_archivum_digest_roundConstants), ("archivum/digest.rotations", laid_archivum_digest_rotations)] }
def DigestDiffersSaid : Prop := digestDiffersRow.holds Tryd.pinned (OpenSpec.ofChange digestDiffersSpec)

/-- ITS FALSE NEIGHBOUR: 'it returns false'. Refute it at one input. -/
def digestDiffersWrong : ChangeSpec := { name := "digestDiffers", fn := fun _ => fun
  | [d1, d2] => { results := [.lit (.bool false)], args := [d1, d2] }
  | _ => none }
def DigestDiffersWrongFalsely : Prop := digestDiffersRow.holds Tryd.pinned (OpenSpec.ofChange digestDiffersWrong)

/-- 'archivumlaw01.DigestStreams': WHATEVER THE INPUT: true; the input reads as it did. -/
def digestStreamsSpec : ChangeSpec := { name := "digestStreams", fn := fun _ => fun
  | [d] => { results := [.lit (.bool true)], args := [d] }
  | _ => none }
def digestStreamsRow : OpenClaim := { program := "ytojmolemhdonfaadoor", sum := "d4a89f6057cdd9888dd1cb6ab8fe5b90ff8d1e872e15bce1ca239cdc9683fb00", func := "archivum/archivumlaw01.DigestStreams", spec := "digestStreams", named := ["archivum/digest.roundConstants", "archivum/digest.rotations"], apart := false, laid := [("archivum/digest.roundConstants", laid_archivum_digest_roundConstants), ("archivum/digest.rotations", laid_archivum_digest_rotations)] }
def DigestStreamsSaid : Prop := digestStreamsRow.holds Tryd.pinned (OpenSpec.ofChange digestStreamsSpec)

/-- ITS FALSE NEIGHBOUR: 'it returns false'. Refute it at one input. -/
def digestStreamsWrong : ChangeSpec := { name := "digestStreams", fn := fun _ => fun
  | [d] => { results := [.lit (.bool false)], args := [d] }
  | _ => none }
def DigestStreamsWrongFalsely : Prop := digestStreamsRow.holds Tryd.pinned (OpenSpec.ofChange digestStreamsWrong)

/-- 'archivumlaw01.DigestClones': WHATEVER THE INPUT: true; the input reads as it did. -/
def digestClonesSpec : ChangeSpec := { name := "digestClones", fn := fun _ => fun
  | [d1, d2, d3] => { results := [.lit (.bool true)], args := [d1, d2, d3] }
  | _ => none }
def digestClonesRow : OpenClaim := { program := "ytojmolemhdonfaadoor", sum := "d4a89f6057cdd9888dd1cb6ab8fe5b90ff8d1e872e15bce1ca239cdc9683fb00", func := "archivum/archivumlaw01.DigestClones", spec := "digestClones", named := ["archivum/digest.roundConstants", "archivum/digest.rotations"], apart := false, laid := [("archivum/digest.roundConstants", laid_archivum_digest_roundConstants), ("archivum/digest.rotations", laid_archivum_digest_rotations)] }
def DigestClonesSaid : Prop := digestClonesRow.holds Tryd.pinned (OpenSpec.ofChange digestClonesSpec)

/-- ITS FALSE NEIGHBOUR: 'it returns false'. Refute it at one input. -/
def digestClonesWrong : ChangeSpec := { name := "digestClones", fn := fun _ => fun
  | [d1, d2, d3] => { results := [.lit (.bool false)], args := [d1, d2, d3] }
  | _ => none }
def DigestClonesWrongFalsely : Prop := digestClonesRow.holds Tryd.pinned (OpenSpec.ofChange digestClonesWrong)

/-- 'archivumlaw01.DigestBack': WHATEVER THE INPUT: true; the input reads as it did. -/
def digestBackSpec : ChangeSpec := { name := "digestBack", fn := fun _ => fun
  | [d] => { results := [.lit (.bool true)], args := [d] }
  | _ => none }
def digestBackRow : OpenClaim := { program := "ytojmolemhdonfaadoor", sum := "d4a89f6057cdd9888dd1cb6ab8fe5b90ff8d1e872e15bce1ca239cdc9683fb00", func := "archivum/archivumlaw01.DigestBack", spec := "digestBack", named := ["archivum/digest.roundConstants", "archivum/digest.rotations"], apart := false, laid := [("archivum/digest.roundConstants", laid_archivum_digest_roundConstants), ("archivum/digest.rotations", laid_archivum_digest_rotations)] }
def DigestBackSaid : Prop := digestBackRow.holds Tryd.pinned (OpenSpec.ofChange digestBackSpec)

/-- ITS FALSE NEIGHBOUR: 'it returns false'. Refute it at one input. -/
def digestBackWrong : ChangeSpec := { name := "digestBack", fn := fun _ => fun
  | [d] => { results := [.lit (.bool false)], args := [d] }
  | _ => none }
def DigestBackWrongFalsely : Prop := digestBackRow.holds Tryd.pinned (OpenSpec.ofChange digestBackWrong)

/- THE SECOND FORM. 'bulk': how many values and letters a reading holds, each counted each time it is reached (what is shared counts as often as it is met; a slice's spare places count too). A statement '..UptoSaid' is the law's where the arguments, and the package variables that the reading takes, are together of bulk at most 1048576: NARROWER than '..Said'. Prove '..Said' where nothing that the law and all that it calls make is longer than what came in: it says more and counts as full. Else prove '..UptoSaid'. A law counts once. -/
mutual
def uptoBulk {H : Type} : DataW H → Nat
  | .lit (.string bytes) => bytes.length + 1
  | .lit _ => 1
  | .nil => 1
  | .ptr d => uptoBulk d + 1
  | .slice elems spare => uptoBulkAll elems + uptoBulkAll spare + 1
  | .agg parts => uptoBulkAll parts + 1
  | .iface _ d => uptoBulk d + 1
  | .map entries => uptoBulkEntries entries + 1
  | .held _ => 1
def uptoBulkAll {H : Type} : List (DataW H) → Nat
  | [] => 0
  | d :: r => uptoBulk d + uptoBulkAll r
def uptoBulkEntries {H : Type} : List (Lit × DataW H) → Nat
  | [] => 0
  | x :: r => uptoBulkEntry x + uptoBulkEntries r
def uptoBulkEntry {H : Type} : Lit × DataW H → Nat
  | (.string bytes, d) => bytes.length + uptoBulk d + 1
  | (_, d) => uptoBulk d + 1
 end
def uptoSmall : (H : Type) → List (DataW H) → Bool := fun _ ds => decide (uptoBulkAll ds ≤ 1048576)
def OpenSpec.upto (s : _root_.Go.ChangeSpec) : _root_.Go.OpenSpec := { _root_.Go.OpenSpec.ofChange s with cond := some uptoSmall }

/-- 'archivumlaw01.DigestPermutes', WHERE WHAT IT READS IS OF BULK AT MOST 1048576: true; the input reads as it did. -/
def digestPermutesUptoRow : OpenClaim := { program := "ytojmolemhdonfaadoor", sum := "d4a89f6057cdd9888dd1cb6ab8fe5b90ff8d1e872e15bce1ca239cdc9683fb00", func := "archivum/archivumlaw01.DigestPermutes", spec := "digestPermutes", named := ["archivum/digest.roundConstants", "archivum/digest.rotations"], apart := false, laid := [("archivum/digest.roundConstants", laid_archivum_digest_roundConstants), ("archivum/digest.rotations", laid_archivum_digest_rotations)], narrowed := true }
def DigestPermutesUptoSaid : Prop := digestPermutesUptoRow.holds Tryd.pinned (OpenSpec.upto digestPermutesSpec)

/-- 'archivumlaw01.DigestSums', WHERE WHAT IT READS IS OF BULK AT MOST 1048576: true; the input reads as it did. -/
def digestSumsUptoRow : OpenClaim := { program := "ytojmolemhdonfaadoor", sum := "d4a89f6057cdd9888dd1cb6ab8fe5b90ff8d1e872e15bce1ca239cdc9683fb00", func := "archivum/archivumlaw01.DigestSums", spec := "digestSums", named := ["archivum/digest.roundConstants", "archivum/digest.rotations"], apart := false, laid := [("archivum/digest.roundConstants", laid_archivum_digest_roundConstants), ("archivum/digest.rotations", laid_archivum_digest_rotations)], narrowed := true }
def DigestSumsUptoSaid : Prop := digestSumsUptoRow.holds Tryd.pinned (OpenSpec.upto digestSumsSpec)

/-- 'archivumlaw01.DigestTexts', WHERE WHAT IT READS IS OF BULK AT MOST 1048576: true; the input reads as it did. -/
def digestTextsUptoRow : OpenClaim := { program := "ytojmolemhdonfaadoor", sum := "d4a89f6057cdd9888dd1cb6ab8fe5b90ff8d1e872e15bce1ca239cdc9683fb00", func := "archivum/archivumlaw01.DigestTexts", spec := "digestTexts", named := ["archivum/digest.roundConstants", "archivum/digest.rotations"], apart := false, laid := [("archivum/digest.roundConstants", laid_archivum_digest_roundConstants), ("archivum/digest.rotations", laid_archivum_digest_rotations)], narrowed := true }
def DigestTextsUptoSaid : Prop := digestTextsUptoRow.holds Tryd.pinned (OpenSpec.upto digestTextsSpec)

/-- 'archivumlaw01.DigestDiffers', WHERE WHAT IT READS IS OF BULK AT MOST 1048576: true; the input reads as it did. -/
def digestDiffersUptoRow : OpenClaim := { program := "ytojmolemhdonfaadoor", sum := "d4a89f6057cdd9888dd1cb6ab8fe5b90ff8d1e872e15bce1ca239cdc9683fb00", func := "archivum/archivumlaw01.DigestDiffers", spec := "digestDiffers", named := ["archivum/digest.roundConstants", "archivum/digest.rotations"], apart := false, laid := [("archivum/digest.roundConstants", laid_archivum_digest_roundConstants), ("archivum/digest.rotations", laid_archivum_digest_rotations)], narrowed := true }
def DigestDiffersUptoSaid : Prop := digestDiffersUptoRow.holds Tryd.pinned (OpenSpec.upto digestDiffersSpec)

/-- 'archivumlaw01.DigestStreams', WHERE WHAT IT READS IS OF BULK AT MOST 1048576: true; the input reads as it did. -/
def digestStreamsUptoRow : OpenClaim := { program := "ytojmolemhdonfaadoor", sum := "d4a89f6057cdd9888dd1cb6ab8fe5b90ff8d1e872e15bce1ca239cdc9683fb00", func := "archivum/archivumlaw01.DigestStreams", spec := "digestStreams", named := ["archivum/digest.roundConstants", "archivum/digest.rotations"], apart := false, laid := [("archivum/digest.roundConstants", laid_archivum_digest_roundConstants), ("archivum/digest.rotations", laid_archivum_digest_rotations)], narrowed := true }
def DigestStreamsUptoSaid : Prop := digestStreamsUptoRow.holds Tryd.pinned (OpenSpec.upto digestStreamsSpec)

/-- 'archivumlaw01.DigestClones', WHERE WHAT IT READS IS OF BULK AT MOST 1048576: true; the input reads as it did. -/
def digestClonesUptoRow : OpenClaim := { program := "ytojmolemhdonfaadoor", sum := "d4a89f6057cdd9888dd1cb6ab8fe5b90ff8d1e872e15bce1ca239cdc9683fb00", func := "archivum/archivumlaw01.DigestClones", spec := "digestClones", named := ["archivum/digest.roundConstants", "archivum/digest.rotations"], apart := false, laid := [("archivum/digest.roundConstants", laid_archivum_digest_roundConstants), ("archivum/digest.rotations", laid_archivum_digest_rotations)], narrowed := true }
def DigestClonesUptoSaid : Prop := digestClonesUptoRow.holds Tryd.pinned (OpenSpec.upto digestClonesSpec)

/-- 'archivumlaw01.DigestBack', WHERE WHAT IT READS IS OF BULK AT MOST 1048576: true; the input reads as it did. -/
def digestBackUptoRow : OpenClaim := { program := "ytojmolemhdonfaadoor", sum := "d4a89f6057cdd9888dd1cb6ab8fe5b90ff8d1e872e15bce1ca239cdc9683fb00", func := "archivum/archivumlaw01.DigestBack", spec := "digestBack", named := ["archivum/digest.roundConstants", "archivum/digest.rotations"], apart := false, laid := [("archivum/digest.roundConstants", laid_archivum_digest_roundConstants), ("archivum/digest.rotations", laid_archivum_digest_rotations)], narrowed := true }
def DigestBackUptoSaid : Prop := digestBackUptoRow.holds Tryd.pinned (OpenSpec.upto digestBackSpec)

end Rows
end Go.Proofs.YtojmolemhdonfaaDoor
