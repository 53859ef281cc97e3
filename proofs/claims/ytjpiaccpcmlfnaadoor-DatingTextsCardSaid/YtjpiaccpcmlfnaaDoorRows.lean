/-
  NARROWER THAN 'FOR EVERY INPUT', by the rows' own cells (each row's printed sentence says how): DatingRelates: laid · DatingJoins: laid · DatingTexts: laid · DatingSound: laid · DatingNarrows: laid · DatingYears: laid · DatingHulls: laid · DatingBack: laid.
  DERIVED. THE GIVEN ROWS OF THIS SEAT. 8 by the template 'for every input the law returns true; each argument reads behind the call as it read before'; 0 by the template 'total and deterministic' (their statements: YtjpiaccpcmlfnaaDoorTotals.lean).
  GIVEN WITH THE SEED: the statements are not yours to turn. If you find one false, say at which input.
  Laid BY PROGRAM, IN A SANDBOX (cutbox-rows.mjs): the forced cells as the released guide's own fill.sh prints them over the translation 0e71abd6df2b9274… (all of the seat's roots in one cut). By AI agents, Wed Nov 11 2026. No macro, syntax, notation, axiom, sorry.
-/
import Derived.Test.YtjpiaccpcmlfnaaDoorChecked
import GoSem.Claim
import GoSem.ClaimJoined
import GoSem.ClaimMapViews
import Derived.JoinedTies
import Derived.KernelRfl
namespace Go.Proofs.YtjpiaccpcmlfnaaDoor
/- THE CELL 'sum', in the pinned program and in every row, IS THE sha256 OF THE DUMP (.gsa) THAT YtjpiaccpcmlfnaaDoorProg.lean LOADS. Nothing in Lean hashes anything: it is a label: what it is worth is what the hold of that sum in a sandbox is worth. -/
noncomputable def Tryd.pinned : Pinned := { name := "ytjpiaccpcmlfnaadoor", sum := "0e71abd6df2b9274597adfb16d54bd751f4ff712a390290616a0eb1f4142acc3", checked := Tryd.checked }
namespace Rows
def none {H : Type} : Left H := { results := [], args := [] }

/- WHAT THE LISTED PACKAGE-LEVEL VARIABLES READ AS WHEN THE CALL BEGINS. Each datum BY PROGRAM (the guide's laid-datum.mjs) off the statement by which the dump's own 'gosem.cut.vars' lays the variable. In a bare row this is a premise. The card (YtjpiaccpcmlfnaaDoorCards.lean) ties it to the program's text. -/
def laid_archivum_day_lengths {H : Type} : DataW H := .agg [.lit (.int .i64 31), .lit (.int .i64 28), .lit (.int .i64 31), .lit (.int .i64 30), .lit (.int .i64 31), .lit (.int .i64 30), .lit (.int .i64 31), .lit (.int .i64 31), .lit (.int .i64 30), .lit (.int .i64 31), .lit (.int .i64 30), .lit (.int .i64 31)]

/-- 'archivumlaw03.DatingRelates': WHATEVER THE INPUT: true; the input reads as it did. -/
def datingRelatesSpec : ChangeSpec := { name := "datingRelates", fn := fun _ => fun
  | [d1, d2] => { results := [.lit (.bool true)], args := [d1, d2] }
  | _ => none }
def datingRelatesRow : OpenClaim := { program := "ytjpiaccpcmlfnaadoor", sum := "0e71abd6df2b9274597adfb16d54bd751f4ff712a390290616a0eb1f4142acc3", func := "archivum/archivumlaw03.DatingRelates", spec := "datingRelates", inPlace := ["internal/bytealg.IndexByteString", "internal/bytealg.IndexString"], unfollowed := true, recurses := true, named := ["archivum/day.lengths", "internal/bytealg.MaxLen"], apart := false, laid := [("archivum/day.lengths", laid_archivum_day_lengths)] }
def DatingRelatesSaid : Prop := datingRelatesRow.holds Tryd.pinned (OpenSpec.ofChange datingRelatesSpec)

/-- ITS FALSE NEIGHBOUR: 'it returns false'. Refute it at one input. -/
def datingRelatesWrong : ChangeSpec := { name := "datingRelates", fn := fun _ => fun
  | [d1, d2] => { results := [.lit (.bool false)], args := [d1, d2] }
  | _ => none }
def DatingRelatesWrongFalsely : Prop := datingRelatesRow.holds Tryd.pinned (OpenSpec.ofChange datingRelatesWrong)

/-- 'archivumlaw03.DatingJoins': WHATEVER THE INPUT: true; the input reads as it did. -/
def datingJoinsSpec : ChangeSpec := { name := "datingJoins", fn := fun _ => fun
  | [d1, d2, d3, d4] => { results := [.lit (.bool true)], args := [d1, d2, d3, d4] }
  | _ => none }
def datingJoinsRow : OpenClaim := { program := "ytjpiaccpcmlfnaadoor", sum := "0e71abd6df2b9274597adfb16d54bd751f4ff712a390290616a0eb1f4142acc3", func := "archivum/archivumlaw03.DatingJoins", spec := "datingJoins", inPlace := ["internal/bytealg.IndexByteString", "internal/bytealg.IndexString"], unfollowed := true, recurses := true, named := ["archivum/day.lengths", "internal/bytealg.MaxLen"], apart := false, laid := [("archivum/day.lengths", laid_archivum_day_lengths)] }
def DatingJoinsSaid : Prop := datingJoinsRow.holds Tryd.pinned (OpenSpec.ofChange datingJoinsSpec)

/-- ITS FALSE NEIGHBOUR: 'it returns false'. Refute it at one input. -/
def datingJoinsWrong : ChangeSpec := { name := "datingJoins", fn := fun _ => fun
  | [d1, d2, d3, d4] => { results := [.lit (.bool false)], args := [d1, d2, d3, d4] }
  | _ => none }
def DatingJoinsWrongFalsely : Prop := datingJoinsRow.holds Tryd.pinned (OpenSpec.ofChange datingJoinsWrong)

/-- 'archivumlaw03.DatingTexts': WHATEVER THE INPUT: true; the input reads as it did. -/
def datingTextsSpec : ChangeSpec := { name := "datingTexts", fn := fun _ => fun
  | [d1, d2] => { results := [.lit (.bool true)], args := [d1, d2] }
  | _ => none }
def datingTextsRow : OpenClaim := { program := "ytjpiaccpcmlfnaadoor", sum := "0e71abd6df2b9274597adfb16d54bd751f4ff712a390290616a0eb1f4142acc3", func := "archivum/archivumlaw03.DatingTexts", spec := "datingTexts", inPlace := ["internal/bytealg.IndexByteString", "internal/bytealg.IndexString"], unfollowed := true, recurses := true, named := ["archivum/day.lengths", "internal/bytealg.MaxLen"], apart := false, laid := [("archivum/day.lengths", laid_archivum_day_lengths)] }
def DatingTextsSaid : Prop := datingTextsRow.holds Tryd.pinned (OpenSpec.ofChange datingTextsSpec)

/-- ITS FALSE NEIGHBOUR: 'it returns false'. Refute it at one input. -/
def datingTextsWrong : ChangeSpec := { name := "datingTexts", fn := fun _ => fun
  | [d1, d2] => { results := [.lit (.bool false)], args := [d1, d2] }
  | _ => none }
def DatingTextsWrongFalsely : Prop := datingTextsRow.holds Tryd.pinned (OpenSpec.ofChange datingTextsWrong)

/-- 'archivumlaw03.DatingSound': WHATEVER THE INPUT: true; the input reads as it did. -/
def datingSoundSpec : ChangeSpec := { name := "datingSound", fn := fun _ => fun
  | [d1, d2, d3, d4] => { results := [.lit (.bool true)], args := [d1, d2, d3, d4] }
  | _ => none }
def datingSoundRow : OpenClaim := { program := "ytjpiaccpcmlfnaadoor", sum := "0e71abd6df2b9274597adfb16d54bd751f4ff712a390290616a0eb1f4142acc3", func := "archivum/archivumlaw03.DatingSound", spec := "datingSound", inPlace := ["internal/bytealg.IndexByteString", "internal/bytealg.IndexString"], unfollowed := true, recurses := true, named := ["archivum/day.lengths", "internal/bytealg.MaxLen"], apart := false, laid := [("archivum/day.lengths", laid_archivum_day_lengths)] }
def DatingSoundSaid : Prop := datingSoundRow.holds Tryd.pinned (OpenSpec.ofChange datingSoundSpec)

/-- ITS FALSE NEIGHBOUR: 'it returns false'. Refute it at one input. -/
def datingSoundWrong : ChangeSpec := { name := "datingSound", fn := fun _ => fun
  | [d1, d2, d3, d4] => { results := [.lit (.bool false)], args := [d1, d2, d3, d4] }
  | _ => none }
def DatingSoundWrongFalsely : Prop := datingSoundRow.holds Tryd.pinned (OpenSpec.ofChange datingSoundWrong)

/-- 'archivumlaw03.DatingNarrows': WHATEVER THE INPUT: true; the input reads as it did. -/
def datingNarrowsSpec : ChangeSpec := { name := "datingNarrows", fn := fun _ => fun
  | [d1, d2, d3] => { results := [.lit (.bool true)], args := [d1, d2, d3] }
  | _ => none }
def datingNarrowsRow : OpenClaim := { program := "ytjpiaccpcmlfnaadoor", sum := "0e71abd6df2b9274597adfb16d54bd751f4ff712a390290616a0eb1f4142acc3", func := "archivum/archivumlaw03.DatingNarrows", spec := "datingNarrows", inPlace := ["internal/bytealg.IndexByteString", "internal/bytealg.IndexString"], unfollowed := true, recurses := true, named := ["archivum/day.lengths", "internal/bytealg.MaxLen"], apart := false, laid := [("archivum/day.lengths", laid_archivum_day_lengths)] }
def DatingNarrowsSaid : Prop := datingNarrowsRow.holds Tryd.pinned (OpenSpec.ofChange datingNarrowsSpec)

/-- ITS FALSE NEIGHBOUR: 'it returns false'. Refute it at one input. -/
def datingNarrowsWrong : ChangeSpec := { name := "datingNarrows", fn := fun _ => fun
  | [d1, d2, d3] => { results := [.lit (.bool false)], args := [d1, d2, d3] }
  | _ => none }
def DatingNarrowsWrongFalsely : Prop := datingNarrowsRow.holds Tryd.pinned (OpenSpec.ofChange datingNarrowsWrong)

/-- 'archivumlaw03.DatingYears': WHATEVER THE INPUT: true; the input reads as it did. -/
def datingYearsSpec : ChangeSpec := { name := "datingYears", fn := fun _ => fun
  | [d1, d2, d3] => { results := [.lit (.bool true)], args := [d1, d2, d3] }
  | _ => none }
def datingYearsRow : OpenClaim := { program := "ytjpiaccpcmlfnaadoor", sum := "0e71abd6df2b9274597adfb16d54bd751f4ff712a390290616a0eb1f4142acc3", func := "archivum/archivumlaw03.DatingYears", spec := "datingYears", inPlace := ["internal/bytealg.IndexByteString", "internal/bytealg.IndexString"], unfollowed := true, recurses := true, named := ["archivum/day.lengths", "internal/bytealg.MaxLen"], apart := false, laid := [("archivum/day.lengths", laid_archivum_day_lengths)] }
def DatingYearsSaid : Prop := datingYearsRow.holds Tryd.pinned (OpenSpec.ofChange datingYearsSpec)

/-- ITS FALSE NEIGHBOUR: 'it returns false'. Refute it at one input. -/
def datingYearsWrong : ChangeSpec := { name := "datingYears", fn := fun _ => fun
  | [d1, d2, d3] => { results := [.lit (.bool false)], args := [d1, d2, d3] }
  | _ => none }
def DatingYearsWrongFalsely : Prop := datingYearsRow.holds Tryd.pinned (OpenSpec.ofChange datingYearsWrong)

/-- 'archivumlaw03.DatingHulls': WHATEVER THE INPUT: true; the input reads as it did. -/
def datingHullsSpec : ChangeSpec := { name := "datingHulls", fn := fun _ => fun
  | [d1, d2] => { results := [.lit (.bool true)], args := [d1, d2] }
  | _ => none }
def datingHullsRow : OpenClaim := { program := "ytjpiaccpcmlfnaadoor", sum := "0e71abd6df2b9274597adfb16d54bd751f4ff712a390290616a0eb1f4142acc3", func := "archivum/archivumlaw03.DatingHulls", spec := "datingHulls", inPlace := ["internal/bytealg.IndexByteString", "internal/bytealg.IndexString"], unfollowed := true, recurses := true, named := ["archivum/day.lengths", "internal/bytealg.MaxLen"], apart := false, laid := [("archivum/day.lengths", laid_archivum_day_lengths)] }
def DatingHullsSaid : Prop := datingHullsRow.holds Tryd.pinned (OpenSpec.ofChange datingHullsSpec)

/-- ITS FALSE NEIGHBOUR: 'it returns false'. Refute it at one input. -/
def datingHullsWrong : ChangeSpec := { name := "datingHulls", fn := fun _ => fun
  | [d1, d2] => { results := [.lit (.bool false)], args := [d1, d2] }
  | _ => none }
def DatingHullsWrongFalsely : Prop := datingHullsRow.holds Tryd.pinned (OpenSpec.ofChange datingHullsWrong)

/-- 'archivumlaw03.DatingBack': WHATEVER THE INPUT: true; the input reads as it did. -/
def datingBackSpec : ChangeSpec := { name := "datingBack", fn := fun _ => fun
  | [d1, d2] => { results := [.lit (.bool true)], args := [d1, d2] }
  | _ => none }
def datingBackRow : OpenClaim := { program := "ytjpiaccpcmlfnaadoor", sum := "0e71abd6df2b9274597adfb16d54bd751f4ff712a390290616a0eb1f4142acc3", func := "archivum/archivumlaw03.DatingBack", spec := "datingBack", inPlace := ["internal/bytealg.IndexByteString", "internal/bytealg.IndexString"], unfollowed := true, recurses := true, named := ["archivum/day.lengths", "internal/bytealg.MaxLen"], apart := false, laid := [("archivum/day.lengths", laid_archivum_day_lengths)] }
def DatingBackSaid : Prop := datingBackRow.holds Tryd.pinned (OpenSpec.ofChange datingBackSpec)

/-- ITS FALSE NEIGHBOUR: 'it returns false'. Refute it at one input. -/
def datingBackWrong : ChangeSpec := { name := "datingBack", fn := fun _ => fun
  | [d1, d2] => { results := [.lit (.bool false)], args := [d1, d2] }
  | _ => none }
def DatingBackWrongFalsely : Prop := datingBackRow.holds Tryd.pinned (OpenSpec.ofChange datingBackWrong)

/- THE SECOND FORM. 'bulk': how many values and letters a reading holds, each counted each time it is reached (what is shared counts as often as it is met; a slice's spare places count too). A statement '..UptoSaid' is the law's where the arguments, and the package variables that the reading takes, are together of bulk at most 1048576: NARROWER than '..Said'. Prove '..Said' where nothing that the law and all that it calls make is longer than what came in: it says more and counts as full. Else prove '..UptoSaid'. A law counts once. -/
mutual
def uptoBulk {H : Type} : DataW H → Nat
  | .lit (.string bytes) => bytes.length + 1
  | .lit _ => 1
  | .nil => 1
  | .ptr d => uptoBulk d + 1
  | .slice elems spare => uptoBulkAll elems + uptoBulkAll spare + 1
  | .agg parts => uptoBulkAll parts + 1
  | .iface _ d => uptoBulk d + 1
  | .map entries => uptoBulkEntries entries + 1
  | .held _ => 1
def uptoBulkAll {H : Type} : List (DataW H) → Nat
  | [] => 0
  | d :: r => uptoBulk d + uptoBulkAll r
def uptoBulkEntries {H : Type} : List (Lit × DataW H) → Nat
  | [] => 0
  | x :: r => uptoBulkEntry x + uptoBulkEntries r
def uptoBulkEntry {H : Type} : Lit × DataW H → Nat
  | (.string bytes, d) => bytes.length + uptoBulk d + 1
  | (_, d) => uptoBulk d + 1
 end
def uptoSmall : (H : Type) → List (DataW H) → Bool := fun _ ds => decide (uptoBulkAll ds ≤ 1048576)
def OpenSpec.upto (s : _root_.Go.ChangeSpec) : _root_.Go.OpenSpec := { _root_.Go.OpenSpec.ofChange s with cond := some uptoSmall }

/-- 'archivumlaw03.DatingRelates', WHERE WHAT IT READS IS OF BULK AT MOST 1048576: true; the input reads as it did. -/
def datingRelatesUptoRow : OpenClaim := { program := "ytjpiaccpcmlfnaadoor", sum := "0e71abd6df2b9274597adfb16d54bd751f4ff712a390290616a0eb1f4142acc3", func := "archivum/archivumlaw03.DatingRelates", spec := "datingRelates", inPlace := ["internal/bytealg.IndexByteString", "internal/bytealg.IndexString"], unfollowed := true, recurses := true, named := ["archivum/day.lengths", "internal/bytealg.MaxLen"], apart := false, laid := [("archivum/day.lengths", laid_archivum_day_lengths)], narrowed := true }
def DatingRelatesUptoSaid : Prop := datingRelatesUptoRow.holds Tryd.pinned (OpenSpec.upto datingRelatesSpec)

/-- 'archivumlaw03.DatingJoins', WHERE WHAT IT READS IS OF BULK AT MOST 1048576: true; the input reads as it did. -/
def datingJoinsUptoRow : OpenClaim := { program := "ytjpiaccpcmlfnaadoor", sum := "0e71abd6df2b9274597adfb16d54bd751f4ff712a390290616a0eb1f4142acc3", func := "archivum/archivumlaw03.DatingJoins", spec := "datingJoins", inPlace := ["internal/bytealg.IndexByteString", "internal/bytealg.IndexString"], unfollowed := true, recurses := true, named := ["archivum/day.lengths", "internal/bytealg.MaxLen"], apart := false, laid := [("archivum/day.lengths", laid_archivum_day_lengths)], narrowed := true }
def DatingJoinsUptoSaid : Prop := datingJoinsUptoRow.holds Tryd.pinned (OpenSpec.upto datingJoinsSpec)

/-- 'archivumlaw03.DatingTexts', WHERE WHAT IT READS IS OF BULK AT MOST 1048576: true; the input reads as it did. -/
def datingTextsUptoRow : OpenClaim := { program := "ytjpiaccpcmlfnaadoor", sum := "0e71abd6df2b9274597adfb16d54bd751f4ff712a390290616a0eb1f4142acc3", func := "archivum/archivumlaw03.DatingTexts", spec := "datingTexts", inPlace := ["internal/bytealg.IndexByteString", "internal/bytealg.IndexString"], unfollowed := true, recurses := true, named := ["archivum/day.lengths", "internal/bytealg.MaxLen"], apart := false, laid := [("archivum/day.lengths", laid_archivum_day_lengths)], narrowed := true }
def DatingTextsUptoSaid : Prop := datingTextsUptoRow.holds Tryd.pinned (OpenSpec.upto datingTextsSpec)

/-- 'archivumlaw03.DatingSound', WHERE WHAT IT READS IS OF BULK AT MOST 1048576: true; the input reads as it did. -/
def datingSoundUptoRow : OpenClaim := { program := "ytjpiaccpcmlfnaadoor", sum := "0e71abd6df2b9274597adfb16d54bd751f4ff712a390290616a0eb1f4142acc3", func := "archivum/archivumlaw03.DatingSound", spec := "datingSound", inPlace := ["internal/bytealg.IndexByteString", "internal/bytealg.IndexString"], unfollowed := true, recurses := true, named := ["archivum/day.lengths", "internal/bytealg.MaxLen"], apart := false, laid := [("archivum/day.lengths", laid_archivum_day_lengths)], narrowed := true }
def DatingSoundUptoSaid : Prop := datingSoundUptoRow.holds Tryd.pinned (OpenSpec.upto datingSoundSpec)

/-- 'archivumlaw03.DatingNarrows', WHERE WHAT IT READS IS OF BULK AT MOST 1048576: true; the input reads as it did. -/
def datingNarrowsUptoRow : OpenClaim := { program := "ytjpiaccpcmlfnaadoor", sum := "0e71abd6df2b9274597adfb16d54bd751f4ff712a390290616a0eb1f4142acc3", func := "archivum/archivumlaw03.DatingNarrows", spec := "datingNarrows", inPlace := ["internal/bytealg.IndexByteString", "internal/bytealg.IndexString"], unfollowed := true, recurses := true, named := ["archivum/day.lengths", "internal/bytealg.MaxLen"], apart := false, laid := [("archivum/day.lengths", laid_archivum_day_lengths)], narrowed := true }
def DatingNarrowsUptoSaid : Prop := datingNarrowsUptoRow.holds Tryd.pinned (OpenSpec.upto datingNarrowsSpec)

/-- 'archivumlaw03.DatingYears', WHERE WHAT IT READS IS OF BULK AT MOST 1048576: true; the input reads as it did. -/
def datingYearsUptoRow : OpenClaim := { program := "ytjpiaccpcmlfnaadoor", sum := "0e71abd6df2b9274597adfb16d54bd751f4ff712a390290616a0eb1f4142acc3", func := "archivum/archivumlaw03.DatingYears", spec := "datingYears", inPlace := ["internal/bytealg.IndexByteString", "internal/bytealg.IndexString"], unfollowed := true, recurses := true, named := ["archivum/day.lengths", "internal/bytealg.MaxLen"], apart := false, laid := [("archivum/day.lengths", laid_archivum_day_lengths)], narrowed := true }
def DatingYearsUptoSaid : Prop := datingYearsUptoRow.holds Tryd.pinned (OpenSpec.upto datingYearsSpec)

/-- 'archivumlaw03.DatingHulls', WHERE WHAT IT READS IS OF BULK AT MOST 1048576: true; the input reads as it did. -/
def datingHullsUptoRow : OpenClaim := { program := "ytjpiaccpcmlfnaadoor", sum := "0e71abd6df2b9274597adfb16d54bd751f4ff712a390290616a0eb1f4142acc3", func := "archivum/archivumlaw03.DatingHulls", spec := "datingHulls", inPlace := ["internal/bytealg.IndexByteString", "internal/bytealg.IndexString"], unfollowed := true, recurses := true, named := ["archivum/day.lengths", "internal/bytealg.MaxLen"], apart := false, laid := [("archivum/day.lengths", laid_archivum_day_lengths)], narrowed := true }
def DatingHullsUptoSaid : Prop := datingHullsUptoRow.holds Tryd.pinned (OpenSpec.upto datingHullsSpec)

/-- 'archivumlaw03.DatingBack', WHERE WHAT IT READS IS OF BULK AT MOST 1048576: true; the input reads as it did. -/
def datingBackUptoRow : OpenClaim := { program := "ytjpiaccpcmlfnaadoor", sum := "0e71abd6df2b9274597adfb16d54bd751f4ff712a390290616a0eb1f4142acc3", func := "archivum/archivumlaw03.DatingBack", spec := "datingBack", inPlace := ["internal/bytealg.IndexByteString", "internal/bytealg.IndexString"], unfollowed := true, recurses := true, named := ["archivum/day.lengths", "internal/bytealg.MaxLen"], apart := false, laid := [("archivum/day.lengths", laid_archivum_day_lengths)], narrowed := true }
def DatingBackUptoSaid : Prop := datingBackUptoRow.holds Tryd.pinned (OpenSpec.upto datingBackSpec)

end Rows
end Go.Proofs.YtjpiaccpcmlfnaaDoor
