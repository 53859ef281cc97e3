/-
  No cell of these rows narrows 'for every input' (looked for: loops, veiled, ifaces, maps, wideKeys, modest, calm, conditions, laid).
  DERIVED. THE GIVEN ROWS OF THIS SEAT. 6 by the template 'for every input the law returns true; each argument reads behind the call as it read before'; 0 by the template 'total and deterministic' (their statements: YtchaihdbljkphaaTotals.lean).
  GIVEN WITH THE SEED: the statements are not yours to turn. If you find one false, say at which input.
  Laid BY PROGRAM, IN A SANDBOX (cutbox-rows.mjs): the forced cells as the released guide's own fill.sh prints them over the translation f518081d1d9b7332… (all of the seat's roots in one cut). By AI agents, Wed Nov 11 2026. No macro, syntax, notation, axiom, sorry.
-/
import Derived.Test.YtchaihdbljkphaaChecked
import GoSem.Claim
import GoSem.ClaimJoined
import GoSem.ClaimMapViews
import Derived.JoinedTies
import Derived.KernelRfl
namespace Go.Proofs.Ytchaihdbljkphaa
/- THE CELL 'sum', in the pinned program and in every row, IS THE sha256 OF THE DUMP (.gsa) THAT YtchaihdbljkphaaProg.lean LOADS. Nothing in Lean hashes anything: it is a label: what it is worth is what the hold of that sum in a sandbox is worth. -/
noncomputable def Try.pinned : Pinned := { name := "ytchaihdbljkphaa", sum := "f518081d1d9b73328007839edfda9b3d5875932da3539ee3e3888313bbf1d1b0", checked := Try.checked }
namespace Rows
def none {H : Type} : Left H := { results := [], args := [] }

/-- 'archivumlaw06.OfficeChains': WHATEVER THE INPUT: true; the input reads as it did. -/
def officeChainsSpec : ChangeSpec := { name := "officeChains", fn := fun _ => fun
  | [d1, d2, d3] => { results := [.lit (.bool true)], args := [d1, d2, d3] }
  | _ => none }
def officeChainsRow : OpenClaim := { program := "ytchaihdbljkphaa", sum := "f518081d1d9b73328007839edfda9b3d5875932da3539ee3e3888313bbf1d1b0", func := "archivum/archivumlaw06.OfficeChains", spec := "officeChains", inPlace := ["internal/bytealg.IndexByteString", "internal/bytealg.IndexString"], unfollowed := true, recurses := true, named := ["internal/bytealg.MaxLen"], apart := false }
def OfficeChainsSaid : Prop := officeChainsRow.holds Try.pinned (OpenSpec.ofChange officeChainsSpec)

/-- ITS FALSE NEIGHBOUR: 'it returns false'. Refute it at one input. -/
def officeChainsWrong : ChangeSpec := { name := "officeChains", fn := fun _ => fun
  | [d1, d2, d3] => { results := [.lit (.bool false)], args := [d1, d2, d3] }
  | _ => none }
def OfficeChainsWrongFalsely : Prop := officeChainsRow.holds Try.pinned (OpenSpec.ofChange officeChainsWrong)

/-- 'archivumlaw06.OfficeReaches': WHATEVER THE INPUT: true; the input reads as it did. -/
def officeReachesSpec : ChangeSpec := { name := "officeReaches", fn := fun _ => fun
  | [d1, d2, d3] => { results := [.lit (.bool true)], args := [d1, d2, d3] }
  | _ => none }
def officeReachesRow : OpenClaim := { program := "ytchaihdbljkphaa", sum := "f518081d1d9b73328007839edfda9b3d5875932da3539ee3e3888313bbf1d1b0", func := "archivum/archivumlaw06.OfficeReaches", spec := "officeReaches", inPlace := ["internal/bytealg.IndexByteString", "internal/bytealg.IndexString"], unfollowed := true, recurses := true, named := ["internal/bytealg.MaxLen"], apart := false }
def OfficeReachesSaid : Prop := officeReachesRow.holds Try.pinned (OpenSpec.ofChange officeReachesSpec)

/-- ITS FALSE NEIGHBOUR: 'it returns false'. Refute it at one input. -/
def officeReachesWrong : ChangeSpec := { name := "officeReaches", fn := fun _ => fun
  | [d1, d2, d3] => { results := [.lit (.bool false)], args := [d1, d2, d3] }
  | _ => none }
def OfficeReachesWrongFalsely : Prop := officeReachesRow.holds Try.pinned (OpenSpec.ofChange officeReachesWrong)

/-- 'archivumlaw06.OfficeEnds': WHATEVER THE INPUT: true; the input reads as it did. -/
def officeEndsSpec : ChangeSpec := { name := "officeEnds", fn := fun _ => fun
  | [d1, d2, d3, d4] => { results := [.lit (.bool true)], args := [d1, d2, d3, d4] }
  | _ => none }
def officeEndsRow : OpenClaim := { program := "ytchaihdbljkphaa", sum := "f518081d1d9b73328007839edfda9b3d5875932da3539ee3e3888313bbf1d1b0", func := "archivum/archivumlaw06.OfficeEnds", spec := "officeEnds", inPlace := ["internal/bytealg.IndexByteString", "internal/bytealg.IndexString"], unfollowed := true, recurses := true, named := ["internal/bytealg.MaxLen"], apart := false }
def OfficeEndsSaid : Prop := officeEndsRow.holds Try.pinned (OpenSpec.ofChange officeEndsSpec)

/-- ITS FALSE NEIGHBOUR: 'it returns false'. Refute it at one input. -/
def officeEndsWrong : ChangeSpec := { name := "officeEnds", fn := fun _ => fun
  | [d1, d2, d3, d4] => { results := [.lit (.bool false)], args := [d1, d2, d3, d4] }
  | _ => none }
def OfficeEndsWrongFalsely : Prop := officeEndsRow.holds Try.pinned (OpenSpec.ofChange officeEndsWrong)

/-- 'archivumlaw06.OfficeOnce': WHATEVER THE INPUT: true; the input reads as it did. -/
def officeOnceSpec : ChangeSpec := { name := "officeOnce", fn := fun _ => fun
  | [d1, d2] => { results := [.lit (.bool true)], args := [d1, d2] }
  | _ => none }
def officeOnceRow : OpenClaim := { program := "ytchaihdbljkphaa", sum := "f518081d1d9b73328007839edfda9b3d5875932da3539ee3e3888313bbf1d1b0", func := "archivum/archivumlaw06.OfficeOnce", spec := "officeOnce", inPlace := ["internal/bytealg.IndexByteString", "internal/bytealg.IndexString"], unfollowed := true, recurses := true, named := ["internal/bytealg.MaxLen"], apart := false }
def OfficeOnceSaid : Prop := officeOnceRow.holds Try.pinned (OpenSpec.ofChange officeOnceSpec)

/-- ITS FALSE NEIGHBOUR: 'it returns false'. Refute it at one input. -/
def officeOnceWrong : ChangeSpec := { name := "officeOnce", fn := fun _ => fun
  | [d1, d2] => { results := [.lit (.bool false)], args := [d1, d2] }
  | _ => none }
def OfficeOnceWrongFalsely : Prop := officeOnceRow.holds Try.pinned (OpenSpec.ofChange officeOnceWrong)

/-- 'archivumlaw06.OfficeUnbroken': WHATEVER THE INPUT: true; the input reads as it did. -/
def officeUnbrokenSpec : ChangeSpec := { name := "officeUnbroken", fn := fun _ => fun
  | [d1, d2, d3] => { results := [.lit (.bool true)], args := [d1, d2, d3] }
  | _ => none }
def officeUnbrokenRow : OpenClaim := { program := "ytchaihdbljkphaa", sum := "f518081d1d9b73328007839edfda9b3d5875932da3539ee3e3888313bbf1d1b0", func := "archivum/archivumlaw06.OfficeUnbroken", spec := "officeUnbroken", inPlace := ["internal/bytealg.IndexByteString", "internal/bytealg.IndexString"], unfollowed := true, recurses := true, named := ["internal/bytealg.MaxLen"], apart := false }
def OfficeUnbrokenSaid : Prop := officeUnbrokenRow.holds Try.pinned (OpenSpec.ofChange officeUnbrokenSpec)

/-- ITS FALSE NEIGHBOUR: 'it returns false'. Refute it at one input. -/
def officeUnbrokenWrong : ChangeSpec := { name := "officeUnbroken", fn := fun _ => fun
  | [d1, d2, d3] => { results := [.lit (.bool false)], args := [d1, d2, d3] }
  | _ => none }
def OfficeUnbrokenWrongFalsely : Prop := officeUnbrokenRow.holds Try.pinned (OpenSpec.ofChange officeUnbrokenWrong)

/-- 'archivumlaw06.OfficeBefore': WHATEVER THE INPUT: true; the input reads as it did. -/
def officeBeforeSpec : ChangeSpec := { name := "officeBefore", fn := fun _ => fun
  | [d1, d2, d3, d4, d5, d6] => { results := [.lit (.bool true)], args := [d1, d2, d3, d4, d5, d6] }
  | _ => none }
def officeBeforeRow : OpenClaim := { program := "ytchaihdbljkphaa", sum := "f518081d1d9b73328007839edfda9b3d5875932da3539ee3e3888313bbf1d1b0", func := "archivum/archivumlaw06.OfficeBefore", spec := "officeBefore", inPlace := ["internal/bytealg.IndexByteString", "internal/bytealg.IndexString"], unfollowed := true, recurses := true, named := ["internal/bytealg.MaxLen"], apart := false }
def OfficeBeforeSaid : Prop := officeBeforeRow.holds Try.pinned (OpenSpec.ofChange officeBeforeSpec)

/-- ITS FALSE NEIGHBOUR: 'it returns false'. Refute it at one input. -/
def officeBeforeWrong : ChangeSpec := { name := "officeBefore", fn := fun _ => fun
  | [d1, d2, d3, d4, d5, d6] => { results := [.lit (.bool false)], args := [d1, d2, d3, d4, d5, d6] }
  | _ => none }
def OfficeBeforeWrongFalsely : Prop := officeBeforeRow.holds Try.pinned (OpenSpec.ofChange officeBeforeWrong)

/- THE SECOND FORM. 'bulk': how many values and letters a reading holds, each counted each time it is reached (what is shared counts as often as it is met; a slice's spare places count too). A statement '..UptoSaid' is the law's where the arguments, and the package variables that the reading takes, are together of bulk at most 1048576: NARROWER than '..Said'. Prove '..Said' where nothing that the law and all that it calls make is longer than what came in: it says more and counts as full. Else prove '..UptoSaid'. A law counts once. -/
mutual
def uptoBulk {H : Type} : DataW H → Nat
  | .lit (.string bytes) => bytes.length + 1
  | .lit _ => 1
  | .nil => 1
  | .ptr d => uptoBulk d + 1
  | .slice elems spare => uptoBulkAll elems + uptoBulkAll spare + 1
  | .agg parts => uptoBulkAll parts + 1
  | .iface _ d => uptoBulk d + 1
  | .map entries => uptoBulkEntries entries + 1
  | .held _ => 1
def uptoBulkAll {H : Type} : List (DataW H) → Nat
  | [] => 0
  | d :: r => uptoBulk d + uptoBulkAll r
def uptoBulkEntries {H : Type} : List (Lit × DataW H) → Nat
  | [] => 0
  | x :: r => uptoBulkEntry x + uptoBulkEntries r
def uptoBulkEntry {H : Type} : Lit × DataW H → Nat
  | (.string bytes, d) => bytes.length + uptoBulk d + 1
  | (_, d) => uptoBulk d + 1
 end
def uptoSmall : (H : Type) → List (DataW H) → Bool := fun _ ds => decide (uptoBulkAll ds ≤ 1048576)
def OpenSpec.upto (s : _root_.Go.ChangeSpec) : _root_.Go.OpenSpec := { _root_.Go.OpenSpec.ofChange s with cond := some uptoSmall }

/-- 'archivumlaw06.OfficeChains', WHERE WHAT IT READS IS OF BULK AT MOST 1048576: true; the input reads as it did. -/
def officeChainsUptoRow : OpenClaim := { program := "ytchaihdbljkphaa", sum := "f518081d1d9b73328007839edfda9b3d5875932da3539ee3e3888313bbf1d1b0", func := "archivum/archivumlaw06.OfficeChains", spec := "officeChains", inPlace := ["internal/bytealg.IndexByteString", "internal/bytealg.IndexString"], unfollowed := true, recurses := true, named := ["internal/bytealg.MaxLen"], apart := false, narrowed := true }
def OfficeChainsUptoSaid : Prop := officeChainsUptoRow.holds Try.pinned (OpenSpec.upto officeChainsSpec)

/-- 'archivumlaw06.OfficeReaches', WHERE WHAT IT READS IS OF BULK AT MOST 1048576: true; the input reads as it did. -/
def officeReachesUptoRow : OpenClaim := { program := "ytchaihdbljkphaa", sum := "f518081d1d9b73328007839edfda9b3d5875932da3539ee3e3888313bbf1d1b0", func := "archivum/archivumlaw06.OfficeReaches", spec := "officeReaches", inPlace := ["internal/bytealg.IndexByteString", "internal/bytealg.IndexString"], unfollowed := true, recurses := true, named := ["internal/bytealg.MaxLen"], apart := false, narrowed := true }
def OfficeReachesUptoSaid : Prop := officeReachesUptoRow.holds Try.pinned (OpenSpec.upto officeReachesSpec)

/-- 'archivumlaw06.OfficeEnds', WHERE WHAT IT READS IS OF BULK AT MOST 1048576: true; the input reads as it did. -/
def officeEndsUptoRow : OpenClaim := { program := "ytchaihdbljkphaa", sum := "f518081d1d9b73328007839edfda9b3d5875932da3539ee3e3888313bbf1d1b0", func := "archivum/archivumlaw06.OfficeEnds", spec := "officeEnds", inPlace := ["internal/bytealg.IndexByteString", "internal/bytealg.IndexString"], unfollowed := true, recurses := true, named := ["internal/bytealg.MaxLen"], apart := false, narrowed := true }
def OfficeEndsUptoSaid : Prop := officeEndsUptoRow.holds Try.pinned (OpenSpec.upto officeEndsSpec)

/-- 'archivumlaw06.OfficeOnce', WHERE WHAT IT READS IS OF BULK AT MOST 1048576: true; the input reads as it did. -/
def officeOnceUptoRow : OpenClaim := { program := "ytchaihdbljkphaa", sum := "f518081d1d9b73328007839edfda9b3d5875932da3539ee3e3888313bbf1d1b0", func := "archivum/archivumlaw06.OfficeOnce", spec := "officeOnce", inPlace := ["internal/bytealg.IndexByteString", "internal/bytealg.IndexString"], unfollowed := true, recurses := true, named := ["internal/bytealg.MaxLen"], apart := false, narrowed := true }
def OfficeOnceUptoSaid : Prop := officeOnceUptoRow.holds Try.pinned (OpenSpec.upto officeOnceSpec)

/-- 'archivumlaw06.OfficeUnbroken', WHERE WHAT IT READS IS OF BULK AT MOST 1048576: true; the input reads as it did. -/
def officeUnbrokenUptoRow : OpenClaim := { program := "ytchaihdbljkphaa", sum := "f518081d1d9b73328007839edfda9b3d5875932da3539ee3e3888313bbf1d1b0", func := "archivum/archivumlaw06.OfficeUnbroken", spec := "officeUnbroken", inPlace := ["internal/bytealg.IndexByteString", "internal/bytealg.IndexString"], unfollowed := true, recurses := true, named := ["internal/bytealg.MaxLen"], apart := false, narrowed := true }
def OfficeUnbrokenUptoSaid : Prop := officeUnbrokenUptoRow.holds Try.pinned (OpenSpec.upto officeUnbrokenSpec)

/-- 'archivumlaw06.OfficeBefore', WHERE WHAT IT READS IS OF BULK AT MOST 1048576: true; the input reads as it did. -/
def officeBeforeUptoRow : OpenClaim := { program := "ytchaihdbljkphaa", sum := "f518081d1d9b73328007839edfda9b3d5875932da3539ee3e3888313bbf1d1b0", func := "archivum/archivumlaw06.OfficeBefore", spec := "officeBefore", inPlace := ["internal/bytealg.IndexByteString", "internal/bytealg.IndexString"], unfollowed := true, recurses := true, named := ["internal/bytealg.MaxLen"], apart := false, narrowed := true }
def OfficeBeforeUptoSaid : Prop := officeBeforeUptoRow.holds Try.pinned (OpenSpec.upto officeBeforeSpec)

end Rows
end Go.Proofs.Ytchaihdbljkphaa
