/-
  No cell of these rows narrows 'for every input' (looked for: loops, veiled, ifaces, maps, wideKeys, modest, calm, conditions, laid).
  DERIVED. THE GIVEN ROWS OF THIS SEAT. 3 by the template 'for every input the law returns true; each argument reads behind the call as it read before'; 0 by the template 'total and deterministic' (their statements: YteohlpmojfjjdaaGreatTotals.lean).
  GIVEN WITH THE SEED: the statements are not yours to turn. If you find one false, say at which input.
  Laid BY PROGRAM, IN A SANDBOX (cutbox-rows.mjs): the forced cells as the released guide's own fill.sh prints them over the translation 1e4576ad8242db06… (all of the seat's roots in one cut). By AI agents, Wed Nov 11 2026. No macro, syntax, notation, axiom, sorry.
-/
import Derived.Test.YteohlpmojfjjdaaGreatChecked
import GoSem.Claim
import GoSem.ClaimJoined
import GoSem.ClaimMapViews
import Derived.JoinedTies
import Derived.KernelRfl
namespace Go.Proofs.YteohlpmojfjjdaaGreat
/- THE CELL 'sum', in the pinned program and in every row, IS THE sha256 OF THE DUMP (.gsa) THAT YteohlpmojfjjdaaGreatProg.lean LOADS. Nothing in Lean hashes anything: it is a label: what it is worth is what the hold of that sum in a sandbox is worth. -/
noncomputable def Tryz.pinned : Pinned := { name := "yteohlpmojfjjdaagreat", sum := "1e4576ad8242db065a3bccb4ff567f94e2d636a014d1986a171b07f54db72f46", checked := Tryz.checked }
namespace Rows
def none {H : Type} : Left H := { results := [], args := [] }

/-- 'davitlaw14.CheckCompiles': WHATEVER THE INPUT: true; the input reads as it did. -/
def checkCompilesSpec : ChangeSpec := { name := "checkCompiles", fn := fun _ => fun
  | [d] => { results := [.lit (.bool true)], args := [d] }
  | _ => none }
def checkCompilesRow : OpenClaim := { program := "yteohlpmojfjjdaagreat", sum := "1e4576ad8242db065a3bccb4ff567f94e2d636a014d1986a171b07f54db72f46", func := "davit/davitlaw14.CheckCompiles", spec := "checkCompiles", inPlace := ["internal/bytealg.IndexByteString", "slices.overlaps[davit/nfa.Inst]"], unfollowed := true, recurses := true, apart := false }
def CheckCompilesSaid : Prop := checkCompilesRow.holds Tryz.pinned (OpenSpec.ofChange checkCompilesSpec)

/-- ITS FALSE NEIGHBOUR: 'it returns false'. Refute it at one input. -/
def checkCompilesWrong : ChangeSpec := { name := "checkCompiles", fn := fun _ => fun
  | [d] => { results := [.lit (.bool false)], args := [d] }
  | _ => none }
def CheckCompilesWrongFalsely : Prop := checkCompilesRow.holds Tryz.pinned (OpenSpec.ofChange checkCompilesWrong)

/-- 'davitlaw14.CheckReads': WHATEVER THE INPUT: true; the input reads as it did. -/
def checkReadsSpec : ChangeSpec := { name := "checkReads", fn := fun _ => fun
  | [d] => { results := [.lit (.bool true)], args := [d] }
  | _ => none }
def checkReadsRow : OpenClaim := { program := "yteohlpmojfjjdaagreat", sum := "1e4576ad8242db065a3bccb4ff567f94e2d636a014d1986a171b07f54db72f46", func := "davit/davitlaw14.CheckReads", spec := "checkReads", inPlace := ["internal/bytealg.IndexByteString", "slices.overlaps[davit/nfa.Inst]"], unfollowed := true, recurses := true, apart := false }
def CheckReadsSaid : Prop := checkReadsRow.holds Tryz.pinned (OpenSpec.ofChange checkReadsSpec)

/-- ITS FALSE NEIGHBOUR: 'it returns false'. Refute it at one input. -/
def checkReadsWrong : ChangeSpec := { name := "checkReads", fn := fun _ => fun
  | [d] => { results := [.lit (.bool false)], args := [d] }
  | _ => none }
def CheckReadsWrongFalsely : Prop := checkReadsRow.holds Tryz.pinned (OpenSpec.ofChange checkReadsWrong)

/-- 'davitlaw14.CheckTargets': WHATEVER THE INPUT: true; the input reads as it did. -/
def checkTargetsSpec : ChangeSpec := { name := "checkTargets", fn := fun _ => fun
  | [d] => { results := [.lit (.bool true)], args := [d] }
  | _ => none }
def checkTargetsRow : OpenClaim := { program := "yteohlpmojfjjdaagreat", sum := "1e4576ad8242db065a3bccb4ff567f94e2d636a014d1986a171b07f54db72f46", func := "davit/davitlaw14.CheckTargets", spec := "checkTargets", inPlace := ["internal/bytealg.IndexByteString", "slices.overlaps[davit/nfa.Inst]"], unfollowed := true, recurses := true, apart := false }
def CheckTargetsSaid : Prop := checkTargetsRow.holds Tryz.pinned (OpenSpec.ofChange checkTargetsSpec)

/-- ITS FALSE NEIGHBOUR: 'it returns false'. Refute it at one input. -/
def checkTargetsWrong : ChangeSpec := { name := "checkTargets", fn := fun _ => fun
  | [d] => { results := [.lit (.bool false)], args := [d] }
  | _ => none }
def CheckTargetsWrongFalsely : Prop := checkTargetsRow.holds Tryz.pinned (OpenSpec.ofChange checkTargetsWrong)

/- THE SECOND FORM. 'bulk': how many values and letters a reading holds, each counted each time it is reached (what is shared counts as often as it is met; a slice's spare places count too). A statement '..UptoSaid' is the law's where the arguments, and the package variables that the reading takes, are together of bulk at most 1048576: NARROWER than '..Said'. Prove '..Said' where nothing that the law and all that it calls make is longer than what came in: it says more and counts as full. Else prove '..UptoSaid'. A law counts once. -/
mutual
def uptoBulk {H : Type} : DataW H → Nat
  | .lit (.string bytes) => bytes.length + 1
  | .lit _ => 1
  | .nil => 1
  | .ptr d => uptoBulk d + 1
  | .slice elems spare => uptoBulkAll elems + uptoBulkAll spare + 1
  | .agg parts => uptoBulkAll parts + 1
  | .iface _ d => uptoBulk d + 1
  | .map entries => uptoBulkEntries entries + 1
  | .held _ => 1
def uptoBulkAll {H : Type} : List (DataW H) → Nat
  | [] => 0
  | d :: r => uptoBulk d + uptoBulkAll r
def uptoBulkEntries {H : Type} : List (Lit × DataW H) → Nat
  | [] => 0
  | x :: r => uptoBulkEntry x + uptoBulkEntries r
def uptoBulkEntry {H : Type} : Lit × DataW H → Nat
  | (.string bytes, d) => bytes.length + uptoBulk d + 1
  | (_, d) => uptoBulk d + 1
 end
def uptoSmall : (H : Type) → List (DataW H) → Bool := fun _ ds => decide (uptoBulkAll ds ≤ 1048576)
def OpenSpec.upto (s : _root_.Go.ChangeSpec) : _root_.Go.OpenSpec := { _root_.Go.OpenSpec.ofChange s with cond := some uptoSmall }

/-- 'davitlaw14.CheckCompiles', WHERE WHAT IT READS IS OF BULK AT MOST 1048576: true; the input reads as it did. -/
def checkCompilesUptoRow : OpenClaim := { program := "yteohlpmojfjjdaagreat", sum := "1e4576ad8242db065a3bccb4ff567f94e2d636a014d1986a171b07f54db72f46", func := "davit/davitlaw14.CheckCompiles", spec := "checkCompiles", inPlace := ["internal/bytealg.IndexByteString", "slices.overlaps[davit/nfa.Inst]"], unfollowed := true, recurses := true, apart := false, narrowed := true }
def CheckCompilesUptoSaid : Prop := checkCompilesUptoRow.holds Tryz.pinned (OpenSpec.upto checkCompilesSpec)

/-- 'davitlaw14.CheckReads', WHERE WHAT IT READS IS OF BULK AT MOST 1048576: true; the input reads as it did. -/
def checkReadsUptoRow : OpenClaim := { program := "yteohlpmojfjjdaagreat", sum := "1e4576ad8242db065a3bccb4ff567f94e2d636a014d1986a171b07f54db72f46", func := "davit/davitlaw14.CheckReads", spec := "checkReads", inPlace := ["internal/bytealg.IndexByteString", "slices.overlaps[davit/nfa.Inst]"], unfollowed := true, recurses := true, apart := false, narrowed := true }
def CheckReadsUptoSaid : Prop := checkReadsUptoRow.holds Tryz.pinned (OpenSpec.upto checkReadsSpec)

/-- 'davitlaw14.CheckTargets', WHERE WHAT IT READS IS OF BULK AT MOST 1048576: true; the input reads as it did. -/
def checkTargetsUptoRow : OpenClaim := { program := "yteohlpmojfjjdaagreat", sum := "1e4576ad8242db065a3bccb4ff567f94e2d636a014d1986a171b07f54db72f46", func := "davit/davitlaw14.CheckTargets", spec := "checkTargets", inPlace := ["internal/bytealg.IndexByteString", "slices.overlaps[davit/nfa.Inst]"], unfollowed := true, recurses := true, apart := false, narrowed := true }
def CheckTargetsUptoSaid : Prop := checkTargetsUptoRow.holds Tryz.pinned (OpenSpec.upto checkTargetsSpec)

end Rows
end Go.Proofs.YteohlpmojfjjdaaGreat
