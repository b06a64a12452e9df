/-
  No cell of these rows narrows 'for every input' (looked for: loops, veiled, ifaces, maps, wideKeys, modest, calm, conditions, laid).
  DERIVED. THE GIVEN ROWS OF THIS SEAT. 3 by the template 'for every input the law returns true; each argument reads behind the call as it read before'; 0 by the template 'total and deterministic' (their statements: YtjpbndpfbdfhjaaTotals.lean).
  GIVEN WITH THE SEED: the statements are not yours to turn. If you find one false, say at which input.
  Laid BY PROGRAM, IN A SANDBOX (cutbox-rows.mjs): the forced cells as the released guide's own fill.sh prints them over the translation 9448698e5666414d… (all of the seat's roots in one cut). By AI agents, Wed Nov 11 2026. No macro, syntax, notation, axiom, sorry.
-/
import Derived.Test.YtjpbndpfbdfhjaaChecked
import GoSem.Claim
import GoSem.ClaimJoined
import GoSem.ClaimMapViews
import Derived.JoinedTies
import Derived.KernelRfl
namespace Go.Proofs.Ytjpbndpfbdfhjaa
/- THE CELL 'sum', in the pinned program and in every row, IS THE sha256 OF THE DUMP (.gsa) THAT YtjpbndpfbdfhjaaProg.lean LOADS. Nothing in Lean hashes anything: it is a label: what it is worth is what the hold of that sum in a sandbox is worth. -/
noncomputable def Try.pinned : Pinned := { name := "ytjpbndpfbdfhjaa", sum := "9448698e5666414dd4023eb03bbc086a556cebdcab14d13fe92956465ab4b711", checked := Try.checked }
namespace Rows
def none {H : Type} : Left H := { results := [], args := [] }

/-- 'davitlaw10.SeekArms': WHATEVER THE INPUT: true; the input reads as it did. -/
def seekArmsSpec : ChangeSpec := { name := "seekArms", fn := fun _ => fun
  | [d] => { results := [.lit (.bool true)], args := [d] }
  | _ => none }
def seekArmsRow : OpenClaim := { program := "ytjpbndpfbdfhjaa", sum := "9448698e5666414dd4023eb03bbc086a556cebdcab14d13fe92956465ab4b711", func := "davit/davitlaw10.SeekArms", spec := "seekArms", inPlace := ["slices.overlaps[davit/nfa.Inst]"], unfollowed := true, recurses := true, apart := false }
def SeekArmsSaid : Prop := seekArmsRow.holds Try.pinned (OpenSpec.ofChange seekArmsSpec)

/-- ITS FALSE NEIGHBOUR: 'it returns false'. Refute it at one input. -/
def seekArmsWrong : ChangeSpec := { name := "seekArms", fn := fun _ => fun
  | [d] => { results := [.lit (.bool false)], args := [d] }
  | _ => none }
def SeekArmsWrongFalsely : Prop := seekArmsRow.holds Try.pinned (OpenSpec.ofChange seekArmsWrong)

/-- 'davitlaw10.SeekLooks': WHATEVER THE INPUT: true; the input reads as it did. -/
def seekLooksSpec : ChangeSpec := { name := "seekLooks", fn := fun _ => fun
  | [d1, d2] => { results := [.lit (.bool true)], args := [d1, d2] }
  | _ => none }
def seekLooksRow : OpenClaim := { program := "ytjpbndpfbdfhjaa", sum := "9448698e5666414dd4023eb03bbc086a556cebdcab14d13fe92956465ab4b711", func := "davit/davitlaw10.SeekLooks", spec := "seekLooks", inPlace := ["slices.overlaps[davit/nfa.Inst]"], unfollowed := true, recurses := true, apart := false }
def SeekLooksSaid : Prop := seekLooksRow.holds Try.pinned (OpenSpec.ofChange seekLooksSpec)

/-- ITS FALSE NEIGHBOUR: 'it returns false'. Refute it at one input. -/
def seekLooksWrong : ChangeSpec := { name := "seekLooks", fn := fun _ => fun
  | [d1, d2] => { results := [.lit (.bool false)], args := [d1, d2] }
  | _ => none }
def SeekLooksWrongFalsely : Prop := seekLooksRow.holds Try.pinned (OpenSpec.ofChange seekLooksWrong)

/-- 'davitlaw10.SeekStays': WHATEVER THE INPUT: true; the input reads as it did. -/
def seekStaysSpec : ChangeSpec := { name := "seekStays", fn := fun _ => fun
  | [d1, d2, d3] => { results := [.lit (.bool true)], args := [d1, d2, d3] }
  | _ => none }
def seekStaysRow : OpenClaim := { program := "ytjpbndpfbdfhjaa", sum := "9448698e5666414dd4023eb03bbc086a556cebdcab14d13fe92956465ab4b711", func := "davit/davitlaw10.SeekStays", spec := "seekStays", inPlace := ["slices.overlaps[davit/nfa.Inst]"], unfollowed := true, recurses := true, apart := false }
def SeekStaysSaid : Prop := seekStaysRow.holds Try.pinned (OpenSpec.ofChange seekStaysSpec)

/-- ITS FALSE NEIGHBOUR: 'it returns false'. Refute it at one input. -/
def seekStaysWrong : ChangeSpec := { name := "seekStays", fn := fun _ => fun
  | [d1, d2, d3] => { results := [.lit (.bool false)], args := [d1, d2, d3] }
  | _ => none }
def SeekStaysWrongFalsely : Prop := seekStaysRow.holds Try.pinned (OpenSpec.ofChange seekStaysWrong)

/- THE SECOND FORM. 'bulk': how many values and letters a reading holds, each counted each time it is reached (what is shared counts as often as it is met; a slice's spare places count too). A statement '..UptoSaid' is the law's where the arguments, and the package variables that the reading takes, are together of bulk at most 1048576: NARROWER than '..Said'. Prove '..Said' where nothing that the law and all that it calls make is longer than what came in: it says more and counts as full. Else prove '..UptoSaid'. A law counts once. -/
mutual
def uptoBulk {H : Type} : DataW H → Nat
  | .lit (.string bytes) => bytes.length + 1
  | .lit _ => 1
  | .nil => 1
  | .ptr d => uptoBulk d + 1
  | .slice elems spare => uptoBulkAll elems + uptoBulkAll spare + 1
  | .agg parts => uptoBulkAll parts + 1
  | .iface _ d => uptoBulk d + 1
  | .map entries => uptoBulkEntries entries + 1
  | .held _ => 1
def uptoBulkAll {H : Type} : List (DataW H) → Nat
  | [] => 0
  | d :: r => uptoBulk d + uptoBulkAll r
def uptoBulkEntries {H : Type} : List (Lit × DataW H) → Nat
  | [] => 0
  | x :: r => uptoBulkEntry x + uptoBulkEntries r
def uptoBulkEntry {H : Type} : Lit × DataW H → Nat
  | (.string bytes, d) => bytes.length + uptoBulk d + 1
  | (_, d) => uptoBulk d + 1
 end
def uptoSmall : (H : Type) → List (DataW H) → Bool := fun _ ds => decide (uptoBulkAll ds ≤ 1048576)
def OpenSpec.upto (s : _root_.Go.ChangeSpec) : _root_.Go.OpenSpec := { _root_.Go.OpenSpec.ofChange s with cond := some uptoSmall }

/-- 'davitlaw10.SeekArms', WHERE WHAT IT READS IS OF BULK AT MOST 1048576: true; the input reads as it did. -/
def seekArmsUptoRow : OpenClaim := { program := "ytjpbndpfbdfhjaa", sum := "9448698e5666414dd4023eb03bbc086a556cebdcab14d13fe92956465ab4b711", func := "davit/davitlaw10.SeekArms", spec := "seekArms", inPlace := ["slices.overlaps[davit/nfa.Inst]"], unfollowed := true, recurses := true, apart := false, narrowed := true }
def SeekArmsUptoSaid : Prop := seekArmsUptoRow.holds Try.pinned (OpenSpec.upto seekArmsSpec)

/-- 'davitlaw10.SeekLooks', WHERE WHAT IT READS IS OF BULK AT MOST 1048576: true; the input reads as it did. -/
def seekLooksUptoRow : OpenClaim := { program := "ytjpbndpfbdfhjaa", sum := "9448698e5666414dd4023eb03bbc086a556cebdcab14d13fe92956465ab4b711", func := "davit/davitlaw10.SeekLooks", spec := "seekLooks", inPlace := ["slices.overlaps[davit/nfa.Inst]"], unfollowed := true, recurses := true, apart := false, narrowed := true }
def SeekLooksUptoSaid : Prop := seekLooksUptoRow.holds Try.pinned (OpenSpec.upto seekLooksSpec)

/-- 'davitlaw10.SeekStays', WHERE WHAT IT READS IS OF BULK AT MOST 1048576: true; the input reads as it did. -/
def seekStaysUptoRow : OpenClaim := { program := "ytjpbndpfbdfhjaa", sum := "9448698e5666414dd4023eb03bbc086a556cebdcab14d13fe92956465ab4b711", func := "davit/davitlaw10.SeekStays", spec := "seekStays", inPlace := ["slices.overlaps[davit/nfa.Inst]"], unfollowed := true, recurses := true, apart := false, narrowed := true }
def SeekStaysUptoSaid : Prop := seekStaysUptoRow.holds Try.pinned (OpenSpec.upto seekStaysSpec)

end Rows
end Go.Proofs.Ytjpbndpfbdfhjaa
