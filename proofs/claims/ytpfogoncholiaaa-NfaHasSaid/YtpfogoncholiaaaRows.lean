/-
  No cell of these rows narrows 'for every input' (looked for: loops, veiled, ifaces, maps, wideKeys, modest, calm, conditions, laid).
  DERIVED. THE GIVEN ROWS OF THIS SEAT. 3 by the template 'for every input the law returns true; each argument reads behind the call as it read before'; 0 by the template 'total and deterministic' (their statements: YtpfogoncholiaaaTotals.lean).
  GIVEN WITH THE SEED: the statements are not yours to turn. If you find one false, say at which input.
  Laid BY PROGRAM, IN A SANDBOX (cutbox-rows.mjs): the forced cells as the released guide's own fill.sh prints them over the translation e937366f7ac44f1b… (all of the seat's roots in one cut). By AI agents, Wed Nov 11 2026. No macro, syntax, notation, axiom, sorry.
-/
import Derived.Test.YtpfogoncholiaaaChecked
import GoSem.Claim
import GoSem.ClaimJoined
import GoSem.ClaimMapViews
import Derived.JoinedTies
import Derived.KernelRfl
namespace Go.Proofs.Ytpfogoncholiaaa
/- THE CELL 'sum', in the pinned program and in every row, IS THE sha256 OF THE DUMP (.gsa) THAT YtpfogoncholiaaaProg.lean LOADS. Nothing in Lean hashes anything: it is a label: what it is worth is what the hold of that sum in a sandbox is worth. -/
noncomputable def Try.pinned : Pinned := { name := "ytpfogoncholiaaa", sum := "e937366f7ac44f1b725c251674aefb0aa2f6df26e869c211420d1f4cca1549ea", checked := Try.checked }
namespace Rows
def none {H : Type} : Left H := { results := [], args := [] }

/-- 'davitlaw09.NfaBuilds': WHATEVER THE INPUT: true; the input reads as it did. -/
def nfaBuildsSpec : ChangeSpec := { name := "nfaBuilds", fn := fun _ => fun
  | [d] => { results := [.lit (.bool true)], args := [d] }
  | _ => none }
def nfaBuildsRow : OpenClaim := { program := "ytpfogoncholiaaa", sum := "e937366f7ac44f1b725c251674aefb0aa2f6df26e869c211420d1f4cca1549ea", func := "davit/davitlaw09.NfaBuilds", spec := "nfaBuilds", inPlace := ["slices.overlaps[davit/nfa.Inst]"], unfollowed := true, recurses := true, apart := false }
def NfaBuildsSaid : Prop := nfaBuildsRow.holds Try.pinned (OpenSpec.ofChange nfaBuildsSpec)

/-- ITS FALSE NEIGHBOUR: 'it returns false'. Refute it at one input. -/
def nfaBuildsWrong : ChangeSpec := { name := "nfaBuilds", fn := fun _ => fun
  | [d] => { results := [.lit (.bool false)], args := [d] }
  | _ => none }
def NfaBuildsWrongFalsely : Prop := nfaBuildsRow.holds Try.pinned (OpenSpec.ofChange nfaBuildsWrong)

/-- 'davitlaw09.NfaHas': WHATEVER THE INPUT: true; the input reads as it did. -/
def nfaHasSpec : ChangeSpec := { name := "nfaHas", fn := fun _ => fun
  | [d1, d2] => { results := [.lit (.bool true)], args := [d1, d2] }
  | _ => none }
def nfaHasRow : OpenClaim := { program := "ytpfogoncholiaaa", sum := "e937366f7ac44f1b725c251674aefb0aa2f6df26e869c211420d1f4cca1549ea", func := "davit/davitlaw09.NfaHas", spec := "nfaHas", inPlace := ["slices.overlaps[davit/nfa.Inst]"], unfollowed := true, recurses := true, apart := false }
def NfaHasSaid : Prop := nfaHasRow.holds Try.pinned (OpenSpec.ofChange nfaHasSpec)

/-- ITS FALSE NEIGHBOUR: 'it returns false'. Refute it at one input. -/
def nfaHasWrong : ChangeSpec := { name := "nfaHas", fn := fun _ => fun
  | [d1, d2] => { results := [.lit (.bool false)], args := [d1, d2] }
  | _ => none }
def NfaHasWrongFalsely : Prop := nfaHasRow.holds Try.pinned (OpenSpec.ofChange nfaHasWrong)

/-- 'davitlaw09.NfaPlaces': WHATEVER THE INPUT: true; the input reads as it did. -/
def nfaPlacesSpec : ChangeSpec := { name := "nfaPlaces", fn := fun _ => fun
  | [d] => { results := [.lit (.bool true)], args := [d] }
  | _ => none }
def nfaPlacesRow : OpenClaim := { program := "ytpfogoncholiaaa", sum := "e937366f7ac44f1b725c251674aefb0aa2f6df26e869c211420d1f4cca1549ea", func := "davit/davitlaw09.NfaPlaces", spec := "nfaPlaces", inPlace := ["slices.overlaps[davit/nfa.Inst]"], unfollowed := true, recurses := true, apart := false }
def NfaPlacesSaid : Prop := nfaPlacesRow.holds Try.pinned (OpenSpec.ofChange nfaPlacesSpec)

/-- ITS FALSE NEIGHBOUR: 'it returns false'. Refute it at one input. -/
def nfaPlacesWrong : ChangeSpec := { name := "nfaPlaces", fn := fun _ => fun
  | [d] => { results := [.lit (.bool false)], args := [d] }
  | _ => none }
def NfaPlacesWrongFalsely : Prop := nfaPlacesRow.holds Try.pinned (OpenSpec.ofChange nfaPlacesWrong)

/- THE SECOND FORM. 'bulk': how many values and letters a reading holds, each counted each time it is reached (what is shared counts as often as it is met; a slice's spare places count too). A statement '..UptoSaid' is the law's where the arguments, and the package variables that the reading takes, are together of bulk at most 1048576: NARROWER than '..Said'. Prove '..Said' where nothing that the law and all that it calls make is longer than what came in: it says more and counts as full. Else prove '..UptoSaid'. A law counts once. -/
mutual
def uptoBulk {H : Type} : DataW H → Nat
  | .lit (.string bytes) => bytes.length + 1
  | .lit _ => 1
  | .nil => 1
  | .ptr d => uptoBulk d + 1
  | .slice elems spare => uptoBulkAll elems + uptoBulkAll spare + 1
  | .agg parts => uptoBulkAll parts + 1
  | .iface _ d => uptoBulk d + 1
  | .map entries => uptoBulkEntries entries + 1
  | .held _ => 1
def uptoBulkAll {H : Type} : List (DataW H) → Nat
  | [] => 0
  | d :: r => uptoBulk d + uptoBulkAll r
def uptoBulkEntries {H : Type} : List (Lit × DataW H) → Nat
  | [] => 0
  | x :: r => uptoBulkEntry x + uptoBulkEntries r
def uptoBulkEntry {H : Type} : Lit × DataW H → Nat
  | (.string bytes, d) => bytes.length + uptoBulk d + 1
  | (_, d) => uptoBulk d + 1
 end
def uptoSmall : (H : Type) → List (DataW H) → Bool := fun _ ds => decide (uptoBulkAll ds ≤ 1048576)
def OpenSpec.upto (s : _root_.Go.ChangeSpec) : _root_.Go.OpenSpec := { _root_.Go.OpenSpec.ofChange s with cond := some uptoSmall }

/-- 'davitlaw09.NfaBuilds', WHERE WHAT IT READS IS OF BULK AT MOST 1048576: true; the input reads as it did. -/
def nfaBuildsUptoRow : OpenClaim := { program := "ytpfogoncholiaaa", sum := "e937366f7ac44f1b725c251674aefb0aa2f6df26e869c211420d1f4cca1549ea", func := "davit/davitlaw09.NfaBuilds", spec := "nfaBuilds", inPlace := ["slices.overlaps[davit/nfa.Inst]"], unfollowed := true, recurses := true, apart := false, narrowed := true }
def NfaBuildsUptoSaid : Prop := nfaBuildsUptoRow.holds Try.pinned (OpenSpec.upto nfaBuildsSpec)

/-- 'davitlaw09.NfaHas', WHERE WHAT IT READS IS OF BULK AT MOST 1048576: true; the input reads as it did. -/
def nfaHasUptoRow : OpenClaim := { program := "ytpfogoncholiaaa", sum := "e937366f7ac44f1b725c251674aefb0aa2f6df26e869c211420d1f4cca1549ea", func := "davit/davitlaw09.NfaHas", spec := "nfaHas", inPlace := ["slices.overlaps[davit/nfa.Inst]"], unfollowed := true, recurses := true, apart := false, narrowed := true }
def NfaHasUptoSaid : Prop := nfaHasUptoRow.holds Try.pinned (OpenSpec.upto nfaHasSpec)

/-- 'davitlaw09.NfaPlaces', WHERE WHAT IT READS IS OF BULK AT MOST 1048576: true; the input reads as it did. -/
def nfaPlacesUptoRow : OpenClaim := { program := "ytpfogoncholiaaa", sum := "e937366f7ac44f1b725c251674aefb0aa2f6df26e869c211420d1f4cca1549ea", func := "davit/davitlaw09.NfaPlaces", spec := "nfaPlaces", inPlace := ["slices.overlaps[davit/nfa.Inst]"], unfollowed := true, recurses := true, apart := false, narrowed := true }
def NfaPlacesUptoSaid : Prop := nfaPlacesUptoRow.holds Try.pinned (OpenSpec.upto nfaPlacesSpec)

end Rows
end Go.Proofs.Ytpfogoncholiaaa
