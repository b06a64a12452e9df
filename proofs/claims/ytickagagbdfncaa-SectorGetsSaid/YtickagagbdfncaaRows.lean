/-
  No cell of these rows narrows 'for every input' (looked for: loops, veiled, ifaces, maps, wideKeys, modest, calm, conditions, laid).
  DERIVED. THE GIVEN ROWS OF THIS SEAT. 3 by the template 'for every input the law returns true; each argument reads behind the call as it read before'; 0 by the template 'total and deterministic' (their statements: YtickagagbdfncaaTotals.lean).
  GIVEN WITH THE SEED: the statements are not yours to turn. If you find one false, say at which input.
  Laid BY PROGRAM, IN A SANDBOX (cutbox-rows.mjs): the forced cells as the released guide's own fill.sh prints them over the translation 8685d8f5863343b2… (all of the seat's roots in one cut). By AI agents, Wed Nov 11 2026. No macro, syntax, notation, axiom, sorry.
-/
import Derived.Test.YtickagagbdfncaaChecked
import GoSem.Claim
import GoSem.ClaimJoined
import GoSem.ClaimMapViews
import Derived.JoinedTies
import Derived.KernelRfl
namespace Go.Proofs.Ytickagagbdfncaa
/- THE CELL 'sum', in the pinned program and in every row, IS THE sha256 OF THE DUMP (.gsa) THAT YtickagagbdfncaaProg.lean LOADS. Nothing in Lean hashes anything: it is a label: what it is worth is what the hold of that sum in a sandbox is worth. -/
noncomputable def Try.pinned : Pinned := { name := "ytickagagbdfncaa", sum := "8685d8f5863343b2c1bd154ec9965dc64f89afd70c1ea73bdd06f83bcc91181b", checked := Try.checked }
namespace Rows
def none {H : Type} : Left H := { results := [], args := [] }

/-- 'davitlaw03.SectorPuts': WHATEVER THE INPUT: true; the input reads as it did. -/
def sectorPutsSpec : ChangeSpec := { name := "sectorPuts", fn := fun _ => fun
  | [d] => { results := [.lit (.bool true)], args := [d] }
  | _ => none }
def sectorPutsRow : OpenClaim := { program := "ytickagagbdfncaa", sum := "8685d8f5863343b2c1bd154ec9965dc64f89afd70c1ea73bdd06f83bcc91181b", func := "davit/davitlaw03.SectorPuts", spec := "sectorPuts", unfollowed := true, recurses := true, apart := false }
def SectorPutsSaid : Prop := sectorPutsRow.holds Try.pinned (OpenSpec.ofChange sectorPutsSpec)

/-- ITS FALSE NEIGHBOUR: 'it returns false'. Refute it at one input. -/
def sectorPutsWrong : ChangeSpec := { name := "sectorPuts", fn := fun _ => fun
  | [d] => { results := [.lit (.bool false)], args := [d] }
  | _ => none }
def SectorPutsWrongFalsely : Prop := sectorPutsRow.holds Try.pinned (OpenSpec.ofChange sectorPutsWrong)

/-- 'davitlaw03.SectorGets': WHATEVER THE INPUT: true; the input reads as it did. -/
def sectorGetsSpec : ChangeSpec := { name := "sectorGets", fn := fun _ => fun
  | [d] => { results := [.lit (.bool true)], args := [d] }
  | _ => none }
def sectorGetsRow : OpenClaim := { program := "ytickagagbdfncaa", sum := "8685d8f5863343b2c1bd154ec9965dc64f89afd70c1ea73bdd06f83bcc91181b", func := "davit/davitlaw03.SectorGets", spec := "sectorGets", unfollowed := true, recurses := true, apart := false }
def SectorGetsSaid : Prop := sectorGetsRow.holds Try.pinned (OpenSpec.ofChange sectorGetsSpec)

/-- ITS FALSE NEIGHBOUR: 'it returns false'. Refute it at one input. -/
def sectorGetsWrong : ChangeSpec := { name := "sectorGets", fn := fun _ => fun
  | [d] => { results := [.lit (.bool false)], args := [d] }
  | _ => none }
def SectorGetsWrongFalsely : Prop := sectorGetsRow.holds Try.pinned (OpenSpec.ofChange sectorGetsWrong)

/-- 'davitlaw03.SectorBursts': WHATEVER THE INPUT: true; the input reads as it did. -/
def sectorBurstsSpec : ChangeSpec := { name := "sectorBursts", fn := fun _ => fun
  | [d1, d2, d3] => { results := [.lit (.bool true)], args := [d1, d2, d3] }
  | _ => none }
def sectorBurstsRow : OpenClaim := { program := "ytickagagbdfncaa", sum := "8685d8f5863343b2c1bd154ec9965dc64f89afd70c1ea73bdd06f83bcc91181b", func := "davit/davitlaw03.SectorBursts", spec := "sectorBursts", unfollowed := true, recurses := true, apart := false }
def SectorBurstsSaid : Prop := sectorBurstsRow.holds Try.pinned (OpenSpec.ofChange sectorBurstsSpec)

/-- ITS FALSE NEIGHBOUR: 'it returns false'. Refute it at one input. -/
def sectorBurstsWrong : ChangeSpec := { name := "sectorBursts", fn := fun _ => fun
  | [d1, d2, d3] => { results := [.lit (.bool false)], args := [d1, d2, d3] }
  | _ => none }
def SectorBurstsWrongFalsely : Prop := sectorBurstsRow.holds Try.pinned (OpenSpec.ofChange sectorBurstsWrong)

/- THE SECOND FORM. 'bulk': how many values and letters a reading holds, each counted each time it is reached (what is shared counts as often as it is met; a slice's spare places count too). A statement '..UptoSaid' is the law's where the arguments, and the package variables that the reading takes, are together of bulk at most 1048576: NARROWER than '..Said'. Prove '..Said' where nothing that the law and all that it calls make is longer than what came in: it says more and counts as full. Else prove '..UptoSaid'. A law counts once. -/
mutual
def uptoBulk {H : Type} : DataW H → Nat
  | .lit (.string bytes) => bytes.length + 1
  | .lit _ => 1
  | .nil => 1
  | .ptr d => uptoBulk d + 1
  | .slice elems spare => uptoBulkAll elems + uptoBulkAll spare + 1
  | .agg parts => uptoBulkAll parts + 1
  | .iface _ d => uptoBulk d + 1
  | .map entries => uptoBulkEntries entries + 1
  | .held _ => 1
def uptoBulkAll {H : Type} : List (DataW H) → Nat
  | [] => 0
  | d :: r => uptoBulk d + uptoBulkAll r
def uptoBulkEntries {H : Type} : List (Lit × DataW H) → Nat
  | [] => 0
  | x :: r => uptoBulkEntry x + uptoBulkEntries r
def uptoBulkEntry {H : Type} : Lit × DataW H → Nat
  | (.string bytes, d) => bytes.length + uptoBulk d + 1
  | (_, d) => uptoBulk d + 1
 end
def uptoSmall : (H : Type) → List (DataW H) → Bool := fun _ ds => decide (uptoBulkAll ds ≤ 1048576)
def OpenSpec.upto (s : _root_.Go.ChangeSpec) : _root_.Go.OpenSpec := { _root_.Go.OpenSpec.ofChange s with cond := some uptoSmall }

/-- 'davitlaw03.SectorPuts', WHERE WHAT IT READS IS OF BULK AT MOST 1048576: true; the input reads as it did. -/
def sectorPutsUptoRow : OpenClaim := { program := "ytickagagbdfncaa", sum := "8685d8f5863343b2c1bd154ec9965dc64f89afd70c1ea73bdd06f83bcc91181b", func := "davit/davitlaw03.SectorPuts", spec := "sectorPuts", unfollowed := true, recurses := true, apart := false, narrowed := true }
def SectorPutsUptoSaid : Prop := sectorPutsUptoRow.holds Try.pinned (OpenSpec.upto sectorPutsSpec)

/-- 'davitlaw03.SectorGets', WHERE WHAT IT READS IS OF BULK AT MOST 1048576: true; the input reads as it did. -/
def sectorGetsUptoRow : OpenClaim := { program := "ytickagagbdfncaa", sum := "8685d8f5863343b2c1bd154ec9965dc64f89afd70c1ea73bdd06f83bcc91181b", func := "davit/davitlaw03.SectorGets", spec := "sectorGets", unfollowed := true, recurses := true, apart := false, narrowed := true }
def SectorGetsUptoSaid : Prop := sectorGetsUptoRow.holds Try.pinned (OpenSpec.upto sectorGetsSpec)

/-- 'davitlaw03.SectorBursts', WHERE WHAT IT READS IS OF BULK AT MOST 1048576: true; the input reads as it did. -/
def sectorBurstsUptoRow : OpenClaim := { program := "ytickagagbdfncaa", sum := "8685d8f5863343b2c1bd154ec9965dc64f89afd70c1ea73bdd06f83bcc91181b", func := "davit/davitlaw03.SectorBursts", spec := "sectorBursts", unfollowed := true, recurses := true, apart := false, narrowed := true }
def SectorBurstsUptoSaid : Prop := sectorBurstsUptoRow.holds Try.pinned (OpenSpec.upto sectorBurstsSpec)

end Rows
end Go.Proofs.Ytickagagbdfncaa
