/-
  The document's parser of patterns (layer 8): what it looks at.
-/
import Derived.Test.YtpfogoncholiaaaRegSet
namespace Go.Proofs.Ytpfogoncholiaaa.Reg
open Go.RowKit
set_option linter.unusedVariables false
set_option linter.unusedSimpArgs false

/-- The byte that is escaped at a place, and the place behind it; or it is amiss there. -/
def escd (s : List (BitVec 8)) (k : Nat) : Except Nat (BitVec 8 × Nat) := match s[k]? with
  | none => .error k
  | some c => match escB c with
    | none => .error k
    | some y => .ok (y, k + 1)
end Go.Proofs.Ytpfogoncholiaaa.Reg
