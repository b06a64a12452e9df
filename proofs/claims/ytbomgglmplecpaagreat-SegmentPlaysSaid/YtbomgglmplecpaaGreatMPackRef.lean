/-
  What the document's own reader of layer 2 (pack) comes to: one contract a function.
-/
import Derived.Test.YtbomgglmplecpaaGreatMPackRead
namespace Go.Proofs.YtbomgglmplecpaaGreat.Pack
open Go.RowKit
set_option linter.unusedVariables false

theorem mul64 (n : BitVec 64) (b : BitVec 8) : IntKind.u64.wrap (IntKind.u64.wrap ((256 : Int) * (n.toNat : Int)) + (b.toNat : Int)) = (((n <<< 8) ||| b.setWidth 64).toNat : Int) := by
  rw [or_add, IntKind.wrap_u64, IntKind.wrap_u64, BitVec.toNat_add, BitVec.toNat_mul, BitVec.toNat_setWidth]
  have e256 : (256#64).toNat = 256 := rfl
  have hb := b.isLt
  rw [e256]
  omega

end Go.Proofs.YtbomgglmplecpaaGreat.Pack
