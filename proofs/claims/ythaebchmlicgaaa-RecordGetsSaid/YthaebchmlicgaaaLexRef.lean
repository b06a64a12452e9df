/-
  The document's cutter (layer 11): what lies between tokens.
-/
import Derived.Test.YthaebchmlicgaaaLexPure
import Derived.Test.YthaebchmlicgaaaChecked
import Derived.Test.YthaebchmlicgaaaMem
import Derived.Test.YthaebchmlicgaaaAppendAny
import Derived.Test.YthaebchmlicgaaaRowTy
import Derived.Test.YthaebchmlicgaaaBy
import Derived.Test.YthaebchmlicgaaaSlices
import Derived.WalkKit
import Derived.ProofKit
namespace Go.Proofs.Ythaebchmlicgaaa.Lex
open Go.RowKit
set_option linter.unusedVariables false
set_option linter.unusedSimpArgs false

theorem b_lit {x : BitVec 8} {k : Nat} (hk : k < 256) : ((x.toNat : Int) == (k : Int)) = decide (x = BitVec.ofNat 8 k) := by
  rw [Bool.eq_iff_iff]
  simp only [beq_iff_eq, decide_eq_true_eq]
  constructor
  · intro h
    apply BitVec.eq_of_toNat_eq
    rw [BitVec.toNat_ofNat, Nat.mod_eq_of_lt (by omega)]
    omega
  · rintro rfl
    rw [BitVec.toNat_ofNat, Nat.mod_eq_of_lt (by omega)]
theorem b_ne {x : BitVec 8} {k : Nat} (hk : k < 256) (h : x ≠ BitVec.ofNat 8 k) : ((x.toNat : Int) == (k : Int)) = false := by rw [b_lit hk]; exact decide_eq_false h
theorem b_nat {x : BitVec 8} {k : Nat} (hk : k < 256) (h : x ≠ BitVec.ofNat 8 k) : x.toNat ≠ k := fun e => h (BitVec.eq_of_toNat_eq (by rw [BitVec.toNat_ofNat, Nat.mod_eq_of_lt (by omega), e]))
theorem drop_at {s : List (BitVec 8)} {q : Nat} {c : BitVec 8} (h : s[q]? = some c) : s.drop q = c :: s.drop (q + 1) := by
  obtain ⟨hl, rfl⟩ := List.getElem?_eq_some_iff.1 h
  exact List.drop_eq_getElem_cons hl
end Go.Proofs.Ythaebchmlicgaaa.Lex
