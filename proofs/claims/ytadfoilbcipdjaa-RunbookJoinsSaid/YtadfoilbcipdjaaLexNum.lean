/-
  The document's cutter (layer 11): a number.
-/
import Derived.Test.YtadfoilbcipdjaaLexOne
import Derived.Deep.CutBlock
import Derived.Deep.CutRange
import Derived.Deep.DeepCutAuto
namespace Go.Proofs.Ytadfoilbcipdjaa.Lex
open Go.RowKit
set_option linter.unusedVariables false
set_option linter.unusedSimpArgs false

def bnd : Nat → Int
  | 0 => 1
  | 1 => 10
  | 2 => 100
  | 3 => 1000
  | 4 => 10000
  | _ => 100000
theorem bnd_step {j : Nat} {v d : Int} (hj : j ≤ 4) (hv : v < bnd j) (h0 : 0 ≤ v) (hd : d ≤ 9) : v < 100000 ∧ 10 * v + d < bnd (j + 1) := by
  rcases j with _ | _ | _ | _ | _ | j <;> simp [bnd] at hv ⊢ <;> omega
/-- What has been read of a number. -/
def Nm (s : List (BitVec 8)) (p q : Nat) (v : Int) : Prop := q - p ≤ 5 → v = val ((s.drop p).take (q - p)) ∧ v < bnd (q - p)
theorem Nm.go {s : List (BitVec 8)} {p q : Nat} {v : Int} {y : BitVec 8} (h : Nm s p q v) (hpq : p ≤ q) (hy : s[q]? = some y) (h0 : 0 ≤ v) (h1 : 48 ≤ y.toNat) (h2 : y.toNat ≤ 57) : Nm s p (q + 1) (if v < 100000 then 10 * v + (y.toNat : Int) - 48 else v) := by
  intro h5
  obtain ⟨e, hb⟩ := h (by omega)
  obtain ⟨b1, b2⟩ := bnd_step (d := (y.toNat : Int) - 48) (show q - p ≤ 4 by omega) hb h0 (by omega)
  rw [if_pos b1]
  rw [show q + 1 - p = (q - p) + 1 by omega]
  refine ⟨?_, by omega⟩
  rw [List.take_add_one, List.getElem?_drop, show p + (q - p) = q by omega, hy]
  rw [show (some y).toList = [y] from rfl, val_snoc, ← e]
  omega
end Go.Proofs.Ytadfoilbcipdjaa.Lex
