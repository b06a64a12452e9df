/-
  What the examples of layer 11's statements ask (knows): four tokens; a byte that begins none.
-/
import Derived.Test.YtadfoilbcipdjaaLexPcut
import Derived.Lib.SlBytesConst
namespace Go.Proofs.Ytadfoilbcipdjaa.Lex
open Go.RowKit
set_option linter.unusedVariables false
set_option linter.unusedSimpArgs false

def k4 : List (BitVec 8) := [115#8, 116#8, 101#8, 112#8, 32#8, 97#8, 49#8, 32#8, 34#8, 120#8, 92#8, 34#8, 121#8, 34#8, 32#8, 50#8, 48#8]
theorem cut_k4 : cut k4 = .ok [⟨⟨1, 0, [115#8, 116#8, 101#8, 112#8]⟩, 0⟩, ⟨⟨1, 0, [97#8, 49#8]⟩, 5⟩, ⟨⟨3, 0, [120#8, 34#8, 121#8]⟩, 8⟩, ⟨⟨2, 20, []⟩, 15⟩] := by kernel_rfl
theorem cut_kq : cut [97#8, 32#8, 63#8] = .error (2, 2) := by kernel_rfl
theorem four_of {vs : List Tv} {a b c d : Tok} (h : vs.map (·.t) = [a, b, c, d]) : ∃ v0 v1 v2 v3, vs = [v0, v1, v2, v3] ∧ v0.t = a ∧ v1.t = b ∧ v2.t = c ∧ v3.t = d := by
  rcases vs with _ | ⟨v0, _ | ⟨v1, _ | ⟨v2, _ | ⟨v3, _ | ⟨v4, l⟩⟩⟩⟩⟩ <;> simp at h
  exact ⟨v0, v1, v2, v3, rfl, h.1, h.2.1, h.2.2.1, h.2.2.2⟩
end Go.Proofs.Ytadfoilbcipdjaa.Lex
