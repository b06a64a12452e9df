/-
  The document's cutter (layer 11): all tokens.
-/
import Derived.Test.YtadfoilbcipdjaaLexNum
namespace Go.Proofs.Ytadfoilbcipdjaa.Lex
open Go.RowKit
set_option linter.unusedVariables false
set_option linter.unusedSimpArgs false

/-- A token, and where its text lies. -/
structure Tv where
  t : Tok
  A : Option Addr
  c : Nat
def Tv.cells (v : Tv) : List Value := [.int .i64 v.t.t.kind, .int .i64 (v.t.at_ : Int), .int .i64 v.t.t.n, .slice v.A v.t.t.text.length v.c]
def tflat (vs : List Tv) : List Value := vs.flatMap Tv.cells
theorem tflat_app (us vs : List Tv) : tflat (us ++ vs) = tflat us ++ tflat vs := by simp [tflat]
theorem tflat_len (us : List Tv) : (tflat us).length = us.length * 4 := by
  induction us with
  | nil => rfl
  | cons x l ih => rw [tflat, List.flatMap_cons, List.length_append, show (l.flatMap Tv.cells) = tflat l from rfl, ih]; show 4 + l.length * 4 = (l.length + 1) * 4; omega
theorem Tv.one (v : Tv) : ∀ u ∈ v.cells, u.oneCell' = true := by
  intro u hu
  simp [Tv.cells] at hu
  rcases hu with rfl | rfl | rfl | rfl <;> rfl
end Go.Proofs.Ytadfoilbcipdjaa.Lex
