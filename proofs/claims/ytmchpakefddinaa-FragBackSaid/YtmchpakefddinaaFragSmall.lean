/-
  What the small functions of frag come to.
-/
import Derived.Test.YtmchpakefddinaaFragWords
import Derived.Lib.SliceRun
namespace Go.Proofs.Ytmchpakefddinaa.Frag
open Go.RowKit
set_option linter.unusedVariables false

set_option maxRecDepth 100000 in
set_option maxHeartbeats 1000000 in
theorem isFirst (e s : BitVec 32) (f : Int) (A : Option Addr) (n c : Nat) (w : World) (h : fits f) : Calls Try.prog 19 #[.agg #[v32 e, v32 s, .int .i64 f, .slice A n c]] w fun r w' => r = .returned (.bool (one f)) ∧ Below w.heap.size w w' := by
  have H := Lib.hid (one_bits h)
  clear h
  go_enter Try.func19, Try.ntmps19
  go_wp2_with fail
  go_ret
  exact ⟨by rw [H.out]; rfl, (Below.refl _ _).alloc (Nat.le_refl _) _⟩
set_option maxRecDepth 100000 in
set_option maxHeartbeats 1000000 in
theorem isLast (e s : BitVec 32) (f : Int) (A : Option Addr) (n c : Nat) (w : World) (h : fits f) : Calls Try.prog 20 #[.agg #[v32 e, v32 s, .int .i64 f, .slice A n c]] w fun r w' => r = .returned (.bool (two f)) ∧ Below w.heap.size w w' := by
  have H := Lib.hid (two_bits h)
  clear h
  go_enter Try.func20, Try.ntmps20
  go_wp2_with fail
  go_ret
  exact ⟨by rw [H.out]; rfl, (Below.refl _ _).alloc (Nat.le_refl _) _⟩

theorem bytesT : ByteRow Try.prog 22 5 := ByteRow.mk' Try.underlying22 (by kernel_rfl)

/-- bytes.Clone. -/
theorem eql_nil (w : World) (A : Option Addr) (n c : Nat) : (binOp .eql 22 (.slice A n c) (.slice none 0 0)).run Try.prog w = .ok (.bool A.isNone) w := Lib.run_eql_slice_nil w 22 5 A n c 0 0 Try.underlying22
set_option maxRecDepth 100000 in
set_option maxHeartbeats 1000000 in
theorem clone (B : Nat) (A : Option Addr) (n c : Nat) (bs : List (BitVec 8)) (w : World) (h : Bs w B A n bs) (hB : B ≤ w.heap.size) (hn : n ≤ 100000) :
    Calls Try.prog 13 #[.slice A n c] w fun r w' => ∃ A' c', r = .returned (.slice A' n c') ∧ By w' A' n bs ∧ Below w.heap.size w w' := by
  have q := eql_nil w A n c
  have H := Lib.hid h
  cases A with
  | none =>
    have hn0 : n = 0 := by
      rcases Nat.eq_zero_or_pos n with h0 | h0
      · exact h0
      · obtain ⟨ad, h', _⟩ := h.2 h0; cases h'
    subst hn0
    clear h
    go_enter Try.func13, Try.ntmps13
    go_wp2_with fail
    go_ret
    exact ⟨none, 0, rfl, ⟨H.out.1, fun h => absurd h (by omega)⟩, Below.refl _ _⟩
  | some a =>
    clear h
    go_enter Try.func13, Try.ntmps13
    go_wp2_with ((at_builtin; refine wpList_append_new _ rfl _ _ 22 rfl 5 bytesT rfl B (some a) n c bs rfl H.out hB (by omega) ?_; intro A' c' w' ho hb'))
    go_ret
    exact ⟨A', c', rfl, By.of_own ho, hb'⟩
end Go.Proofs.Ytmchpakefddinaa.Frag
