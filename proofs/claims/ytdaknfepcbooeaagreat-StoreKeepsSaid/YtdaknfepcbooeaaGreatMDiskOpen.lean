/-
  A slice of bools that came in.
-/
import Derived.Test.YtdaknfepcbooeaaGreatMOpen
import Derived.Test.YtdaknfepcbooeaaGreatMDiskA
namespace Go.Proofs.YtdaknfepcbooeaaGreat.Disk
open Go.RowKit Go.Maps
set_option linter.unusedVariables false
set_option linter.unusedSimpArgs false

def fit64 (x : Int) : Prop := -9223372036854775808 ≤ x ∧ x < 9223372036854775808
theorem fit_wf {x : Int} (h : (Lit.int .i64 x).wf = true) : fit64 x := by
  simp [Lit.wf, IntKind.min, IntKind.max, IntKind.bits, IntKind.signed] at h
  unfold fit64; omega
theorem u8_of {x : Int} (h : (Lit.int .u8 x).wf = true) : ∃ b : BitVec 8, x = (b.toNat : Int) := by
  simp [Lit.wf, IntKind.min, IntKind.max, IntKind.bits, IntKind.signed] at h
  refine ⟨BitVec.ofNat 8 x.toNat, ?_⟩
  rw [BitVec.toNat_ofNat, Nat.mod_eq_of_lt (by omega)]
  omega
theorem Bo.of_isv {w : World} {A : Option Addr} {l c : Nat} (h : IsV w (.slice .bool) (.slice A l c)) : ∃ ks : List Bool, ks.length = l ∧ l ≤ maxLen ∧ Bo w w.heap.size (.slice A l c) ks := by
  cases h with
  | nil => exact ⟨[], rfl, by unfold maxLen; omega, Bo.nil_ _ _⟩
  | slice U hl hc hcell hU =>
    rename_i x
    let ks : List Bool := (List.range l).map fun i => match U i with | .bool b => b | _ => false
    have hk : ks.length = l := by simp [ks]
    refine ⟨ks, hk, by omega, some x, c, by rw [hk], by omega, fun h0 => ⟨x, rfl, ?_, fun j k hj => ?_⟩⟩
    · have h1 := hcell 0 (by omega)
      have hb := World.block_lt_of_cell? w _ h1
      rw [add_block] at hb
      exact ⟨_, Array.getElem?_eq_getElem hb, .inl hb⟩
    · have hjl : j < l := by have := (List.getElem?_eq_some_iff.1 hj).1; omega
      rw [hcell j hjl]
      have h2 := hU j hjl
      have h3 : ks[j]? = some (match U j with | .bool b => b | _ => false) := by simp [ks, hjl]
      rw [h3] at hj
      generalize U j = u at *
      cases h2 with
      | bool b => cases hj; rfl
end Go.Proofs.YtdaknfepcbooeaaGreat.Disk
