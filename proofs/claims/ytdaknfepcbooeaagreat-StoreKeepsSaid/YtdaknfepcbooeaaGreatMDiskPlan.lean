/-
  A planned failure's list, whatever is done.
-/
import Derived.Test.YtdaknfepcbooeaaGreatMBase
import Derived.Test.YtdaknfepcbooeaaGreatMPure
namespace Go.Proofs.YtdaknfepcbooeaaGreat.Disk
open Go.RowKit
set_option linter.unusedVariables false
set_option linter.unusedSimpArgs false

/-- The list of a planned failure is not longer than any list. -/
def Ok (m : M) : Prop := ∀ k ks, m.plan = some (k, ks) → ks.length ≤ maxLen
theorem ok_lost (m : M) (ks : List Bool) : Ok (lost m ks) := fun k l e => by cases e
theorem ok_stepped {m : M} (h : Ok m) : Ok (stepped m) := by
  unfold stepped
  split
  · exact ok_lost _ _
  · rename_i n k e; intro a b e'; cases e'; exact h _ _ e
  · exact h
theorem ok_with {m : M} (h : Ok m) (fs : List Int) (l : List Cl) : Ok { m with files := fs, l := l } := h
theorem ok_append {m : M} (h : Ok m) (f : Int) (bs : List (BitVec 8)) : Ok (append m f bs).2 := by
  unfold append
  split
  · exact h
  split
  · exact h
  split
  · exact h
  split
  · exact ok_stepped h
  · exact ok_with (ok_stepped h) _ _
theorem ok_sync {m : M} (h : Ok m) (f : Int) : Ok (sync m f).2 := by
  unfold sync
  split
  · exact h
  split
  · exact ok_stepped h
  · exact ok_with (ok_stepped h) _ _
theorem ok_remove {m : M} (h : Ok m) (f : Int) : Ok (remove m f).2 := by
  unfold remove
  split
  · exact h
  split
  · exact ok_stepped h
  · exact ok_with (ok_stepped h) _ _
theorem ok_rename {m : M} (h : Ok m) (f t : Int) : Ok (rename m f t).2 := by
  unfold rename
  split
  · exact h
  split
  · exact h
  split
  · exact ok_stepped h
  split
  · exact ok_stepped h
  · exact ok_with (ok_stepped h) _ _
theorem ok_fail {m : M} (h : Ok m) (s : Int) {ks : List Bool} (hk : ks.length ≤ maxLen) : Ok (fail m s ks) := fun a b e => by
  unfold fail at e
  dsimp only at e
  split at e
  · cases e
  · cases e; exact hk
theorem ok_crash {m : M} (h : Ok m) (ks : List Bool) : Ok (crash m ks) := by
  unfold crash
  split
  · exact h
  · exact ok_lost _ _
theorem ok_up {m : M} (h : Ok m) : Ok (up m) := h
theorem there_cases {m : M} {f : Int} (h : there m f ≠ 0) : (m.off = true ∧ there m f = 8) ∨ (m.off = false ∧ f ∉ m.files ∧ there m f = 4) := by
  unfold there at *
  cases ho : m.off
  · rw [ho] at h
    by_cases hf : f ∈ m.files
    · simp [hf] at h
    · exact .inr ⟨rfl, hf, by simp [hf]⟩
  · exact .inl ⟨rfl, rfl⟩
end Go.Proofs.YtdaknfepcbooeaaGreat.Disk
