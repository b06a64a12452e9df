/-
  The document's Rename.
-/
import Derived.Test.YtbomgglmplecpaaGreatMDiskRefRead
namespace Go.Proofs.YtbomgglmplecpaaGreat.Disk
open Go.RowKit Go.Proofs.YtbomgglmplecpaaGreat.Ord
set_option linter.unusedVariables false
set_option linter.unusedSimpArgs false

theorem add_without (t : Int) (fs : List Int) : add t (without t fs) = add t fs := by unfold add; rw [without_without]
theorem add_len (t : Int) (fs : List Int) : (add t fs).length ≤ fs.length + 1 := by
  have h1 : ∀ (gs : List Int), (ins t gs).length = gs.length + 1 := fun gs => by
    induction gs with
    | nil => rfl
    | cons g gs ih => unfold ins; split <;> simp [ih]
  unfold add
  rw [h1]
  have : (without t fs).length ≤ fs.length := List.length_filter_le _ _
  omega

theorem rsync_ok (w : World) (B d : Nat) (m : M) (f : Int) (h : Fk w B d m) (hB : B ≤ w.heap.size) (hi : Inv m) (hpl : ∀ k ks, m.plan = some (k, ks) → ks.length ≤ maxLen) :
    Calls Tryz.prog 37 #[.pointer (some ⟨d, 0, none⟩), .int .i64 f] w (RDid w B d (.int .i64 (sync m f).1) (sync m f).2) := by
  by_cases ht : there m f = 0
  · cases h5 : fails m
    · rw [sync_goes ht h5]; exact rsync_goes w B d m f h hB hi ht hpl h5
    · rw [sync_fails ht h5]; exact rsync_fails w B d m f h hB ht hpl h5
  · rw [sync_not ht]; exact rsync_not w B d m f h ht
theorem rremove_ok (w : World) (B d : Nat) (m : M) (f : Int) (h : Fk w B d m) (hB : B ≤ w.heap.size) (hi : Inv m) (hpl : ∀ k ks, m.plan = some (k, ks) → ks.length ≤ maxLen) :
    Calls Tryz.prog 29 #[.pointer (some ⟨d, 0, none⟩), .int .i64 f] w (RDid w B d (.int .i64 (remove m f).1) (remove m f).2) := by
  by_cases ht : there m f = 0
  · cases h5 : fails m
    · rw [remove_goes ht h5]; exact rremove_goes w B d m f h hB hi ht hpl h5
    · rw [remove_fails ht h5]; exact rremove_fails w B d m f h hB ht hpl h5
  · rw [remove_not ht]; exact rremove_not w B d m f h ht
end Go.Proofs.YtbomgglmplecpaaGreat.Disk
