/-
  What a segment's calls leave as it was: the file, the plan; how much it grows by.
-/
import Derived.Test.YtdaknfepcbooeaaGreatMPure
import Derived.Test.YtdaknfepcbooeaaGreatMDiskPlan
namespace Go.Proofs.YtdaknfepcbooeaaGreat.Segm
open Go.Proofs.YtdaknfepcbooeaaGreat.Disk (M Ok append sync remove there)
set_option linter.unusedVariables false
set_option linter.unusedSimpArgs false

theorem wrs_keeps : ∀ (L : List (List (BitVec 8))) (m : M) (g : Gm), Ok m → Ok (wrs L m g).2.1 ∧ (wrs L m g).2.2.file = g.file ∧ (wrs L m g).2.2.size ≤ g.size + L.length
  | [], m, g, h => ⟨h, rfl, Nat.le_refl _⟩
  | b :: L, m, g, h => by
    by_cases h0 : (append m g.file b).1 = 0
    · rw [wrs_on h0]
      obtain ⟨h1, h2, h3⟩ := wrs_keeps L (append m g.file b).2 { g with size := g.size + 1 } (Disk.ok_append h _ _)
      refine ⟨h1, h2, ?_⟩
      rw [List.length_cons]
      dsimp only at h3
      omega
    · rw [wrs_bad h0]
      exact ⟨Disk.ok_append h _ _, rfl, Nat.le_add_right _ _⟩
theorem appendS_keeps (m : M) (g : Gm) (bs : List (BitVec 8)) (h : Ok m) : Ok (appendS m g bs).2.1 ∧ (appendS m g bs).2.2.file = g.file ∧ (appendS m g bs).2.2.size ≤ g.size + 100 := by
  unfold appendS
  split
  · exact ⟨h, rfl, Nat.le_add_right _ _⟩
  · split
    · exact ⟨h, rfl, Nat.le_add_right _ _⟩
    · next hl =>
      obtain ⟨h1, h2, h3⟩ := wrs_keeps (secsOf g bs) m g h
      refine ⟨h1, h2, Nat.le_trans h3 ?_⟩
      have h4 := Frag.cut_length_le g.ep (BitVec.ofNat 32 g.size) bs
      have h5 : (secsOf g bs).length = (Frag.cut g.ep (BitVec.ofNat 32 g.size) bs).length := List.length_map ..
      omega
theorem syncS_keeps (m : M) (g : Gm) (h : Ok m) : Ok (syncS m g).2.1 ∧ (syncS m g).2.2.file = g.file ∧ (syncS m g).2.2.size = g.size := by
  unfold syncS
  split
  · exact ⟨h, rfl, rfl⟩
  · split
    · exact ⟨h, rfl, rfl⟩
    · exact ⟨Disk.ok_sync h _, rfl, rfl⟩
theorem beginS_keeps (m : M) (f : Int) (h : Ok m) : Ok (beginS m f).2.2 := by
  unfold beginS
  split
  · exact h
  · split
    · exact h
    · split
      · split
        · exact Disk.ok_remove h _
        · exact Disk.ok_remove h _
      · exact h
end Go.Proofs.YtdaknfepcbooeaaGreat.Segm
