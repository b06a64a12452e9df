/-
  What davitlaw04.knows comes to: true.
-/
import Derived.Test.YtdaknfepcbooeaaGreatMFragB
import Derived.Test.YtdaknfepcbooeaaGreatMFragRefCut
namespace Go.Proofs.YtdaknfepcbooeaaGreat.Frag
open Go.RowKit
set_option linter.unusedVariables false
set_option linter.unusedSimpArgs false

theorem Pr.of_own {w : World} {base n c e : Nat} {A : Option Addr} {xs : List Pv} (h : w.ownsRow base e 4 (.slice A n c) n (flat xs)) (hn : xs.length = n) (hb : ∀ x ∈ xs, Bs w w.heap.size x.A x.p.body.length x.p.body) : Pr w w.heap.size A n xs := by
  refine ⟨hn, fun h0 => ?_, hb⟩
  obtain ⟨g, cap, hv, hbg, hlt⟩ := h.form h0
  have hA : A = some ⟨g, 0, none⟩ := by injection hv
  subst hA
  exact ⟨_, rfl, hlt, h.cells (g := g) rfl⟩
theorem own_cap {w : World} {base n c e size : Nat} {A : Option Addr} {us : List Value} (h : w.ownsRow base e size (.slice A n c) n us) : n ≤ c ∧ c ≤ maxLen := by
  rcases h.2 with ⟨hv, _⟩ | ⟨g, cap, cur, hv, _, _, h1, h2, _⟩
  · injection hv with h1 h2 h3
    subst h2 h3
    exact ⟨Nat.le_refl _, Nat.zero_le _⟩
  · injection hv with _ _ h3
    subst h3
    exact ⟨h1, h2⟩
theorem cut_none : cut 1#32 2#32 [] = [⟨1#32, 2#32, 3, []⟩] := by rw [cut, pcs_last (by decide)]; rfl
theorem grp_none1 : grp [(⟨1#32, 2#32, 3, []⟩ : Pt)] = [[⟨1#32, 2#32, 3, []⟩]] := by
  have h : lead true [(⟨1#32, 2#32, 3, []⟩ : Pt)] = 1 := by rfl
  rw [grp_more (by rw [h]; decide), h]
  rw [grp_none (by rfl)]
  rfl

end Go.Proofs.YtdaknfepcbooeaaGreat.Frag
