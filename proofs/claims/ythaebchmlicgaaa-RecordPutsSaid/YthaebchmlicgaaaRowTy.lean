/-
  Cells that lie in a block of their type: 'Ry t w A cs' (any element, by the type of the block).
-/
import Derived.Test.YthaebchmlicgaaaBytes
import Derived.Test.YthaebchmlicgaaaAppend
import Derived.Test.YthaebchmlicgaaaMem
import Derived.WalkKit
import Derived.ProofKit
namespace Go.Proofs.Ythaebchmlicgaaa
open Go.RowKit
set_option linter.unusedVariables false

/-- The cells cs lie from A on, in a block of type t. -/
def Ry (t : TypeId) (w : World) (A : Option Addr) (cs : List Value) : Prop :=
  cs ≠ [] → ∃ ad, A = some ad ∧ (∃ o fz, w.heap[ad.block]? = some (.cells o t fz)) ∧ ∀ j u, cs[j]? = some u → w.cell? (ad.add j) = some u
namespace Ry
variable {w w' : World} {t : TypeId} {A : Option Addr} {cs : List Value}
theorem nil_ : Ry t w A [] := fun h => absurd rfl h
theorem keep (h : Ry t w A cs) (hk : ∀ (k : Nat) o fz, w.heap[k]? = some (Obj.cells o t fz) → w'.heap[k]? = w.heap[k]?) : Ry t w' A cs := fun hn => by
  obtain ⟨ad, e, ⟨o, fz, hb⟩, hc⟩ := h hn
  have h1 := hk _ _ _ hb
  exact ⟨ad, e, ⟨o, fz, h1.trans hb⟩, fun j u hj => (World.cell?_of_block (by rw [add_block]; exact h1)).trans (hc j u hj)⟩
theorem below (h : Ry t w A cs) (hb : Below w.heap.size w w') : Ry t w' A cs := h.keep fun k _ _ hk => hb.block k (Array.getElem?_eq_some_iff.1 hk).1
theorem alloc (h : Ry t w A cs) (o : Obj) : Ry t (w.alloc o) A cs := h.below ((Below.refl _ _).alloc (Nat.le_refl _) _)
theorem frm (h : Ry t w A cs) {l : List Nat} (hf : Frm l w w') (hl : ∀ k ∈ l, ∀ o fz, w.heap[k]? ≠ some (Obj.cells o t fz)) : Ry t w' A cs :=
  h.keep fun k o fz hk => hf.block k (Array.getElem?_eq_some_iff.1 hk).1 fun hm => hl k hm o fz hk
theorem grown (h : Ry t w A cs) {row : Option Nat} (hg : w.grownBy w' row) (hr : ∀ (g : Nat) o fz, row = some g → w.heap[g]? ≠ some (Obj.cells o t fz)) : Ry t w' A cs :=
  h.keep fun k o fz hk => hg.block k (Array.getElem?_eq_some_iff.1 hk).1 (fun e => hr k o fz e.symm hk)
theorem set (h : Ry t w A cs) {p : Addr} (hp : ∀ o fz, w.heap[p.block]? ≠ some (Obj.cells o t fz)) (u : Value) : Ry t (w.setCell p u) A cs :=
  h.keep fun k o fz hk => Below.heap_setCell _ _ _ _ fun e => hp o fz (e ▸ hk)
theorem of_cel {g : Nat} (h : Cel w g t cs) : Ry t w (some ⟨g, 0, none⟩) cs := fun _ => ⟨_, rfl, ⟨_, _, h⟩, fun j u hj => by rw [add_row, h.cell j, hj]⟩
theorem of_own {base size n c : Nat} (h : w.ownsRow base t size (.slice A n c) n cs) (hs : 0 < size) : Ry t w A cs := fun hn => by
  have hl : cs.length = n * size := h.1
  rcases h.2 with ⟨hv, h0⟩ | ⟨g, cap, cur, hv, hb, hg, _⟩
  · exfalso
    subst h0
    exact hn (List.eq_nil_of_length_eq_zero (by omega))
  · have hA : A = some ⟨g, 0, none⟩ := by injection hv
    subst hA
    refine ⟨_, rfl, ⟨_, _, hg⟩, fun j u hj => h.cells (g := g) rfl j _ ?_⟩
    exact hj
/-- One cell of it. -/
theorem at_ (h : Ry t w A cs) {j : Nat} {u : Value} (hj : cs[j]? = some u) : ∃ ad, A = some ad ∧ w.cell? (ad.add j) = some u ∧ ∃ o fz, w.heap[ad.block]? = some (.cells o t fz) := by
  obtain ⟨ad, e, hb, hc⟩ := h (fun e => by rw [e] at hj; simp at hj)
  exact ⟨ad, e, hc j u hj, hb⟩
theorem src (h : Ry t w A cs) {m : Nat} (hm : 0 < m → cs ≠ []) : 0 < m → ∃ ad, A = some ad ∧ ∀ j u, cs[j]? = some u → w.cell? (ad.add j) = some u := fun h0 => by
  obtain ⟨ad, e, _, hc⟩ := h (hm h0)
  exact ⟨ad, e, hc⟩
end Ry
/-- A block of another type. -/
theorem Cel.not_ty {w : World} {g : Nat} {t t' : TypeId} {cs : List Value} (h : Cel w g t cs) (hne : t ≠ t') : ∀ o fz, w.heap[g]? ≠ some (Obj.cells o t' fz) := fun o fz e => by
  unfold Cel at h
  rw [h] at e
  injection e with e
  injection e with _ e2
  exact hne e2
/-- An own row of another type. -/
theorem own_not_ty {w : World} {base e size n : Nat} {v : Value} {xs : List Value} {t' : TypeId} (h : w.ownsRow base e size v n xs) (hne : e ≠ t') : ∀ (g : Nat) o fz, v.ownBlock = some g → w.heap[g]? ≠ some (Obj.cells o t' fz) := fun g o fz hv hg => by
  rcases h.2 with ⟨rfl, _⟩ | ⟨g', cap, cur, rfl, _, hg', _⟩
  · simp [Value.ownBlock] at hv
  · obtain rfl : g' = g := by simpa [Value.ownBlock] using hv
    rw [hg] at hg'
    simp at hg'
    exact hne hg'.2.1.symm
theorem Cel.grown {w w' : World} {g : Nat} {t : TypeId} {cs : List Value} (h : Cel w g t cs) {row : Option Nat} (hg : w.grownBy w' row) (hr : row ≠ some g) : Cel w' g t cs := (hg.block g h.lt (fun e => hr e.symm)).trans h
/-- An own row, where its block was not written. -/
theorem own_frm {w w' : World} {base e size n : Nat} {v : Value} {us : List Value} {l : List Nat} (h : w.ownsRow base e size v n us) (hf : Frm l w w') (hl : ∀ g ∈ l, v.ownBlock ≠ some g) : w'.ownsRow base e size v n us := by
  refine ⟨h.1, h.2.imp id fun ⟨g', cap, cur, h1, h2, h3, h4⟩ => ⟨g', cap, cur, h1, h2, ?_, h4⟩⟩
  rw [hf.block g' (Array.getElem?_eq_some_iff.1 h3).1 (fun hm => hl g' hm (by rw [h1]; simp [Value.ownBlock]))]
  exact h3
/-- An own row's block is of its type, and lies at or above its base. -/
theorem own_ne {w : World} {base e size n g : Nat} {v : Value} {us : List Value} (h : w.ownsRow base e size v n us) (hg : g < base) : v.ownBlock ≠ some g := fun e' => by
  rcases h.2 with ⟨rfl, _⟩ | ⟨g', cap, cur, rfl, hb, _⟩
  · simp [Value.ownBlock] at e'
  · obtain rfl : g' = g := by simpa [Value.ownBlock] using e'
    omega
theorem own_ty_ne {w : World} {base e size n g : Nat} {t : TypeId} {v : Value} {us cs : List Value} (h : w.ownsRow base e size v n us) (hc : Cel w g t cs) (hne : e ≠ t) : v.ownBlock ≠ some g := fun e' =>
  own_not_ty h hne g _ _ e' hc
theorem own_ge {w : World} {base e size n : Nat} {v : Value} {us : List Value} (h : w.ownsRow base e size v n us) : ∀ g, v.ownBlock = some g → base ≤ g := fun g e' =>
  Nat.le_of_not_lt fun hg => own_ne h hg e'
theorem own_form {w : World} {base e size n : Nat} {v : Value} {us : List Value} (h : w.ownsRow base e size v n us) : ∃ A c, v = .slice A n c := by
  rcases h.2 with ⟨rfl, rfl⟩ | ⟨g, cap, cur, rfl, _⟩
  · exact ⟨_, _, rfl⟩
  · exact ⟨_, _, rfl⟩
/-- Two own rows of unlike types lie in two blocks. -/
theorem own_two {w : World} {base base' e e' size size' n n' : Nat} {v v' : Value} {us us' : List Value} (h : w.ownsRow base e size v n us) (h' : w.ownsRow base' e' size' v' n' us') (hne : e ≠ e') : ∀ g, v.ownBlock = some g → v'.ownBlock ≠ some g := fun g hg hg' => by
  rcases h.2 with ⟨rfl, _⟩ | ⟨g1, cap, cur, rfl, _, h1, _⟩
  · simp [Value.ownBlock] at hg
  · obtain rfl : g1 = g := by simpa [Value.ownBlock] using hg
    exact own_not_ty h' (fun q => hne q.symm) g1 _ _ hg' h1
theorem own_lt {w : World} {base e size n : Nat} {v : Value} {us : List Value} (h : w.ownsRow base e size v n us) : ∀ g, v.ownBlock = some g → g < w.heap.size := fun g e' => by
  rcases h.2 with ⟨rfl, _⟩ | ⟨g', cap, cur, rfl, _, h1, _⟩
  · simp [Value.ownBlock] at e'
  · obtain rfl : g' = g := by simpa [Value.ownBlock] using e'
    exact (Array.getElem?_eq_some_iff.1 h1).1
/-- The first elements of an own row are one. -/
theorem own_cut {w : World} {base e size n cap g : Nat} {us : List Value} (h : w.ownsRow base e size (.slice (some ⟨g, 0, none⟩) n cap) n us) {k : Nat} (hk : k ≤ n) : w.ownsRow base e size (.slice (some ⟨g, 0, none⟩) k cap) k (us.take (k * size)) := by
  have hm : k * size ≤ n * size := Nat.mul_le_mul_right _ hk
  refine ⟨by rw [List.length_take, h.1]; omega, .inr ?_⟩
  rcases h.2 with ⟨hv, _⟩ | ⟨g', cap', cur, hv, hb, hg, h1, h2, h3, h4⟩
  · cases hv
  · cases hv
    exact ⟨g, cap, cur, rfl, hb, hg, by omega, h2, h3, by rw [← h4, List.take_take, Nat.min_eq_left hm]⟩
theorem own_ne_of {w : World} {base e size n cap g b : Nat} {t : TypeId} {us cs : List Value} (h : w.ownsRow base e size (.slice (some ⟨g, 0, none⟩) n cap) n us) (hc : Cel w b t cs) (hne : e ≠ t := by decide) : g ≠ b := fun e' => own_ty_ne h hc hne (by rw [← e']; rfl)
end Go.Proofs.Ythaebchmlicgaaa
