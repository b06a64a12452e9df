/-
  Bytes that lie in a block of bytes: 'By w A n bs'.
-/
import Derived.Test.YthaebchmlicgaaaBytes
import Derived.Test.YthaebchmlicgaaaAppend
import Derived.WalkKit
import Derived.ProofKit
namespace Go.Proofs.Ythaebchmlicgaaa
open Go.RowKit
set_option linter.unusedVariables false

/-- Bytes that lie in a block of bytes. -/
def By (w : World) (A : Option Addr) (n : Nat) (bs : List (BitVec 8)) : Prop :=
  bs.length = n ∧ (0 < n → ∃ ad, A = some ad ∧ (∃ cs fz, w.heap[ad.block]? = some (.cells cs 5 fz)) ∧ ∀ j, j < n → w.cell? (ad.add j) = some (v8 (bs.getD j 0#8)))
namespace By
variable {w w' : World} {A : Option Addr} {n : Nat} {bs : List (BitVec 8)}
theorem len (h : By w A n bs) : bs.length = n := h.1
theorem keep (h : By w A n bs) (hk : ∀ (k : Nat) cs fz, w.heap[k]? = some (Obj.cells cs 5 fz) → w'.heap[k]? = w.heap[k]?) : By w' A n bs :=
  ⟨h.1, fun hn => by
    obtain ⟨ad, e, ⟨cs, fz, hb⟩, hc⟩ := h.2 hn
    have h1 := hk _ _ _ hb
    exact ⟨ad, e, ⟨cs, fz, h1.trans hb⟩, fun j hj => (World.cell?_of_block (by rw [add_block]; exact h1)).trans (hc j hj)⟩⟩
theorem rd (h : By w A n bs) : Bs w w.heap.size A n bs :=
  ⟨h.1, fun hn => by
    obtain ⟨ad, e, ⟨cs, fz, hb⟩, hc⟩ := h.2 hn
    exact ⟨ad, e, (Array.getElem?_eq_some_iff.1 hb).1, hc⟩⟩
theorem below (h : By w A n bs) (hb : Below w.heap.size w w') : By w' A n bs := h.keep fun k _ _ hk => hb.block k (Array.getElem?_eq_some_iff.1 hk).1
theorem drew (h : By w A n bs) : By w.drew A n bs := h
theorem alloc (h : By w A n bs) (o : Obj) : By (w.alloc o) A n bs := h.below ((Below.refl _ _).alloc (Nat.le_refl _) _)
theorem grown (h : By w A n bs) {row : Option Nat} (hg : w.grownBy w' row) (hr : ∀ (g : Nat) cs fz, row = some g → w.heap[g]? ≠ some (Obj.cells cs 5 fz)) : By w' A n bs :=
  h.keep fun k cs fz hk => hg.block k (Array.getElem?_eq_some_iff.1 hk).1 (fun e => hr k cs fz e.symm hk)
theorem of_own {base c : Nat} (h : w.ownsRow base 5 1 (.slice A n c) n (bs.map v8)) : By w A n bs := by
  have hl : bs.length = n := by simpa using h.1
  refine ⟨hl, fun hn => ?_⟩
  rcases h.2 with ⟨hv, h0⟩ | ⟨g, cap, cur, hv, hb, hg, _⟩
  · omega
  · have hA : A = some ⟨g, 0, none⟩ := by injection hv
    subst hA
    refine ⟨_, rfl, ⟨_, _, hg⟩, fun j hj => h.cells (g := g) rfl j _ ?_⟩
    rw [List.getElem?_map, List.getElem?_eq_getElem (by omega), List.getD_eq_getElem?_getD, List.getElem?_eq_getElem (by omega)]
    rfl
end By

/-- A row of another type is not a block of bytes. -/
theorem not_bytes {w : World} {base e size n : Nat} {v : Value} {xs : List Value} (h : w.ownsRow base e size v n xs) (he : e ≠ 5) : ∀ (g : Nat) cs fz, v.ownBlock = some g → w.heap[g]? ≠ some (Obj.cells cs 5 fz) := by
  intro g cs fz hv hg
  rcases h.2 with ⟨rfl, _⟩ | ⟨g', cap, cur, rfl, _, hg', _⟩
  · simp [Value.ownBlock] at hv
  · obtain rfl : g' = g := by simpa [Value.ownBlock] using hv
    rw [hg] at hg'
    simp at hg'
    exact he hg'.2.1.symm
end Go.Proofs.Ythaebchmlicgaaa
