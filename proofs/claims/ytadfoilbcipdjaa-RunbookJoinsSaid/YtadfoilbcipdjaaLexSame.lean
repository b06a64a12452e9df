/-
  The document's tokens compared (layer 11), where they are alike.
-/
import Derived.Test.YtadfoilbcipdjaaLexCut
import Derived.BigQuiet
namespace Go.Proofs.Ytadfoilbcipdjaa.Lex
open Go.RowKit
set_option linter.unusedVariables false
set_option linter.unusedSimpArgs false

theorem flat4 : ∀ (vs : List Tv) (i k : Nat) (v : Tv), vs[i]? = some v → k < 4 → (tflat vs)[i * 4 + k]? = v.cells[k]?
  | [], _, _, _, h, _ => by simp at h
  | u :: us, 0, k, v, h, hk => by
    simp at h
    subst h
    rw [tflat, List.flatMap_cons, List.getElem?_append_left (by rw [Nat.zero_mul, Nat.zero_add]; exact hk), Nat.zero_mul, Nat.zero_add]
  | u :: us, i + 1, k, v, h, hk => by
    have h1 := flat4 us i k v (by simpa using h) hk
    rw [tflat, List.flatMap_cons, List.getElem?_append_right (by show 4 ≤ _; omega)]
    rw [← h1]
    show _ = (us.flatMap Tv.cells)[i * 4 + k]?
    congr 1
    show (i + 1) * 4 + k - 4 = _
    omega
theorem add_at4 (ad : Addr) (i k : Nat) (hk : 0 < k) : (⟨(ad.add i).block, (ad.add i).off + k, none⟩ : Addr) = ad.add (i + k) := by
  rw [← add_add]
  generalize ad.add i = q
  unfold Addr.add
  rw [if_neg (by omega)]
theorem lbelow_drew {B : Nat} {w w' : World} (h : Below B w w') (m : Nat) : Below B w (w'.drewN m) := ⟨h.os, h.tape, h.output, h.size, h.block⟩
theorem Tx.bs {w : World} {B : Nat} {A : Option Addr} {t : List (BitVec 8)} (h : Tx w B A t) (hB : B ≤ w.heap.size) : Bs w w.heap.size A t.length t := by
  rcases h with h | h
  · exact h.more hB
  · exact h.rd
theorem Tx.str {w : World} {B : Nat} {A : Option Addr} {t : List (BitVec 8)} (h : Tx w B A t) (hB : B ≤ w.heap.size) (c m : Nat) : (convert 22 9 (.slice A t.length c)).run Try.prog (w.drewN m) = .ok (.string (str t)) (w.drewN m) :=
  (Bs.bp ((h.bs hB).drewN m)).string c Try.underlying22 Try.underlying5 Try.underlying9
end Go.Proofs.Ytadfoilbcipdjaa.Lex
