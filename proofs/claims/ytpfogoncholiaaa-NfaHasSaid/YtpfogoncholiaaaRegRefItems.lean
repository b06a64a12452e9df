/-
  The document's parser of patterns (layer 8): sets.
-/
import Derived.Test.YtpfogoncholiaaaRegRefSet
namespace Go.Proofs.Ytpfogoncholiaaa.Reg
open Go.RowKit
set_option linter.unusedVariables false
set_option linter.unusedSimpArgs false

theorem rload_op {w : World} {g : Nat} {x0 x1 x2 : Value} (h : Cel w g 60 [x0, x1, x2]) : (loadVar 60 ⟨g, 0, none⟩).run Try.prog w = .ok (.agg #[x0, x1, x2]) w :=
  run_loadVar_mid (P := Try.prog) w g 0 60 [x0, x1, x2] _ (range_of h) Try.underlying60 rfl (by kernel_rfl)
theorem RSpn.setCells3 {w : World} {A : Option Addr} {l : List Sp} (h : RSpn w A l) {g : Nat} {x0 x1 x2 : Value} (hc : Cel w g 60 [x0, x1, x2]) (u0 u1 u2 : Value) : RSpn (((w.setCell ⟨g, 0, none⟩ u0).setCell ⟨g, 1, none⟩ u1).setCell ⟨g, 2, none⟩ u2) A l :=
  ((Ry.set h (hc.not_ty (by decide)) u0).set ((hc.set 0 u0).not_ty (by decide)) u1).set (((hc.set 0 u0).set 1 u1).not_ty (by decide)) u2
/-- What is amiss at the reader at a block. -/
def badOf (b : Nat) (w : World) : Int := match w.cell? ⟨b, 1, none⟩ with
  | some (.int _ z) => z
  | _ => 0
/-- While a set is read by the document's: its op, in a variable. -/
structure Rg (w : World) (b g : Nat) (neg : Bool) (wr : World) (acc : List Sp) : Prop where
  frm : Frm [b] w wr
  res : Cel wr w.heap.size 60 [.int .i64 0, .bool false, .slice none 0 0]
  op : ∃ A c, Cel wr g 60 [.int .i64 1, .bool neg, .slice A acc.length c] ∧ wr.ownsRow (g + 1) 63 2 (.slice A acc.length c) acc.length (sflat acc)
theorem Rg.looked {w : World} {b g : Nat} {neg : Bool} {wr w1 : World} {acc : List Sp} (h : Rg w b g neg wr acc) (hw : b < w.heap.size) (hg : w.heap.size < g) (hf : Frm [b] wr w1) : Rg w b g neg w1 acc := by
  obtain ⟨A, c, ho, hr⟩ := h.op
  exact ⟨h.frm.trans hf, h.res.frm hf (by simp; omega), A, c, ho.frm hf (by simp; omega), own_frm hr hf (by intro q hq; simp at hq; subst hq; exact own_ne hr (by omega))⟩
theorem item_of_e {s : List (BitVec 8)} {k j q : Nat} {a : BitVec 8} (h : setByte s k 0#8 = .ok (a, j)) (h1 : s[j]? = some 45#8) (h2 : setByte s (j + 1) 0#8 = .error q) : item s k = .error q :=
  item_e2 h h1 (by rw [setByte_least, h2])
theorem item_of_lt {s : List (BitVec 8)} {k j i : Nat} {a b : BitVec 8} (h : setByte s k 0#8 = .ok (a, j)) (h1 : s[j]? = some 45#8) (h2 : setByte s (j + 1) 0#8 = .ok (b, i)) (h3 : b.toNat < a.toNat) : item s k = .error (i - 1) :=
  item_e2 h h1 (by rw [setByte_least, h2]; dsimp only; rw [if_pos h3])
theorem item_of_ok {s : List (BitVec 8)} {k j i : Nat} {a b : BitVec 8} (h : setByte s k 0#8 = .ok (a, j)) (h1 : s[j]? = some 45#8) (h2 : setByte s (j + 1) 0#8 = .ok (b, i)) (h3 : ¬ b.toNat < a.toNat) : item s k = .ok (⟨a, b⟩, i) :=
  item_o2 h h1 (by rw [setByte_least, h2]; dsimp only; rw [if_neg h3])

theorem rset_down {b n kk jj : Nat} {V wr : World} (hm : (if badOf b wr = 0 then n + 1 - (intOf (.int .i64 (kk : Int))).toNat else 0) = n + 1 - kk) (hj : badOf b V = 0 → kk < jj ∧ jj ≤ n) (hk : kk ≤ n) :
    (if badOf b V = 0 then n + 1 - (intOf (.int .i64 (jj : Int))).toNat else 0) < (if badOf b wr = 0 then n + 1 - (intOf (.int .i64 (kk : Int))).toNat else 0) := by
  rw [hm]
  by_cases h0 : badOf b V = 0
  · obtain ⟨q1, q2⟩ := hj h0
    rw [if_pos h0, show (intOf (.int .i64 (jj : Int))).toNat = jj by simp [intOf]]
    omega
  · rw [if_neg h0]
    omega

end Go.Proofs.Ytpfogoncholiaaa.Reg
