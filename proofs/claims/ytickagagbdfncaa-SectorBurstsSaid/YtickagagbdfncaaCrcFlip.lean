/-
  Bytes of which some bits are turned over.
-/
import Derived.Test.YtickagagbdfncaaCrcWalks
namespace Go.Proofs.Ytickagagbdfncaa.Crc
open Go.RowKit
set_option linter.unusedVariables false

/-- The bytes with k bytes of D, from place p on, turned over. -/
def flip (bs : List (BitVec 8)) (p : Nat) (D : BitVec 64) (k : Nat) : List (BitVec 8) :=
  bs.mapIdx fun j x => if p ≤ j ∧ j < p + k then x ^^^ (D >>> (8 * (j - p))).setWidth 8 else x
theorem flip_len (bs : List (BitVec 8)) (p : Nat) (D : BitVec 64) (k : Nat) : (flip bs p D k).length = bs.length := by simp [flip]
theorem flip_zero (bs : List (BitVec 8)) (p : Nat) (D : BitVec 64) : flip bs p D 0 = bs := by
  apply List.ext_getElem
  · simp [flip]
  · intro j h1 h2
    simp only [flip, List.getElem_mapIdx]
    rw [if_neg (by omega)]
theorem flip_getD (bs : List (BitVec 8)) (p : Nat) (D : BitVec 64) (k j : Nat) (hj : j < bs.length) :
    (flip bs p D k).getD j 0#8 = if p ≤ j ∧ j < p + k then bs.getD j 0#8 ^^^ (D >>> (8 * (j - p))).setWidth 8 else bs.getD j 0#8 := by
  rw [List.getD_eq_getElem?_getD, List.getD_eq_getElem?_getD, List.getElem?_eq_getElem (by rw [flip_len]; exact hj), List.getElem?_eq_getElem hj]
  simp [flip, List.getElem_mapIdx]
theorem flip_succ (bs : List (BitVec 8)) (p : Nat) (D : BitVec 64) (k : Nat) (h : p + k < bs.length) :
    flip bs p D (k + 1) = (flip bs p D k).set (p + k) ((flip bs p D k).getD (p + k) 0#8 ^^^ (D >>> (8 * k)).setWidth 8) := by
  rw [flip_getD _ _ _ _ _ h, if_neg (by omega)]
  apply List.ext_getElem
  · simp [flip]
  · intro j h1 h2
    rw [List.getElem_set]
    split
    · next e =>
      subst e
      simp only [flip, List.getElem_mapIdx]
      rw [if_pos (by omega), show p + k - p = k from by omega, List.getD_eq_getElem?_getD, List.getElem?_eq_getElem h]
      rfl
    · next e =>
      simp only [flip, List.getElem_mapIdx]
      by_cases hc : p ≤ j ∧ j < p + k
      · rw [if_pos hc, if_pos (by omega)]
      · rw [if_neg hc, if_neg (by omega)]
theorem flip_bits (bs : List (BitVec 8)) (t : BitVec 32) (f p s k : Nat) (hp : p = f / 8) (hs : s = f % 8) (hk : k = 5 ∨ bs.length ≤ p + k) (i : Nat) (hi : i < 8 * bs.length) :
    bitAt (flip bs p (t.setWidth 64 <<< s) k) i = (bitAt bs i ^^ (decide (f ≤ i) && t.getLsbD (i - f))) := by
  unfold bitAt
  rw [flip_getD _ _ _ _ _ (by omega)]
  by_cases hc : p ≤ i / 8 ∧ i / 8 < p + k
  · rw [if_pos hc, BitVec.getLsbD_xor]
    congr 1
    rw [BitVec.getLsbD_setWidth, BitVec.getLsbD_ushiftRight, BitVec.getLsbD_shiftLeft, BitVec.getLsbD_setWidth]
    have h8 : i % 8 < 8 := Nat.mod_lt _ (by decide)
    by_cases hfi : f ≤ i
    · by_cases h40 : 8 * (i / 8 - p) + i % 8 < 64
      · have h1 : ¬ 8 * (i / 8 - p) + i % 8 < s := by omega
        have e : 8 * (i / 8 - p) + i % 8 - s = i - f := by omega
        have h3 : i - f < 64 := by omega
        simp [h8, hfi, h40, h1, e, h3]
      · have h2 : 32 ≤ i - f := by omega
        simp [h40, BitVec.getLsbD_of_ge t _ h2]
    · have h1 : 8 * (i / 8 - p) + i % 8 < s := by omega
      simp [hfi, h1]
  · rw [if_neg hc]
    by_cases hfi : f ≤ i
    · have h2 : 32 ≤ i - f := by omega
      simp [BitVec.getLsbD_of_ge t _ h2]
    · simp [hfi]
theorem shl_D (t : BitVec 32) (s : Nat) (hs : s < 8) : IntKind.u64.wrap ((t.toNat : Int) * 2 ^ s) = ((t.setWidth 64 <<< s).toNat : Int) := by
  have ht := t.isLt
  have h2 : t.toNat * 2 ^ s < 2 ^ 64 := Nat.lt_of_lt_of_le (Nat.mul_lt_mul_of_lt_of_le ht (Nat.pow_le_pow_right (by decide) (Nat.le_of_lt_succ hs)) (by decide)) (by decide)
  rw [BitVec.toNat_shiftLeft, BitVec.toNat_setWidth, Nat.mod_eq_of_lt (Nat.lt_trans ht (by decide)), Nat.shiftLeft_eq, Nat.mod_eq_of_lt h2]
  have e : (t.toNat : Int) * 2 ^ s = ((t.toNat * 2 ^ s : Nat) : Int) := by simp
  rw [e]
  generalize t.toNat * 2 ^ s = y at h2
  simp [IntKind.wrap, IntKind.bits, IntKind.signed]
  omega

theorem xor_D (X : BitVec 8) (D : BitVec 64) (k : Nat) : bits .xor .u8 (X.toNat : Int) ((D.toNat : Int) / 2 ^ (8 * k) % 256) = ((X ^^^ (D >>> (8 * k)).setWidth 8).toNat : Int) := by
  have e : (D.toNat : Int) / 2 ^ (8 * k) % 256 = (((D >>> (8 * k)).setWidth 8).toNat : Int) := by
    rw [BitVec.toNat_setWidth, BitVec.toNat_ushiftRight, Nat.shiftRight_eq_div_pow]
    simp
  rw [e, u8_xor_nat _ _ X.isLt (BitVec.isLt _), BitVec.toNat_xor]

end Go.Proofs.Ytickagagbdfncaa.Crc
