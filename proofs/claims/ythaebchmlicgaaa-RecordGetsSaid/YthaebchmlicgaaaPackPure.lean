/-
  Layer 2 (pack), the plain mathematics: numbers and texts as bytes, and a reader as the bytes that are left (none: it has failed).
-/
import Derived.Test.YthaebchmlicgaaaBytes
namespace Go.Proofs.Ythaebchmlicgaaa.Pack

/-- The k least significant bytes of n, the most significant of them first. -/
def num : Nat → BitVec 64 → List (BitVec 8)
  | 0, _ => []
  | k + 1, n => num k (n >>> 8) ++ [n.setWidth 8]
/-- The number that bytes stand for. -/
def val (bs : List (BitVec 8)) : BitVec 64 := bs.foldl (fun a b => (a <<< 8) ||| b.setWidth 64) 0#64
/-- A text's bytes. -/
def text (bs : List (BitVec 8)) : List (BitVec 8) := num 2 (BitVec.ofNat 64 bs.length) ++ bs

theorem num_length (k : Nat) : ∀ n, (num k n).length = k := by
  induction k with
  | zero => intro n; rfl
  | succ k ih => intro n; simp [num, ih]
theorem num_byte (k : Nat) : ∀ n i, i < k → (num k n).getD i 0#8 = (n >>> (8 * (k - 1 - i))).setWidth 8 := by
  induction k with
  | zero => intro n i h; omega
  | succ k ih =>
    intro n i h
    have hl := num_length k (n >>> 8)
    by_cases hi : i < k
    · rw [num, List.getD_eq_getElem?_getD, List.getElem?_append_left (by omega), ← List.getD_eq_getElem?_getD, ih _ _ hi]
      rw [← BitVec.shiftRight_add]
      congr 2
      omega
    · have : i = k := by omega
      subst this
      rw [num, List.getD_eq_getElem?_getD, List.getElem?_append_right (by omega)]
      simp [hl]
theorem num_drop (k : Nat) (n : BitVec 64) (i : Nat) (h : i < k) : (num k n).drop i = (n >>> (8 * (k - 1 - i))).setWidth 8 :: (num k n).drop (i + 1) := by
  have hl := num_length k n
  rw [List.drop_eq_getElem_cons (by omega)]
  congr 1
  rw [← num_byte k n i h, List.getD_eq_getElem?_getD, List.getElem?_eq_getElem (by omega)]
  rfl

theorem val_snoc (bs : List (BitVec 8)) (b : BitVec 8) : val (bs ++ [b]) = (val bs <<< 8) ||| b.setWidth 64 := by
  unfold val; rw [List.foldl_append]; rfl
theorem shl_and (a : BitVec 64) (b : BitVec 8) : (a <<< 8) &&& b.setWidth 64 = 0#64 := by
  apply BitVec.eq_of_getLsbD_eq
  intro i hi
  simp only [BitVec.getLsbD_and, BitVec.getLsbD_shiftLeft, BitVec.getLsbD_setWidth, BitVec.getLsbD_zero]
  by_cases h : i < 8
  · simp [h]
  · have : b.getLsbD i = false := BitVec.getLsbD_of_ge _ _ (by omega)
    simp [this]
theorem or_add (a : BitVec 64) (b : BitVec 8) : (a <<< 8) ||| b.setWidth 64 = 256#64 * a + b.setWidth 64 := by
  rw [← BitVec.add_eq_or_of_and_eq_zero _ _ (shl_and a b)]
  congr 1
  apply BitVec.eq_of_toNat_eq
  rw [BitVec.toNat_shiftLeft, BitVec.toNat_mul, Nat.shiftLeft_eq]
  show a.toNat * 2 ^ 8 % 2 ^ 64 = 256 * a.toNat % 2 ^ 64
  rw [Nat.mul_comm]

/-- The number, as a natural one. -/
def valN (bs : List (BitVec 8)) : Nat := bs.foldl (fun a b => a * 256 + b.toNat) 0
theorem valN_snoc (bs : List (BitVec 8)) (b : BitVec 8) : valN (bs ++ [b]) = valN bs * 256 + b.toNat := by
  unfold valN; rw [List.foldl_append]; rfl
theorem rev_cases (bs : List (BitVec 8)) : bs = [] ∨ ∃ l b, bs = l ++ [b] := by
  rcases List.eq_nil_or_concat bs with h | ⟨l, b, h⟩
  · exact .inl h
  · exact .inr ⟨l, b, by rw [h]; simp⟩
theorem valN_lt (k : Nat) : ∀ bs : List (BitVec 8), bs.length = k → valN bs < 256 ^ k := by
  induction k with
  | zero => intro bs h; rw [List.eq_nil_of_length_eq_zero h]; decide
  | succ k ih =>
    intro bs h
    rcases rev_cases bs with rfl | ⟨l, b, rfl⟩
    · simp at h
    · have := ih l (by simpa using h)
      have hb := b.isLt
      rw [valN_snoc, Nat.pow_succ]
      omega
theorem val_toNat (k : Nat) : ∀ bs : List (BitVec 8), bs.length = k → k ≤ 8 → (val bs).toNat = valN bs := by
  induction k with
  | zero => intro bs h _; rw [List.eq_nil_of_length_eq_zero h]; rfl
  | succ k ih =>
    intro bs h hk
    rcases rev_cases bs with rfl | ⟨l, b, rfl⟩
    · simp at h
    · have hl : l.length = k := by simpa using h
      have h1 := ih l hl (by omega)
      have h2 := valN_lt k l hl
      have hb := b.isLt
      have h3 : (256 : Nat) ^ k ≤ 256 ^ 7 := Nat.pow_le_pow_right (by decide) (by omega)
      have e7 : (256 : Nat) ^ 7 = 72057594037927936 := by decide
      rw [val_snoc, or_add, BitVec.toNat_add, BitVec.toNat_mul, BitVec.toNat_setWidth, h1, valN_snoc]
      have e256 : (256#64).toNat = 256 := rfl
      rw [e256]
      omega
theorem valN_num (k : Nat) : ∀ n : BitVec 64, valN (num k n) = n.toNat % 256 ^ k := by
  induction k with
  | zero => intro n; rw [Nat.pow_zero, Nat.mod_one]; rfl
  | succ k ih =>
    intro n
    rw [num, valN_snoc, ih, BitVec.toNat_ushiftRight, BitVec.toNat_setWidth, Nat.shiftRight_eq_div_pow, Nat.pow_succ 256 k, Nat.mul_comm (256 ^ k) 256, Nat.mod_mul]
    show n.toNat / 256 % _ * 256 + n.toNat % 256 = _
    omega
theorem val_num (k : Nat) (n : BitVec 64) (hk : k ≤ 8) (hn : n.toNat < 256 ^ k) : val (num k n) = n := by
  apply BitVec.eq_of_toNat_eq
  rw [val_toNat k _ (num_length k n) hk, valN_num, Nat.mod_eq_of_lt hn]

/-- A reader: what is left of its bytes; none: it has failed. -/
abbrev St := Option (List (BitVec 8))
def okSize (size : Int) : Bool := decide (1 ≤ size) && decide (size ≤ 8)
def rnum (size : Int) : St → BitVec 64 × St
  | none => (0#64, none)
  | some r => if okSize size && decide (size.toNat ≤ r.length) then (val (r.take size.toNat), some (r.drop size.toNat)) else (0#64, none)
/-- The next n bytes. -/
def rnext (n : Nat) : St → List (BitVec 8) × St
  | none => ([], none)
  | some r => if n ≤ r.length then (r.take n, some (r.drop n)) else ([], none)
def rtext (st : St) : List (BitVec 8) × St := rnext (rnum 2 st).1.toNat (rnum 2 st).2
def rend : St → Bool
  | some [] => true
  | _ => false

theorem rnum_next (size : Int) (st : St) (h : okSize size = true) : rnum size st = (val (rnext size.toNat st).1, (rnext size.toNat st).2) := by
  cases st with
  | none => rfl
  | some r => by_cases hl : size.toNat ≤ r.length <;> simp [rnum, rnext, h, hl, val]
theorem rnum_bad (size : Int) (st : St) (h : okSize size = false) : rnum size st = (0#64, none) := by
  cases st with
  | none => rfl
  | some r => simp [rnum, h]
theorem rnum_ok (k : Nat) (bs r : List (BitVec 8)) (hk : 1 ≤ k) (hk8 : k ≤ 8) (hl : bs.length = k) : rnum k (some (bs ++ r)) = (val bs, some r) := by
  have h1 : okSize (k : Int) = true := by simp [okSize]; omega
  rw [rnum_next _ _ h1]
  simp [rnext, hl]
theorem rtext_ok (bs r : List (BitVec 8)) (hl : bs.length ≤ 65535) : rtext (some (text bs ++ r)) = (bs, some r) := by
  have e : (BitVec.ofNat 64 bs.length).toNat = bs.length := by rw [BitVec.toNat_ofNat, Nat.mod_eq_of_lt (by omega)]
  have h2 : rnum (2 : Int) (some (text bs ++ r)) = (BitVec.ofNat 64 bs.length, some (bs ++ r)) := by
    have := rnum_ok 2 (num 2 (BitVec.ofNat 64 bs.length)) (bs ++ r) (by decide) (by decide) (num_length _ _)
    rw [val_num 2 _ (by decide) (by rw [e]; omega)] at this
    rw [text, List.append_assoc]
    exact this
  rw [rtext, h2]
  simp only [e, rnext]
  simp
end Go.Proofs.Ythaebchmlicgaaa.Pack
