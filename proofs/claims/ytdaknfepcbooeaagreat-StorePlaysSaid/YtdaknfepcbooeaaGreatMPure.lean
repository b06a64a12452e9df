/-
  Layer 2 (pack), the plain mathematics: numbers and texts as bytes, and a reader as the bytes that are left (none: it has failed).
  Plain mathematics of CRC-32 registers over bit vectors: no program is named here.
  Layer 3 (sector), the plain mathematics: a part, its sector, the part of bytes, and why bytes that are turned are no part's sector.
  Layer 4 (frag), the mathematics: records cut into parts, parts joined to records.
  Layer 5 (disk), the mathematics: a disk as a list of files, rising, and a list of sectors; what each call makes of it.
  The mathematics of layer 6 (segment): what is read of sectors, what appending comes to, what is left behind a failure.
  A segment by the document: what its calls come to, on a disk by the document.
  A disk with one file, of which the first sectors are synced; what a segment writes to it, and what a failure leaves.
-/
import Derived.Test.YtdaknfepcbooeaaGreatMBase
import GoSem.Claim
import Derived.Laws.BitsLemmas
section
namespace Go.Proofs.YtdaknfepcbooeaaGreat.Pack

/-- The k least significant bytes of n, the most significant of them first. -/
def num : Nat → BitVec 64 → List (BitVec 8)
  | 0, _ => []
  | k + 1, n => num k (n >>> 8) ++ [n.setWidth 8]
/-- The number that bytes stand for. -/
def val (bs : List (BitVec 8)) : BitVec 64 := bs.foldl (fun a b => (a <<< 8) ||| b.setWidth 64) 0#64
/-- A text's bytes. -/
def text (bs : List (BitVec 8)) : List (BitVec 8) := num 2 (BitVec.ofNat 64 bs.length) ++ bs

theorem num_length (k : Nat) : ∀ n, (num k n).length = k := by
  induction k with
  | zero => intro n; rfl
  | succ k ih => intro n; simp [num, ih]
theorem num_byte (k : Nat) : ∀ n i, i < k → (num k n).getD i 0#8 = (n >>> (8 * (k - 1 - i))).setWidth 8 := by
  induction k with
  | zero => intro n i h; omega
  | succ k ih =>
    intro n i h
    have hl := num_length k (n >>> 8)
    by_cases hi : i < k
    · rw [num, List.getD_eq_getElem?_getD, List.getElem?_append_left (by omega), ← List.getD_eq_getElem?_getD, ih _ _ hi]
      rw [← BitVec.shiftRight_add]
      congr 2
      omega
    · have : i = k := by omega
      subst this
      rw [num, List.getD_eq_getElem?_getD, List.getElem?_append_right (by omega)]
      simp [hl]
theorem num_drop (k : Nat) (n : BitVec 64) (i : Nat) (h : i < k) : (num k n).drop i = (n >>> (8 * (k - 1 - i))).setWidth 8 :: (num k n).drop (i + 1) := by
  have hl := num_length k n
  rw [List.drop_eq_getElem_cons (by omega)]
  congr 1
  rw [← num_byte k n i h, List.getD_eq_getElem?_getD, List.getElem?_eq_getElem (by omega)]
  rfl

theorem val_snoc (bs : List (BitVec 8)) (b : BitVec 8) : val (bs ++ [b]) = (val bs <<< 8) ||| b.setWidth 64 := by
  unfold val; rw [List.foldl_append]; rfl
theorem shl_and (a : BitVec 64) (b : BitVec 8) : (a <<< 8) &&& b.setWidth 64 = 0#64 := by
  apply BitVec.eq_of_getLsbD_eq
  intro i hi
  simp only [BitVec.getLsbD_and, BitVec.getLsbD_shiftLeft, BitVec.getLsbD_setWidth, BitVec.getLsbD_zero]
  by_cases h : i < 8
  · simp [h]
  · have : b.getLsbD i = false := BitVec.getLsbD_of_ge _ _ (by omega)
    simp [this]
theorem or_add (a : BitVec 64) (b : BitVec 8) : (a <<< 8) ||| b.setWidth 64 = 256#64 * a + b.setWidth 64 := by
  rw [← BitVec.add_eq_or_of_and_eq_zero _ _ (shl_and a b)]
  congr 1
  apply BitVec.eq_of_toNat_eq
  rw [BitVec.toNat_shiftLeft, BitVec.toNat_mul, Nat.shiftLeft_eq]
  show a.toNat * 2 ^ 8 % 2 ^ 64 = 256 * a.toNat % 2 ^ 64
  rw [Nat.mul_comm]

/-- The number, as a natural one. -/
def valN (bs : List (BitVec 8)) : Nat := bs.foldl (fun a b => a * 256 + b.toNat) 0
theorem valN_snoc (bs : List (BitVec 8)) (b : BitVec 8) : valN (bs ++ [b]) = valN bs * 256 + b.toNat := by
  unfold valN; rw [List.foldl_append]; rfl
theorem rev_cases (bs : List (BitVec 8)) : bs = [] ∨ ∃ l b, bs = l ++ [b] := by
  rcases List.eq_nil_or_concat bs with h | ⟨l, b, h⟩
  · exact .inl h
  · exact .inr ⟨l, b, by rw [h]; simp⟩
theorem valN_lt (k : Nat) : ∀ bs : List (BitVec 8), bs.length = k → valN bs < 256 ^ k := by
  induction k with
  | zero => intro bs h; rw [List.eq_nil_of_length_eq_zero h]; decide
  | succ k ih =>
    intro bs h
    rcases rev_cases bs with rfl | ⟨l, b, rfl⟩
    · simp at h
    · have := ih l (by simpa using h)
      have hb := b.isLt
      rw [valN_snoc, Nat.pow_succ]
      omega
theorem val_toNat (k : Nat) : ∀ bs : List (BitVec 8), bs.length = k → k ≤ 8 → (val bs).toNat = valN bs := by
  induction k with
  | zero => intro bs h _; rw [List.eq_nil_of_length_eq_zero h]; rfl
  | succ k ih =>
    intro bs h hk
    rcases rev_cases bs with rfl | ⟨l, b, rfl⟩
    · simp at h
    · have hl : l.length = k := by simpa using h
      have h1 := ih l hl (by omega)
      have h2 := valN_lt k l hl
      have hb := b.isLt
      have h3 : (256 : Nat) ^ k ≤ 256 ^ 7 := Nat.pow_le_pow_right (by decide) (by omega)
      have e7 : (256 : Nat) ^ 7 = 72057594037927936 := by decide
      rw [val_snoc, or_add, BitVec.toNat_add, BitVec.toNat_mul, BitVec.toNat_setWidth, h1, valN_snoc]
      have e256 : (256#64).toNat = 256 := rfl
      rw [e256]
      omega
theorem valN_num (k : Nat) : ∀ n : BitVec 64, valN (num k n) = n.toNat % 256 ^ k := by
  induction k with
  | zero => intro n; rw [Nat.pow_zero, Nat.mod_one]; rfl
  | succ k ih =>
    intro n
    rw [num, valN_snoc, ih, BitVec.toNat_ushiftRight, BitVec.toNat_setWidth, Nat.shiftRight_eq_div_pow, Nat.pow_succ 256 k, Nat.mul_comm (256 ^ k) 256, Nat.mod_mul]
    show n.toNat / 256 % _ * 256 + n.toNat % 256 = _
    omega
theorem val_num (k : Nat) (n : BitVec 64) (hk : k ≤ 8) (hn : n.toNat < 256 ^ k) : val (num k n) = n := by
  apply BitVec.eq_of_toNat_eq
  rw [val_toNat k _ (num_length k n) hk, valN_num, Nat.mod_eq_of_lt hn]

/-- A reader: what is left of its bytes; none: it has failed. -/
abbrev St := Option (List (BitVec 8))
def okSize (size : Int) : Bool := decide (1 ≤ size) && decide (size ≤ 8)
def rnum (size : Int) : St → BitVec 64 × St
  | none => (0#64, none)
  | some r => if okSize size && decide (size.toNat ≤ r.length) then (val (r.take size.toNat), some (r.drop size.toNat)) else (0#64, none)
/-- The next n bytes. -/
def rnext (n : Nat) : St → List (BitVec 8) × St
  | none => ([], none)
  | some r => if n ≤ r.length then (r.take n, some (r.drop n)) else ([], none)
def rtext (st : St) : List (BitVec 8) × St := rnext (rnum 2 st).1.toNat (rnum 2 st).2
def rend : St → Bool
  | some [] => true
  | _ => false

theorem rnum_next (size : Int) (st : St) (h : okSize size = true) : rnum size st = (val (rnext size.toNat st).1, (rnext size.toNat st).2) := by
  cases st with
  | none => rfl
  | some r => by_cases hl : size.toNat ≤ r.length <;> simp [rnum, rnext, h, hl, val]
theorem rnum_bad (size : Int) (st : St) (h : okSize size = false) : rnum size st = (0#64, none) := by
  cases st with
  | none => rfl
  | some r => simp [rnum, h]
theorem rnum_ok (k : Nat) (bs r : List (BitVec 8)) (hk : 1 ≤ k) (hk8 : k ≤ 8) (hl : bs.length = k) : rnum k (some (bs ++ r)) = (val bs, some r) := by
  have h1 : okSize (k : Int) = true := by simp [okSize]; omega
  rw [rnum_next _ _ h1]
  simp [rnext, hl]
theorem rtext_ok (bs r : List (BitVec 8)) (hl : bs.length ≤ 65535) : rtext (some (text bs ++ r)) = (bs, some r) := by
  have e : (BitVec.ofNat 64 bs.length).toNat = bs.length := by rw [BitVec.toNat_ofNat, Nat.mod_eq_of_lt (by omega)]
  have h2 : rnum (2 : Int) (some (text bs ++ r)) = (BitVec.ofNat 64 bs.length, some (bs ++ r)) := by
    have := rnum_ok 2 (num 2 (BitVec.ofNat 64 bs.length)) (bs ++ r) (by decide) (by decide) (num_length _ _)
    rw [val_num 2 _ (by decide) (by rw [e]; omega)] at this
    rw [text, List.append_assoc]
    exact this
  rw [rtext, h2]
  simp only [e, rnext]
  simp
end Go.Proofs.YtdaknfepcbooeaaGreat.Pack
end

section
namespace Go.Proofs.YtdaknfepcbooeaaGreat.Crc

/-- One shift of the register, with the taps where a 1 leaves it. -/
def step (r : BitVec 32) : BitVec 32 := (r >>> 1) ^^^ (if r.getLsbD 0 then 0xEDB88320#32 else 0#32)
/-- One bit fed. -/
def fbit (r : BitVec 32) (b : Bool) : BitVec 32 := step (r ^^^ (if b then 1#32 else 0#32))
/-- The first k bits of a byte fed, the least significant one first. -/
def fbits : Nat → BitVec 32 → BitVec 8 → BitVec 32
  | 0, r, _ => r
  | k + 1, r, x => fbit (fbits k r x) (x.getLsbD k)
def fbyte (r : BitVec 32) (x : BitVec 8) : BitVec 32 := fbits 8 r x
def ext (r : BitVec 32) (bs : List (BitVec 8)) : BitVec 32 := bs.foldl fbyte r
def sum (bs : List (BitVec 8)) : BitVec 32 := ~~~ ext 0xFFFFFFFF#32 bs

theorem ext_append (r : BitVec 32) (a b : List (BitVec 8)) : ext (ext r a) b = ext r (a ++ b) := by
  simp [ext, List.foldl_append]
theorem ext_snoc (r : BitVec 32) (a : List (BitVec 8)) (x : BitVec 8) : ext r (a ++ [x]) = fbyte (ext r a) x := by
  simp [ext, List.foldl_append]

/-! The register's step is linear, and hides nothing. -/
theorem xlc (a b c : BitVec 32) : a ^^^ (b ^^^ c) = b ^^^ (a ^^^ c) := by
  rw [← BitVec.xor_assoc, BitVec.xor_comm a b, BitVec.xor_assoc]
theorem step_xor (a b : BitVec 32) : step (a ^^^ b) = step a ^^^ step b := by
  unfold step
  rw [BitVec.ushiftRight_xor_distrib, BitVec.getLsbD_xor]
  cases a.getLsbD 0 <;> cases b.getLsbD 0 <;> simp [BitVec.xor_assoc, BitVec.xor_comm, xlc]
theorem step_zero : step 0#32 = 0#32 := by decide
theorem step_ne (a : BitVec 32) (h : a ≠ 0#32) : step a ≠ 0#32 := by
  intro hs
  apply h
  unfold step at hs
  have h31 := congrArg (fun v => BitVec.getLsbD v 31) hs
  simp only [BitVec.getLsbD_xor, BitVec.getLsbD_ushiftRight] at h31
  cases ha : a.getLsbD 0
  · rw [ha] at hs
    simp at hs
    apply BitVec.eq_of_getLsbD_eq
    intro i hi
    cases i with
    | zero => simpa using ha
    | succ i =>
      have := congrArg (fun v => BitVec.getLsbD v i) hs
      simpa [BitVec.getLsbD_ushiftRight, Nat.add_comm] using this
  · rw [ha] at h31
    simp [BitVec.getLsbD_of_ge] at h31

def steps : Nat → BitVec 32 → BitVec 32
  | 0, r => r
  | k + 1, r => step (steps k r)
theorem steps_xor (k : Nat) (a b : BitVec 32) : steps k (a ^^^ b) = steps k a ^^^ steps k b := by
  induction k with
  | zero => rfl
  | succ k ih => simp [steps, ih, step_xor]
theorem steps_zero (k : Nat) : steps k 0#32 = 0#32 := by
  induction k with
  | zero => rfl
  | succ k ih => simp [steps, ih, step_zero]
theorem steps_ne (k : Nat) (a : BitVec 32) (h : a ≠ 0#32) : steps k a ≠ 0#32 := by
  induction k with
  | zero => exact h
  | succ k ih => exact step_ne _ ih

/-! A stream of bits fed. -/
def feed (r : BitVec 32) (f : Nat → Bool) : Nat → BitVec 32
  | 0 => r
  | n + 1 => fbit (feed r f n) (f n)
def bitOf (b : Bool) : BitVec 32 := if b then 1#32 else 0#32
theorem fbit_eq (r : BitVec 32) (b : Bool) : fbit r b = step r ^^^ step (bitOf b) := by
  unfold fbit bitOf; rw [step_xor]
theorem bitOf_xor (a b : Bool) : bitOf (a ^^ b) = bitOf a ^^^ bitOf b := by cases a <;> cases b <;> decide
theorem feed_diff (r : BitVec 32) (f d : Nat → Bool) (n : Nat) : feed r (fun i => f i ^^ d i) n = feed r f n ^^^ feed 0#32 d n := by
  induction n with
  | zero => simp [feed]
  | succ n ih =>
    simp only [feed, fbit_eq, ih, bitOf_xor, step_xor]
    simp only [BitVec.xor_assoc, BitVec.xor_comm, xlc]
theorem feed_congr (r : BitVec 32) (f g : Nat → Bool) (n : Nat) (h : ∀ i, i < n → f i = g i) : feed r f n = feed r g n := by
  induction n with
  | zero => rfl
  | succ n ih => simp only [feed]; rw [ih (fun i hi => h i (by omega)), h n (by omega)]
theorem feed_add (r : BitVec 32) (f : Nat → Bool) (m n : Nat) : feed r f (m + n) = feed (feed r f m) (fun i => f (m + i)) n := by
  induction n with
  | zero => rfl
  | succ n ih => rw [← Nat.add_assoc]; simp only [feed, ih]
theorem feed_false (r : BitVec 32) (n : Nat) : feed r (fun _ => false) n = steps n r := by
  induction n with
  | zero => rfl
  | succ n ih => simp [feed, steps, ih, fbit]

/-- Only the k low bits. -/
def low (t : BitVec 32) (k : Nat) : BitVec 32 := t &&& BitVec.ofNat 32 (2 ^ k - 1)
theorem low_succ (t : BitVec 32) (k : Nat) (hk : k < 32) : low t (k + 1) = low t k ^^^ (bitOf (t.getLsbD k) <<< k) := by
  apply BitVec.eq_of_getLsbD_eq
  intro i hi
  simp only [low, BitVec.getLsbD_and, BitVec.getLsbD_xor, BitVec.getLsbD_ofNat, Nat.testBit_two_pow_sub_one, BitVec.getLsbD_shiftLeft]
  rcases Nat.lt_trichotomy i k with h | h | h
  · simp [hi, h, Nat.lt_succ_of_lt h]
  · subst h; cases hb : t.getLsbD i <;> simp [bitOf, hi]
  · have h1 : ¬ i < k := by omega
    have h2 : ¬ i < k + 1 := by omega
    have h3 : i - k ≠ 0 := by omega
    cases hb : t.getLsbD k <;> simp [bitOf, h1, h2, h3, hi]
theorem steps_one : ∀ k : Fin 32, steps k.val (1#32 <<< k.val) = 1#32 := by decide +kernel
theorem steps_bit (k : Nat) (hk : k < 32) (b : Bool) : steps k (bitOf b <<< k) = bitOf b := by
  cases b
  · simp [bitOf, steps_zero]
  · exact steps_one ⟨k, hk⟩
theorem feed_word (t : BitVec 32) (k : Nat) (hk : k ≤ 32) : feed 0#32 t.getLsbD k = steps k (low t k) := by
  induction k with
  | zero => simp [feed, steps, low]
  | succ k ih =>
    simp only [feed, steps]
    rw [ih (by omega), low_succ t k (by omega), steps_xor, steps_bit k (by omega), step_xor, fbit_eq]
theorem low_all (t : BitVec 32) : low t 32 = t := by
  apply BitVec.eq_of_getLsbD_eq
  intro i hi
  simp only [low, BitVec.getLsbD_and, BitVec.getLsbD_ofNat, Nat.testBit_two_pow_sub_one]
  simp [hi]

/-- What is turned within 32 bits that stand together is seen. -/
theorem feed_burst (r : BitVec 32) (f : Nat → Bool) (t : BitVec 32) (ht : t ≠ 0#32) (n m : Nat) :
    feed r (fun i => f i ^^ (decide (n ≤ i) && t.getLsbD (i - n))) (n + 32 + m) ≠ feed r f (n + 32 + m) := by
  rw [feed_diff r f (fun i => decide (n ≤ i) && t.getLsbD (i - n))]
  intro h
  have h0 : feed 0#32 (fun i => decide (n ≤ i) && t.getLsbD (i - n)) (n + 32 + m) = 0#32 := by
    have := congrArg (feed r f (n + 32 + m) ^^^ ·) h
    simpa [← BitVec.xor_assoc] using this
  have e1 : feed 0#32 (fun i => decide (n ≤ i) && t.getLsbD (i - n)) n = 0#32 := by
    rw [feed_congr _ _ (fun _ => false) n (fun i hi => by simp; omega), feed_false, steps_zero]
  have e2 : feed 0#32 (fun i => decide (n ≤ i) && t.getLsbD (i - n)) (n + 32) = steps 32 t := by
    rw [feed_add, e1, feed_congr _ _ t.getLsbD 32 (fun i _ => by simp), feed_word t 32 (Nat.le_refl _), low_all]
  rw [feed_add, e2, feed_congr _ _ (fun _ => false) m (fun i _ => by simp [show n + 32 + i - n = 32 + i from by omega]), feed_false] at h0
  exact steps_ne m _ (steps_ne 32 t ht) h0

/-! Bytes as a stream of bits. -/
def bitAt (bs : List (BitVec 8)) (i : Nat) : Bool := (bs.getD (i / 8) 0#8).getLsbD (i % 8)
theorem fbits_feed (k : Nat) (hk : k ≤ 8) (r : BitVec 32) (x : BitVec 8) : fbits k r x = feed r x.getLsbD k := by
  induction k with
  | zero => rfl
  | succ k ih => simp only [fbits, feed]; rw [ih (by omega)]
theorem ext_feed (r : BitVec 32) (bs : List (BitVec 8)) : ext r bs = feed r (bitAt bs) (8 * bs.length) := by
  induction bs generalizing r with
  | nil => rfl
  | cons x bs ih =>
    show ext (fbyte r x) bs = _
    rw [ih, fbyte, fbits_feed 8 (Nat.le_refl _), show 8 * (x :: bs).length = 8 + 8 * bs.length from by simp; omega, feed_add]
    rw [feed_congr r (bitAt (x :: bs)) x.getLsbD 8 (fun i hi => by simp [bitAt, Nat.div_eq_of_lt hi, Nat.mod_eq_of_lt hi])]
    apply feed_congr
    intro i _
    simp [bitAt, show (8 + i) / 8 = i / 8 + 1 from by omega]

/-- BYTES THAT ARE ALIKE BUT WITHIN 32 BITS that stand together have unlike sums. -/
theorem sum_burst (a b : List (BitVec 8)) (t : BitVec 32) (n : Nat) (hl : a.length = b.length) (hn : n + 32 ≤ 8 * b.length) (ht : t ≠ 0#32)
    (h : ∀ i, i < 8 * b.length → bitAt a i = (bitAt b i ^^ (decide (n ≤ i) && t.getLsbD (i - n)))) : sum a ≠ sum b := by
  intro hs
  have hs' : ext 0xFFFFFFFF#32 a = ext 0xFFFFFFFF#32 b := BitVec.not_inj.mp hs
  rw [ext_feed, ext_feed, hl, feed_congr _ _ _ _ h, show 8 * b.length = n + 32 + (8 * b.length - (n + 32)) from by omega] at hs'
  exact feed_burst _ _ t ht n _ hs'
end Go.Proofs.YtdaknfepcbooeaaGreat.Crc
end

section
namespace Go.Proofs.YtdaknfepcbooeaaGreat.Sector
open Go.Proofs.YtdaknfepcbooeaaGreat.Pack
set_option linter.unusedSimpArgs false

/-- A part. -/
structure Pt where
  epoch : BitVec 32
  seq : BitVec 32
  flags : Int
  body : List (BitVec 8)

/-- May a part with such flags and a body of n bytes be? -/
def mayB (f : Int) (n : Nat) : Bool := decide (0 ≤ f) && decide (f ≤ 3) && decide (n ≤ 493)
def Pt.may (p : Pt) : Bool := mayB p.flags p.body.length
def mark : List (BitVec 8) := [68#8, 86#8, 84#8, 49#8]
def fields (p : Pt) : List (BitVec 8) := mark ++ (num 4 (p.epoch.setWidth 64) ++ (num 4 (p.seq.setWidth 64) ++ (num 1 (BitVec.ofInt 64 p.flags) ++ text p.body)))
def head (p : Pt) : List (BitVec 8) := fields p ++ List.replicate (508 - (fields p).length) 0#8
/-- A word, its least significant byte first. -/
def le4 (x : BitVec 32) : List (BitVec 8) := (num 4 (x.setWidth 64)).reverse
/-- A part's sector. -/
def sec (p : Pt) : List (BitVec 8) := head p ++ le4 (Crc.sum (head p))

theorem text_length (b : List (BitVec 8)) : (text b).length = 2 + b.length := by simp [text, num_length]
theorem fields_length (p : Pt) : (fields p).length = 15 + p.body.length := by
  simp [fields, mark, num_length, text_length]; omega
theorem may_body {p : Pt} (h : p.may = true) : p.body.length ≤ 493 := by simp [Pt.may, mayB] at h; omega
theorem may_flags {p : Pt} (h : p.may = true) : 0 ≤ p.flags ∧ p.flags ≤ 3 := by simp [Pt.may, mayB] at h; omega
theorem head_length {p : Pt} (h : p.may = true) : (head p).length = 508 := by
  have := may_body h
  simp [head, fields_length]; omega
theorem le4_length (x : BitVec 32) : (le4 x).length = 4 := by simp [le4, num_length]
theorem sec_length {p : Pt} (h : p.may = true) : (sec p).length = 512 := by simp [sec, head_length h, le4_length]
theorem sec_take {p : Pt} (h : p.may = true) : (sec p).take 508 = head p := by
  rw [sec, List.take_append_of_le_length (by rw [head_length h]; omega), List.take_of_length_le (by rw [head_length h]; omega)]
theorem sec_drop {p : Pt} (h : p.may = true) : (sec p).drop 508 = le4 (Crc.sum (head p)) := by
  rw [sec, List.drop_append_of_le_length (by rw [head_length h]; omega), List.drop_eq_nil_of_le (by rw [head_length h]; omega)]
  rfl

/-! Reading. -/
/-- What is read of bytes: the beginning's number, the part, the reader behind it. -/
def readAll (st : St) : BitVec 64 × Pt × St :=
  let a := rnum 4 st
  let b := rnum 4 a.2
  let c := rnum 4 b.2
  let d := rnum 1 c.2
  let e := rtext d.2
  (a.1, ⟨b.1.setWidth 32, c.1.setWidth 32, (d.1.toNat : Int), e.1⟩, e.2)
def parse (bs : List (BitVec 8)) : Pt := (readAll (some bs)).2.1
/-- The part whose sector the bytes are. -/
def get (bs : List (BitVec 8)) : Option Pt := if bs.length = 512 ∧ (parse bs).may = true ∧ sec (parse bs) = bs then some (parse bs) else none

theorem width32 (x : BitVec 32) : (x.setWidth 64).setWidth 32 = x := by
  apply BitVec.eq_of_toNat_eq
  rw [BitVec.toNat_setWidth, BitVec.toNat_setWidth]
  have := x.isLt
  omega
theorem width32_lt (x : BitVec 32) : (x.setWidth 64).toNat < 256 ^ 4 := by
  rw [BitVec.toNat_setWidth]
  have := x.isLt
  omega
theorem flags_toNat {f : Int} (h0 : 0 ≤ f) (h3 : f ≤ 3) : ((BitVec.ofInt 64 f).toNat : Int) = f := by
  rw [BitVec.toNat_ofInt]; omega
theorem markVal : val mark = 1146508337#64 := by decide

theorem readAll_fields (p : Pt) (h : p.may = true) (r : List (BitVec 8)) : readAll (some (fields p ++ r)) = (1146508337#64, p, some r) := by
  have hb := may_body h
  obtain ⟨f0, f3⟩ := may_flags h
  have e1 : rnum 4 (some (fields p ++ r)) = (val mark, some (num 4 (p.epoch.setWidth 64) ++ ((num 4 (p.seq.setWidth 64) ++ (num 1 (BitVec.ofInt 64 p.flags) ++ text p.body)) ++ r))) := by
    have := rnum_ok 4 mark (num 4 (p.epoch.setWidth 64) ++ (num 4 (p.seq.setWidth 64) ++ (num 1 (BitVec.ofInt 64 p.flags) ++ text p.body)) ++ r) (by decide) (by decide) rfl
    simpa [fields, List.append_assoc] using this
  have e2 : rnum 4 (some (num 4 (p.epoch.setWidth 64) ++ ((num 4 (p.seq.setWidth 64) ++ (num 1 (BitVec.ofInt 64 p.flags) ++ text p.body)) ++ r))) = (p.epoch.setWidth 64, some (num 4 (p.seq.setWidth 64) ++ ((num 1 (BitVec.ofInt 64 p.flags) ++ text p.body) ++ r))) := by
    have := rnum_ok 4 (num 4 (p.epoch.setWidth 64)) ((num 4 (p.seq.setWidth 64) ++ (num 1 (BitVec.ofInt 64 p.flags) ++ text p.body)) ++ r) (by decide) (by decide) (num_length _ _)
    rw [val_num 4 _ (by decide) (width32_lt _)] at this
    simpa [List.append_assoc] using this
  have e3 : rnum 4 (some (num 4 (p.seq.setWidth 64) ++ ((num 1 (BitVec.ofInt 64 p.flags) ++ text p.body) ++ r))) = (p.seq.setWidth 64, some (num 1 (BitVec.ofInt 64 p.flags) ++ (text p.body ++ r))) := by
    have := rnum_ok 4 (num 4 (p.seq.setWidth 64)) ((num 1 (BitVec.ofInt 64 p.flags) ++ text p.body) ++ r) (by decide) (by decide) (num_length _ _)
    rw [val_num 4 _ (by decide) (width32_lt _)] at this
    simpa [List.append_assoc] using this
  have e4 : rnum 1 (some (num 1 (BitVec.ofInt 64 p.flags) ++ (text p.body ++ r))) = (BitVec.ofInt 64 p.flags, some (text p.body ++ r)) := by
    have := rnum_ok 1 (num 1 (BitVec.ofInt 64 p.flags)) (text p.body ++ r) (by decide) (by decide) (num_length _ _)
    rw [val_num 1 _ (by decide) (by have := flags_toNat f0 f3; omega)] at this
    simpa using this
  have e5 := rtext_ok p.body r (by omega)
  simp only [readAll, e1, e2, e3, e4, e5, markVal, width32, flags_toNat f0 f3]
theorem sec_eq (p : Pt) : sec p = fields p ++ (List.replicate (508 - (fields p).length) 0#8 ++ le4 (Crc.sum (head p))) := by
  rw [sec]
  conv => lhs; arg 1; rw [head]
  rw [List.append_assoc]
theorem parse_sec (p : Pt) (h : p.may = true) : parse (sec p) = p := by
  rw [parse, sec_eq, readAll_fields p h]
theorem get_sec (p : Pt) (h : p.may = true) : get (sec p) = some p := by
  rw [get, parse_sec p h, if_pos ⟨sec_length h, h, rfl⟩]
theorem get_some {bs : List (BitVec 8)} {p : Pt} (hg : get bs = some p) : p.may = true ∧ sec p = bs ∧ parse bs = p := by
  rw [get] at hg
  split at hg
  · next hc =>
    injection hg with hg
    subst hg
    exact ⟨hc.2.1, hc.2.2, rfl⟩
  · cases hg
theorem get_iff (bs : List (BitVec 8)) (p : Pt) : get bs = some p ↔ p.may = true ∧ sec p = bs :=
  ⟨fun h => ⟨(get_some h).1, (get_some h).2.1⟩, fun ⟨h, e⟩ => by subst e; exact get_sec p h⟩

/-! What is turned. -/
theorem feed_xor (R x : BitVec 32) : Crc.feed R x.getLsbD 32 = Crc.steps 32 (R ^^^ x) := by
  have := Crc.feed_diff R (fun _ => false) x.getLsbD 32
  simp only [Bool.false_xor] at this
  rw [show Crc.feed R x.getLsbD 32 = Crc.feed R (fun i => x.getLsbD i) 32 from rfl, this, Crc.feed_false, Crc.feed_word x 32 (Nat.le_refl _), Crc.low_all, Crc.steps_xor]
theorem le4_bits (x : BitVec 32) (i : Nat) (hi : i < 32) : Crc.bitAt (le4 x) i = x.getLsbD i := by
  have hl := num_length 4 (x.setWidth 64)
  have hk : i / 8 < 4 := by omega
  have e : (le4 x).getD (i / 8) 0#8 = (x.setWidth 64 >>> (8 * (i / 8))).setWidth 8 := by
    rw [le4, List.getD_eq_getElem?_getD, List.getElem?_reverse (by omega), ← List.getD_eq_getElem?_getD, num_byte 4 _ _ (by omega)]
    congr 3
    omega
  rw [Crc.bitAt, e, BitVec.getLsbD_setWidth, BitVec.getLsbD_ushiftRight, BitVec.getLsbD_setWidth]
  have e2 : 8 * (i / 8) + i % 8 = i := by omega
  have h8 : i % 8 < 8 := by omega
  have h64 : i < 64 := by omega
  rw [e2]
  simp [h8, h64]
theorem ext_le4 (R x : BitVec 32) : Crc.ext R (le4 x) = Crc.steps 32 (R ^^^ x) := by
  rw [Crc.ext_feed, le4_length, Crc.feed_congr R (Crc.bitAt (le4 x)) x.getLsbD (8 * 4) (fun i hi => le4_bits x i (by omega))]
  exact feed_xor R x
/-- All sectors have one sum. -/
theorem sum_sec (p : Pt) : Crc.sum (sec p) = ~~~ Crc.steps 32 (BitVec.allOnes 32) := by
  rw [Crc.sum, sec, ← Crc.ext_append, ext_le4, Crc.sum]
  congr 2
  generalize Crc.ext 4294967295#32 (head p) = R
  rw [← BitVec.allOnes_xor, BitVec.xor_comm (BitVec.allOnes 32), ← BitVec.xor_assoc, BitVec.xor_self, BitVec.zero_xor]
/-- A SECTOR THAT IS TURNED within 32 bits that stand together is no part's. -/
theorem get_turned (p : Pt) (h : p.may = true) (bs : List (BitVec 8)) (t : BitVec 32) (n : Nat) (hl : bs.length = 512) (hn : n + 32 ≤ 4096) (ht : t ≠ 0#32)
    (hb : ∀ i, i < 4096 → Crc.bitAt bs i = (Crc.bitAt (sec p) i ^^ (decide (n ≤ i) && t.getLsbD (i - n)))) : get bs = none := by
  cases hg : get bs with
  | none => rfl
  | some q =>
    exfalso
    obtain ⟨_, e, _⟩ := get_some hg
    have hs := sec_length h
    refine Crc.sum_burst bs (sec p) t n (by omega) (by omega) ht (fun i hi => hb i (by omega)) ?_
    rw [← e, sum_sec, sum_sec]

/-! The document's own reading. -/
theorem num_val (k : Nat) : ∀ bs : List (BitVec 8), bs.length = k → k ≤ 8 → num k (val bs) = bs := by
  induction k with
  | zero => intro bs h _; rw [List.eq_nil_of_length_eq_zero h]; rfl
  | succ k ih =>
    intro bs h hk
    rcases rev_cases bs with rfl | ⟨l, b, rfl⟩
    · simp at h
    · have hl : l.length = k := by simpa using h
      have h1 := val_toNat k l hl (by omega)
      have h2 := valN_lt k l hl
      have hb := b.isLt
      have h3 : (256 : Nat) ^ k ≤ 256 ^ 7 := Nat.pow_le_pow_right (by decide) (by omega)
      have e7 : (256 : Nat) ^ 7 = 72057594037927936 := by decide
      have e256 : (256#64).toNat = 256 := rfl
      have en : (val (l ++ [b])).toNat = 256 * (val l).toNat + b.toNat := by
        rw [val_snoc, or_add, BitVec.toNat_add, BitVec.toNat_mul, BitVec.toNat_setWidth, e256]
        omega
      have s1 : val (l ++ [b]) >>> 8 = val l := by
        apply BitVec.eq_of_toNat_eq
        rw [BitVec.toNat_ushiftRight, Nat.shiftRight_eq_div_pow, en]
        omega
      have s2 : (val (l ++ [b])).setWidth 8 = b := by
        apply BitVec.eq_of_toNat_eq
        rw [BitVec.toNat_setWidth, en]
        omega
      rw [num, s1, s2, ih l hl (by omega)]
/-- A word out of its bytes, the least significant one first. -/
def leVal (bs : List (BitVec 8)) : BitVec 32 := bs.foldr (fun b a => 256#32 * a + b.setWidth 32) 0#32
theorem leVal_le4 (x : BitVec 32) : leVal (le4 x) = x := by
  simp only [le4, num, List.nil_append, List.append_assoc, List.cons_append, List.reverse_cons, List.reverse_nil, leVal, List.foldr_cons, List.foldr_nil]
  apply BitVec.eq_of_toNat_eq
  simp only [BitVec.toNat_add, BitVec.toNat_mul, BitVec.toNat_setWidth, BitVec.toNat_ushiftRight, BitVec.toNat_ofNat, Nat.shiftRight_eq_div_pow]
  have := x.isLt
  omega
theorem le4_leVal (bs : List (BitVec 8)) (h : bs.length = 4) : le4 (leVal bs) = bs := by
  obtain ⟨a, b, c, d, rfl⟩ : ∃ a b c d, bs = [a, b, c, d] := by
    match bs, h with
    | [a, b, c, d], _ => exact ⟨a, b, c, d, rfl⟩
  have ha := a.isLt
  have hb := b.isLt
  have hc := c.isLt
  have hd := d.isLt
  have e : (leVal [a, b, c, d]).toNat = a.toNat + 256 * b.toNat + 65536 * c.toNat + 16777216 * d.toNat := by
    simp only [leVal, List.foldr_cons, List.foldr_nil, BitVec.toNat_add, BitVec.toNat_mul, BitVec.toNat_setWidth, BitVec.toNat_ofNat]
    omega
  generalize leVal [a, b, c, d] = X at e
  simp only [le4, num, List.nil_append, List.append_assoc, List.cons_append, List.reverse_cons, List.reverse_nil]
  congr 1
  · apply BitVec.eq_of_toNat_eq
    simp only [BitVec.toNat_setWidth, BitVec.toNat_ushiftRight, Nat.shiftRight_eq_div_pow]
    omega
  congr 1
  · apply BitVec.eq_of_toNat_eq
    simp only [BitVec.toNat_setWidth, BitVec.toNat_ushiftRight, Nat.shiftRight_eq_div_pow]
    omega
  congr 1
  · apply BitVec.eq_of_toNat_eq
    simp only [BitVec.toNat_setWidth, BitVec.toNat_ushiftRight, Nat.shiftRight_eq_div_pow]
    omega
  congr 1
  · apply BitVec.eq_of_toNat_eq
    simp only [BitVec.toNat_setWidth, BitVec.toNat_ushiftRight, Nat.shiftRight_eq_div_pow]
    omega

/-- What the document asks of 512 bytes, of which the first 508 read as 'x'. -/
def RefOk (bs : List (BitVec 8)) (x : BitVec 64 × Pt × St) : Prop :=
  ∃ r, x.2.2 = some r ∧ x.1 = 1146508337#64 ∧ x.2.1.flags ≤ 3 ∧ x.2.1.body.length ≤ 493 ∧ (∀ b ∈ r, b = 0#8) ∧ leVal (bs.drop 508) = Crc.sum (bs.take 508)

theorem rnum_inv {k : Nat} {st : St} {v : BitVec 64} {r : List (BitVec 8)} (hk : 1 ≤ k) (hk8 : k ≤ 8) (h : rnum k st = (v, some r)) : st = some (num k v ++ r) := by
  have ho : okSize (k : Int) = true := by simp [okSize]; omega
  rw [rnum_next _ _ ho, Int.toNat_natCast] at h
  cases st with
  | none => simp [rnext] at h
  | some l =>
    by_cases hl : k ≤ l.length
    · simp only [rnext, if_pos hl, Prod.mk.injEq, Option.some.injEq] at h
      obtain ⟨rfl, rfl⟩ := h
      rw [num_val k _ (by rw [List.length_take]; omega) hk8, List.take_append_drop]
    · simp [rnext, hl] at h
theorem rtext_inv {st : St} {b r : List (BitVec 8)} (h : rtext st = (b, some r)) : st = some (text b ++ r) := by
  rw [rtext] at h
  cases hn : rnum 2 st with
  | mk v s =>
    rw [hn] at h
    cases s with
    | none => simp [rnext] at h
    | some l =>
      have hi := rnum_inv (k := 2) (by decide) (by decide) hn
      by_cases hl : v.toNat ≤ l.length
      · simp only [rnext, if_pos hl, Prod.mk.injEq, Option.some.injEq] at h
        obtain ⟨rfl, rfl⟩ := h
        have e : (l.take v.toNat).length = v.toNat := by rw [List.length_take]; omega
        rw [hi, text, e, BitVec.ofNat_toNat, BitVec.setWidth_eq, List.append_assoc, List.take_append_drop]
      · simp [rnext, hl] at h
theorem rnum_small (k : Nat) (st : St) (hk : 1 ≤ k) (hk8 : k ≤ 8) : (rnum k st).1.toNat < 256 ^ k := by
  have ho : okSize (k : Int) = true := by simp [okSize]; omega
  rw [rnum_next _ _ ho, Int.toNat_natCast]
  have hl : (rnext k st).1.length ≤ k := by
    cases st with
    | none => simp [rnext]
    | some r => by_cases hkr : k ≤ r.length <;> simp [rnext, hkr]
  have h2 := valN_lt _ (rnext k st).1 rfl
  have h3 : (256 : Nat) ^ (rnext k st).1.length ≤ 256 ^ k := Nat.pow_le_pow_right (by decide) hl
  have h4 := val_toNat _ (rnext k st).1 rfl (by omega)
  show (val (rnext k st).1).toNat < _
  omega

theorem rnum_none (k : Int) : rnum k none = (0#64, none) := rfl
theorem rtext_none : rtext none = ([], none) := rfl
theorem width64 (v : BitVec 64) (h : v.toNat < 256 ^ 4) : (v.setWidth 32).setWidth 64 = v := by
  apply BitVec.eq_of_toNat_eq
  rw [BitVec.toNat_setWidth, BitVec.toNat_setWidth]
  have := v.isLt
  omega
theorem readAll_inv {st : St} {p : Pt} {r : List (BitVec 8)} (h : readAll st = (1146508337#64, p, some r)) : st = some (fields p ++ r) := by
  simp only [readAll] at h
  cases ha : rnum 4 st with | mk va sa =>
  cases hb : rnum 4 sa with | mk vb sb =>
  cases hc : rnum 4 sb with | mk vc sc =>
  cases hd : rnum 1 sc with | mk vd sd =>
  cases he : rtext sd with | mk ve se =>
  simp only [ha, hb, hc, hd, he, Prod.mk.injEq] at h
  obtain ⟨rfl, hp, rfl⟩ := h
  have i5 := rtext_inv he
  subst i5
  have i4 := rnum_inv (k := 1) (by decide) (by decide) hd
  have n4 := rnum_small 1 sc (by decide) (by decide)
  subst i4
  have i3 := rnum_inv (k := 4) (by decide) (by decide) hc
  have n3 := rnum_small 4 sb (by decide) (by decide)
  subst i3
  have i2 := rnum_inv (k := 4) (by decide) (by decide) hb
  have n2 := rnum_small 4 sa (by decide) (by decide)
  subst i2
  have i1 := rnum_inv (k := 4) (by decide) (by decide) ha
  subst i1
  subst hp
  have em : num 4 1146508337#64 = mark := by decide
  rw [show ((1 : Nat) : Int) = 1 from rfl, hd] at n4
  rw [show ((4 : Nat) : Int) = 4 from rfl, hc] at n3
  rw [show ((4 : Nat) : Int) = 4 from rfl, hb] at n2
  simp only at n2 n3 n4
  have ef : BitVec.ofInt 64 (vd.toNat : Int) = vd := by rw [BitVec.ofInt_natCast, BitVec.ofNat_toNat, BitVec.setWidth_eq]
  simp only [fields, em, width64 _ n2, width64 _ n3, ef, List.append_assoc]

theorem replicate_of {l : List (BitVec 8)} (h : ∀ b ∈ l, b = 0#8) : l = List.replicate l.length 0#8 := List.eq_replicate_iff.2 ⟨rfl, h⟩
/-- THE DOCUMENT's READING IS THE PART's. -/
theorem ref_get (bs : List (BitVec 8)) (hl : bs.length = 512) (p : Pt) : (RefOk bs (readAll (some (bs.take 508))) ∧ (readAll (some (bs.take 508))).2.1 = p) ↔ get bs = some p := by
  rw [get_iff]
  constructor
  · rintro ⟨⟨r, h1, h2, h3, h4, h5, h6⟩, h7⟩
    have hx : readAll (some (bs.take 508)) = (1146508337#64, p, some r) := by
      rw [← h1, ← h2, ← h7]
    rw [h7] at h3 h4
    have h0 : 0 ≤ p.flags := by rw [← h7]; simp [readAll]
    have hm : p.may = true := by simp [Pt.may, mayB]; omega
    have hi := readAll_inv hx
    injection hi with hi
    have hrl : r.length = 508 - (fields p).length := by
      have := congrArg List.length hi
      rw [List.length_take, List.length_append] at this
      omega
    have hh : head p = bs.take 508 := by
      rw [hi, head, ← hrl, ← replicate_of h5]
    refine ⟨hm, ?_⟩
    rw [sec, hh, ← h6, le4_leVal _ (by rw [List.length_drop]; omega), List.take_append_drop]
  · rintro ⟨hm, rfl⟩
    have e := readAll_fields p hm (List.replicate (508 - (fields p).length) 0#8)
    rw [sec_take hm, show head p = fields p ++ List.replicate (508 - (fields p).length) 0#8 from rfl, e]
    refine ⟨⟨_, rfl, rfl, (may_flags hm).2, may_body hm, fun b hb => (List.mem_replicate.1 hb).2, ?_⟩, rfl⟩
    rw [sec_drop hm, sec_take hm]
    exact leVal_le4 _
end Go.Proofs.YtdaknfepcbooeaaGreat.Sector
end

section
namespace Go.Proofs.YtdaknfepcbooeaaGreat.Frag

/-- A part. -/
structure Pt where
  epoch : BitVec 32
  seq : BitVec 32
  flags : Int
  body : List (BitVec 8)

/-- The flags and the bodies of the parts of a record; f: the first one's flags, if it isn't the last. -/
def pcs (f : Int) (bs : List (BitVec 8)) : List (Int × List (BitVec 8)) :=
  if bs.length ≤ 493 then [(f + 2, bs)] else (f, bs.take 493) :: pcs 0 (bs.drop 493)
termination_by bs.length
decreasing_by rw [List.length_drop]; omega

theorem pcs_last {f : Int} {bs : List (BitVec 8)} (h : bs.length ≤ 493) : pcs f bs = [(f + 2, bs)] := by rw [pcs, if_pos h]
theorem pcs_more {f : Int} {bs : List (BitVec 8)} (h : 493 < bs.length) : pcs f bs = (f, bs.take 493) :: pcs 0 (bs.drop 493) := by rw [pcs, if_neg (by omega)]

/-- Parts, numbered. -/
def parts (ep sq : BitVec 32) : List (Int × List (BitVec 8)) → List Pt
  | [] => []
  | x :: xs => ⟨ep, sq, x.1, x.2⟩ :: parts ep (sq + 1#32) xs
theorem parts_length (ep : BitVec 32) : ∀ (sq : BitVec 32) (xs : List (Int × List (BitVec 8))), (parts ep sq xs).length = xs.length
  | _, [] => rfl
  | sq, x :: xs => by rw [parts, List.length_cons, List.length_cons, parts_length ep (sq + 1#32) xs]
theorem parts_snoc (ep : BitVec 32) (x : Int × List (BitVec 8)) : ∀ (sq : BitVec 32) (xs : List (Int × List (BitVec 8))), parts ep sq (xs ++ [x]) = parts ep sq xs ++ [⟨ep, sq + BitVec.ofNat 32 xs.length, x.1, x.2⟩]
  | sq, [] => by simp [parts]
  | sq, y :: ys => by
    rw [List.cons_append, parts, parts_snoc ep x (sq + 1#32) ys, parts, List.cons_append]
    have e : sq + 1#32 + BitVec.ofNat 32 ys.length = sq + BitVec.ofNat 32 (y :: ys).length := by
      rw [List.length_cons, BitVec.add_assoc]
      congr 1
      rw [Nat.add_comm, BitVec.ofNat_add]
    rw [e]
/-- The parts of a record. -/
def cut (ep sq : BitVec 32) (bs : List (BitVec 8)) : List Pt := parts ep sq (pcs 1 bs)

theorem pcs_length_pos (f : Int) (bs : List (BitVec 8)) : 0 < (pcs f bs).length := by
  rw [pcs]; split <;> simp
set_option maxRecDepth 10000 in
theorem pcs_length_le (f : Int) (bs : List (BitVec 8)) : (pcs f bs).length * 493 ≤ bs.length + 493 := by
  induction h : bs.length using Nat.strongRecOn generalizing f bs with
  | ind n ih =>
    subst h
    rcases Nat.lt_or_ge 493 bs.length with hl | hl
    · rw [pcs_more hl, List.length_cons]
      have := ih (bs.drop 493).length (by rw [List.length_drop]; omega) 0 (bs.drop 493) rfl
      rw [List.length_drop] at this
      clear ih
      generalize (pcs 0 (bs.drop 493)).length = k at *
      rw [Nat.add_mul]
      generalize k * 493 = m at *
      omega
    · rw [pcs_last hl]; simp
theorem pcs_body (f : Int) (bs : List (BitVec 8)) : (pcs f bs).flatMap (·.2) = bs := by
  induction h : bs.length using Nat.strongRecOn generalizing f bs with
  | ind n ih =>
    subst h
    rcases Nat.lt_or_ge 493 bs.length with hl | hl
    · rw [pcs_more hl, List.flatMap_cons, ih (bs.drop 493).length (by rw [List.length_drop]; omega) 0 (bs.drop 493) rfl, List.take_append_drop]
    · rw [pcs_last hl]; simp
theorem parts_body (ep : BitVec 32) : ∀ (sq : BitVec 32) (xs : List (Int × List (BitVec 8))), (parts ep sq xs).flatMap (·.body) = xs.flatMap (·.2)
  | _, [] => rfl
  | sq, x :: xs => by rw [parts, List.flatMap_cons, List.flatMap_cons, parts_body ep (sq + 1#32) xs]
theorem cut_body (ep sq : BitVec 32) (bs : List (BitVec 8)) : (cut ep sq bs).flatMap (·.body) = bs := by rw [cut, parts_body, pcs_body]
theorem cut_length_pos (ep sq : BitVec 32) (bs : List (BitVec 8)) : 0 < (cut ep sq bs).length := by rw [cut, parts_length]; exact pcs_length_pos _ _
theorem cut_length_le (ep sq : BitVec 32) (bs : List (BitVec 8)) : (cut ep sq bs).length * 493 ≤ bs.length + 493 := by rw [cut, parts_length]; exact pcs_length_le _ _

/-- Has a part the flag? (As the program asks.) -/
def one (f : Int) : Bool := decide (f % 2 = 1)
def two (f : Int) : Bool := decide (f / 2 % 2 = 1)

/-- How many parts the record has with which parts begin; 0: they begin with none. -/
def lead (first : Bool) : List Pt → Nat
  | [] => 0
  | p :: r => if one p.flags = first then (if two p.flags then 1 else match lead false r with
    | 0 => 0
    | k + 1 => k + 2) else 0
theorem lead_le (first : Bool) : ∀ l : List Pt, lead first l ≤ l.length
  | [] => Nat.le_refl _
  | p :: r => by
    have := lead_le false r
    rw [lead, List.length_cons]
    split
    · split
      · omega
      · cases h : lead false r with
        | zero => simp
        | succ k => simp only []; omega
    · omega

theorem lead_pcs (ep : BitVec 32) (f : Int) (bs : List (BitVec 8)) (hf : f = 0 ∨ f = 1) (t : List Pt) (sq : BitVec 32) : lead (f == 1) (parts ep sq (pcs f bs) ++ t) = (pcs f bs).length := by
  induction h : bs.length using Nat.strongRecOn generalizing f bs sq with
  | ind n ih =>
    subst h
    rcases Nat.lt_or_ge 493 bs.length with hl | hl
    · rw [pcs_more hl, parts, List.cons_append, lead, List.length_cons]
      have h1 := ih (bs.drop 493).length (by rw [List.length_drop]; omega) 0 (bs.drop 493) (.inl rfl) (sq + 1#32) rfl
      have h2 := pcs_length_pos 0 (bs.drop 493)
      rw [show ((0 : Int) == 1) = false from rfl] at h1
      simp only [h1]
      rcases hf with rfl | rfl
      · rw [if_pos (by decide), if_neg (by decide)]
        cases he : (pcs 0 (bs.drop 493)).length with
        | zero => omega
        | succ k => rfl
      · rw [if_pos (by decide), if_neg (by decide)]
        cases he : (pcs 0 (bs.drop 493)).length with
        | zero => omega
        | succ k => rfl
    · rw [pcs_last hl]
      rcases hf with rfl | rfl <;> rfl
theorem lead_cut (ep sq : BitVec 32) (bs : List (BitVec 8)) (t : List Pt) : lead true (cut ep sq bs ++ t) = (cut ep sq bs).length := by
  have := lead_pcs ep 1 bs (.inr rfl) t sq
  rw [cut, parts_length]
  exact this

/-- The parts of each record. -/
def grp (l : List Pt) : List (List Pt) :=
  if lead true l = 0 then [] else l.take (lead true l) :: grp (l.drop (lead true l))
termination_by l.length
decreasing_by have := lead_le true l; simp; omega
theorem grp_none {l : List Pt} (h : lead true l = 0) : grp l = [] := by rw [grp, if_pos h]
theorem grp_more {l : List Pt} (h : 0 < lead true l) : grp l = l.take (lead true l) :: grp (l.drop (lead true l)) := by rw [grp, if_neg (by omega)]

/-- Records that were cut, one after another, and behind them what begins none. -/
theorem grp_cuts (t : List Pt) (ht : lead true t = 0) : ∀ rs : List (List (BitVec 8)), grp (rs.flatMap (cut 0#32 0#32) ++ t) = rs.map (cut 0#32 0#32)
  | [] => by rw [List.flatMap_nil, List.nil_append, grp_none ht]; rfl
  | r :: rs => by
    have h1 : lead true ((r :: rs).flatMap (cut 0#32 0#32) ++ t) = (cut 0#32 0#32 r).length := by
      rw [List.flatMap_cons, List.append_assoc]; exact lead_cut _ _ _ _
    rw [grp_more (by rw [h1]; exact cut_length_pos _ _ _), h1, List.flatMap_cons, List.append_assoc, List.take_left', List.drop_left', grp_cuts t ht rs, List.map_cons]
    · rfl
    · rfl
theorem lead_even {p : Pt} (h : p.flags % 2 = 0) : lead true [p] = 0 := by
  have : one p.flags = false := by simp [one]; omega
  rw [lead, this]; rfl
theorem bodies_cuts (rs : List (List (BitVec 8))) : (rs.map (cut 0#32 0#32)).map (fun g => g.flatMap (·.body)) = rs := by
  rw [List.map_map]
  have : ((fun g => List.flatMap (fun x => x.body) g) ∘ cut 0#32 0#32) = id := by funext x; exact cut_body _ _ _
  rw [this, List.map_id]
/-- How many parts are used. -/
def used (gs : List (List Pt)) : Nat := (gs.map (·.length)).sum
theorem used_snoc (gs : List (List Pt)) (g : List Pt) : used (gs ++ [g]) = used gs + g.length := by simp [used]
theorem used_cuts (rs : List (List (BitVec 8))) : used (rs.map (cut 0#32 0#32)) = (rs.flatMap (cut 0#32 0#32)).length := by
  rw [used, List.map_map, List.length_flatMap]; rfl
theorem used_grp (l : List Pt) : used (grp l) ≤ l.length := by
  induction h : l.length using Nat.strongRecOn generalizing l with
  | ind n ih =>
    subst h
    rcases Nat.eq_zero_or_pos (lead true l) with h0 | h0
    · rw [grp_none h0]; simp [used]
    · have hl := lead_le true l
      have h1 := ih (l.drop (lead true l)).length (by simp; omega) _ rfl
      rw [grp_more h0]
      simp [used] at h1 ⊢
      omega
/-- How the parts' number comes out, once k parts are looked at. -/
def leadAt (k : Nat) (l : List Pt) : Nat := match lead (k == 0) (l.drop k) with
  | 0 => 0
  | m + 1 => m + 1 + k
theorem leadAt_zero (l : List Pt) : leadAt 0 l = lead true l := by
  rw [leadAt, List.drop_zero]
  show (match lead true l with | 0 => 0 | m + 1 => m + 1 + 0) = _
  cases lead true l <;> rfl
theorem leadAt_end (l : List Pt) : leadAt l.length l = 0 := by rw [leadAt, List.drop_length]; rfl
theorem drop_cons {l : List Pt} {k : Nat} {p : Pt} (h : l[k]? = some p) : l.drop k = p :: l.drop (k + 1) := by
  obtain ⟨hl, rfl⟩ := List.getElem?_eq_some_iff.1 h
  exact List.drop_eq_getElem_cons hl
theorem leadAt_no {l : List Pt} {k : Nat} {p : Pt} (h : l[k]? = some p) (h1 : one p.flags ≠ (k == 0)) : leadAt k l = 0 := by
  rw [leadAt, drop_cons h, lead, if_neg h1]
theorem leadAt_last {l : List Pt} {k : Nat} {p : Pt} (h : l[k]? = some p) (h1 : one p.flags = (k == 0)) (h2 : two p.flags = true) : leadAt k l = k + 1 := by
  rw [leadAt, drop_cons h, lead, if_pos h1, if_pos h2]; show 0 + 1 + k = k + 1; omega
theorem leadAt_on {l : List Pt} {k : Nat} {p : Pt} (h : l[k]? = some p) (h1 : one p.flags = (k == 0)) (h2 : two p.flags = false) : leadAt k l = leadAt (k + 1) l := by
  rw [leadAt, leadAt, drop_cons h, lead, if_pos h1, if_neg (by rw [h2]; decide), show (k + 1 == 0) = false from rfl]
  cases lead false (l.drop (k + 1)) with
  | zero => rfl
  | succ m => simp only []; omega
/-- The flags are those of a number that is none below 0. -/
def fits (f : Int) : Prop := 0 ≤ f ∧ f < 9223372036854775808
theorem one_and {f : Int} (h : fits f) (hb : ∀ n : Nat, n < 9223372036854775808 → bits BinOp.and IntKind.i64 (n : Int) 1 = ((n &&& 1 : Nat) : Int)) : (bits BinOp.and IntKind.i64 f 1 != 0) = one f := by
  obtain ⟨n, rfl⟩ := Int.eq_ofNat_of_zero_le h.1
  rw [hb n (by have := h.2; omega), Nat.and_one_is_mod, one, Bool.eq_iff_iff, bne_iff_ne, decide_eq_true_iff]
  omega
theorem two_and {f : Int} (h : fits f) (hb : ∀ n : Nat, n < 9223372036854775808 → bits BinOp.and IntKind.i64 (n : Int) 2 = ((n &&& 2 : Nat) : Int)) : (bits BinOp.and IntKind.i64 f 2 != 0) = two f := by
  obtain ⟨n, rfl⟩ := Int.eq_ofNat_of_zero_le h.1
  have e2 : n.testBit 1 = decide (n / 2 % 2 = 1) := Nat.testBit_eq_decide_div_mod_eq
  have key : (n &&& 2 = 0) ↔ n.testBit 1 = false := by
    have t2 : ∀ i, Nat.testBit 2 i = decide (1 = i) := fun i => Nat.testBit_two_pow (n := 1) (m := i)
    constructor
    · intro h
      have h1 : (n &&& 2).testBit 1 = false := by rw [h]; exact Nat.zero_testBit 1
      rw [Nat.testBit_and, t2] at h1
      simpa using h1
    · intro h
      apply Nat.eq_of_testBit_eq
      intro i
      rw [Nat.testBit_and, t2, Nat.zero_testBit]
      by_cases hi : 1 = i
      · subst hi; rw [h]; rfl
      · simp [hi]
  rw [hb n (by have := h.2; omega), two, Bool.eq_iff_iff, bne_iff_ne, decide_eq_true_iff]
  generalize n &&& 2 = m at *
  rw [e2] at key
  have key2 : (m = 0) ↔ ¬ n / 2 % 2 = 1 := key.trans (by simp)
  omega
theorem and_i64 (b : Nat) (hb : b < 9223372036854775808) (n : Nat) (hn : n < 9223372036854775808) : bits BinOp.and IntKind.i64 (n : Int) (b : Int) = ((n &&& b : Nat) : Int) :=
  (bits_nat .i64 63 (by decide) (fun n h0 h1 => by rw [show (2 : Int) ^ 63 = 9223372036854775808 from by decide] at h1; rw [IntKind.wrap_i64]; omega) n b hn hb).1
theorem one_bits {f : Int} (h : fits f) : (bits BinOp.and IntKind.i64 f 1 != 0) = one f := one_and h (and_i64 1 (by decide))
theorem two_bits {f : Int} (h : fits f) : (bits BinOp.and IntKind.i64 f 2 != 0) = two f := two_and h (and_i64 2 (by decide))
end Go.Proofs.YtdaknfepcbooeaaGreat.Frag
end

section
namespace Go.Proofs.YtdaknfepcbooeaaGreat.Disk
set_option linter.unusedSimpArgs false
set_option linter.unusedVariables false

structure Sc where
  b : List (BitVec 8)
  s : Bool
structure Cl where
  file : Int
  b : List (BitVec 8)
  s : Bool
/-- A disk: its room, its files, its sectors, whether it is off; behind how many steps it fails, with which list. -/
structure M where
  room : Nat
  files : List Int
  l : List Cl
  off : Bool
  plan : Option (Nat × List Bool)

def Cl.sc (c : Cl) : Sc := ⟨c.b, c.s⟩
def Sc.syn (x : Sc) : Sc := ⟨x.b, true⟩
/-- A file's sectors. -/
def rows (f : Int) (l : List Cl) : List Sc := (l.filter fun c => decide (c.file = f)).map Cl.sc
def zeros : List (BitVec 8) := List.replicate 512 0#8
def uns : List Sc → Nat
  | [] => 0
  | x :: xs => (if x.s then 0 else 1) + uns xs
/-- What a failure leaves of one row's bytes. -/
def rowZ (keep : List Bool) : Nat → List Sc → List Sc
  | _, [] => []
  | n, x :: xs => if x.s then x :: rowZ keep n xs else ⟨if keep.getD n false then x.b else zeros, false⟩ :: rowZ keep (n + 1) xs
def pass (keep : List Bool) (f : Int) : Nat → List Cl → List Cl
  | _, [] => []
  | n, c :: l => if c.file = f ∧ c.s = false then ⟨c.file, if keep.getD n false then c.b else zeros, true⟩ :: pass keep f (n + 1) l else c :: pass keep f n l
def pstep (keep : List Bool) (p : Nat × List Cl) (f : Int) : Nat × List Cl := (p.1 + uns (rows f p.2), pass keep f p.1 p.2)
def passes (keep : List Bool) (fs : List Int) (l : List Cl) : Nat × List Cl := fs.foldl (pstep keep) (0, l)

def ins (f : Int) : List Int → List Int
  | [] => [f]
  | g :: gs => if f < g then f :: g :: gs else g :: ins f gs
def without (f : Int) (fs : List Int) : List Int := fs.filter fun g => !decide (g = f)
def add (f : Int) (fs : List Int) : List Int := ins f (without f fs)
def syncL (f : Int) (l : List Cl) : List Cl := l.map fun c => if c.file = f then ⟨c.file, c.b, true⟩ else c
def dropL (f : Int) (l : List Cl) : List Cl := l.filter fun c => !decide (c.file = f)
def moveL (f t : Int) (l : List Cl) : List Cl := l.map fun c => if c.file = f then ⟨t, c.b, c.s⟩ else c

def lost (m : M) (keep : List Bool) : M := { m with l := (passes keep m.files m.l).2, off := true, plan := none }
def crash (m : M) (keep : List Bool) : M := if m.off then m else lost m keep
def fails (m : M) : Bool := match m.plan with | some (0, _) => true | _ => false
def stepped (m : M) : M := match m.plan with | some (0, k) => lost m k | some (n + 1, k) => { m with plan := some (n, k) } | none => m

def append (m : M) (f : Int) (b : List (BitVec 8)) : Int × M :=
  if m.off then (8, m) else if f < 0 ∨ b.length ≠ 512 then (1, m) else if m.room ≤ m.l.length ∨ 200 ≤ (rows f m.l).length then (3, m)
  else if fails m then (8, stepped m) else (0, { stepped m with files := add f m.files, l := m.l ++ [⟨f, b, false⟩] })
def there (m : M) (f : Int) : Int := if m.off then 8 else if f ∈ m.files then 0 else 4
def sync (m : M) (f : Int) : Int × M :=
  if there m f ≠ 0 then (there m f, m) else if fails m then (8, stepped m) else (0, { stepped m with l := syncL f m.l })
def remove (m : M) (f : Int) : Int × M :=
  if there m f ≠ 0 then (there m f, m) else if fails m then (8, stepped m) else (0, { stepped m with files := without f m.files, l := dropL f m.l })
def rename (m : M) (f t : Int) : Int × M :=
  if there m f ≠ 0 then (there m f, m) else if t < 0 then (1, m) else if fails m then (8, stepped m) else if f = t then (0, stepped m)
  else (0, { stepped m with files := without f (add t m.files), l := moveL f t (dropL t m.l) })
def fail (m : M) (steps : Int) (keep : List Bool) : M := { m with plan := if steps < 0 then none else some (steps.toNat, keep) }
def up (m : M) : M := { m with off := false }

structure Inv (m : M) : Prop where
  sorted : m.files.Pairwise (· < ·)
  here : ∀ f, f ∈ m.files ↔ ∃ c ∈ m.l, c.file = f
  len : ∀ c ∈ m.l, c.b.length = 512
  most : m.l.length ≤ m.room
  room : 1 ≤ m.room ∧ m.room ≤ 1000
  fit : ∀ f ∈ m.files, -9223372036854775808 ≤ f ∧ f < 9223372036854775808
  plan : ∀ k ks, m.plan = some (k, ks) → k < 9223372036854775808

/-! rows -/
theorem rows_nil (f : Int) : rows f [] = [] := rfl
theorem rows_cons (f : Int) (c : Cl) (l : List Cl) : rows f (c :: l) = if c.file = f then c.sc :: rows f l else rows f l := by
  unfold rows
  by_cases h : c.file = f <;> simp [h]
theorem rows_app (f : Int) (a b : List Cl) : rows f (a ++ b) = rows f a ++ rows f b := by simp [rows]
theorem rows_len (f : Int) (l : List Cl) : (rows f l).length ≤ l.length := by
  unfold rows; rw [List.length_map]; exact List.length_filter_le _ _
theorem rows_512 {l : List Cl} (h : ∀ c ∈ l, c.b.length = 512) (f : Int) : ∀ x ∈ rows f l, x.b.length = 512 := by
  intro x hx
  obtain ⟨c, hc, rfl⟩ := List.mem_map.1 hx
  exact h c (List.mem_filter.1 hc).1
theorem rows_none {l : List Cl} {f : Int} (h : ¬ ∃ c ∈ l, c.file = f) : rows f l = [] := by
  unfold rows
  rw [List.map_eq_nil_iff, List.filter_eq_nil_iff]
  intro c hc e
  exact h ⟨c, hc, by simpa using e⟩
theorem rows_sync (f g : Int) (l : List Cl) : rows g (syncL f l) = if g = f then (rows f l).map Sc.syn else rows g l := by
  induction l with
  | nil => by_cases h : g = f <;> simp [rows, syncL, h]
  | cons c l ih =>
    have e : syncL f (c :: l) = (if c.file = f then ⟨c.file, c.b, true⟩ else c) :: syncL f l := rfl
    rw [e, rows_cons, ih, rows_cons, rows_cons]
    by_cases h : g = f
    · subst h
      by_cases hc : c.file = g <;> simp [hc, Cl.sc, Sc.syn]
    · by_cases hc : c.file = f
      · have : c.file ≠ g := fun e => h (e ▸ hc)
        simp [hc, h, Ne.symm h]
      · simp [hc, h]
theorem rows_drop (f g : Int) (l : List Cl) : rows g (dropL f l) = if g = f then [] else rows g l := by
  induction l with
  | nil => by_cases h : g = f <;> simp [rows, dropL, h]
  | cons c l ih =>
    have e : dropL f (c :: l) = if c.file = f then dropL f l else c :: dropL f l := by unfold dropL; by_cases hc : c.file = f <;> simp [hc]
    rw [e]
    by_cases hc : c.file = f
    · rw [if_pos hc, ih, rows_cons]
      by_cases h : g = f
      · simp [h]
      · have : ¬ c.file = g := fun e => h (e ▸ hc)
        simp [h, this]
    · rw [if_neg hc, rows_cons, ih, rows_cons]
      by_cases h : g = f
      · subst h; simp [hc]
      · simp [h]
theorem rows_move (f t g : Int) (l : List Cl) (hne : f ≠ t) (ht : ∀ c ∈ l, c.file ≠ t) : rows g (moveL f t l) = if g = t then rows f l else if g = f then [] else rows g l := by
  induction l with
  | nil => by_cases h : g = t <;> simp [rows, moveL, h]
  | cons c l ih =>
    have e : moveL f t (c :: l) = (if c.file = f then ⟨t, c.b, c.s⟩ else c) :: moveL f t l := rfl
    have hc0 := ht c (by simp)
    rw [e, rows_cons, ih (fun x hx => ht x (by simp [hx])), rows_cons, rows_cons]
    by_cases hc : c.file = f
    · by_cases h : g = t
      · subst h; simp [hc, Cl.sc]
      · by_cases h2 : g = f
        · subst h2; simp [hc, h, Ne.symm hne]
        · simp [hc, h, h2, Ne.symm h, Ne.symm h2]
    · by_cases h : g = t
      · subst h; simp [hc, hc0]
      · by_cases h2 : g = f
        · subst h2; simp [hc, h]
        · simp [hc, h, h2]

/-! passes -/
theorem uns_app (a b : List Sc) : uns (a ++ b) = uns a + uns b := by
  induction a with
  | nil => simp [uns]
  | cons x a ih => simp [uns, ih, Nat.add_assoc]
theorem uns_le (xs : List Sc) : uns xs ≤ xs.length := by
  induction xs with
  | nil => simp [uns]
  | cons x xs ih => unfold uns; split <;> simp <;> omega
theorem rowZ_cons (keep : List Bool) (n : Nat) (x : Sc) (xs : List Sc) : rowZ keep n (x :: xs) = if x.s then x :: rowZ keep n xs else ⟨if keep.getD n false then x.b else zeros, false⟩ :: rowZ keep (n + 1) xs := rfl
theorem uns_cons (x : Sc) (xs : List Sc) : uns (x :: xs) = (if x.s then 0 else 1) + uns xs := rfl
theorem pass_cons (keep : List Bool) (f : Int) (n : Nat) (c : Cl) (l : List Cl) : pass keep f n (c :: l) = if c.file = f ∧ c.s = false then ⟨c.file, if keep.getD n false then c.b else zeros, true⟩ :: pass keep f (n + 1) l else c :: pass keep f n l := rfl
theorem zeros_len : zeros.length = 512 := List.length_replicate ..
theorem rowZ_len (keep : List Bool) (n : Nat) (xs : List Sc) : (rowZ keep n xs).length = xs.length := by
  induction xs generalizing n with
  | nil => rfl
  | cons x xs ih => unfold rowZ; split <;> simp [ih]
theorem rowZ_app (keep : List Bool) (n : Nat) (a b : List Sc) : rowZ keep n (a ++ b) = rowZ keep n a ++ rowZ keep (n + uns a) b := by
  induction a generalizing n with
  | nil => simp [rowZ, uns]
  | cons x a ih =>
    rw [List.cons_append, rowZ_cons, rowZ_cons, uns_cons]
    cases x.s <;> simp only [ih, Nat.add_assoc, Bool.false_eq_true, if_true, if_false, List.cons_append, Nat.zero_add]
theorem rowZ_512 (keep : List Bool) (n : Nat) (xs : List Sc) (h : ∀ x ∈ xs, x.b.length = 512) : ∀ x ∈ rowZ keep n xs, x.b.length = 512 := by
  induction xs generalizing n with
  | nil => simp [rowZ]
  | cons y xs ih =>
    intro x hx
    have hy := h y (by simp)
    have ih' := fun k => ih k (fun z hz => h z (List.mem_cons_of_mem _ hz))
    unfold rowZ at hx
    cases hs : y.s
    · rw [hs] at hx
      simp at hx
      rcases hx with rfl | hx
      · show (if _ then _ else _ : List (BitVec 8)).length = 512
        split
        · exact hy
        · exact zeros_len
      · exact ih' _ x hx
    · rw [hs] at hx
      simp at hx
      rcases hx with rfl | hx
      · exact hy
      · exact ih' _ x hx
theorem pass_len (keep : List Bool) (f : Int) (n : Nat) (l : List Cl) : (pass keep f n l).length = l.length := by
  induction l generalizing n with
  | nil => rfl
  | cons x xs ih => unfold pass; split <;> simp [ih]
theorem pass_app (keep : List Bool) (f : Int) (n : Nat) (a b : List Cl) : pass keep f n (a ++ b) = pass keep f n a ++ pass keep f (n + uns (rows f a)) b := by
  induction a generalizing n with
  | nil => simp [pass, uns, rows]
  | cons c a ih =>
    rw [List.cons_append, rows_cons, pass_cons, pass_cons]
    by_cases hc : c.file = f
    · cases hs : c.s
      · simp only [hc, uns_cons, Cl.sc, hs, ih, Nat.add_assoc, true_and, if_true, Bool.false_eq_true, if_false, List.cons_append]
      · simp only [hc, uns_cons, Cl.sc, hs, ih, Nat.zero_add, true_and, Bool.true_eq_false, if_true, if_false, List.cons_append]
    · simp only [hc, ih, false_and, if_false, List.cons_append]
theorem rows_pass_same (keep : List Bool) (f : Int) (n : Nat) (l : List Cl) : rows f (pass keep f n l) = (rowZ keep n (rows f l)).map Sc.syn := by
  induction l generalizing n with
  | nil => rfl
  | cons c l ih =>
    unfold pass
    rw [rows_cons]
    by_cases hc : c.file = f
    · cases hs : c.s
      · simp only [hc, true_and, if_true]
        rw [rows_cons, ih]
        simp [hc, rowZ, Cl.sc, hs, Sc.syn]
      · simp only [hc, true_and, Bool.true_eq_false, if_true, if_false]
        rw [rows_cons, ih]
        simp [hc, rowZ, Cl.sc, hs, Sc.syn]
    · simp only [hc, false_and, if_false]
      rw [rows_cons, ih]
      simp [hc]
theorem rows_pass_other (keep : List Bool) (f g : Int) (h : g ≠ f) (n : Nat) (l : List Cl) : rows g (pass keep f n l) = rows g l := by
  induction l generalizing n with
  | nil => rfl
  | cons c l ih =>
    unfold pass
    rw [rows_cons]
    by_cases hc : c.file = f
    · have : ¬ c.file = g := fun e => h (e ▸ hc)
      split
      · rw [rows_cons, ih]; exact if_neg this
      · rw [rows_cons, ih]; exact if_neg this
    · simp only [hc, false_and, if_false]
      rw [rows_cons, ih]
theorem pass_file (keep : List Bool) (f : Int) (n : Nat) (l : List Cl) : (pass keep f n l).map (·.file) = l.map (·.file) := by
  induction l generalizing n with
  | nil => rfl
  | cons c l ih => unfold pass; split <;> simp [ih]
theorem pass_512 (keep : List Bool) (f : Int) (n : Nat) (l : List Cl) (h : ∀ x ∈ l, x.b.length = 512) : ∀ x ∈ pass keep f n l, x.b.length = 512 := by
  induction l generalizing n with
  | nil => simp [pass]
  | cons y xs ih =>
    intro x hx
    have hy := h y (by simp)
    have ih' := fun k => ih k (fun z hz => h z (List.mem_cons_of_mem _ hz))
    unfold pass at hx
    split at hx
    · rcases List.mem_cons.1 hx with rfl | hx
      · show (if _ then _ else _ : List (BitVec 8)).length = 512
        split
        · exact hy
        · exact zeros_len
      · exact ih' _ x hx
    · rcases List.mem_cons.1 hx with rfl | hx
      · exact hy
      · exact ih' _ x hx
def unsL : List Cl → Nat
  | [] => 0
  | c :: l => (if c.s then 0 else 1) + unsL l
theorem unsL_le (l : List Cl) : unsL l ≤ l.length := by
  induction l with
  | nil => simp [unsL]
  | cons x xs ih => unfold unsL; split <;> simp <;> omega
theorem pass_uns (keep : List Bool) (f : Int) (n : Nat) (l : List Cl) : unsL (pass keep f n l) + uns (rows f l) = unsL l := by
  induction l generalizing n with
  | nil => rfl
  | cons c l ih =>
    unfold pass
    rw [rows_cons]
    by_cases hc : c.file = f
    · cases hs : c.s
      · have := ih (n + 1)
        simp [hc, unsL, uns, Cl.sc, hs]; omega
      · have := ih n
        simp [hc, unsL, uns, Cl.sc, hs]; omega
    · have := ih n
      simp [hc, unsL]; omega
theorem pass_congr (k1 k2 : List Bool) (f : Int) (n : Nat) (l : List Cl) (h : ∀ i, i < n + unsL l → k1.getD i false = k2.getD i false) : pass k1 f n l = pass k2 f n l := by
  induction l generalizing n with
  | nil => rfl
  | cons c l ih =>
    unfold pass
    by_cases hc : c.file = f ∧ c.s = false
    · rw [if_pos hc, if_pos hc, ih (n + 1) (fun i hi => h i (by simp [unsL, hc.2]; omega)), h n (by simp [unsL, hc.2]; omega)]
    · rw [if_neg hc, if_neg hc, ih n (fun i hi => h i (by unfold unsL; omega))]
theorem foldl_congr (k1 k2 : List Bool) (fs : List Int) (p : Nat × List Cl) (h : ∀ i, i < p.1 + unsL p.2 → k1.getD i false = k2.getD i false) : fs.foldl (pstep k1) p = fs.foldl (pstep k2) p := by
  induction fs generalizing p with
  | nil => rfl
  | cons f fs ih =>
    have e : pstep k1 p f = pstep k2 p f := by unfold pstep; rw [pass_congr k1 k2 f p.1 p.2 h]
    rw [List.foldl_cons, List.foldl_cons, e]
    refine ih _ fun i hi => h i ?_
    have := pass_uns k2 f p.1 p.2
    simp only [pstep] at hi
    omega
theorem passes_take (keep : List Bool) (fs : List Int) (l : List Cl) (r : Nat) (h : l.length ≤ r) : passes (keep.take r) fs l = passes keep fs l := by
  refine foldl_congr _ _ _ _ fun i hi => ?_
  have := unsL_le l
  rw [List.getD_eq_getElem?_getD, List.getElem?_take, if_pos (by simp at hi; omega), List.getD_eq_getElem?_getD]
theorem passes_snoc (keep : List Bool) (fs : List Int) (k : Nat) (l : List Cl) (f : Int) (h : fs[k]? = some f) : passes keep (fs.take (k + 1)) l = pstep keep (passes keep (fs.take k) l) f := by
  obtain ⟨hk, rfl⟩ := List.getElem?_eq_some_iff.1 h
  unfold passes
  rw [List.take_succ_eq_append_getElem hk, List.foldl_append]
  rfl
theorem foldl_file (keep : List Bool) (fs : List Int) (p : Nat × List Cl) : (fs.foldl (pstep keep) p).2.map (·.file) = p.2.map (·.file) := by
  induction fs generalizing p with
  | nil => rfl
  | cons f fs ih => rw [List.foldl_cons, ih]; exact pass_file keep f _ _
theorem foldl_512 (keep : List Bool) (fs : List Int) (p : Nat × List Cl) (h : ∀ x ∈ p.2, x.b.length = 512) : ∀ x ∈ (fs.foldl (pstep keep) p).2, x.b.length = 512 := by
  induction fs generalizing p with
  | nil => exact h
  | cons f fs ih => rw [List.foldl_cons]; exact ih _ (pass_512 keep f _ _ h)
theorem foldl_rows_other (keep : List Bool) (fs : List Int) (g : Int) (h : g ∉ fs) (p : Nat × List Cl) : rows g (fs.foldl (pstep keep) p).2 = rows g p.2 := by
  induction fs generalizing p with
  | nil => rfl
  | cons f fs ih =>
    rw [List.foldl_cons, ih (fun hm => h (by simp [hm]))]
    exact rows_pass_other keep f g (fun e => h (by simp [e])) _ _
theorem passes_bound (keep : List Bool) (fs : List Int) (l : List Cl) : (passes keep fs l).1 ≤ l.length ∧ (passes keep fs l).2.length = l.length := by
  have key : ∀ (fs : List Int) (p : Nat × List Cl), (fs.foldl (pstep keep) p).1 + unsL (fs.foldl (pstep keep) p).2 = p.1 + unsL p.2 ∧ (fs.foldl (pstep keep) p).2.length = p.2.length := by
    intro fs
    induction fs with
    | nil => intro p; exact ⟨rfl, rfl⟩
    | cons f fs ih =>
      intro p
      rw [List.foldl_cons]
      obtain ⟨h1, h2⟩ := ih (pstep keep p f)
      refine ⟨h1.trans ?_, h2.trans (pass_len keep f _ _)⟩
      have := pass_uns keep f p.1 p.2
      simp only [pstep]; omega
  obtain ⟨h1, h2⟩ := key fs (0, l)
  have := unsL_le l
  refine ⟨?_, h2⟩
  show (fs.foldl (pstep keep) (0, l)).1 ≤ _
  simp at h1; omega

/-! files -/
theorem mem_ins (f g : Int) (fs : List Int) : g ∈ ins f fs ↔ g = f ∨ g ∈ fs := by
  induction fs with
  | nil => simp [ins]
  | cons h fs ih =>
    unfold ins
    split
    · simp
    · simp only [List.mem_cons, ih]; constructor <;> (rintro (h | h | h) <;> simp [h])
theorem mem_without (f g : Int) (fs : List Int) : g ∈ without f fs ↔ g ∈ fs ∧ g ≠ f := by simp [without]
theorem mem_add (f g : Int) (fs : List Int) : g ∈ add f fs ↔ g = f ∨ g ∈ fs := by
  unfold add
  rw [mem_ins, mem_without]
  by_cases h : g = f <;> simp [h]
theorem sorted_ins (f : Int) (fs : List Int) (h : fs.Pairwise (· < ·)) (hn : f ∉ fs) : (ins f fs).Pairwise (· < ·) := by
  induction fs with
  | nil => simp [ins]
  | cons g fs ih =>
    obtain ⟨h1, h2⟩ := List.pairwise_cons.1 h
    have hg : f ≠ g := fun e => hn (by simp [e])
    unfold ins
    split
    · rename_i hlt
      exact List.pairwise_cons.2 ⟨fun x hx => by rcases List.mem_cons.1 hx with rfl | hx; exact hlt; have := h1 x hx; omega, h⟩
    · refine List.pairwise_cons.2 ⟨fun x hx => ?_, ih h2 (fun hm => hn (by simp [hm]))⟩
      rcases (mem_ins f x fs).1 hx with rfl | hx
      · omega
      · exact h1 x hx
theorem sorted_without (f : Int) (fs : List Int) (h : fs.Pairwise (· < ·)) : (without f fs).Pairwise (· < ·) := h.filter _
theorem sorted_add (f : Int) (fs : List Int) (h : fs.Pairwise (· < ·)) : (add f fs).Pairwise (· < ·) :=
  sorted_ins f _ (sorted_without f fs h) (by simp [mem_without])
theorem without_self (f : Int) (fs : List Int) (h : f ∉ fs) : without f fs = fs := by
  unfold without
  rw [List.filter_eq_self]
  intro g hg
  simp; rintro rfl; exact h hg
theorem without_without (f : Int) (fs : List Int) : without f (without f fs) = without f fs := without_self f _ (by simp [mem_without])
theorem add_here (f : Int) (fs : List Int) (hs : fs.Pairwise (· < ·)) (h : f ∈ fs) : add f fs = fs := by
  induction fs with
  | nil => simp at h
  | cons g fs ih =>
    obtain ⟨h1, h2⟩ := List.pairwise_cons.1 hs
    unfold add without
    by_cases hg : g = f
    · subst hg
      have hn : g ∉ fs := fun hm => by have := h1 g hm; omega
      have e : (g :: fs).filter (fun x => !decide (x = g)) = fs := by
        rw [List.filter_cons]; simp; exact fun a ha e => hn (e ▸ ha)
      rw [e]
      cases fs with
      | nil => rfl
      | cons x fs => unfold ins; rw [if_pos (h1 x (by simp))]
    · have hm : f ∈ fs := by rcases List.mem_cons.1 h with e | e; exact absurd e.symm hg; exact e
      have hlt := h1 f hm
      have e : (g :: fs).filter (fun x => !decide (x = f)) = g :: without f fs := by
        rw [List.filter_cons]; simp [hg]; rfl
      rw [e]
      unfold ins
      rw [if_neg (by omega)]
      congr 1
      exact ih h2 hm
theorem sorted_nodup {fs : List Int} (h : fs.Pairwise (· < ·)) : fs.Nodup := h.imp (fun {a b} (hlt : a < b) => by omega)

/-- All files' sectors together are all sectors. -/
def total (fs : List Int) (l : List Cl) : Nat := (fs.map fun f => (rows f l).length).sum
theorem total_nil (fs : List Int) : total fs [] = 0 := by
  induction fs with
  | nil => rfl
  | cons f fs ih => unfold total at *; rw [List.map_cons, List.sum_cons, ih]; rfl
theorem total_cons (fs : List Int) (c : Cl) (l : List Cl) (hn : fs.Nodup) : total fs (c :: l) = total fs l + if c.file ∈ fs then 1 else 0 := by
  induction fs with
  | nil => simp [total]
  | cons f fs ih =>
    obtain ⟨h1, h2⟩ := List.nodup_cons.1 hn
    have ih := ih h2
    have e : ∀ l, total (f :: fs) l = (rows f l).length + total fs l := fun l => by simp [total]
    rw [e, e, ih, rows_cons]
    by_cases hc : c.file = f
    · have : ¬ c.file ∈ fs := fun hm => h1 (hc ▸ hm)
      subst hc
      simp [h1]; omega
    · by_cases hm : c.file ∈ fs <;> simp [hc, hm] <;> omega
theorem total_all (fs : List Int) (l : List Cl) (hn : fs.Nodup) (h : ∀ c ∈ l, c.file ∈ fs) : total fs l = l.length := by
  induction l with
  | nil => exact total_nil fs
  | cons c l ih => rw [total_cons fs c l hn, ih (fun x hx => h x (by simp [hx])), if_pos (h c (by simp))]; rfl
theorem total_perm {a b : List Int} (h : a.Perm b) (l : List Cl) : total a l = total b l := (h.map _).sum_nat
theorem le_total (fs : List Int) (l : List Cl) (h : ∀ f ∈ fs, 0 < (rows f l).length) : fs.length ≤ total fs l := by
  induction fs with
  | nil => simp
  | cons f fs ih =>
    have h1 := h f (by simp)
    have h2 := ih (fun g hg => h g (by simp [hg]))
    have e : total (f :: fs) l = (rows f l).length + total fs l := by simp [total]
    rw [List.length_cons, e]; omega

namespace Inv
variable {m : M}
theorem nodup (h : Inv m) : m.files.Nodup := sorted_nodup h.sorted
theorem total (h : Inv m) : total m.files m.l = m.l.length := total_all _ _ h.nodup fun c hc => (h.here _).2 ⟨c, hc, rfl⟩
theorem pos (h : Inv m) {f : Int} (hf : f ∈ m.files) : 0 < (rows f m.l).length := by
  obtain ⟨c, hc, e⟩ := (h.here f).1 hf
  unfold rows
  rw [List.length_map]
  exact List.length_pos_iff.2 fun hn => by have := List.filter_eq_nil_iff.1 hn c hc; simp [e] at this
theorem few (h : Inv m) : m.files.length ≤ 1000 := by
  have h1 := le_total m.files m.l fun f hf => h.pos hf
  rw [h.total] at h1
  have := h.most; have := h.room; omega
theorem rows_le (h : Inv m) (f : Int) : (rows f m.l).length ≤ 1000 := by
  have := rows_len f m.l; have := h.most; have := h.room; omega
theorem r512 (h : Inv m) (f : Int) : ∀ x ∈ rows f m.l, x.b.length = 512 := rows_512 h.len f
theorem none_ (h : Inv m) {f : Int} (hf : f ∉ m.files) : rows f m.l = [] := rows_none fun hx => hf ((h.here f).2 hx)

theorem new (r : Nat) (h1 : 1 ≤ r) (h2 : r ≤ 1000) : Inv ⟨r, [], [], false, none⟩ :=
  ⟨List.Pairwise.nil, by simp, by simp, by simp, ⟨h1, h2⟩, by simp, by simp⟩
theorem lost (h : Inv m) (keep : List Bool) : Inv (lost m keep) := by
  have hf := foldl_file keep m.files (0, m.l)
  refine ⟨h.sorted, fun f => (h.here f).trans ?_, foldl_512 keep m.files (0, m.l) h.len, ?_, h.room, h.fit, by simp [Disk.lost]⟩
  · have e : ∀ l : List Cl, (∃ c ∈ l, c.file = f) ↔ f ∈ l.map (·.file) := fun l => by simp
    rw [e, e]
    show f ∈ m.l.map (·.file) ↔ f ∈ (m.files.foldl (pstep keep) (0, m.l)).2.map (·.file)
    rw [hf]
  · show (passes keep m.files m.l).2.length ≤ m.room
    rw [(passes_bound keep m.files m.l).2]; exact h.most
theorem crash (h : Inv m) (keep : List Bool) : Inv (crash m keep) := by
  unfold Disk.crash; split
  · exact h
  · exact h.lost keep
theorem stepped (h : Inv m) : Inv (stepped m) := by
  unfold Disk.stepped
  split
  · exact h.lost _
  · rename_i n k e
    exact ⟨h.sorted, h.here, h.len, h.most, h.room, h.fit, fun a b e' => by have := h.plan _ _ e; simp at e'; omega⟩
  · exact h
theorem up (h : Inv m) : Inv (up m) := ⟨h.sorted, h.here, h.len, h.most, h.room, h.fit, h.plan⟩
theorem fail (h : Inv m) (s : Int) (hs : s < 9223372036854775808) (keep : List Bool) : Inv (fail m s keep) :=
  ⟨h.sorted, h.here, h.len, h.most, h.room, h.fit, fun a b e => by
    unfold Disk.fail at e
    simp only at e
    split at e
    · cases e
    · cases e; omega⟩
end Inv
theorem stepped_same {m : M} (h : fails m = false) : (stepped m).files = m.files ∧ (stepped m).l = m.l ∧ (stepped m).room = m.room ∧ (stepped m).off = m.off := by
  unfold fails at h
  unfold stepped
  split
  · rename_i e; rw [e] at h; cases h
  · exact ⟨rfl, rfl, rfl, rfl⟩
  · exact ⟨rfl, rfl, rfl, rfl⟩
namespace Inv
variable {m : M}
theorem append (h : Inv m) (f : Int) (hf : f < 9223372036854775808) (b : List (BitVec 8)) : Inv (append m f b).2 := by
  unfold Disk.append
  by_cases h1 : m.off
  · simp [h1]; exact h
  by_cases h2 : f < 0 ∨ b.length ≠ 512
  · rw [if_neg h1, if_pos h2]; exact h
  by_cases h3 : m.room ≤ m.l.length ∨ 200 ≤ (rows f m.l).length
  · rw [if_neg h1, if_neg h2, if_pos h3]; exact h
  cases h4 : fails m
  · rw [if_neg h1, if_neg h2, if_neg h3]
    obtain ⟨e1, e2, e3, e4⟩ := stepped_same h4
    have hs := h.stepped
    simp only [Bool.false_eq_true, if_false]
    refine ⟨sorted_add f _ h.sorted, fun g => ?_, ?_, ?_, hs.room, ?_, hs.plan⟩
    · show g ∈ add f m.files ↔ ∃ c ∈ m.l ++ [(⟨f, b, false⟩ : Cl)], c.file = g
      rw [mem_add, h.here]
      constructor
      · rintro (rfl | ⟨c, hc, e⟩)
        · exact ⟨⟨g, b, false⟩, by simp, rfl⟩
        · exact ⟨c, by simp [hc], e⟩
      · rintro ⟨c, hc, e⟩
        rcases List.mem_append.1 hc with hc | hc
        · exact .inr ⟨c, hc, e⟩
        · rw [List.mem_singleton.1 hc] at e; exact .inl e.symm
    · intro c hc
      rcases List.mem_append.1 hc with hc | hc
      · exact h.len c hc
      · rw [List.mem_singleton.1 hc]; show b.length = 512; omega
    · show (m.l ++ [(⟨f, b, false⟩ : Cl)]).length ≤ (Disk.stepped m).room
      rw [e3]; simp; omega
    · intro g hg
      rcases (mem_add f g m.files).1 hg with rfl | hg
      · omega
      · exact h.fit g hg
  · rw [if_neg h1, if_neg h2, if_neg h3]
    simp only [if_true]
    exact h.stepped
theorem sync (h : Inv m) (f : Int) : Inv (sync m f).2 := by
  unfold Disk.sync
  by_cases h1 : there m f ≠ 0
  · rw [if_pos h1]; exact h
  rw [if_neg h1]
  cases h4 : fails m
  · obtain ⟨e1, e2, e3, e4⟩ := stepped_same h4
    have hs := h.stepped
    simp only [Bool.false_eq_true, if_false]
    refine ⟨hs.sorted, fun g => ?_, fun c hc => ?_, ?_, hs.room, hs.fit, hs.plan⟩
    · show g ∈ (Disk.stepped m).files ↔ ∃ c ∈ syncL f m.l, c.file = g
      rw [e1, h.here]
      unfold syncL
      constructor
      · rintro ⟨c, hc, e⟩
        exact ⟨_, List.mem_map.2 ⟨c, hc, rfl⟩, by split <;> exact e⟩
      · rintro ⟨c, hc, e⟩
        obtain ⟨c', hc', rfl⟩ := List.mem_map.1 hc
        refine ⟨c', hc', ?_⟩
        split at e <;> exact e
    · obtain ⟨c', hc', rfl⟩ := List.mem_map.1 hc
      have := h.len c' hc'
      split <;> exact this
    · show (syncL f m.l).length ≤ (Disk.stepped m).room
      rw [e3]; simp [syncL]; exact h.most
  · simp only [if_true]; exact h.stepped
theorem remove (h : Inv m) (f : Int) : Inv (remove m f).2 := by
  unfold Disk.remove
  by_cases h1 : there m f ≠ 0
  · rw [if_pos h1]; exact h
  rw [if_neg h1]
  cases h4 : fails m
  · obtain ⟨e1, e2, e3, e4⟩ := stepped_same h4
    have hs := h.stepped
    simp only [Bool.false_eq_true, if_false]
    refine ⟨sorted_without f _ h.sorted, fun g => ?_, fun c hc => h.len c (List.mem_filter.1 hc).1, ?_, hs.room, fun g hg => h.fit g ((mem_without f g _).1 hg).1, hs.plan⟩
    · show g ∈ without f m.files ↔ ∃ c ∈ dropL f m.l, c.file = g
      rw [mem_without, h.here]
      unfold dropL
      constructor
      · rintro ⟨⟨c, hc, rfl⟩, hne⟩
        exact ⟨c, List.mem_filter.2 ⟨hc, by simp [hne]⟩, rfl⟩
      · rintro ⟨c, hc, rfl⟩
        obtain ⟨h5, h6⟩ := List.mem_filter.1 hc
        exact ⟨⟨c, h5, rfl⟩, by simpa using h6⟩
    · show (dropL f m.l).length ≤ (Disk.stepped m).room
      rw [e3]; exact Nat.le_trans (List.length_filter_le _ _) h.most
  · simp only [if_true]; exact h.stepped
theorem rename (h : Inv m) (f t : Int) (ht : t < 9223372036854775808) : Inv (rename m f t).2 := by
  unfold Disk.rename
  by_cases h1 : there m f ≠ 0
  · rw [if_pos h1]; exact h
  rw [if_neg h1]
  by_cases h2 : t < 0
  · rw [if_pos h2]; exact h
  rw [if_neg h2]
  cases h4 : fails m
  · obtain ⟨e1, e2, e3, e4⟩ := stepped_same h4
    have hs := h.stepped
    simp only [Bool.false_eq_true, if_false]
    by_cases h5 : f = t
    · rw [if_pos h5]; exact hs
    rw [if_neg h5]
    have hf : f ∈ m.files := by
      unfold there at h1
      by_cases hf : f ∈ m.files
      · exact hf
      · exfalso; revert h1; split <;> simp [hf]
    refine ⟨sorted_without f _ (sorted_add t _ h.sorted), fun g => ?_, fun c hc => ?_, ?_, hs.room, fun g hg => ?_, hs.plan⟩
    · show g ∈ without f (add t m.files) ↔ ∃ c ∈ moveL f t (dropL t m.l), c.file = g
      rw [mem_without, mem_add, h.here]
      unfold moveL dropL
      constructor
      · rintro ⟨rfl | ⟨c, hc, rfl⟩, hne⟩
        · obtain ⟨c, hc, e⟩ := (h.here f).1 hf
          exact ⟨_, List.mem_map.2 ⟨c, List.mem_filter.2 ⟨hc, by simp [e, h5]⟩, rfl⟩, by simp [e]⟩
        · by_cases hct : c.file = t
          · obtain ⟨c', hc', e⟩ := (h.here f).1 hf
            exact ⟨_, List.mem_map.2 ⟨c', List.mem_filter.2 ⟨hc', by simp [e, h5]⟩, rfl⟩, by simp [e, hct]⟩
          · exact ⟨_, List.mem_map.2 ⟨c, List.mem_filter.2 ⟨hc, by simp [hct]⟩, rfl⟩, by simp [hne]⟩
      · rintro ⟨c, hc, e⟩
        obtain ⟨c', hc', rfl⟩ := List.mem_map.1 hc
        obtain ⟨h6, h7⟩ := List.mem_filter.1 hc'
        by_cases h8 : c'.file = f
        · rw [if_pos h8] at e
          exact ⟨.inl e.symm, by rw [← e]; exact Ne.symm h5⟩
        · rw [if_neg h8] at e
          exact ⟨.inr ⟨c', h6, e⟩, by rw [← e]; exact h8⟩
    · obtain ⟨c', hc', rfl⟩ := List.mem_map.1 hc
      have := h.len c' (List.mem_filter.1 hc').1
      split <;> exact this
    · show (moveL f t (dropL t m.l)).length ≤ (Disk.stepped m).room
      rw [e3]; simp only [moveL, List.length_map]; exact Nat.le_trans (List.length_filter_le _ _) h.most
    · rcases (mem_add t g m.files).1 ((mem_without f g _).1 hg).1 with rfl | hg
      · omega
      · exact h.fit g hg
  · simp only [if_true]; exact h.stepped
end Inv
end Go.Proofs.YtdaknfepcbooeaaGreat.Disk
end

section
namespace Go.Proofs.YtdaknfepcbooeaaGreat.Segm
open Go.Proofs.YtdaknfepcbooeaaGreat.Frag (pcs parts cut lead grp used)
set_option linter.unusedVariables false
set_option linter.unusedSimpArgs false

def toF (p : Sector.Pt) : Frag.Pt := ⟨p.epoch, p.seq, p.flags, p.body⟩
def toS (p : Frag.Pt) : Sector.Pt := ⟨p.epoch, p.seq, p.flags, p.body⟩
theorem toF_toS (p : Frag.Pt) : toF (toS p) = p := rfl

/-- The parts of the sectors, from the first one on, as far as they have the epoch and the numbers from k on. -/
def leads (ep : BitVec 32) : Nat → List (List (BitVec 8)) → List Frag.Pt
  | _, [] => []
  | k, b :: L => match Sector.get b with
    | none => []
    | some p => if p.epoch = ep ∧ p.seq = BitVec.ofNat 32 k then toF p :: leads ep (k + 1) L else []
theorem leads_le (ep : BitVec 32) (k : Nat) (L : List (List (BitVec 8))) : (leads ep k L).length ≤ L.length := by
  induction L generalizing k with
  | nil => exact Nat.le_refl _
  | cons b L ih =>
    unfold leads
    split
    · exact Nat.zero_le _
    · split
      · have := ih (k + 1); simp; omega
      · exact Nat.zero_le _
/-- What isn't a part's sector ends what is read. -/
theorem leads_stop (ep : BitVec 32) (k i : Nat) (L : List (List (BitVec 8))) (b : List (BitVec 8)) (hb : L[i]? = some b) (hn : Sector.get b = none) : (leads ep k L).length ≤ i := by
  induction L generalizing k i with
  | nil => simp at hb
  | cons c L ih =>
    unfold leads
    cases i with
    | zero =>
      simp at hb
      subst hb
      rw [hn]
      exact Nat.le_refl _
    | succ i =>
      split
      · exact Nat.zero_le _
      · split
        · have := ih (k + 1) i (by simpa using hb); simp; omega
        · exact Nat.zero_le _
theorem leads_may (ep : BitVec 32) (k : Nat) (L : List (List (BitVec 8))) : ∀ p ∈ leads ep k L, (toS p).may = true := by
  induction L generalizing k with
  | nil => intro p hp; simp [leads] at hp
  | cons b L ih =>
    intro p hp
    unfold leads at hp
    split at hp
    · simp at hp
    · next q hq =>
      split at hp
      · rcases List.mem_cons.1 hp with rfl | hp
        · exact (Sector.get_some hq).1
        · exact ih (k + 1) p hp
      · simp at hp
theorem bodies_le (g : List Frag.Pt) (h : ∀ p ∈ g, (toS p).may = true) : (g.flatMap (·.body)).length ≤ g.length * 493 := by
  induction g with
  | nil => simp
  | cons p g ih =>
    rw [List.flatMap_cons, List.length_append, List.length_cons]
    have h1 : p.body.length ≤ 493 := Sector.may_body (h p List.mem_cons_self)
    have h2 := ih fun q hq => h q (List.mem_cons_of_mem _ hq)
    omega
theorem grp_mem (l : List Frag.Pt) : ∀ g ∈ grp l, g.length ≤ l.length ∧ ∀ p ∈ g, p ∈ l := by
  induction h : l.length using Nat.strongRecOn generalizing l with
  | ind n ih =>
    subst h
    intro g hg
    rcases Nat.eq_zero_or_pos (lead true l) with h0 | h0
    · rw [Frag.grp_none h0] at hg; simp at hg
    · rw [Frag.grp_more h0] at hg
      have hle := Frag.lead_le true l
      rcases List.mem_cons.1 hg with rfl | hg
      · exact ⟨by rw [List.length_take]; omega, fun p hp => List.mem_of_mem_take hp⟩
      · obtain ⟨h1, h2⟩ := ih (l.drop (lead true l)).length (by rw [List.length_drop]; omega) (l.drop (lead true l)) rfl g hg
        rw [List.length_drop] at h1
        exact ⟨by omega, fun p hp => List.mem_of_mem_drop (h2 p hp)⟩
theorem leads_fits (ep : BitVec 32) (k : Nat) (L : List (List (BitVec 8))) : ∀ p ∈ leads ep k L, Frag.fits p.flags := fun p hp => by
  have := Sector.may_flags (leads_may ep k L p hp)
  exact ⟨this.1, by have h2 : p.flags ≤ 3 := this.2; omega⟩
theorem leads_bodies (ep : BitVec 32) (k : Nat) (L : List (List (BitVec 8))) (hL : L.length ≤ 200) : ∀ g ∈ grp (leads ep k L), (g.flatMap (·.body)).length ≤ 100000 := fun g hg => by
  obtain ⟨h1, h2⟩ := grp_mem _ g hg
  have h3 := bodies_le g fun p hp => leads_may ep k L p (h2 p hp)
  have h4 := leads_le ep k L
  omega
/-- How many sectors are used is at most where one stands that is no part's. -/
theorem used_stop (ep : BitVec 32) (i : Nat) (L : List (List (BitVec 8))) (b : List (BitVec 8)) (hb : L[i]? = some b) (hn : Sector.get b = none) : used (grp (leads ep 0 L)) ≤ i :=
  Nat.le_trans (Frag.used_grp _) (leads_stop ep 0 i L b hb hn)

/-! The parts of several records, numbered. -/
theorem parts_app (ep : BitVec 32) : ∀ (sq : BitVec 32) (xs ys : List (Int × List (BitVec 8))), parts ep sq (xs ++ ys) = parts ep sq xs ++ parts ep (sq + BitVec.ofNat 32 xs.length) ys
  | sq, [], ys => by simp [parts]
  | sq, x :: xs, ys => by
    rw [List.cons_append, parts, parts, parts_app ep (sq + 1#32) xs ys, List.cons_append, List.length_cons]
    congr 3
    apply BitVec.eq_of_toNat_eq
    simp [BitVec.toNat_add, BitVec.toNat_ofNat]
    omega
def pieces (rs : List (List (BitVec 8))) : List (Int × List (BitVec 8)) := rs.flatMap (pcs 1)
def ptsOf (ep : BitVec 32) (rs : List (List (BitVec 8))) : List Frag.Pt := parts ep 0#32 (pieces rs)
def secP (p : Frag.Pt) : List (BitVec 8) := Sector.sec (toS p)
theorem ptsOf_snoc (ep : BitVec 32) (rs : List (List (BitVec 8))) (r : List (BitVec 8)) : ptsOf ep (rs ++ [r]) = ptsOf ep rs ++ cut ep (BitVec.ofNat 32 (ptsOf ep rs).length) r := by
  unfold ptsOf pieces
  rw [List.flatMap_append, parts_app, Frag.parts_length]
  simp [cut]
theorem pcs_may (f : Int) (bs : List (BitVec 8)) (hf : f = 0 ∨ f = 1) : ∀ y ∈ pcs f bs, (0 ≤ y.1 ∧ y.1 ≤ 3) ∧ y.2.length ≤ 493 := by
  induction h : bs.length using Nat.strongRecOn generalizing f bs with
  | ind n ih =>
    subst h
    rcases Nat.lt_or_ge 493 bs.length with hl | hl
    · rw [Frag.pcs_more hl]
      intro y hy
      rcases List.mem_cons.1 hy with rfl | hy
      · exact ⟨by show 0 ≤ f ∧ f ≤ 3; omega, by show (bs.take 493).length ≤ 493; rw [List.length_take]; omega⟩
      · exact ih (bs.drop 493).length (by rw [List.length_drop]; omega) 0 (bs.drop 493) (.inl rfl) rfl y hy
    · rw [Frag.pcs_last hl]
      intro y hy
      rw [List.mem_singleton.1 hy]
      exact ⟨by show 0 ≤ f + 2 ∧ f + 2 ≤ 3; omega, hl⟩
theorem parts_may (ep : BitVec 32) : ∀ (sq : BitVec 32) (xs : List (Int × List (BitVec 8))), (∀ y ∈ xs, (0 ≤ y.1 ∧ y.1 ≤ 3) ∧ y.2.length ≤ 493) → ∀ p ∈ parts ep sq xs, (toS p).may = true
  | _, [], _, p, hp => by cases hp
  | sq, x :: xs, h, p, hp => by
    rw [parts] at hp
    rcases List.mem_cons.1 hp with rfl | hp
    · obtain ⟨⟨h1, h2⟩, h3⟩ := h x List.mem_cons_self
      simp [Sector.Pt.may, Sector.mayB, toS, h1, h2, h3]
    · exact parts_may ep _ xs (fun y hy => h y (List.mem_cons_of_mem _ hy)) p hp
theorem cut_may (ep sq : BitVec 32) (bs : List (BitVec 8)) : ∀ p ∈ cut ep sq bs, (toS p).may = true := parts_may ep sq _ (pcs_may 1 bs (.inr rfl))
theorem pieces_may (rs : List (List (BitVec 8))) : ∀ y ∈ pieces rs, (0 ≤ y.1 ∧ y.1 ≤ 3) ∧ y.2.length ≤ 493 := fun y hy => by
  obtain ⟨r, _, hr⟩ := List.mem_flatMap.1 hy
  exact pcs_may 1 r (.inr rfl) y hr
theorem ptsOf_may (ep : BitVec 32) (rs : List (List (BitVec 8))) : ∀ p ∈ ptsOf ep rs, (toS p).may = true := parts_may ep _ _ (pieces_may rs)
theorem secP_len {p : Frag.Pt} (h : (toS p).may = true) : (secP p).length = 512 := Sector.sec_length h
theorem get_secP {p : Frag.Pt} (h : (toS p).may = true) : Sector.get (secP p) = some (toS p) := Sector.get_sec _ h

/-- What is read of sectors that are those of parts, or zeros. -/
theorem leads_some (ep : BitVec 32) (z : List (BitVec 8)) (hz : Sector.get z = none) : ∀ (xs : List (Int × List (BitVec 8))) (k k0 : Nat) (L : List (List (BitVec 8))), (∀ y ∈ xs, (0 ≤ y.1 ∧ y.1 ≤ 3) ∧ y.2.length ≤ 493) → L.length = xs.length → k0 ≤ xs.length →
    (∀ i p, (parts ep (BitVec.ofNat 32 k) xs)[i]? = some p → L[i]? = some (secP p) ∨ (k0 ≤ i ∧ L[i]? = some z)) →
    ∃ j, k0 ≤ j ∧ j ≤ xs.length ∧ leads ep k L = (parts ep (BitVec.ofNat 32 k) xs).take j
  | [], k, k0, L, _, hl, hk, _ => by
    have : L = [] := List.eq_nil_of_length_eq_zero hl
    subst this
    exact ⟨0, hk, Nat.le_refl _, rfl⟩
  | x :: xs, k, k0, [], _, hl, _, _ => by simp at hl
  | x :: xs, k, k0, b :: L, hm, hl, hk, h => by
    rw [parts] at h ⊢
    have hpm : (toS ⟨ep, BitVec.ofNat 32 k, x.1, x.2⟩).may = true := parts_may ep (BitVec.ofNat 32 k) (x :: xs) hm _ (by rw [parts]; exact List.mem_cons_self)
    rcases h 0 _ rfl with h0 | ⟨h0, h1⟩
    · have hb : b = secP ⟨ep, BitVec.ofNat 32 k, x.1, x.2⟩ := by simpa using h0
      subst hb
      have e1 : BitVec.ofNat 32 k + 1#32 = BitVec.ofNat 32 (k + 1) := by
        apply BitVec.eq_of_toNat_eq
        simp [BitVec.toNat_add, BitVec.toNat_ofNat]
      rw [e1] at h ⊢
      obtain ⟨j, hj1, hj2, hj3⟩ := leads_some ep z hz xs (k + 1) (k0 - 1) L (fun y hy => hm y (List.mem_cons_of_mem _ hy)) (by simpa using hl) (by rw [List.length_cons] at hk; omega) (by
        intro i p hp
        rcases h (i + 1) p (by simpa using hp) with h2 | ⟨h2, h3⟩
        · exact .inl (by simpa using h2)
        · exact .inr ⟨by omega, by simpa using h3⟩)
      refine ⟨j + 1, by omega, by rw [List.length_cons]; omega, ?_⟩
      unfold leads
      rw [get_secP hpm]
      dsimp only
      rw [if_pos ⟨rfl, rfl⟩, List.take_succ_cons, hj3]
      rfl
    · have hb : b = z := by simpa using h1
      subst hb
      refine ⟨0, h0, Nat.zero_le _, ?_⟩
      unfold leads
      rw [hz]
      rfl

/-- A record whose last parts are missing is none. -/
theorem lead_part (ep : BitVec 32) (f : Int) (bs : List (BitVec 8)) (hf : f = 0 ∨ f = 1) (sq : BitVec 32) (j : Nat) (hj : j < (pcs f bs).length) : lead (f == 1) ((parts ep sq (pcs f bs)).take j) = 0 := by
  induction h : bs.length using Nat.strongRecOn generalizing f bs sq j with
  | ind n ih =>
    subst h
    cases j with
    | zero => rfl
    | succ j =>
      rcases Nat.lt_or_ge 493 bs.length with hl | hl
      · rw [Frag.pcs_more hl] at hj ⊢
        rw [parts, List.take_succ_cons, lead]
        have := ih (bs.drop 493).length (by rw [List.length_drop]; omega) 0 (bs.drop 493) (.inl rfl) (sq + 1#32) j (by rw [List.length_cons] at hj; omega) rfl
        rw [show ((0 : Int) == 1) = false from rfl] at this
        rw [this]
        have h2 : Frag.two f = false := by
          rcases hf with rfl | rfl <;> rfl
        dsimp only
        rw [h2]
        simp
      · rw [Frag.pcs_last hl] at hj
        simp at hj
/-- The groups of the first so many parts are those of the first so many records. -/
theorem grp_take (ep : BitVec 32) : ∀ (rs : List (List (BitVec 8))) (sq : BitVec 32) (j : Nat), ∃ r, r ≤ rs.length ∧ (grp ((parts ep sq (pieces rs)).take j)).map (fun g => g.flatMap (·.body)) = rs.take r ∧
    (∀ n, n ≤ rs.length → (pieces (rs.take n)).length ≤ j → n ≤ r)
  | [], sq, j => ⟨0, Nat.le_refl _, by
      have : (parts ep sq (pieces [])).take j = [] := by simp [pieces, parts]
      rw [this, Frag.grp_none rfl]; rfl, fun n hn _ => by simpa using hn⟩
  | b :: rs, sq, j => by
    have e : pieces (b :: rs) = pcs 1 b ++ pieces rs := rfl
    rw [e, parts_app]
    have hlen : (parts ep sq (pcs 1 b)).length = (pcs 1 b).length := Frag.parts_length _ _ _
    by_cases hj : j < (pcs 1 b).length
    · refine ⟨0, Nat.zero_le _, ?_, ?_⟩
      · rw [List.take_append_of_le_length (by omega), Frag.grp_none (by rw [show (true : Bool) = ((1 : Int) == 1) from rfl]; exact lead_part ep 1 b (.inr rfl) sq j hj)]
        rfl
      · intro n hn hp
        cases n with
        | zero => exact Nat.le_refl _
        | succ n =>
          exfalso
          rw [List.take_succ_cons] at hp
          have : pieces (b :: rs.take n) = pcs 1 b ++ pieces (rs.take n) := rfl
          rw [this, List.length_append] at hp
          omega
    · obtain ⟨r, hr1, hr2, hr3⟩ := grp_take ep rs (sq + BitVec.ofNat 32 (pcs 1 b).length) (j - (pcs 1 b).length)
      have htk : (parts ep sq (pcs 1 b) ++ parts ep (sq + BitVec.ofNat 32 (pcs 1 b).length) (pieces rs)).take j = parts ep sq (pcs 1 b) ++ (parts ep (sq + BitVec.ofNat 32 (pcs 1 b).length) (pieces rs)).take (j - (pcs 1 b).length) := by
        rw [List.take_append, hlen, List.take_of_length_le (by omega)]
      have hld : lead true (parts ep sq (pcs 1 b) ++ (parts ep (sq + BitVec.ofNat 32 (pcs 1 b).length) (pieces rs)).take (j - (pcs 1 b).length)) = (pcs 1 b).length := Frag.lead_pcs ep 1 b (.inr rfl) _ sq
      have hpos := Frag.pcs_length_pos 1 b
      refine ⟨r + 1, by rw [List.length_cons]; omega, ?_, ?_⟩
      · rw [htk, Frag.grp_more (by rw [hld]; exact hpos), hld, ← hlen, List.take_left, List.drop_left, List.map_cons, hlen, hr2, Frag.parts_body, Frag.pcs_body, List.take_succ_cons]
      · intro n hn hp
        cases n with
        | zero => exact Nat.zero_le _
        | succ n =>
          rw [List.take_succ_cons] at hp
          have : pieces (b :: rs.take n) = pcs 1 b ++ pieces (rs.take n) := rfl
          rw [this, List.length_append] at hp
          have := hr3 n (by rw [List.length_cons] at hn; omega) (by omega)
          omega
theorem get_zeros : Sector.get Disk.zeros = none := by
  cases h : Sector.get Disk.zeros with
  | none => rfl
  | some p =>
    exfalso
    obtain ⟨_, h2, _⟩ := Sector.get_some h
    have h3 := congrArg (fun l => l.getD 0 0#8) h2
    revert h3
    rw [show (Disk.zeros).getD 0 0#8 = 0#8 from by rw [Disk.zeros, List.getD_eq_getElem?_getD, List.getElem?_replicate]; rfl]
    rw [Sector.sec_eq, Sector.fields, Sector.mark]
    intro h3
    have h4 : (68#8 : BitVec 8) = 0#8 := h3
    exact absurd h4 (by decide)
/-- WHAT IS READ BEHIND A FAILURE: the first so many records, all that were synced among them. -/
theorem read_back (ep : BitVec 32) (rs : List (List (BitVec 8))) (n : Nat) (hn : n ≤ rs.length) (L : List (List (BitVec 8))) (hl : L.length = (ptsOf ep rs).length)
    (h : ∀ i p, (ptsOf ep rs)[i]? = some p → L[i]? = some (secP p) ∨ ((pieces (rs.take n)).length ≤ i ∧ L[i]? = some Disk.zeros)) :
    ∃ r, n ≤ r ∧ r ≤ rs.length ∧ (grp (leads ep 0 L)).map (fun g => g.flatMap (·.body)) = rs.take r := by
  have hle : (pieces (rs.take n)).length ≤ (pieces rs).length := by
    have : pieces rs = pieces (rs.take n) ++ pieces (rs.drop n) := by
      unfold pieces
      rw [← List.flatMap_append, List.take_append_drop]
    rw [this, List.length_append]
    omega
  obtain ⟨j, hj1, hj2, hj3⟩ := leads_some ep Disk.zeros get_zeros (pieces rs) 0 (pieces (rs.take n)).length L (pieces_may rs) (by rw [hl, ptsOf, Frag.parts_length]) hle h
  obtain ⟨r, hr1, hr2, hr3⟩ := grp_take ep rs (BitVec.ofNat 32 0) j
  exact ⟨r, hr3 n hn hj1, hr1, by rw [hj3]; exact hr2⟩
end Go.Proofs.YtdaknfepcbooeaaGreat.Segm
end

section
namespace Go.Proofs.YtdaknfepcbooeaaGreat.Segm
open Go.Proofs.YtdaknfepcbooeaaGreat.Frag (cut)
open Go.Proofs.YtdaknfepcbooeaaGreat.Disk (M there append sync remove)
set_option linter.unusedVariables false
set_option linter.unusedSimpArgs false

/-- A segment: its file, its epoch, how many sectors were written, whether it is broken. -/
structure Gm where
  file : Int
  ep : BitVec 32
  size : Nat
  broken : Bool
/-- One sector appended. -/
def wr1 (m : M) (g : Gm) (b : List (BitVec 8)) : Int × M × Gm :=
  if (append m g.file b).1 = 0 then (0, (append m g.file b).2, { g with size := g.size + 1 }) else ((append m g.file b).1, (append m g.file b).2, { g with broken := true })
/-- Sectors appended, up to an error. -/
def wrs : List (List (BitVec 8)) → M → Gm → Int × M × Gm
  | [], m, g => (0, m, g)
  | b :: L, m, g => if (wr1 m g b).1 = 0 then wrs L (wr1 m g b).2.1 (wr1 m g b).2.2 else wr1 m g b
/-- The sectors of a record. -/
def secsOf (g : Gm) (bs : List (BitVec 8)) : List (List (BitVec 8)) := (cut g.ep (BitVec.ofNat 32 g.size) bs).map secP
def appendS (m : M) (g : Gm) (bs : List (BitVec 8)) : Int × M × Gm :=
  if g.broken then (8, m, g) else if 9860 < bs.length then (3, m, g) else wrs (secsOf g bs) m g
def syncS (m : M) (g : Gm) : Int × M × Gm :=
  if g.broken then (8, m, g) else if g.size = 0 then (0, m, g) else ((sync m g.file).1, (sync m g.file).2, { g with broken := !decide ((sync m g.file).1 = 0) })
/-- Begin: the error, whether there is a segment, the disk. -/
def beginS (m : M) (f : Int) : Int × Bool × M :=
  if m.off then (8, false, m) else if f < 0 then (1, false, m) else if f ∈ m.files then (if (remove m f).1 = 0 then (0, true, (remove m f).2) else ((remove m f).1, false, (remove m f).2)) else (0, true, m)

theorem wr1_ok {m : M} {g : Gm} {b : List (BitVec 8)} (h : (append m g.file b).1 = 0) : wr1 m g b = (0, (append m g.file b).2, { g with size := g.size + 1 }) := if_pos h
theorem wr1_bad {m : M} {g : Gm} {b : List (BitVec 8)} (h : (append m g.file b).1 ≠ 0) : wr1 m g b = ((append m g.file b).1, (append m g.file b).2, { g with broken := true }) := if_neg h
theorem wrs_nil (m : M) (g : Gm) : wrs [] m g = (0, m, g) := rfl
theorem wrs_on {m : M} {g : Gm} {b : List (BitVec 8)} {L : List (List (BitVec 8))} (h : (append m g.file b).1 = 0) : wrs (b :: L) m g = wrs L (append m g.file b).2 { g with size := g.size + 1 } := by
  rw [wrs, wr1_ok h]; rfl
theorem wrs_bad {m : M} {g : Gm} {b : List (BitVec 8)} {L : List (List (BitVec 8))} (h : (append m g.file b).1 ≠ 0) : wrs (b :: L) m g = ((append m g.file b).1, (append m g.file b).2, { g with broken := true }) := by
  rw [wrs, wr1_bad h]; exact if_neg h
theorem append_err (m : M) (f : Int) (b : List (BitVec 8)) : (append m f b).1 = 0 ∨ (append m f b).1 = 1 ∨ (append m f b).1 = 3 ∨ (append m f b).1 = 8 := by
  unfold append
  split
  · exact .inr (.inr (.inr rfl))
  · split
    · exact .inr (.inl rfl)
    · split
      · exact .inr (.inr (.inl rfl))
      · split
        · exact .inr (.inr (.inr rfl))
        · exact .inl rfl
theorem there_err (m : M) (f : Int) : there m f = 0 ∨ there m f = 4 ∨ there m f = 8 := by
  unfold there
  split
  · exact .inr (.inr rfl)
  · split
    · exact .inl rfl
    · exact .inr (.inl rfl)
theorem sync_err (m : M) (f : Int) : (sync m f).1 = 0 ∨ (sync m f).1 = 4 ∨ (sync m f).1 = 8 := by
  unfold sync
  split
  · exact there_err m f
  · split
    · exact .inr (.inr rfl)
    · exact .inl rfl
theorem remove_err (m : M) (f : Int) : (remove m f).1 = 0 ∨ (remove m f).1 = 4 ∨ (remove m f).1 = 8 := by
  unfold remove
  split
  · exact there_err m f
  · split
    · exact .inr (.inr rfl)
    · exact .inl rfl
end Go.Proofs.YtdaknfepcbooeaaGreat.Segm
end

section
namespace Go.Proofs.YtdaknfepcbooeaaGreat.Segm
open Go.Proofs.YtdaknfepcbooeaaGreat.Frag (cut grp pcs)
open Go.Proofs.YtdaknfepcbooeaaGreat.Disk (M Cl Sc rows append sync remove there fails stepped add ins without syncL crash lost up passes pstep pass rowZ uns zeros)
set_option linter.unusedVariables false
set_option linter.unusedSimpArgs false

def kc (f : Int) (b : Bool) (us : List (List (BitVec 8))) : List Cl := us.map fun x => ⟨f, x, b⟩
def ks (b : Bool) (us : List (List (BitVec 8))) : List Sc := us.map fun x => ⟨x, b⟩
/-- The disk with the file f alone: us are synced, bs are not. -/
def KM (r : Nat) (f : Int) (us bs : List (List (BitVec 8))) : M := ⟨r, if us.length + bs.length = 0 then [] else [f], kc f true us ++ kc f false bs, false, none⟩
theorem rows_kc (f : Int) (b : Bool) (us : List (List (BitVec 8))) : rows f (kc f b us) = ks b us := by
  induction us with
  | nil => rfl
  | cons a us ih => unfold kc ks at *; rw [List.map_cons, Disk.rows_cons, if_pos rfl, ih]; rfl
theorem rows_km (r : Nat) (f : Int) (us bs : List (List (BitVec 8))) : rows f (KM r f us bs).l = ks true us ++ ks false bs := by
  show rows f (kc f true us ++ kc f false bs) = _
  rw [Disk.rows_app, rows_kc, rows_kc]
theorem add_fl (f : Int) (n : Nat) : add f (if n = 0 then [] else [f]) = [f] := by
  split <;> simp [add, without, ins]
theorem km_len (r : Nat) (f : Int) (us bs : List (List (BitVec 8))) : (KM r f us bs).l.length = us.length + bs.length := by simp [KM, kc]
theorem append_km {r : Nat} {f : Int} {us bs : List (List (BitVec 8))} (b : List (BitVec 8)) (hf : 0 ≤ f) (hb : b.length = 512) (hr : us.length + bs.length < r) (h2 : us.length + bs.length < 200) : append (KM r f us bs) f b = (0, KM r f us (bs ++ [b])) := by
  have h1 : ¬ (KM r f us bs).off = true := by simp [KM]
  have h3 : ¬ (f < 0 ∨ b.length ≠ 512) := by simp [hb]; exact hf
  have h4 : ¬ ((KM r f us bs).room ≤ (KM r f us bs).l.length ∨ 200 ≤ (rows f (KM r f us bs).l).length) := by
    rw [km_len, rows_km]
    simp [ks, KM]; omega
  unfold append
  rw [if_neg h1, if_neg h3, if_neg h4]
  have h5 : fails (KM r f us bs) = false := rfl
  rw [h5]
  simp only [Bool.false_eq_true, if_false]
  show (_, (⟨r, add f (if us.length + bs.length = 0 then [] else [f]), (kc f true us ++ kc f false bs) ++ [⟨f, b, false⟩], false, none⟩ : M)) = _
  rw [add_fl]
  unfold KM
  rw [if_neg (by rw [List.length_append]; simp)]
  simp [kc]
/-- Sectors appended, where there is room. -/
theorem wrs_km {r : Nat} {f : Int} {us : List (List (BitVec 8))} : ∀ (L bs : List (List (BitVec 8))) (g : Gm), g.file = f → 0 ≤ f → (∀ b ∈ L, b.length = 512) → us.length + bs.length + L.length ≤ r → us.length + bs.length + L.length ≤ 200 →
    wrs L (KM r f us bs) g = (0, KM r f us (bs ++ L), { g with size := g.size + L.length })
  | [], bs, g, _, _, _, _, _ => by rw [wrs_nil, List.append_nil]; rfl
  | b :: L, bs, g, hg, hf, hL, hr, h2 => by
    rw [List.length_cons] at hr h2
    obtain ⟨gf, ge, gz, gb⟩ := g
    dsimp only at hg
    subst hg
    have h := append_km (r := r) (us := us) (bs := bs) b hf (hL b List.mem_cons_self) (by omega) (by omega)
    have h0 : (append (KM r gf us bs) (Gm.mk gf ge gz gb).file b).1 = 0 := by show (append (KM r gf us bs) gf b).1 = 0; rw [h]
    rw [wrs_on h0]
    show wrs L (append (KM r gf us bs) gf b).2 ⟨gf, ge, gz + 1, gb⟩ = _
    rw [h]
    show wrs L (KM r gf us (bs ++ [b])) ⟨gf, ge, gz + 1, gb⟩ = _
    rw [wrs_km L (bs ++ [b]) ⟨gf, ge, gz + 1, gb⟩ rfl hf (fun x hx => hL x (List.mem_cons_of_mem _ hx)) (by rw [List.length_append]; simp; omega) (by rw [List.length_append]; simp; omega)]
    simp only [List.append_assoc, List.singleton_append, List.length_cons, Nat.add_assoc, Nat.add_comm 1]
theorem km_app {r : Nat} {f : Int} {us bs : List (List (BitVec 8))} : there (KM r f us bs) f = if us.length + bs.length = 0 then 4 else 0 := by
  unfold there KM
  rw [if_neg (by simp)]
  by_cases h : us.length + bs.length = 0
  · rw [if_pos h, if_pos h]; rfl
  · rw [if_neg h, if_neg h, if_pos (by simp)]
theorem sync_km {r : Nat} {f : Int} {us bs : List (List (BitVec 8))} (h : 0 < us.length + bs.length) : sync (KM r f us bs) f = (0, KM r f (us ++ bs) []) := by
  have h1 : there (KM r f us bs) f = 0 := by
    rw [km_app, if_neg (by omega)]
  unfold sync
  rw [if_neg (by rw [h1]; simp)]
  have h5 : fails (KM r f us bs) = false := rfl
  rw [h5]
  simp only [Bool.false_eq_true, if_false]
  show (_, (⟨r, if us.length + bs.length = 0 then [] else [f], syncL f (kc f true us ++ kc f false bs), false, none⟩ : M)) = _
  have e : syncL f (kc f true us ++ kc f false bs) = kc f true (us ++ bs) ++ kc f false [] := by
    unfold syncL kc
    simp [List.map_append, List.map_map, Function.comp_def]
  rw [e]
  unfold KM
  rw [List.length_append, List.length_nil, Nat.add_zero]
theorem rowZ_true (keep : List Bool) (n : Nat) : ∀ us : List (List (BitVec 8)), rowZ keep n (ks true us) = ks true us ∧ uns (ks true us) = 0
  | [] => ⟨rfl, rfl⟩
  | a :: us => by
    obtain ⟨h1, h2⟩ := rowZ_true keep n us
    unfold ks at *
    rw [List.map_cons, Disk.rowZ_cons, if_pos rfl, h1, Disk.uns_cons, h2]
    exact ⟨rfl, rfl⟩
theorem rowZ_false (keep : List Bool) (bs : List (List (BitVec 8))) : ∀ (n j : Nat) (y : List (BitVec 8)), bs[j]? = some y → (rowZ keep n (ks false bs))[j]? = some ⟨if keep.getD (n + j) false then y else zeros, false⟩ := by
  induction bs with
  | nil => intro n j y h; simp at h
  | cons b bs ih =>
    intro n j y h
    unfold ks at *
    rw [List.map_cons, Disk.rowZ_cons, if_neg (by simp)]
    cases j with
    | zero => simp at h; subst h; simp
    | succ j =>
      rw [List.getElem?_cons_succ, ih (n + 1) j y (by simpa using h)]
      rw [show n + 1 + j = n + (j + 1) by omega]
/-- The disk behind a failure, with the power on again. -/
def KZ (r : Nat) (f : Int) (us bs : List (List (BitVec 8))) (keep : List Bool) : M := up (crash (KM r f us bs) keep)
theorem kz_there (r : Nat) (f : Int) (us bs : List (List (BitVec 8))) (keep : List Bool) : there (KZ r f us bs keep) f = if us.length + bs.length = 0 then 4 else 0 := by
  rw [← km_app (r := r)]
  rfl
/-- What the file has then: all that were synced; each other one, or zeros. -/
theorem kz_row (r : Nat) (f : Int) (us bs : List (List (BitVec 8))) (keep : List Bool) : ((rows f (KZ r f us bs keep).l).map Sc.b).length = us.length + bs.length ∧
    ∀ i b, (us ++ bs)[i]? = some b → ((rows f (KZ r f us bs keep).l).map Sc.b)[i]? = some (if i < us.length ∨ keep.getD (i - us.length) false = true then b else zeros) := by
  by_cases h0 : us.length + bs.length = 0
  · have hu : us = [] := List.eq_nil_of_length_eq_zero (by omega)
    have hb : bs = [] := List.eq_nil_of_length_eq_zero (by omega)
    subst hu hb
    exact ⟨rfl, fun i b h => by simp at h⟩
  have e : rows f (KZ r f us bs keep).l = (rowZ keep 0 (rows f (kc f true us ++ kc f false bs))).map Sc.syn := by
    have e1 : (KZ r f us bs keep).l = (passes keep (if us.length + bs.length = 0 then [] else [f]) (kc f true us ++ kc f false bs)).2 := rfl
    rw [e1, if_neg h0]
    exact Disk.rows_pass_same keep f 0 _
  obtain ⟨h1, h2⟩ := rowZ_true keep 0 us
  rw [e, Disk.rows_app, rows_kc, rows_kc, Disk.rowZ_app, h1, h2, List.map_map]
  refine ⟨by rw [List.length_map, List.length_append, Disk.rowZ_len, ks, ks, List.length_map, List.length_map], fun i b hi => ?_⟩
  rw [List.getElem?_map]
  have hlu : (ks true us).length = us.length := by simp [ks]
  by_cases hia : i < us.length
  · rw [List.getElem?_append_left hia] at hi
    rw [List.getElem?_append_left (by rw [hlu]; exact hia), ks, List.getElem?_map, hi, if_pos (.inl hia)]
    rfl
  · rw [List.getElem?_append_right (by omega)] at hi
    rw [List.getElem?_append_right (by rw [hlu]; omega), hlu, rowZ_false keep bs _ _ _ hi]
    simp only [Option.map_some, Function.comp, Sc.syn, Nat.zero_add, hia, false_or]
theorem kz_rows (r : Nat) (f : Int) (us bs : List (List (BitVec 8))) (keep : List Bool) : ((rows f (KZ r f us bs keep).l).map Sc.b).length = us.length + bs.length ∧
    ∀ i b, (us ++ bs)[i]? = some b → ((rows f (KZ r f us bs keep).l).map Sc.b)[i]? = some b ∨ (us.length ≤ i ∧ ((rows f (KZ r f us bs keep).l).map Sc.b)[i]? = some zeros) := by
  obtain ⟨h1, h2⟩ := kz_row r f us bs keep
  refine ⟨h1, fun i b hi => ?_⟩
  rw [h2 i b hi]
  split
  · exact .inl rfl
  · next h => exact .inr ⟨by omega, rfl⟩
theorem begin_km (r : Nat) (f : Int) (hf : 0 ≤ f) : beginS ⟨r, [], [], false, none⟩ f = (0, true, KM r f [] []) := by
  unfold beginS
  rw [if_neg (by simp), if_neg (by omega), if_neg (by simp)]
  rfl
theorem secs_512 (g : Gm) (bs : List (BitVec 8)) : ∀ b ∈ secsOf g bs, b.length = 512 := by
  intro b hb
  obtain ⟨p, hp, rfl⟩ := List.mem_map.1 hb
  exact secP_len (cut_may _ _ _ p hp)
/-- The segment's sectors, of records. -/
def secsAll (ep : BitVec 32) (rs : List (List (BitVec 8))) : List (List (BitVec 8)) := (ptsOf ep rs).map secP
theorem secsAll_len (ep : BitVec 32) (rs : List (List (BitVec 8))) : (secsAll ep rs).length = (pieces rs).length := by rw [secsAll, List.length_map, ptsOf, Frag.parts_length]
theorem secsAll_snoc (ep : BitVec 32) (rs : List (List (BitVec 8))) (b : List (BitVec 8)) (f : Int) (br : Bool) : secsAll ep (rs ++ [b]) = secsAll ep rs ++ secsOf ⟨f, ep, (secsAll ep rs).length, br⟩ b := by
  unfold secsAll secsOf
  rw [ptsOf_snoc, List.map_append, List.length_map]
/-- A record appended to a segment that has the sectors of the records before it. -/
theorem append_rec {r : Nat} {f : Int} {ep : BitVec 32} {us vs rs : List (List (BitVec 8))} (b : List (BitVec 8)) (hf : 0 ≤ f) (h : us ++ vs = secsAll ep rs) (hb : b.length ≤ 9860) (hr : (secsAll ep (rs ++ [b])).length ≤ r) (h2 : (secsAll ep (rs ++ [b])).length ≤ 200) :
    ∃ ws, us ++ (vs ++ ws) = secsAll ep (rs ++ [b]) ∧ appendS (KM r f us vs) ⟨f, ep, (secsAll ep rs).length, false⟩ b = (0, KM r f us (vs ++ ws), ⟨f, ep, (secsAll ep (rs ++ [b])).length, false⟩) := by
  have hs := secsAll_snoc ep rs b f false
  have hlen : us.length + vs.length = (secsAll ep rs).length := by rw [← h, List.length_append]
  rw [hs, List.length_append] at hr h2
  refine ⟨secsOf ⟨f, ep, (secsAll ep rs).length, false⟩ b, by rw [hs, ← h, List.append_assoc], ?_⟩
  unfold appendS
  rw [if_neg (by simp), if_neg (by omega), wrs_km _ vs ⟨f, ep, (secsAll ep rs).length, false⟩ rfl hf (secs_512 _ b) (by omega) (by omega), hs, List.length_append]
theorem sync_rec {r : Nat} {f : Int} {ep : BitVec 32} {us vs : List (List (BitVec 8))} (z : Nat) (hz : z = us.length + vs.length) (h0 : 0 < z) : syncS (KM r f us vs) ⟨f, ep, z, false⟩ = (0, KM r f (us ++ vs) [], ⟨f, ep, z, false⟩) := by
  unfold syncS
  rw [if_neg (by simp), if_neg (by dsimp only; omega), sync_km (by omega)]
  rfl
theorem pcs_three (b : List (BitVec 8)) (hb : b.length ≤ 1200) : (pcs 1 b).length ≤ 3 := by
  have := Frag.pcs_length_le 1 b
  omega
theorem pieces_few (rs : List (List (BitVec 8))) (h : ∀ b ∈ rs, b.length ≤ 1200) : (pieces rs).length ≤ 3 * rs.length := by
  induction rs with
  | nil => exact Nat.zero_le _
  | cons b rs ih =>
    have h1 := pcs_three b (h b List.mem_cons_self)
    have h2 := ih fun x hx => h x (List.mem_cons_of_mem _ hx)
    have e : pieces (b :: rs) = pcs 1 b ++ pieces rs := rfl
    rw [e, List.length_append, List.length_cons]
    omega
end Go.Proofs.YtdaknfepcbooeaaGreat.Segm
end
