/-
  Plain mathematics of CRC-32 registers over bit vectors: no program is named here.
-/
namespace Go.Proofs.Ytickagagbdfncaa.Crc

/-- One shift of the register, with the taps where a 1 leaves it. -/
def step (r : BitVec 32) : BitVec 32 := (r >>> 1) ^^^ (if r.getLsbD 0 then 0xEDB88320#32 else 0#32)
/-- One bit fed. -/
def fbit (r : BitVec 32) (b : Bool) : BitVec 32 := step (r ^^^ (if b then 1#32 else 0#32))
/-- The first k bits of a byte fed, the least significant one first. -/
def fbits : Nat → BitVec 32 → BitVec 8 → BitVec 32
  | 0, r, _ => r
  | k + 1, r, x => fbit (fbits k r x) (x.getLsbD k)
def fbyte (r : BitVec 32) (x : BitVec 8) : BitVec 32 := fbits 8 r x
def ext (r : BitVec 32) (bs : List (BitVec 8)) : BitVec 32 := bs.foldl fbyte r
def sum (bs : List (BitVec 8)) : BitVec 32 := ~~~ ext 0xFFFFFFFF#32 bs

theorem ext_append (r : BitVec 32) (a b : List (BitVec 8)) : ext (ext r a) b = ext r (a ++ b) := by
  simp [ext, List.foldl_append]
theorem ext_snoc (r : BitVec 32) (a : List (BitVec 8)) (x : BitVec 8) : ext r (a ++ [x]) = fbyte (ext r a) x := by
  simp [ext, List.foldl_append]

/-! The register's step is linear, and hides nothing. -/
theorem xlc (a b c : BitVec 32) : a ^^^ (b ^^^ c) = b ^^^ (a ^^^ c) := by
  rw [← BitVec.xor_assoc, BitVec.xor_comm a b, BitVec.xor_assoc]
theorem step_xor (a b : BitVec 32) : step (a ^^^ b) = step a ^^^ step b := by
  unfold step
  rw [BitVec.ushiftRight_xor_distrib, BitVec.getLsbD_xor]
  cases a.getLsbD 0 <;> cases b.getLsbD 0 <;> simp [BitVec.xor_assoc, BitVec.xor_comm, xlc]
theorem step_zero : step 0#32 = 0#32 := by decide
theorem step_ne (a : BitVec 32) (h : a ≠ 0#32) : step a ≠ 0#32 := by
  intro hs
  apply h
  unfold step at hs
  have h31 := congrArg (fun v => BitVec.getLsbD v 31) hs
  simp only [BitVec.getLsbD_xor, BitVec.getLsbD_ushiftRight] at h31
  cases ha : a.getLsbD 0
  · rw [ha] at hs
    simp at hs
    apply BitVec.eq_of_getLsbD_eq
    intro i hi
    cases i with
    | zero => simpa using ha
    | succ i =>
      have := congrArg (fun v => BitVec.getLsbD v i) hs
      simpa [BitVec.getLsbD_ushiftRight, Nat.add_comm] using this
  · rw [ha] at h31
    simp [BitVec.getLsbD_of_ge] at h31

def steps : Nat → BitVec 32 → BitVec 32
  | 0, r => r
  | k + 1, r => step (steps k r)
theorem steps_xor (k : Nat) (a b : BitVec 32) : steps k (a ^^^ b) = steps k a ^^^ steps k b := by
  induction k with
  | zero => rfl
  | succ k ih => simp [steps, ih, step_xor]
theorem steps_zero (k : Nat) : steps k 0#32 = 0#32 := by
  induction k with
  | zero => rfl
  | succ k ih => simp [steps, ih, step_zero]
theorem steps_ne (k : Nat) (a : BitVec 32) (h : a ≠ 0#32) : steps k a ≠ 0#32 := by
  induction k with
  | zero => exact h
  | succ k ih => exact step_ne _ ih

/-! A stream of bits fed. -/
def feed (r : BitVec 32) (f : Nat → Bool) : Nat → BitVec 32
  | 0 => r
  | n + 1 => fbit (feed r f n) (f n)
def bitOf (b : Bool) : BitVec 32 := if b then 1#32 else 0#32
theorem fbit_eq (r : BitVec 32) (b : Bool) : fbit r b = step r ^^^ step (bitOf b) := by
  unfold fbit bitOf; rw [step_xor]
theorem bitOf_xor (a b : Bool) : bitOf (a ^^ b) = bitOf a ^^^ bitOf b := by cases a <;> cases b <;> decide
theorem feed_diff (r : BitVec 32) (f d : Nat → Bool) (n : Nat) : feed r (fun i => f i ^^ d i) n = feed r f n ^^^ feed 0#32 d n := by
  induction n with
  | zero => simp [feed]
  | succ n ih =>
    simp only [feed, fbit_eq, ih, bitOf_xor, step_xor]
    simp only [BitVec.xor_assoc, BitVec.xor_comm, xlc]
theorem feed_congr (r : BitVec 32) (f g : Nat → Bool) (n : Nat) (h : ∀ i, i < n → f i = g i) : feed r f n = feed r g n := by
  induction n with
  | zero => rfl
  | succ n ih => simp only [feed]; rw [ih (fun i hi => h i (by omega)), h n (by omega)]
theorem feed_add (r : BitVec 32) (f : Nat → Bool) (m n : Nat) : feed r f (m + n) = feed (feed r f m) (fun i => f (m + i)) n := by
  induction n with
  | zero => rfl
  | succ n ih => rw [← Nat.add_assoc]; simp only [feed, ih]
theorem feed_false (r : BitVec 32) (n : Nat) : feed r (fun _ => false) n = steps n r := by
  induction n with
  | zero => rfl
  | succ n ih => simp [feed, steps, ih, fbit]

/-- Only the k low bits. -/
def low (t : BitVec 32) (k : Nat) : BitVec 32 := t &&& BitVec.ofNat 32 (2 ^ k - 1)
theorem low_succ (t : BitVec 32) (k : Nat) (hk : k < 32) : low t (k + 1) = low t k ^^^ (bitOf (t.getLsbD k) <<< k) := by
  apply BitVec.eq_of_getLsbD_eq
  intro i hi
  simp only [low, BitVec.getLsbD_and, BitVec.getLsbD_xor, BitVec.getLsbD_ofNat, Nat.testBit_two_pow_sub_one, BitVec.getLsbD_shiftLeft]
  rcases Nat.lt_trichotomy i k with h | h | h
  · simp [hi, h, Nat.lt_succ_of_lt h]
  · subst h; cases hb : t.getLsbD i <;> simp [bitOf, hi]
  · have h1 : ¬ i < k := by omega
    have h2 : ¬ i < k + 1 := by omega
    have h3 : i - k ≠ 0 := by omega
    cases hb : t.getLsbD k <;> simp [bitOf, h1, h2, h3, hi]
theorem steps_one : ∀ k : Fin 32, steps k.val (1#32 <<< k.val) = 1#32 := by decide +kernel
theorem steps_bit (k : Nat) (hk : k < 32) (b : Bool) : steps k (bitOf b <<< k) = bitOf b := by
  cases b
  · simp [bitOf, steps_zero]
  · exact steps_one ⟨k, hk⟩
theorem feed_word (t : BitVec 32) (k : Nat) (hk : k ≤ 32) : feed 0#32 t.getLsbD k = steps k (low t k) := by
  induction k with
  | zero => simp [feed, steps, low]
  | succ k ih =>
    simp only [feed, steps]
    rw [ih (by omega), low_succ t k (by omega), steps_xor, steps_bit k (by omega), step_xor, fbit_eq]
theorem low_all (t : BitVec 32) : low t 32 = t := by
  apply BitVec.eq_of_getLsbD_eq
  intro i hi
  simp only [low, BitVec.getLsbD_and, BitVec.getLsbD_ofNat, Nat.testBit_two_pow_sub_one]
  simp [hi]

/-- What is turned within 32 bits that stand together is seen. -/
theorem feed_burst (r : BitVec 32) (f : Nat → Bool) (t : BitVec 32) (ht : t ≠ 0#32) (n m : Nat) :
    feed r (fun i => f i ^^ (decide (n ≤ i) && t.getLsbD (i - n))) (n + 32 + m) ≠ feed r f (n + 32 + m) := by
  rw [feed_diff r f (fun i => decide (n ≤ i) && t.getLsbD (i - n))]
  intro h
  have h0 : feed 0#32 (fun i => decide (n ≤ i) && t.getLsbD (i - n)) (n + 32 + m) = 0#32 := by
    have := congrArg (feed r f (n + 32 + m) ^^^ ·) h
    simpa [← BitVec.xor_assoc] using this
  have e1 : feed 0#32 (fun i => decide (n ≤ i) && t.getLsbD (i - n)) n = 0#32 := by
    rw [feed_congr _ _ (fun _ => false) n (fun i hi => by simp; omega), feed_false, steps_zero]
  have e2 : feed 0#32 (fun i => decide (n ≤ i) && t.getLsbD (i - n)) (n + 32) = steps 32 t := by
    rw [feed_add, e1, feed_congr _ _ t.getLsbD 32 (fun i _ => by simp), feed_word t 32 (Nat.le_refl _), low_all]
  rw [feed_add, e2, feed_congr _ _ (fun _ => false) m (fun i _ => by simp [show n + 32 + i - n = 32 + i from by omega]), feed_false] at h0
  exact steps_ne m _ (steps_ne 32 t ht) h0

/-! Bytes as a stream of bits. -/
def bitAt (bs : List (BitVec 8)) (i : Nat) : Bool := (bs.getD (i / 8) 0#8).getLsbD (i % 8)
theorem fbits_feed (k : Nat) (hk : k ≤ 8) (r : BitVec 32) (x : BitVec 8) : fbits k r x = feed r x.getLsbD k := by
  induction k with
  | zero => rfl
  | succ k ih => simp only [fbits, feed]; rw [ih (by omega)]
theorem ext_feed (r : BitVec 32) (bs : List (BitVec 8)) : ext r bs = feed r (bitAt bs) (8 * bs.length) := by
  induction bs generalizing r with
  | nil => rfl
  | cons x bs ih =>
    show ext (fbyte r x) bs = _
    rw [ih, fbyte, fbits_feed 8 (Nat.le_refl _), show 8 * (x :: bs).length = 8 + 8 * bs.length from by simp; omega, feed_add]
    rw [feed_congr r (bitAt (x :: bs)) x.getLsbD 8 (fun i hi => by simp [bitAt, Nat.div_eq_of_lt hi, Nat.mod_eq_of_lt hi])]
    apply feed_congr
    intro i _
    simp [bitAt, show (8 + i) / 8 = i / 8 + 1 from by omega]

/-- BYTES THAT ARE ALIKE BUT WITHIN 32 BITS that stand together have unlike sums. -/
theorem sum_burst (a b : List (BitVec 8)) (t : BitVec 32) (n : Nat) (hl : a.length = b.length) (hn : n + 32 ≤ 8 * b.length) (ht : t ≠ 0#32)
    (h : ∀ i, i < 8 * b.length → bitAt a i = (bitAt b i ^^ (decide (n ≤ i) && t.getLsbD (i - n)))) : sum a ≠ sum b := by
  intro hs
  have hs' : ext 0xFFFFFFFF#32 a = ext 0xFFFFFFFF#32 b := BitVec.not_inj.mp hs
  rw [ext_feed, ext_feed, hl, feed_congr _ _ _ _ h, show 8 * b.length = n + 32 + (8 * b.length - (n + 32)) from by omega] at hs'
  exact feed_burst _ _ t ht n _ hs'
end Go.Proofs.Ytickagagbdfncaa.Crc
