/-
  Layer 3 (sector), the plain mathematics: a part, its sector, the part of bytes, and why bytes that are turned are no part's sector.
-/
import Derived.Test.YtickagagbdfncaaPackPure
import Derived.Test.YtickagagbdfncaaCrcPure
namespace Go.Proofs.Ytickagagbdfncaa.Sector
open Go.Proofs.Ytickagagbdfncaa.Pack
set_option linter.unusedSimpArgs false

/-- A part. -/
structure Pt where
  epoch : BitVec 32
  seq : BitVec 32
  flags : Int
  body : List (BitVec 8)

/-- May a part with such flags and a body of n bytes be? -/
def mayB (f : Int) (n : Nat) : Bool := decide (0 ≤ f) && decide (f ≤ 3) && decide (n ≤ 493)
def Pt.may (p : Pt) : Bool := mayB p.flags p.body.length
def mark : List (BitVec 8) := [68#8, 86#8, 84#8, 49#8]
def fields (p : Pt) : List (BitVec 8) := mark ++ (num 4 (p.epoch.setWidth 64) ++ (num 4 (p.seq.setWidth 64) ++ (num 1 (BitVec.ofInt 64 p.flags) ++ text p.body)))
def head (p : Pt) : List (BitVec 8) := fields p ++ List.replicate (508 - (fields p).length) 0#8
/-- A word, its least significant byte first. -/
def le4 (x : BitVec 32) : List (BitVec 8) := (num 4 (x.setWidth 64)).reverse
/-- A part's sector. -/
def sec (p : Pt) : List (BitVec 8) := head p ++ le4 (Crc.sum (head p))

theorem text_length (b : List (BitVec 8)) : (text b).length = 2 + b.length := by simp [text, num_length]
theorem fields_length (p : Pt) : (fields p).length = 15 + p.body.length := by
  simp [fields, mark, num_length, text_length]; omega
theorem may_body {p : Pt} (h : p.may = true) : p.body.length ≤ 493 := by simp [Pt.may, mayB] at h; omega
theorem may_flags {p : Pt} (h : p.may = true) : 0 ≤ p.flags ∧ p.flags ≤ 3 := by simp [Pt.may, mayB] at h; omega
theorem head_length {p : Pt} (h : p.may = true) : (head p).length = 508 := by
  have := may_body h
  simp [head, fields_length]; omega
theorem le4_length (x : BitVec 32) : (le4 x).length = 4 := by simp [le4, num_length]
theorem sec_length {p : Pt} (h : p.may = true) : (sec p).length = 512 := by simp [sec, head_length h, le4_length]
theorem sec_take {p : Pt} (h : p.may = true) : (sec p).take 508 = head p := by
  rw [sec, List.take_append_of_le_length (by rw [head_length h]; omega), List.take_of_length_le (by rw [head_length h]; omega)]
theorem sec_drop {p : Pt} (h : p.may = true) : (sec p).drop 508 = le4 (Crc.sum (head p)) := by
  rw [sec, List.drop_append_of_le_length (by rw [head_length h]; omega), List.drop_eq_nil_of_le (by rw [head_length h]; omega)]
  rfl

/-! Reading. -/
/-- What is read of bytes: the beginning's number, the part, the reader behind it. -/
def readAll (st : St) : BitVec 64 × Pt × St :=
  let a := rnum 4 st
  let b := rnum 4 a.2
  let c := rnum 4 b.2
  let d := rnum 1 c.2
  let e := rtext d.2
  (a.1, ⟨b.1.setWidth 32, c.1.setWidth 32, (d.1.toNat : Int), e.1⟩, e.2)
def parse (bs : List (BitVec 8)) : Pt := (readAll (some bs)).2.1
/-- The part whose sector the bytes are. -/
def get (bs : List (BitVec 8)) : Option Pt := if bs.length = 512 ∧ (parse bs).may = true ∧ sec (parse bs) = bs then some (parse bs) else none

theorem width32 (x : BitVec 32) : (x.setWidth 64).setWidth 32 = x := by
  apply BitVec.eq_of_toNat_eq
  rw [BitVec.toNat_setWidth, BitVec.toNat_setWidth]
  have := x.isLt
  omega
theorem width32_lt (x : BitVec 32) : (x.setWidth 64).toNat < 256 ^ 4 := by
  rw [BitVec.toNat_setWidth]
  have := x.isLt
  omega
theorem flags_toNat {f : Int} (h0 : 0 ≤ f) (h3 : f ≤ 3) : ((BitVec.ofInt 64 f).toNat : Int) = f := by
  rw [BitVec.toNat_ofInt]; omega
theorem markVal : val mark = 1146508337#64 := by decide

theorem readAll_fields (p : Pt) (h : p.may = true) (r : List (BitVec 8)) : readAll (some (fields p ++ r)) = (1146508337#64, p, some r) := by
  have hb := may_body h
  obtain ⟨f0, f3⟩ := may_flags h
  have e1 : rnum 4 (some (fields p ++ r)) = (val mark, some (num 4 (p.epoch.setWidth 64) ++ ((num 4 (p.seq.setWidth 64) ++ (num 1 (BitVec.ofInt 64 p.flags) ++ text p.body)) ++ r))) := by
    have := rnum_ok 4 mark (num 4 (p.epoch.setWidth 64) ++ (num 4 (p.seq.setWidth 64) ++ (num 1 (BitVec.ofInt 64 p.flags) ++ text p.body)) ++ r) (by decide) (by decide) rfl
    simpa [fields, List.append_assoc] using this
  have e2 : rnum 4 (some (num 4 (p.epoch.setWidth 64) ++ ((num 4 (p.seq.setWidth 64) ++ (num 1 (BitVec.ofInt 64 p.flags) ++ text p.body)) ++ r))) = (p.epoch.setWidth 64, some (num 4 (p.seq.setWidth 64) ++ ((num 1 (BitVec.ofInt 64 p.flags) ++ text p.body) ++ r))) := by
    have := rnum_ok 4 (num 4 (p.epoch.setWidth 64)) ((num 4 (p.seq.setWidth 64) ++ (num 1 (BitVec.ofInt 64 p.flags) ++ text p.body)) ++ r) (by decide) (by decide) (num_length _ _)
    rw [val_num 4 _ (by decide) (width32_lt _)] at this
    simpa [List.append_assoc] using this
  have e3 : rnum 4 (some (num 4 (p.seq.setWidth 64) ++ ((num 1 (BitVec.ofInt 64 p.flags) ++ text p.body) ++ r))) = (p.seq.setWidth 64, some (num 1 (BitVec.ofInt 64 p.flags) ++ (text p.body ++ r))) := by
    have := rnum_ok 4 (num 4 (p.seq.setWidth 64)) ((num 1 (BitVec.ofInt 64 p.flags) ++ text p.body) ++ r) (by decide) (by decide) (num_length _ _)
    rw [val_num 4 _ (by decide) (width32_lt _)] at this
    simpa [List.append_assoc] using this
  have e4 : rnum 1 (some (num 1 (BitVec.ofInt 64 p.flags) ++ (text p.body ++ r))) = (BitVec.ofInt 64 p.flags, some (text p.body ++ r)) := by
    have := rnum_ok 1 (num 1 (BitVec.ofInt 64 p.flags)) (text p.body ++ r) (by decide) (by decide) (num_length _ _)
    rw [val_num 1 _ (by decide) (by have := flags_toNat f0 f3; omega)] at this
    simpa using this
  have e5 := rtext_ok p.body r (by omega)
  simp only [readAll, e1, e2, e3, e4, e5, markVal, width32, flags_toNat f0 f3]
theorem sec_eq (p : Pt) : sec p = fields p ++ (List.replicate (508 - (fields p).length) 0#8 ++ le4 (Crc.sum (head p))) := by
  rw [sec]
  conv => lhs; arg 1; rw [head]
  rw [List.append_assoc]
theorem parse_sec (p : Pt) (h : p.may = true) : parse (sec p) = p := by
  rw [parse, sec_eq, readAll_fields p h]
theorem get_sec (p : Pt) (h : p.may = true) : get (sec p) = some p := by
  rw [get, parse_sec p h, if_pos ⟨sec_length h, h, rfl⟩]
theorem get_some {bs : List (BitVec 8)} {p : Pt} (hg : get bs = some p) : p.may = true ∧ sec p = bs ∧ parse bs = p := by
  rw [get] at hg
  split at hg
  · next hc =>
    injection hg with hg
    subst hg
    exact ⟨hc.2.1, hc.2.2, rfl⟩
  · cases hg
theorem get_iff (bs : List (BitVec 8)) (p : Pt) : get bs = some p ↔ p.may = true ∧ sec p = bs :=
  ⟨fun h => ⟨(get_some h).1, (get_some h).2.1⟩, fun ⟨h, e⟩ => by subst e; exact get_sec p h⟩

/-! What is turned. -/
theorem feed_xor (R x : BitVec 32) : Crc.feed R x.getLsbD 32 = Crc.steps 32 (R ^^^ x) := by
  have := Crc.feed_diff R (fun _ => false) x.getLsbD 32
  simp only [Bool.false_xor] at this
  rw [show Crc.feed R x.getLsbD 32 = Crc.feed R (fun i => x.getLsbD i) 32 from rfl, this, Crc.feed_false, Crc.feed_word x 32 (Nat.le_refl _), Crc.low_all, Crc.steps_xor]
theorem le4_bits (x : BitVec 32) (i : Nat) (hi : i < 32) : Crc.bitAt (le4 x) i = x.getLsbD i := by
  have hl := num_length 4 (x.setWidth 64)
  have hk : i / 8 < 4 := by omega
  have e : (le4 x).getD (i / 8) 0#8 = (x.setWidth 64 >>> (8 * (i / 8))).setWidth 8 := by
    rw [le4, List.getD_eq_getElem?_getD, List.getElem?_reverse (by omega), ← List.getD_eq_getElem?_getD, num_byte 4 _ _ (by omega)]
    congr 3
    omega
  rw [Crc.bitAt, e, BitVec.getLsbD_setWidth, BitVec.getLsbD_ushiftRight, BitVec.getLsbD_setWidth]
  have e2 : 8 * (i / 8) + i % 8 = i := by omega
  have h8 : i % 8 < 8 := by omega
  have h64 : i < 64 := by omega
  rw [e2]
  simp [h8, h64]
theorem ext_le4 (R x : BitVec 32) : Crc.ext R (le4 x) = Crc.steps 32 (R ^^^ x) := by
  rw [Crc.ext_feed, le4_length, Crc.feed_congr R (Crc.bitAt (le4 x)) x.getLsbD (8 * 4) (fun i hi => le4_bits x i (by omega))]
  exact feed_xor R x
/-- All sectors have one sum. -/
theorem sum_sec (p : Pt) : Crc.sum (sec p) = ~~~ Crc.steps 32 (BitVec.allOnes 32) := by
  rw [Crc.sum, sec, ← Crc.ext_append, ext_le4, Crc.sum]
  congr 2
  generalize Crc.ext 4294967295#32 (head p) = R
  rw [← BitVec.allOnes_xor, BitVec.xor_comm (BitVec.allOnes 32), ← BitVec.xor_assoc, BitVec.xor_self, BitVec.zero_xor]
/-- A SECTOR THAT IS TURNED within 32 bits that stand together is no part's. -/
theorem get_turned (p : Pt) (h : p.may = true) (bs : List (BitVec 8)) (t : BitVec 32) (n : Nat) (hl : bs.length = 512) (hn : n + 32 ≤ 4096) (ht : t ≠ 0#32)
    (hb : ∀ i, i < 4096 → Crc.bitAt bs i = (Crc.bitAt (sec p) i ^^ (decide (n ≤ i) && t.getLsbD (i - n)))) : get bs = none := by
  cases hg : get bs with
  | none => rfl
  | some q =>
    exfalso
    obtain ⟨_, e, _⟩ := get_some hg
    have hs := sec_length h
    refine Crc.sum_burst bs (sec p) t n (by omega) (by omega) ht (fun i hi => hb i (by omega)) ?_
    rw [← e, sum_sec, sum_sec]

/-! The document's own reading. -/
theorem num_val (k : Nat) : ∀ bs : List (BitVec 8), bs.length = k → k ≤ 8 → num k (val bs) = bs := by
  induction k with
  | zero => intro bs h _; rw [List.eq_nil_of_length_eq_zero h]; rfl
  | succ k ih =>
    intro bs h hk
    rcases rev_cases bs with rfl | ⟨l, b, rfl⟩
    · simp at h
    · have hl : l.length = k := by simpa using h
      have h1 := val_toNat k l hl (by omega)
      have h2 := valN_lt k l hl
      have hb := b.isLt
      have h3 : (256 : Nat) ^ k ≤ 256 ^ 7 := Nat.pow_le_pow_right (by decide) (by omega)
      have e7 : (256 : Nat) ^ 7 = 72057594037927936 := by decide
      have e256 : (256#64).toNat = 256 := rfl
      have en : (val (l ++ [b])).toNat = 256 * (val l).toNat + b.toNat := by
        rw [val_snoc, or_add, BitVec.toNat_add, BitVec.toNat_mul, BitVec.toNat_setWidth, e256]
        omega
      have s1 : val (l ++ [b]) >>> 8 = val l := by
        apply BitVec.eq_of_toNat_eq
        rw [BitVec.toNat_ushiftRight, Nat.shiftRight_eq_div_pow, en]
        omega
      have s2 : (val (l ++ [b])).setWidth 8 = b := by
        apply BitVec.eq_of_toNat_eq
        rw [BitVec.toNat_setWidth, en]
        omega
      rw [num, s1, s2, ih l hl (by omega)]
/-- A word out of its bytes, the least significant one first. -/
def leVal (bs : List (BitVec 8)) : BitVec 32 := bs.foldr (fun b a => 256#32 * a + b.setWidth 32) 0#32
theorem leVal_le4 (x : BitVec 32) : leVal (le4 x) = x := by
  simp only [le4, num, List.nil_append, List.append_assoc, List.cons_append, List.reverse_cons, List.reverse_nil, leVal, List.foldr_cons, List.foldr_nil]
  apply BitVec.eq_of_toNat_eq
  simp only [BitVec.toNat_add, BitVec.toNat_mul, BitVec.toNat_setWidth, BitVec.toNat_ushiftRight, BitVec.toNat_ofNat, Nat.shiftRight_eq_div_pow]
  have := x.isLt
  omega
theorem le4_leVal (bs : List (BitVec 8)) (h : bs.length = 4) : le4 (leVal bs) = bs := by
  obtain ⟨a, b, c, d, rfl⟩ : ∃ a b c d, bs = [a, b, c, d] := by
    match bs, h with
    | [a, b, c, d], _ => exact ⟨a, b, c, d, rfl⟩
  have ha := a.isLt
  have hb := b.isLt
  have hc := c.isLt
  have hd := d.isLt
  have e : (leVal [a, b, c, d]).toNat = a.toNat + 256 * b.toNat + 65536 * c.toNat + 16777216 * d.toNat := by
    simp only [leVal, List.foldr_cons, List.foldr_nil, BitVec.toNat_add, BitVec.toNat_mul, BitVec.toNat_setWidth, BitVec.toNat_ofNat]
    omega
  generalize leVal [a, b, c, d] = X at e
  simp only [le4, num, List.nil_append, List.append_assoc, List.cons_append, List.reverse_cons, List.reverse_nil]
  congr 1
  · apply BitVec.eq_of_toNat_eq
    simp only [BitVec.toNat_setWidth, BitVec.toNat_ushiftRight, Nat.shiftRight_eq_div_pow]
    omega
  congr 1
  · apply BitVec.eq_of_toNat_eq
    simp only [BitVec.toNat_setWidth, BitVec.toNat_ushiftRight, Nat.shiftRight_eq_div_pow]
    omega
  congr 1
  · apply BitVec.eq_of_toNat_eq
    simp only [BitVec.toNat_setWidth, BitVec.toNat_ushiftRight, Nat.shiftRight_eq_div_pow]
    omega
  congr 1
  · apply BitVec.eq_of_toNat_eq
    simp only [BitVec.toNat_setWidth, BitVec.toNat_ushiftRight, Nat.shiftRight_eq_div_pow]
    omega

/-- What the document asks of 512 bytes, of which the first 508 read as 'x'. -/
def RefOk (bs : List (BitVec 8)) (x : BitVec 64 × Pt × St) : Prop :=
  ∃ r, x.2.2 = some r ∧ x.1 = 1146508337#64 ∧ x.2.1.flags ≤ 3 ∧ x.2.1.body.length ≤ 493 ∧ (∀ b ∈ r, b = 0#8) ∧ leVal (bs.drop 508) = Crc.sum (bs.take 508)

theorem rnum_inv {k : Nat} {st : St} {v : BitVec 64} {r : List (BitVec 8)} (hk : 1 ≤ k) (hk8 : k ≤ 8) (h : rnum k st = (v, some r)) : st = some (num k v ++ r) := by
  have ho : okSize (k : Int) = true := by simp [okSize]; omega
  rw [rnum_next _ _ ho, Int.toNat_natCast] at h
  cases st with
  | none => simp [rnext] at h
  | some l =>
    by_cases hl : k ≤ l.length
    · simp only [rnext, if_pos hl, Prod.mk.injEq, Option.some.injEq] at h
      obtain ⟨rfl, rfl⟩ := h
      rw [num_val k _ (by rw [List.length_take]; omega) hk8, List.take_append_drop]
    · simp [rnext, hl] at h
theorem rtext_inv {st : St} {b r : List (BitVec 8)} (h : rtext st = (b, some r)) : st = some (text b ++ r) := by
  rw [rtext] at h
  cases hn : rnum 2 st with
  | mk v s =>
    rw [hn] at h
    cases s with
    | none => simp [rnext] at h
    | some l =>
      have hi := rnum_inv (k := 2) (by decide) (by decide) hn
      by_cases hl : v.toNat ≤ l.length
      · simp only [rnext, if_pos hl, Prod.mk.injEq, Option.some.injEq] at h
        obtain ⟨rfl, rfl⟩ := h
        have e : (l.take v.toNat).length = v.toNat := by rw [List.length_take]; omega
        rw [hi, text, e, BitVec.ofNat_toNat, BitVec.setWidth_eq, List.append_assoc, List.take_append_drop]
      · simp [rnext, hl] at h
theorem rnum_small (k : Nat) (st : St) (hk : 1 ≤ k) (hk8 : k ≤ 8) : (rnum k st).1.toNat < 256 ^ k := by
  have ho : okSize (k : Int) = true := by simp [okSize]; omega
  rw [rnum_next _ _ ho, Int.toNat_natCast]
  have hl : (rnext k st).1.length ≤ k := by
    cases st with
    | none => simp [rnext]
    | some r => by_cases hkr : k ≤ r.length <;> simp [rnext, hkr]
  have h2 := valN_lt _ (rnext k st).1 rfl
  have h3 : (256 : Nat) ^ (rnext k st).1.length ≤ 256 ^ k := Nat.pow_le_pow_right (by decide) hl
  have h4 := val_toNat _ (rnext k st).1 rfl (by omega)
  show (val (rnext k st).1).toNat < _
  omega

theorem rnum_none (k : Int) : rnum k none = (0#64, none) := rfl
theorem rtext_none : rtext none = ([], none) := rfl
theorem width64 (v : BitVec 64) (h : v.toNat < 256 ^ 4) : (v.setWidth 32).setWidth 64 = v := by
  apply BitVec.eq_of_toNat_eq
  rw [BitVec.toNat_setWidth, BitVec.toNat_setWidth]
  have := v.isLt
  omega
theorem readAll_inv {st : St} {p : Pt} {r : List (BitVec 8)} (h : readAll st = (1146508337#64, p, some r)) : st = some (fields p ++ r) := by
  simp only [readAll] at h
  cases ha : rnum 4 st with | mk va sa =>
  cases hb : rnum 4 sa with | mk vb sb =>
  cases hc : rnum 4 sb with | mk vc sc =>
  cases hd : rnum 1 sc with | mk vd sd =>
  cases he : rtext sd with | mk ve se =>
  simp only [ha, hb, hc, hd, he, Prod.mk.injEq] at h
  obtain ⟨rfl, hp, rfl⟩ := h
  have i5 := rtext_inv he
  subst i5
  have i4 := rnum_inv (k := 1) (by decide) (by decide) hd
  have n4 := rnum_small 1 sc (by decide) (by decide)
  subst i4
  have i3 := rnum_inv (k := 4) (by decide) (by decide) hc
  have n3 := rnum_small 4 sb (by decide) (by decide)
  subst i3
  have i2 := rnum_inv (k := 4) (by decide) (by decide) hb
  have n2 := rnum_small 4 sa (by decide) (by decide)
  subst i2
  have i1 := rnum_inv (k := 4) (by decide) (by decide) ha
  subst i1
  subst hp
  have em : num 4 1146508337#64 = mark := by decide
  rw [show ((1 : Nat) : Int) = 1 from rfl, hd] at n4
  rw [show ((4 : Nat) : Int) = 4 from rfl, hc] at n3
  rw [show ((4 : Nat) : Int) = 4 from rfl, hb] at n2
  simp only at n2 n3 n4
  have ef : BitVec.ofInt 64 (vd.toNat : Int) = vd := by rw [BitVec.ofInt_natCast, BitVec.ofNat_toNat, BitVec.setWidth_eq]
  simp only [fields, em, width64 _ n2, width64 _ n3, ef, List.append_assoc]

theorem replicate_of {l : List (BitVec 8)} (h : ∀ b ∈ l, b = 0#8) : l = List.replicate l.length 0#8 := List.eq_replicate_iff.2 ⟨rfl, h⟩
/-- THE DOCUMENT's READING IS THE PART's. -/
theorem ref_get (bs : List (BitVec 8)) (hl : bs.length = 512) (p : Pt) : (RefOk bs (readAll (some (bs.take 508))) ∧ (readAll (some (bs.take 508))).2.1 = p) ↔ get bs = some p := by
  rw [get_iff]
  constructor
  · rintro ⟨⟨r, h1, h2, h3, h4, h5, h6⟩, h7⟩
    have hx : readAll (some (bs.take 508)) = (1146508337#64, p, some r) := by
      rw [← h1, ← h2, ← h7]
    rw [h7] at h3 h4
    have h0 : 0 ≤ p.flags := by rw [← h7]; simp [readAll]
    have hm : p.may = true := by simp [Pt.may, mayB]; omega
    have hi := readAll_inv hx
    injection hi with hi
    have hrl : r.length = 508 - (fields p).length := by
      have := congrArg List.length hi
      rw [List.length_take, List.length_append] at this
      omega
    have hh : head p = bs.take 508 := by
      rw [hi, head, ← hrl, ← replicate_of h5]
    refine ⟨hm, ?_⟩
    rw [sec, hh, ← h6, le4_leVal _ (by rw [List.length_drop]; omega), List.take_append_drop]
  · rintro ⟨hm, rfl⟩
    have e := readAll_fields p hm (List.replicate (508 - (fields p).length) 0#8)
    rw [sec_take hm, show head p = fields p ++ List.replicate (508 - (fields p).length) 0#8 from rfl, e]
    refine ⟨⟨_, rfl, rfl, (may_flags hm).2, may_body hm, fun b hb => (List.mem_replicate.1 hb).2, ?_⟩, rfl⟩
    rw [sec_drop hm, sec_take hm]
    exact leVal_le4 _
end Go.Proofs.Ytickagagbdfncaa.Sector
