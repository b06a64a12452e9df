/-
  Layer 4 (frag), the mathematics: records cut into parts, parts joined to records.
-/
import GoSem.Claim
import Derived.Laws.BitsLemmas
namespace Go.Proofs.Ytmchpakefddinaa.Frag

/-- A part. -/
structure Pt where
  epoch : BitVec 32
  seq : BitVec 32
  flags : Int
  body : List (BitVec 8)

/-- The flags and the bodies of the parts of a record; f: the first one's flags, if it isn't the last. -/
def pcs (f : Int) (bs : List (BitVec 8)) : List (Int × List (BitVec 8)) :=
  if bs.length ≤ 493 then [(f + 2, bs)] else (f, bs.take 493) :: pcs 0 (bs.drop 493)
termination_by bs.length
decreasing_by rw [List.length_drop]; omega

theorem pcs_last {f : Int} {bs : List (BitVec 8)} (h : bs.length ≤ 493) : pcs f bs = [(f + 2, bs)] := by rw [pcs, if_pos h]
theorem pcs_more {f : Int} {bs : List (BitVec 8)} (h : 493 < bs.length) : pcs f bs = (f, bs.take 493) :: pcs 0 (bs.drop 493) := by rw [pcs, if_neg (by omega)]

/-- Parts, numbered. -/
def parts (ep sq : BitVec 32) : List (Int × List (BitVec 8)) → List Pt
  | [] => []
  | x :: xs => ⟨ep, sq, x.1, x.2⟩ :: parts ep (sq + 1#32) xs
theorem parts_length (ep : BitVec 32) : ∀ (sq : BitVec 32) (xs : List (Int × List (BitVec 8))), (parts ep sq xs).length = xs.length
  | _, [] => rfl
  | sq, x :: xs => by rw [parts, List.length_cons, List.length_cons, parts_length ep (sq + 1#32) xs]
theorem parts_snoc (ep : BitVec 32) (x : Int × List (BitVec 8)) : ∀ (sq : BitVec 32) (xs : List (Int × List (BitVec 8))), parts ep sq (xs ++ [x]) = parts ep sq xs ++ [⟨ep, sq + BitVec.ofNat 32 xs.length, x.1, x.2⟩]
  | sq, [] => by simp [parts]
  | sq, y :: ys => by
    rw [List.cons_append, parts, parts_snoc ep x (sq + 1#32) ys, parts, List.cons_append]
    have e : sq + 1#32 + BitVec.ofNat 32 ys.length = sq + BitVec.ofNat 32 (y :: ys).length := by
      rw [List.length_cons, BitVec.add_assoc]
      congr 1
      rw [Nat.add_comm, BitVec.ofNat_add]
    rw [e]
/-- The parts of a record. -/
def cut (ep sq : BitVec 32) (bs : List (BitVec 8)) : List Pt := parts ep sq (pcs 1 bs)

theorem pcs_length_pos (f : Int) (bs : List (BitVec 8)) : 0 < (pcs f bs).length := by
  rw [pcs]; split <;> simp
set_option maxRecDepth 10000 in
theorem pcs_length_le (f : Int) (bs : List (BitVec 8)) : (pcs f bs).length * 493 ≤ bs.length + 493 := by
  induction h : bs.length using Nat.strongRecOn generalizing f bs with
  | ind n ih =>
    subst h
    rcases Nat.lt_or_ge 493 bs.length with hl | hl
    · rw [pcs_more hl, List.length_cons]
      have := ih (bs.drop 493).length (by rw [List.length_drop]; omega) 0 (bs.drop 493) rfl
      rw [List.length_drop] at this
      clear ih
      generalize (pcs 0 (bs.drop 493)).length = k at *
      rw [Nat.add_mul]
      generalize k * 493 = m at *
      omega
    · rw [pcs_last hl]; simp
theorem pcs_body (f : Int) (bs : List (BitVec 8)) : (pcs f bs).flatMap (·.2) = bs := by
  induction h : bs.length using Nat.strongRecOn generalizing f bs with
  | ind n ih =>
    subst h
    rcases Nat.lt_or_ge 493 bs.length with hl | hl
    · rw [pcs_more hl, List.flatMap_cons, ih (bs.drop 493).length (by rw [List.length_drop]; omega) 0 (bs.drop 493) rfl, List.take_append_drop]
    · rw [pcs_last hl]; simp
theorem parts_body (ep : BitVec 32) : ∀ (sq : BitVec 32) (xs : List (Int × List (BitVec 8))), (parts ep sq xs).flatMap (·.body) = xs.flatMap (·.2)
  | _, [] => rfl
  | sq, x :: xs => by rw [parts, List.flatMap_cons, List.flatMap_cons, parts_body ep (sq + 1#32) xs]
theorem cut_body (ep sq : BitVec 32) (bs : List (BitVec 8)) : (cut ep sq bs).flatMap (·.body) = bs := by rw [cut, parts_body, pcs_body]
theorem cut_length_pos (ep sq : BitVec 32) (bs : List (BitVec 8)) : 0 < (cut ep sq bs).length := by rw [cut, parts_length]; exact pcs_length_pos _ _
theorem cut_length_le (ep sq : BitVec 32) (bs : List (BitVec 8)) : (cut ep sq bs).length * 493 ≤ bs.length + 493 := by rw [cut, parts_length]; exact pcs_length_le _ _

/-- Has a part the flag? (As the program asks.) -/
def one (f : Int) : Bool := decide (f % 2 = 1)
def two (f : Int) : Bool := decide (f / 2 % 2 = 1)

/-- How many parts the record has with which parts begin; 0: they begin with none. -/
def lead (first : Bool) : List Pt → Nat
  | [] => 0
  | p :: r => if one p.flags = first then (if two p.flags then 1 else match lead false r with
    | 0 => 0
    | k + 1 => k + 2) else 0
theorem lead_le (first : Bool) : ∀ l : List Pt, lead first l ≤ l.length
  | [] => Nat.le_refl _
  | p :: r => by
    have := lead_le false r
    rw [lead, List.length_cons]
    split
    · split
      · omega
      · cases h : lead false r with
        | zero => simp
        | succ k => simp only []; omega
    · omega

theorem lead_pcs (ep : BitVec 32) (f : Int) (bs : List (BitVec 8)) (hf : f = 0 ∨ f = 1) (t : List Pt) (sq : BitVec 32) : lead (f == 1) (parts ep sq (pcs f bs) ++ t) = (pcs f bs).length := by
  induction h : bs.length using Nat.strongRecOn generalizing f bs sq with
  | ind n ih =>
    subst h
    rcases Nat.lt_or_ge 493 bs.length with hl | hl
    · rw [pcs_more hl, parts, List.cons_append, lead, List.length_cons]
      have h1 := ih (bs.drop 493).length (by rw [List.length_drop]; omega) 0 (bs.drop 493) (.inl rfl) (sq + 1#32) rfl
      have h2 := pcs_length_pos 0 (bs.drop 493)
      rw [show ((0 : Int) == 1) = false from rfl] at h1
      simp only [h1]
      rcases hf with rfl | rfl
      · rw [if_pos (by decide), if_neg (by decide)]
        cases he : (pcs 0 (bs.drop 493)).length with
        | zero => omega
        | succ k => rfl
      · rw [if_pos (by decide), if_neg (by decide)]
        cases he : (pcs 0 (bs.drop 493)).length with
        | zero => omega
        | succ k => rfl
    · rw [pcs_last hl]
      rcases hf with rfl | rfl <;> rfl
theorem lead_cut (ep sq : BitVec 32) (bs : List (BitVec 8)) (t : List Pt) : lead true (cut ep sq bs ++ t) = (cut ep sq bs).length := by
  have := lead_pcs ep 1 bs (.inr rfl) t sq
  rw [cut, parts_length]
  exact this

/-- The parts of each record. -/
def grp (l : List Pt) : List (List Pt) :=
  if lead true l = 0 then [] else l.take (lead true l) :: grp (l.drop (lead true l))
termination_by l.length
decreasing_by have := lead_le true l; simp; omega
theorem grp_none {l : List Pt} (h : lead true l = 0) : grp l = [] := by rw [grp, if_pos h]
theorem grp_more {l : List Pt} (h : 0 < lead true l) : grp l = l.take (lead true l) :: grp (l.drop (lead true l)) := by rw [grp, if_neg (by omega)]

/-- Records that were cut, one after another, and behind them what begins none. -/
theorem grp_cuts (t : List Pt) (ht : lead true t = 0) : ∀ rs : List (List (BitVec 8)), grp (rs.flatMap (cut 0#32 0#32) ++ t) = rs.map (cut 0#32 0#32)
  | [] => by rw [List.flatMap_nil, List.nil_append, grp_none ht]; rfl
  | r :: rs => by
    have h1 : lead true ((r :: rs).flatMap (cut 0#32 0#32) ++ t) = (cut 0#32 0#32 r).length := by
      rw [List.flatMap_cons, List.append_assoc]; exact lead_cut _ _ _ _
    rw [grp_more (by rw [h1]; exact cut_length_pos _ _ _), h1, List.flatMap_cons, List.append_assoc, List.take_left', List.drop_left', grp_cuts t ht rs, List.map_cons]
    · rfl
    · rfl
theorem lead_even {p : Pt} (h : p.flags % 2 = 0) : lead true [p] = 0 := by
  have : one p.flags = false := by simp [one]; omega
  rw [lead, this]; rfl
theorem bodies_cuts (rs : List (List (BitVec 8))) : (rs.map (cut 0#32 0#32)).map (fun g => g.flatMap (·.body)) = rs := by
  rw [List.map_map]
  have : ((fun g => List.flatMap (fun x => x.body) g) ∘ cut 0#32 0#32) = id := by funext x; exact cut_body _ _ _
  rw [this, List.map_id]
/-- How many parts are used. -/
def used (gs : List (List Pt)) : Nat := (gs.map (·.length)).sum
theorem used_snoc (gs : List (List Pt)) (g : List Pt) : used (gs ++ [g]) = used gs + g.length := by simp [used]
theorem used_cuts (rs : List (List (BitVec 8))) : used (rs.map (cut 0#32 0#32)) = (rs.flatMap (cut 0#32 0#32)).length := by
  rw [used, List.map_map, List.length_flatMap]; rfl
theorem used_grp (l : List Pt) : used (grp l) ≤ l.length := by
  induction h : l.length using Nat.strongRecOn generalizing l with
  | ind n ih =>
    subst h
    rcases Nat.eq_zero_or_pos (lead true l) with h0 | h0
    · rw [grp_none h0]; simp [used]
    · have hl := lead_le true l
      have h1 := ih (l.drop (lead true l)).length (by simp; omega) _ rfl
      rw [grp_more h0]
      simp [used] at h1 ⊢
      omega
/-- How the parts' number comes out, once k parts are looked at. -/
def leadAt (k : Nat) (l : List Pt) : Nat := match lead (k == 0) (l.drop k) with
  | 0 => 0
  | m + 1 => m + 1 + k
theorem leadAt_zero (l : List Pt) : leadAt 0 l = lead true l := by
  rw [leadAt, List.drop_zero]
  show (match lead true l with | 0 => 0 | m + 1 => m + 1 + 0) = _
  cases lead true l <;> rfl
theorem leadAt_end (l : List Pt) : leadAt l.length l = 0 := by rw [leadAt, List.drop_length]; rfl
theorem drop_cons {l : List Pt} {k : Nat} {p : Pt} (h : l[k]? = some p) : l.drop k = p :: l.drop (k + 1) := by
  obtain ⟨hl, rfl⟩ := List.getElem?_eq_some_iff.1 h
  exact List.drop_eq_getElem_cons hl
theorem leadAt_no {l : List Pt} {k : Nat} {p : Pt} (h : l[k]? = some p) (h1 : one p.flags ≠ (k == 0)) : leadAt k l = 0 := by
  rw [leadAt, drop_cons h, lead, if_neg h1]
theorem leadAt_last {l : List Pt} {k : Nat} {p : Pt} (h : l[k]? = some p) (h1 : one p.flags = (k == 0)) (h2 : two p.flags = true) : leadAt k l = k + 1 := by
  rw [leadAt, drop_cons h, lead, if_pos h1, if_pos h2]; show 0 + 1 + k = k + 1; omega
theorem leadAt_on {l : List Pt} {k : Nat} {p : Pt} (h : l[k]? = some p) (h1 : one p.flags = (k == 0)) (h2 : two p.flags = false) : leadAt k l = leadAt (k + 1) l := by
  rw [leadAt, leadAt, drop_cons h, lead, if_pos h1, if_neg (by rw [h2]; decide), show (k + 1 == 0) = false from rfl]
  cases lead false (l.drop (k + 1)) with
  | zero => rfl
  | succ m => simp only []; omega
/-- The flags are those of a number that is none below 0. -/
def fits (f : Int) : Prop := 0 ≤ f ∧ f < 9223372036854775808
theorem one_and {f : Int} (h : fits f) (hb : ∀ n : Nat, n < 9223372036854775808 → bits BinOp.and IntKind.i64 (n : Int) 1 = ((n &&& 1 : Nat) : Int)) : (bits BinOp.and IntKind.i64 f 1 != 0) = one f := by
  obtain ⟨n, rfl⟩ := Int.eq_ofNat_of_zero_le h.1
  rw [hb n (by have := h.2; omega), Nat.and_one_is_mod, one, Bool.eq_iff_iff, bne_iff_ne, decide_eq_true_iff]
  omega
theorem two_and {f : Int} (h : fits f) (hb : ∀ n : Nat, n < 9223372036854775808 → bits BinOp.and IntKind.i64 (n : Int) 2 = ((n &&& 2 : Nat) : Int)) : (bits BinOp.and IntKind.i64 f 2 != 0) = two f := by
  obtain ⟨n, rfl⟩ := Int.eq_ofNat_of_zero_le h.1
  have e2 : n.testBit 1 = decide (n / 2 % 2 = 1) := Nat.testBit_eq_decide_div_mod_eq
  have key : (n &&& 2 = 0) ↔ n.testBit 1 = false := by
    have t2 : ∀ i, Nat.testBit 2 i = decide (1 = i) := fun i => Nat.testBit_two_pow (n := 1) (m := i)
    constructor
    · intro h
      have h1 : (n &&& 2).testBit 1 = false := by rw [h]; exact Nat.zero_testBit 1
      rw [Nat.testBit_and, t2] at h1
      simpa using h1
    · intro h
      apply Nat.eq_of_testBit_eq
      intro i
      rw [Nat.testBit_and, t2, Nat.zero_testBit]
      by_cases hi : 1 = i
      · subst hi; rw [h]; rfl
      · simp [hi]
  rw [hb n (by have := h.2; omega), two, Bool.eq_iff_iff, bne_iff_ne, decide_eq_true_iff]
  generalize n &&& 2 = m at *
  rw [e2] at key
  have key2 : (m = 0) ↔ ¬ n / 2 % 2 = 1 := key.trans (by simp)
  omega
theorem and_i64 (b : Nat) (hb : b < 9223372036854775808) (n : Nat) (hn : n < 9223372036854775808) : bits BinOp.and IntKind.i64 (n : Int) (b : Int) = ((n &&& b : Nat) : Int) :=
  (bits_nat .i64 63 (by decide) (fun n h0 h1 => by rw [show (2 : Int) ^ 63 = 9223372036854775808 from by decide] at h1; rw [IntKind.wrap_i64]; omega) n b hn hb).1
theorem one_bits {f : Int} (h : fits f) : (bits BinOp.and IntKind.i64 f 1 != 0) = one f := one_and h (and_i64 1 (by decide))
theorem two_bits {f : Int} (h : fits f) : (bits BinOp.and IntKind.i64 f 2 != 0) = two f := two_and h (and_i64 2 (by decide))
end Go.Proofs.Ytmchpakefddinaa.Frag
