/-
  Layer 15 (record): whether a record may be, its bytes, and the record of bytes (P15.1); got as it was put, put as it was got, and no record begins another (P15.2). (Of no program.)
-/
import Derived.Test.YthaebchmlicgaaaPackPure
namespace Go.Proofs.Ythaebchmlicgaaa.Rec
open Go.Proofs.Ythaebchmlicgaaa.Pack
set_option linter.unusedVariables false
set_option linter.unusedSimpArgs false

abbrev B := BitVec 8
/-- A state, a record. -/
structure Stt where
  step : Int
  visit : Int
  tries : Int
  off : Int
  vars : List (List B)
structure Rc where
  kind : Int
  s : Stt
  visit : Int
  step : Int
  try_ : Int
  to : Int
  off : Int
  var : Int
  value : List B
def stt0 : Stt := ⟨0, 0, 0, 0, []⟩
def rc0 : Rc := ⟨0, stt0, 0, 0, 0, 0, 0, 0, []⟩
def inR (n least most : Int) : Bool := decide (least ≤ n) && decide (n ≤ most)
def textsOk (l : List (List B)) : Bool := l.all (fun t => decide (t.length ≤ 100)) && decide (l.length ≤ 8)
def noPoint (r : Rc) : Bool := decide (r.s.step = 0) && decide (r.s.visit = 0) && decide (r.s.tries = 0) && decide (r.s.off = 0) && decide (r.s.vars = [])
def noOutcome (r : Rc) : Bool := decide (r.to = 0) && decide (r.off = 0) && decide (r.var = 0) && decide (r.value = [])
def noIntent (r : Rc) : Bool := decide (r.step = 0) && decide (r.try_ = 0)
/-- P15.1: whether a record may be. -/
def may (r : Rc) : Bool :=
  if r.kind = 1 then noOutcome r && noIntent r && decide (r.visit = 0) && inR r.s.step (-3) 29 && inR r.s.visit 1 1001 && inR r.s.tries 0 6 && inR r.s.off 0 2147483647 && textsOk r.s.vars
  else if r.kind = 2 then noPoint r && noOutcome r && inR r.visit 1 1001 && inR r.step 0 29 && inR r.try_ 0 5
  else if r.kind = 3 then noPoint r && noIntent r && inR r.visit 1 1001 && inR r.to (-3) 29 && inR r.off 0 2147483647 && inR r.var (-1) 7 && decide (r.value.length ≤ 100) && (decide (0 ≤ r.var) || decide (r.value = []))
  else false
def n64 (x : Int) : BitVec 64 := BitVec.ofInt 64 x
/-- Its bytes. -/
def put (r : Rc) : List B :=
  num 1 (n64 r.kind) ++
  (if r.kind = 1 then num 1 (n64 (r.s.step + 3)) ++ num 2 (n64 r.s.visit) ++ num 1 (n64 r.s.tries) ++ num 4 (n64 r.s.off) ++ num 1 (n64 r.s.vars.length) ++ r.s.vars.flatMap text
  else if r.kind = 2 then num 2 (n64 r.visit) ++ num 1 (n64 r.step) ++ num 1 (n64 r.try_)
  else num 2 (n64 r.visit) ++ num 1 (n64 (r.to + 3)) ++ num 4 (n64 r.off) ++ num 1 (n64 (r.var + 1)) ++ text r.value)
/-- A number that is read. -/
def rd (k : Nat) (s : St) : Int × St := (((rnum k s).1.toNat : Int), (rnum k s).2)
def rtexts : Nat → St → List (List B) × St
  | 0, s => ([], s)
  | n + 1, s => ((rtext s).1 :: (rtexts n (rtext s).2).1, (rtexts n (rtext s).2).2)
/-- What is read of bytes, and what is left. -/
def readP (s : St) : Stt × St :=
  let a := rd 1 s; let b := rd 2 a.2; let c := rd 1 b.2; let d := rd 4 c.2; let e := rd 1 d.2; let f := rtexts e.1.toNat e.2
  (⟨a.1 - 3, b.1, c.1, d.1, f.1⟩, f.2)
def readI (s : St) : (Int × Int × Int) × St :=
  let a := rd 2 s; let b := rd 1 a.2; let c := rd 1 b.2
  ((a.1, b.1, c.1), c.2)
def readO (s : St) : (Int × Int × Int × Int × List B) × St :=
  let a := rd 2 s; let b := rd 1 a.2; let c := rd 4 b.2; let d := rd 1 c.2; let e := rtext d.2
  ((a.1, b.1 - 3, c.1, d.1 - 1, e.1), e.2)
def readK (k : Int) (s : St) : Rc × St :=
  if k = 1 then ({ rc0 with kind := 1, s := (readP s).1 }, (readP s).2)
  else if k = 2 then ({ rc0 with kind := 2, visit := (readI s).1.1, step := (readI s).1.2.1, try_ := (readI s).1.2.2 }, (readI s).2)
  else if k = 3 then ({ rc0 with kind := 3, visit := (readO s).1.1, to := (readO s).1.2.1, off := (readO s).1.2.2.1, var := (readO s).1.2.2.2.1, value := (readO s).1.2.2.2.2 }, (readO s).2)
  else ({ rc0 with kind := k }, s)
def readRc (b : List B) : Rc × St := readK (rd 1 (some b)).1 (rd 1 (some b)).2
/-- P15.1: the record of bytes. -/
def get (b : List B) : Option Rc := if rend (readRc b).2 && may (readRc b).1 then some (readRc b).1 else none

theorem n64_nat (k : Nat) {x : Int} (h0 : 0 ≤ x) (h : x < ((256 ^ k : Nat) : Int)) (hk : k ≤ 8) : (n64 x).toNat = x.toNat ∧ (n64 x).toNat < 256 ^ k := by
  have h3 : (256 : Nat) ^ k ≤ 256 ^ 8 := Nat.pow_le_pow_right (by decide) hk
  have e8 : (256 : Nat) ^ 8 = 18446744073709551616 := by decide
  have e : (n64 x).toNat = x.toNat := by
    unfold n64
    rw [BitVec.toNat_ofInt]
    show (x % (2 ^ 64 : Int)).toNat = _
    rw [Int.emod_eq_of_lt h0 (by omega)]
  refine ⟨e, ?_⟩
  rw [e]
  omega
/-- A number that was put is read. -/
theorem rd_ok {k : Nat} {x : Int} (m : List B) (hk : 1 ≤ k) (hk8 : k ≤ 8) (h0 : 0 ≤ x) (h : x < ((256 ^ k : Nat) : Int)) : rd k (some (num k (n64 x) ++ m)) = (x, some m) := by
  obtain ⟨e1, e2⟩ := n64_nat k h0 h hk8
  unfold rd
  rw [rnum_ok k _ m hk hk8 (num_length _ _), val_num k _ hk8 e2]
  dsimp only
  rw [e1, Int.toNat_of_nonneg h0]
theorem rtexts_ok : ∀ (l : List (List B)) (m : List B), (∀ t ∈ l, t.length ≤ 65535) → rtexts l.length (some (l.flatMap text ++ m)) = (l, some m)
  | [], m, _ => rfl
  | t :: l, m, h => by
    rw [List.flatMap_cons, List.append_assoc, List.length_cons]
    unfold rtexts
    rw [rtext_ok t _ (h t (List.mem_cons_self ..))]
    dsimp only
    rw [rtexts_ok l m fun x hx => h x (List.mem_cons_of_mem _ hx)]
theorem num_val : ∀ (k : Nat) (bs : List B), bs.length = k → k ≤ 8 → num k (val bs) = bs
  | 0, bs, h, _ => by rw [List.eq_nil_of_length_eq_zero h]; rfl
  | k + 1, bs, h, hk => by
    rcases rev_cases bs with rfl | ⟨l, b, rfl⟩
    · simp at h
    · have hl : l.length = k := by simpa using h
      have h1 := val_toNat (k + 1) (l ++ [b]) h hk
      have h2 := val_toNat k l hl (by omega)
      have hb := b.isLt
      rw [valN_snoc] at h1
      have e1 : val (l ++ [b]) >>> 8 = val l := by
        apply BitVec.eq_of_toNat_eq
        rw [BitVec.toNat_ushiftRight, Nat.shiftRight_eq_div_pow, h1, h2]
        show (valN l * 256 + b.toNat) / 256 = _
        omega
      have e2 : (val (l ++ [b])).setWidth 8 = b := by
        apply BitVec.eq_of_toNat_eq
        rw [BitVec.toNat_setWidth, h1]
        show (valN l * 256 + b.toNat) % 256 = _
        omega
      rw [num, e1, e2, num_val k l hl (by omega)]
/-- What is left of a number that is read. -/
theorem rd_inv {k : Nat} {s : St} {m : List B} (hk : 1 ≤ k) (hk8 : k ≤ 8) (h : (rd k s).2 = some m) : s = some (num k (n64 (rd k s).1) ++ m) ∧ 0 ≤ (rd k s).1 ∧ (rd k s).1 < ((256 ^ k : Nat) : Int) := by
  have ho : okSize (k : Int) = true := by simp [okSize]; omega
  unfold rd at h ⊢
  rw [rnum_next _ _ ho] at h ⊢
  cases s with
  | none => cases h
  | some r =>
    unfold rnext at h ⊢
    dsimp only at h ⊢
    rw [Int.toNat_natCast] at h ⊢
    by_cases hl : k ≤ r.length
    · rw [if_pos hl] at h ⊢
      dsimp only at h ⊢
      injection h with h
      subst h
      have hlen : (r.take k).length = k := by rw [List.length_take]; omega
      have hv := val_toNat k _ hlen hk8
      have hlt := valN_lt k _ hlen
      have h3 : (256 : Nat) ^ k ≤ 256 ^ 8 := Nat.pow_le_pow_right (by decide) hk8
      have e8 : (256 : Nat) ^ 8 = 18446744073709551616 := by decide
      refine ⟨?_, by omega, by rw [hv]; omega⟩
      have e : n64 ((val (r.take k)).toNat : Int) = val (r.take k) := by
        apply BitVec.eq_of_toNat_eq
        rw [(n64_nat k (x := ((val (r.take k)).toNat : Int)) (by omega) (by rw [hv]; omega) hk8).1, Int.toNat_natCast]
      rw [e, num_val k _ hlen hk8, List.take_append_drop]
    · rw [if_neg hl] at h
      cases h
theorem rtext_inv {s : St} {m : List B} (h : (rtext s).2 = some m) : s = some (text (rtext s).1 ++ m) ∧ (rtext s).1.length ≤ 65535 := by
  unfold rtext at h ⊢
  have hl : (rnext (rnum 2 s).1.toNat (rnum 2 s).2).2 = some m := h
  cases e : (rnum 2 s).2 with
  | none => rw [e] at hl; cases hl
  | some r =>
    rw [e] at hl
    obtain ⟨h1, h2, h3⟩ := rd_inv (k := 2) (s := s) (m := r) (by decide) (by decide) e
    have hx : (rd 2 s).1 = ((rnum 2 s).1.toNat : Int) := rfl
    have h4 : (256 ^ 2 : Nat) = 65536 := by decide
    rw [h4] at h3
    rw [hx] at h1 h3
    unfold rnext at hl
    dsimp only at hl
    split at hl
    · rename_i hle
      injection hl with hl
      have ht : (rnext (rnum 2 s).1.toNat (some r)).1 = r.take (rnum 2 s).1.toNat := by unfold rnext; dsimp only; rw [if_pos hle]
      have hlen : (r.take (rnum 2 s).1.toNat).length = (rnum 2 s).1.toNat := by rw [List.length_take]; omega
      rw [ht]
      refine ⟨?_, by rw [hlen]; omega⟩
      conv => lhs; rw [h1]
      unfold text
      rw [hlen, List.append_assoc]
      have e2 : n64 ((rnum 2 s).1.toNat : Int) = BitVec.ofNat 64 (rnum 2 s).1.toNat := by
        apply BitVec.eq_of_toNat_eq
        rw [(n64_nat 2 (x := ((rnum 2 s).1.toNat : Int)) (by omega) (by rw [h4]; omega) (by decide)).1, Int.toNat_natCast, BitVec.toNat_ofNat, Nat.mod_eq_of_lt (by omega)]
      rw [e2]
      congr 2
      rw [← hl, List.take_append_drop]
    · cases hl
theorem rtexts_inv : ∀ (n : Nat) {s : St} {m : List B}, (rtexts n s).2 = some m → s = some ((rtexts n s).1.flatMap text ++ m) ∧ (rtexts n s).1.length = n
  | 0, s, m, h => ⟨h, rfl⟩
  | n + 1, s, m, h => by
    unfold rtexts at h ⊢
    dsimp only at h ⊢
    obtain ⟨h1, h2⟩ := rtexts_inv n h
    obtain ⟨h3, _⟩ := rtext_inv h1
    refine ⟨?_, by rw [List.length_cons, h2]⟩
    rw [List.flatMap_cons, List.append_assoc]
    exact h3
theorem inR_iff {n a b : Int} : inR n a b = true ↔ a ≤ n ∧ n ≤ b := by unfold inR; simp
theorem may1 {r : Rc} (h : may r = true) (hk : r.kind = 1) : r = { rc0 with kind := 1, s := r.s } ∧ (-3 ≤ r.s.step ∧ r.s.step ≤ 29) ∧ (1 ≤ r.s.visit ∧ r.s.visit ≤ 1001) ∧ (0 ≤ r.s.tries ∧ r.s.tries ≤ 6) ∧ (0 ≤ r.s.off ∧ r.s.off ≤ 2147483647) ∧ (∀ t ∈ r.s.vars, t.length ≤ 100) ∧ r.s.vars.length ≤ 8 := by
  unfold may noOutcome noIntent textsOk at h
  rw [if_pos hk] at h
  simp only [Bool.and_eq_true, inR_iff, decide_eq_true_eq, List.all_eq_true] at h
  obtain ⟨⟨⟨⟨⟨⟨⟨⟨⟨⟨h1, h2⟩, h3⟩, h4⟩, ⟨h5, h6⟩⟩, h7⟩, h8⟩, h9⟩, h10⟩, h11⟩, h12, h13⟩ := h
  refine ⟨?_, h8, h9, h10, h11, h12, h13⟩
  obtain ⟨k, s, v, st, tr, to, of, va, vl⟩ := r
  simp only at hk h1 h2 h3 h4 h5 h6 h7
  subst hk; subst h1; subst h2; subst h3; subst h4; subst h5; subst h6; subst h7
  rfl
theorem may2 {r : Rc} (h : may r = true) (hk : r.kind = 2) : r = { rc0 with kind := 2, visit := r.visit, step := r.step, try_ := r.try_ } ∧ (1 ≤ r.visit ∧ r.visit ≤ 1001) ∧ (0 ≤ r.step ∧ r.step ≤ 29) ∧ (0 ≤ r.try_ ∧ r.try_ ≤ 5) := by
  unfold may noOutcome noPoint at h
  rw [if_neg (by omega), if_pos hk] at h
  simp only [Bool.and_eq_true, inR_iff, decide_eq_true_eq] at h
  obtain ⟨⟨⟨⟨⟨⟨⟨⟨p1, p2⟩, p3⟩, p4⟩, p5⟩, ⟨⟨⟨h1, h2⟩, h3⟩, h4⟩⟩, h8⟩, h9⟩, h10⟩ := h
  refine ⟨?_, h8, h9, h10⟩
  obtain ⟨k, ⟨a, b, c, d, e⟩, v, st, tr, to, of, va, vl⟩ := r
  simp only at hk h1 h2 h3 h4 p1 p2 p3 p4 p5
  subst hk; subst h1; subst h2; subst h3; subst h4; subst p1; subst p2; subst p3; subst p4; subst p5
  rfl
theorem may3 {r : Rc} (h : may r = true) (hk : r.kind = 3) : r = { rc0 with kind := 3, visit := r.visit, to := r.to, off := r.off, var := r.var, value := r.value } ∧ (1 ≤ r.visit ∧ r.visit ≤ 1001) ∧ (-3 ≤ r.to ∧ r.to ≤ 29) ∧ (0 ≤ r.off ∧ r.off ≤ 2147483647) ∧ (-1 ≤ r.var ∧ r.var ≤ 7) ∧ r.value.length ≤ 100 := by
  unfold may noIntent noPoint at h
  rw [if_neg (by omega), if_neg (by omega), if_pos hk] at h
  simp only [Bool.and_eq_true, inR_iff, decide_eq_true_eq] at h
  obtain ⟨⟨⟨⟨⟨⟨⟨⟨⟨⟨⟨p1, p2⟩, p3⟩, p4⟩, p5⟩, ⟨h1, h2⟩⟩, h8⟩, h9⟩, h10⟩, h11⟩, h12⟩, _⟩ := h
  refine ⟨?_, h8, h9, h10, h11, h12⟩
  obtain ⟨k, ⟨a, b, c, d, e⟩, v, st, tr, to, of, va, vl⟩ := r
  simp only at hk h1 h2 p1 p2 p3 p4 p5
  subst hk; subst h1; subst h2; subst p1; subst p2; subst p3; subst p4; subst p5
  rfl
theorem may_kind {r : Rc} (h : may r = true) : r.kind = 1 ∨ r.kind = 2 ∨ r.kind = 3 := by
  unfold may at h
  split at h
  · exact .inl ‹_›
  · split at h
    · exact .inr (.inl ‹_›)
    · split at h
      · exact .inr (.inr ‹_›)
      · cases h
/-- What was put is read, whatever stands behind. -/
theorem read_put {r : Rc} (h : may r = true) (m : List B) : readRc (put r ++ m) = (r, some m) := by
  rcases may_kind h with hk | hk | hk
  · obtain ⟨e, h1, h2, h3, h4, h5, h6⟩ := may1 h hk
    unfold readRc put
    rw [if_pos hk, hk]
    simp only [List.append_assoc]
    rw [rd_ok _ (by decide) (by decide) (by decide) (by decide)]
    dsimp only
    unfold readK
    rw [if_pos rfl]
    unfold readP
    rw [rd_ok _ (by decide) (by decide) (by omega) (by have e : (256 ^ 1 : Nat) = 256 := rfl; omega)]
    dsimp only
    rw [rd_ok _ (by decide) (by decide) (by omega) (by have e : (256 ^ 2 : Nat) = 65536 := rfl; omega)]
    dsimp only
    rw [rd_ok _ (by decide) (by decide) (by omega) (by have e : (256 ^ 1 : Nat) = 256 := rfl; omega)]
    dsimp only
    rw [rd_ok _ (by decide) (by decide) (by omega) (by have e : (256 ^ 4 : Nat) = 4294967296 := rfl; omega)]
    dsimp only
    rw [rd_ok _ (by decide) (by decide) (by omega) (by have e : (256 ^ 1 : Nat) = 256 := rfl; omega)]
    dsimp only
    rw [Int.toNat_natCast, rtexts_ok _ _ (fun t ht => by have := h5 t ht; omega)]
    dsimp only
    rw [show r.s.step + 3 - 3 = r.s.step by omega]
    conv => rhs; rw [e]
  · obtain ⟨e, h1, h2, h3⟩ := may2 h hk
    unfold readRc put
    rw [if_neg (by omega), if_pos hk, hk]
    simp only [List.append_assoc]
    rw [rd_ok _ (by decide) (by decide) (by decide) (by decide)]
    dsimp only
    unfold readK
    rw [if_neg (by decide), if_pos rfl]
    unfold readI
    rw [rd_ok _ (by decide) (by decide) (by omega) (by have e : (256 ^ 2 : Nat) = 65536 := rfl; omega)]
    dsimp only
    rw [rd_ok _ (by decide) (by decide) (by omega) (by have e : (256 ^ 1 : Nat) = 256 := rfl; omega)]
    dsimp only
    rw [rd_ok _ (by decide) (by decide) (by omega) (by have e : (256 ^ 1 : Nat) = 256 := rfl; omega)]
    dsimp only
    conv => rhs; rw [e]
  · obtain ⟨e, h1, h2, h3, h4, h5⟩ := may3 h hk
    unfold readRc put
    rw [if_neg (by omega), if_neg (by omega), hk]
    simp only [List.append_assoc]
    rw [rd_ok _ (by decide) (by decide) (by decide) (by decide)]
    dsimp only
    unfold readK
    rw [if_neg (by decide), if_neg (by decide), if_pos rfl]
    unfold readO
    rw [rd_ok _ (by decide) (by decide) (by omega) (by have e : (256 ^ 2 : Nat) = 65536 := rfl; omega)]
    dsimp only
    rw [rd_ok _ (by decide) (by decide) (by omega) (by have e : (256 ^ 1 : Nat) = 256 := rfl; omega)]
    dsimp only
    rw [rd_ok _ (by decide) (by decide) (by omega) (by have e : (256 ^ 4 : Nat) = 4294967296 := rfl; omega)]
    dsimp only
    rw [rd_ok _ (by decide) (by decide) (by omega) (by have e : (256 ^ 1 : Nat) = 256 := rfl; omega)]
    dsimp only
    rw [rtext_ok _ _ (by omega)]
    dsimp only
    rw [show r.to + 3 - 3 = r.to by omega, show r.var + 1 - 1 = r.var by omega]
    conv => rhs; rw [e]
/-- P15.2: it is got as it was put. -/
theorem get_put {r : Rc} (h : may r = true) : get (put r) = some r := by
  have := read_put h []
  rw [List.append_nil] at this
  unfold get
  rw [this, h]
  rfl
theorem rend_some {s : St} (h : rend s = true) : s = some [] := by
  unfold rend at h
  split at h
  · rfl
  · cases h
theorem get_inv {b : List B} {r : Rc} (h : get b = some r) : (readRc b).2 = some [] ∧ may r = true ∧ r = (readRc b).1 := by
  unfold get at h
  split at h
  · rename_i hc
    simp only [Bool.and_eq_true] at hc
    injection h with h
    subst h
    exact ⟨rend_some hc.1, hc.2, rfl⟩
  · cases h
/-- P15.2: it is put as it was got. -/
theorem put_get {b : List B} {r : Rc} (h : get b = some r) : put r = b ∧ may r = true := by
  obtain ⟨h1, h2, rfl⟩ := get_inv h
  refine ⟨?_, h2⟩
  have key : ∀ (k : Int) (s : St), (rd 1 (some b)).1 = k → (rd 1 (some b)).2 = s → ∀ t, s = some t → b = num 1 (n64 k) ++ t := fun k s e1 e2 t e3 => by
    obtain ⟨q, _⟩ := rd_inv (k := 1) (s := some b) (m := t) (by decide) (by decide) (by rw [e2, e3])
    injection q with q
    rw [e1] at q
    exact q
  unfold readRc at h1 h2 ⊢
  obtain ⟨k, hk⟩ : ∃ k, k = (rd 1 (some b)).1 := ⟨_, rfl⟩
  obtain ⟨s, hs⟩ : ∃ s, s = (rd 1 (some b)).2 := ⟨_, rfl⟩
  rw [← hk, ← hs] at h1 h2 ⊢
  have key := key k s hk.symm hs.symm
  clear hk hs h
  rcases may_kind h2 with hk | hk | hk
  · have hk1 : k = 1 := by
      unfold readK at hk
      split at hk
      · assumption
      · split at hk
        · simp at hk
        · split at hk
          · simp at hk
          · exact hk
    subst hk1
    unfold readK at h1 ⊢
    rw [if_pos rfl] at h1 ⊢
    unfold put
    dsimp only at h1 ⊢
    rw [if_pos rfl]
    unfold readP at h1 ⊢
    dsimp only at h1 ⊢
    obtain ⟨f1, f2⟩ := rtexts_inv _ h1
    obtain ⟨g1, g2, g3⟩ := rd_inv (k := 1) (by decide) (by decide) f1
    obtain ⟨i1, _⟩ := rd_inv (k := 4) (by decide) (by decide) g1
    obtain ⟨j1, _⟩ := rd_inv (k := 1) (by decide) (by decide) i1
    obtain ⟨l1, _⟩ := rd_inv (k := 2) (by decide) (by decide) j1
    obtain ⟨o1, _⟩ := rd_inv (k := 1) (by decide) (by decide) l1
    rw [key _ o1]
    rw [f2, Int.toNat_of_nonneg g2, Int.sub_add_cancel, List.append_nil]
    simp only [List.append_assoc]
  · have hk1 : k = 2 := by
      unfold readK at hk
      split at hk
      · simp at hk
      · split at hk
        · assumption
        · split at hk
          · simp at hk
          · exact hk
    subst hk1
    unfold readK at h1 ⊢
    rw [if_neg (by decide), if_pos rfl] at h1 ⊢
    unfold put
    dsimp only at h1 ⊢
    rw [if_neg (by decide), if_pos rfl]
    unfold readI at h1 ⊢
    dsimp only at h1 ⊢
    obtain ⟨j1, _⟩ := rd_inv (k := 1) (by decide) (by decide) h1
    obtain ⟨l1, _⟩ := rd_inv (k := 1) (by decide) (by decide) j1
    obtain ⟨o1, _⟩ := rd_inv (k := 2) (by decide) (by decide) l1
    rw [key _ o1, List.append_nil]
    simp only [List.append_assoc]
  · have hk1 : k = 3 := by
      unfold readK at hk
      split at hk
      · simp at hk
      · split at hk
        · simp at hk
        · split at hk
          · assumption
          · exact hk
    subst hk1
    unfold readK at h1 ⊢
    rw [if_neg (by decide), if_neg (by decide), if_pos rfl] at h1 ⊢
    unfold put
    dsimp only at h1 ⊢
    rw [if_neg (by decide), if_neg (by decide)]
    unfold readO at h1 ⊢
    dsimp only at h1 ⊢
    obtain ⟨f1, _⟩ := rtext_inv h1
    obtain ⟨g1, _⟩ := rd_inv (k := 1) (by decide) (by decide) f1
    obtain ⟨i1, _⟩ := rd_inv (k := 4) (by decide) (by decide) g1
    obtain ⟨j1, _⟩ := rd_inv (k := 1) (by decide) (by decide) i1
    obtain ⟨o1, _⟩ := rd_inv (k := 2) (by decide) (by decide) j1
    rw [key _ o1, Int.sub_add_cancel, Int.sub_add_cancel, List.append_nil]
    simp only [List.append_assoc]
/-- P15.2: no record begins another. -/
theorem get_more {b m : List B} {r : Rc} (h : get b = some r) (hm : m ≠ []) : get (b ++ m) = none := by
  obtain ⟨e, hmay⟩ := put_get h
  have := read_put hmay m
  rw [e] at this
  unfold get
  rw [this]
  have : rend (some m) = false := by cases m with
    | nil => exact absurd rfl hm
    | cons x m => rfl
  rw [if_neg (by simp [this])]
end Go.Proofs.Ythaebchmlicgaaa.Rec
