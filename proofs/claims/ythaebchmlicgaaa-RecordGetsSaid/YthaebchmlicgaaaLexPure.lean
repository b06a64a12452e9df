/-
  Layer 11 (lex) by the document: what lies between tokens, one token, all tokens (P11.1); a token alone, and tokens behind others (P11.2).
-/
import Derived.Test.YthaebchmlicgaaaBytes
namespace Go.Proofs.Ythaebchmlicgaaa.Lex
set_option linter.unusedVariables false
set_option linter.unusedSimpArgs false

abbrev B := BitVec 8
def blank (c : B) : Bool := decide (c = 9#8) || decide (c = 10#8) || decide (c = 13#8) || decide (c = 32#8)
def digit (c : B) : Bool := decide (48 ≤ c.toNat) && decide (c.toNat ≤ 57)
def letter (c : B) : Bool := decide (97 ≤ c.toNat) && decide (c.toNat ≤ 122)
def within (c : B) : Bool := letter c || digit c || decide (c = 95#8)
/-- Is one in a remark behind a byte? -/
def rem (r : Bool) (c : B) : Bool := if c = 10#8 then false else r || decide (c = 35#8)
/-- How many bytes lie between tokens. -/
def skipR : Bool → List B → Nat
  | _, [] => 0
  | r, c :: l => if rem r c || blank c then 1 + skipR (rem r c) l else 0
theorem skipR_cons (r : Bool) (c : B) (l : List B) : skipR r (c :: l) = if rem r c || blank c then 1 + skipR (rem r c) l else 0 := rfl
/-- A text's bytes, and how many it takes with its last sign; or where it can't go on. -/
def textR : List B → Except Nat (List B × Nat)
  | [] => .error 0
  | c :: l =>
    if c = 34#8 then .ok ([], 1)
    else if c.toNat < 32 then .error 0
    else if c = 92#8 then match l with
      | [] => .error 1
      | d :: m => if d.toNat < 32 then .error 1 else match textR m with
        | .error k => .error (2 + k)
        | .ok (t, k) => .ok ((if d = 34#8 then [d] else [c, d]) ++ t, 2 + k)
    else match textR l with
      | .error k => .error (1 + k)
      | .ok (t, k) => .ok (c :: t, 1 + k)
/-- A text that is read behind k bytes that stand for o. -/
def tadd (o : List B) (k : Nat) : Except Nat (List B × Nat) → Except Nat (List B × Nat)
  | .error e => .error (k + e)
  | .ok (t, m) => .ok (o ++ t, k + m)
theorem tadd_tadd (o o' : List B) (k k' : Nat) (r : Except Nat (List B × Nat)) : tadd o k (tadd o' k' r) = tadd (o ++ o') (k + k') r := by
  rcases r with e | ⟨t, m⟩
  · simp [tadd, Nat.add_assoc]
  · simp [tadd, Nat.add_assoc]
theorem tadd_zero (r : Except Nat (List B × Nat)) : tadd [] 0 r = r := by
  rcases r with e | ⟨t, m⟩ <;> simp [tadd]
theorem textR_end {c : B} {l : List B} (h : c = 34#8) : textR (c :: l) = .ok ([], 1) := by unfold textR; rw [if_pos h]
theorem textR_low {c : B} {l : List B} (h : c.toNat < 32) : textR (c :: l) = .error 0 := by
  have h34 : c ≠ 34#8 := by rintro rfl; simp at h
  unfold textR; rw [if_neg h34, if_pos h]
theorem textR_esc_nil {c : B} (h : c = 92#8) : textR [c] = .error 1 := by subst h; rfl
theorem textR_esc_low {c d : B} {l : List B} (h : c = 92#8) (hd : d.toNat < 32) : textR (c :: d :: l) = .error 1 := by
  subst h
  unfold textR
  rw [if_neg (by decide), if_neg (by decide), if_pos rfl]
  dsimp only
  rw [if_pos hd]
theorem textR_esc {c d : B} {l : List B} (h : c = 92#8) (hd : ¬ d.toNat < 32) : textR (c :: d :: l) = tadd (if d = 34#8 then [d] else [c, d]) 2 (textR l) := by
  subst h
  conv => lhs; unfold textR
  rw [if_neg (by decide), if_neg (by decide), if_pos rfl]
  dsimp only
  rw [if_neg hd]
  rcases textR l with e | ⟨t, m⟩ <;> rfl
theorem textR_char {c : B} {l : List B} (h1 : c ≠ 34#8) (h2 : ¬ c.toNat < 32) (h3 : c ≠ 92#8) : textR (c :: l) = tadd [c] 1 (textR l) := by
  conv => lhs; unfold textR
  rw [if_neg h1, if_neg h2, if_neg h3]
  rcases textR l with e | ⟨t, m⟩ <;> rfl
/-- A token, but for where it stands. -/
structure Tk where
  kind : Int
  n : Int
  text : List B
def val (d : List B) : Int := d.foldl (fun n c => 10 * n + ((c.toNat : Int) - 48)) 0
theorem val_snoc (d : List B) (c : B) : val (d ++ [c]) = 10 * val d + ((c.toNat : Int) - 48) := by unfold val; rw [List.foldl_append]; rfl
/-- The token that begins with c, and how many bytes it takes; or how far on it can't go on. -/
def oneR (c : B) (l : List B) : Except Nat (Tk × Nat) :=
  if c = 34#8 then match textR l with
    | .error k => .error (1 + k)
    | .ok (t, k) => .ok (⟨3, 0, t⟩, 1 + k)
  else if letter c then (if 20 < ((c :: l).takeWhile within).length then .error 0 else .ok (⟨1, 0, (c :: l).takeWhile within⟩, ((c :: l).takeWhile within).length))
  else if ((c :: l).takeWhile digit).length = 0 ∨ 4 < ((c :: l).takeWhile digit).length ∨ 1 < ((c :: l).takeWhile digit).length ∧ c = 48#8 then .error 0
  else .ok (⟨2, val ((c :: l).takeWhile digit), []⟩, ((c :: l).takeWhile digit).length)
structure Tok where
  t : Tk
  at_ : Nat
/-- The tokens from a place on (fuel f). -/
def cutR : Nat → Nat → List B → Except Nat (List Tok)
  | 0, _, _ => .ok []
  | f + 1, p, l => match l with
    | [] => .ok []
    | c :: m => match oneR c m with
      | .error k => .error (p + k)
      | .ok (x, k) => match cutR f (p + k + skipR false ((c :: m).drop k)) (((c :: m).drop k).drop (skipR false ((c :: m).drop k))) with
        | .error e => .error e
        | .ok ts => .ok (⟨x, p⟩ :: ts)
def cutE : Except Nat (List Tok) → Except (Nat × Nat) (List Tok)
  | .error p => .error (p, 2)
  | .ok ts => .ok ts
/-- P11.1: the tokens, or the place and the error's number. -/
def cut (s : List B) : Except (Nat × Nat) (List Tok) :=
  if 2000 < s.length then .error (0, 3) else cutE (cutR (s.length + 1) (skipR false s) (s.drop (skipR false s)))
def cadd (o : List Tok) : Except Nat (List Tok) → Except Nat (List Tok)
  | .error e => .error e
  | .ok ts => .ok (o ++ ts)
theorem cadd_nil (r : Except Nat (List Tok)) : cadd [] r = r := by cases r <;> rfl
theorem cadd_cadd (o o' : List Tok) (r : Except Nat (List Tok)) : cadd o (cadd o' r) = cadd (o ++ o') r := by cases r <;> simp [cadd]
theorem skipR_le : ∀ (l : List B) (r : Bool), skipR r l ≤ l.length
  | [], _ => Nat.le_refl _
  | c :: l, r => by
    rw [skipR_cons]
    split
    · have := skipR_le l (rem r c); simp; omega
    · simp
theorem textR_le : ∀ (l : List B) (t : List B) (k : Nat), textR l = .ok (t, k) → 1 ≤ k ∧ k ≤ l.length ∧ t.length ≤ k
  | [], t, k, h => by simp [textR] at h
  | [c], t, k, h => by
    unfold textR at h
    split at h
    · injection h with h; injection h with h1 h2; subst h1; subst h2; simp
    · split at h
      · cases h
      · split at h
        · cases h
        · simp [textR] at h
  | c :: d :: l, t, k, h => by
    by_cases h1 : c = 34#8
    · rw [textR_end h1] at h; injection h with h; injection h with h1 h2; subst h1; subst h2; simp
    · by_cases h2 : c.toNat < 32
      · rw [textR_low h2] at h; cases h
      · by_cases h3 : c = 92#8
        · by_cases h4 : d.toNat < 32
          · rw [textR_esc_low h3 h4] at h; cases h
          · rw [textR_esc h3 h4] at h
            cases e : textR l with
            | error q => rw [e] at h; cases h
            | ok q =>
              obtain ⟨t', k'⟩ := q
              rw [e] at h
              simp only [tadd] at h
              injection h with h; injection h with h5 h6
              have := textR_le l t' k' e
              subst h5; subst h6
              rw [List.length_append]
              split <;> simp <;> omega
        · rw [textR_char h1 h2 h3] at h
          cases e : textR (d :: l) with
          | error q => rw [e] at h; cases h
          | ok q =>
            obtain ⟨t', k'⟩ := q
            rw [e] at h
            simp only [tadd] at h
            injection h with h; injection h with h5 h6
            have := textR_le (d :: l) t' k' e
            subst h5; subst h6
            rw [List.length_append]
            simp at this ⊢; omega
theorem takeWhile_le {α : Type} (p : α → Bool) (l : List α) : (l.takeWhile p).length ≤ l.length := (List.takeWhile_prefix p).length_le
theorem letter_within {c : B} (h : letter c = true) : within c = true := by unfold within; rw [h]; rfl
theorem oneR_le {c : B} {l : List B} {x : Tk} {k : Nat} (h : oneR c l = .ok (x, k)) : 1 ≤ k ∧ k ≤ l.length + 1 ∧ x.text.length ≤ k := by
  unfold oneR at h
  split at h
  · cases e : textR l with
    | error q => rw [e] at h; cases h
    | ok q =>
      obtain ⟨t, m⟩ := q
      rw [e] at h
      have := textR_le l t m e
      injection h with h; injection h with h1 h2; subst h1; subst h2
      simp; omega
  · split at h
    · rename_i hl
      split at h
      · cases h
      · have h2 := takeWhile_le within (c :: l)
        rw [List.takeWhile_cons, if_pos (letter_within hl)] at h h2
        injection h with h; injection h with h3 h4; subst h3; subst h4
        simp at h2 ⊢; omega
    · split at h
      · cases h
      · rename_i hn
        have h2 := takeWhile_le digit (c :: l)
        injection h with h; injection h with h3 h4; subst h3; subst h4
        simp only [List.length_nil, List.length_cons] at h2 ⊢
        omega
/-- Enough fuel is enough. -/
theorem cutR_fuel : ∀ (f g : Nat) (p : Nat) (l : List B), l.length < f → l.length < g → cutR f p l = cutR g p l
  | 0, _, _, _, h, _ => absurd h (Nat.not_lt_zero _)
  | _, 0, _, _, _, h => absurd h (Nat.not_lt_zero _)
  | f + 1, g + 1, p, [], _, _ => rfl
  | f + 1, g + 1, p, c :: m, h1, h2 => by
    unfold cutR
    dsimp only
    cases e : oneR c m with
    | error k => rfl
    | ok q =>
      obtain ⟨x, k⟩ := q
      dsimp only
      have hk := oneR_le e
      simp only [List.length_cons] at h1 h2
      have hl : (((c :: m).drop k).drop (skipR false ((c :: m).drop k))).length ≤ m.length := by simp; omega
      rw [cutR_fuel f g _ _ (by omega) (by omega)]
theorem cutR_nil (f p : Nat) : cutR f p [] = .ok [] := by cases f <;> rfl
theorem cutR_bad {f p k : Nat} {c : B} {m : List B} (h : oneR c m = .error k) : cutR (f + 1) p (c :: m) = .error (p + k) := by unfold cutR; dsimp only; rw [h]
theorem cutR_go {f p k : Nat} {c : B} {m : List B} {x : Tk} (h : oneR c m = .ok (x, k)) : cutR (f + 1) p (c :: m) = cadd [⟨x, p⟩] (cutR f (p + k + skipR false ((c :: m).drop k)) (((c :: m).drop k).drop (skipR false ((c :: m).drop k)))) := by
  conv => lhs; unfold cutR
  dsimp only
  rw [h]
  dsimp only
  cases cutR f (p + k + skipR false ((c :: m).drop k)) (((c :: m).drop k).drop (skipR false ((c :: m).drop k))) <;> rfl
end Go.Proofs.Ythaebchmlicgaaa.Lex
