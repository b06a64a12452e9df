/-
  Layer 11, P11.2: a token alone is just that token; what is cut is cut so behind other text.
-/
import Derived.Test.YtadfoilbcipdjaaLexPure
namespace Go.Proofs.Ytadfoilbcipdjaa.Lex
set_option linter.unusedVariables false
set_option linter.unusedSimpArgs false

theorem skip_take : ∀ (l : List B) (r : Bool) (j : Nat), j ≤ skipR r l → skipR r (l.take j) = j
  | [], r, j, h => by rw [show skipR r [] = 0 from rfl] at h; obtain rfl : j = 0 := by omega
                      rfl
  | c :: l, r, 0, h => rfl
  | c :: l, r, j + 1, h => by
    rw [skipR_cons] at h
    rw [List.take_succ_cons, skipR_cons]
    split at h
    · rename_i hc
      rw [if_pos hc, skip_take l _ j (by omega)]; omega
    · omega
theorem skip_app : ∀ (l : List B) (r : Bool) (t : List B), skipR r (l ++ 10#8 :: t) = if skipR r l = l.length then l.length + 1 + skipR false t else skipR r l
  | [], r, t => by
    rw [List.nil_append, skipR_cons, if_pos (by simp [blank]), show rem r 10#8 = false by simp [rem], show skipR r [] = 0 from rfl]
    simp
  | c :: l, r, t => by
    rw [List.cons_append, skipR_cons, skipR_cons]
    by_cases hc : (rem r c || blank c) = true
    · rw [if_pos hc, if_pos hc, skip_app l (rem r c) t]
      by_cases h : skipR (rem r c) l = l.length
      · rw [if_pos h, if_pos (by simp; omega)]; simp; omega
      · rw [if_neg h, if_neg (by simp; omega)]
    · rw [if_neg hc, if_neg hc, if_neg (by simp)]
theorem text_app : ∀ (l : List B) (t : List B) (k : Nat) (r : List B), textR l = .ok (t, k) → textR (l ++ r) = .ok (t, k)
  | [], t, k, r, h => by simp [textR] at h
  | [c], t, k, r, h => by
    by_cases h1 : c = 34#8
    · rw [textR_end h1] at h; rw [List.cons_append, textR_end h1, h]
    · by_cases h2 : c.toNat < 32
      · rw [textR_low h2] at h; cases h
      · by_cases h3 : c = 92#8
        · rw [textR_esc_nil h3] at h; cases h
        · rw [textR_char h1 h2 h3] at h; simp [textR, tadd] at h
  | c :: d :: l, t, k, r, h => by
    by_cases h1 : c = 34#8
    · rw [textR_end h1] at h; rw [List.cons_append, textR_end h1, h]
    · by_cases h2 : c.toNat < 32
      · rw [textR_low h2] at h; cases h
      · by_cases h3 : c = 92#8
        · by_cases h4 : d.toNat < 32
          · rw [textR_esc_low h3 h4] at h; cases h
          · rw [textR_esc h3 h4] at h
            rw [List.cons_append, List.cons_append, textR_esc h3 h4]
            cases e : textR l with
            | error q => rw [e] at h; cases h
            | ok q =>
              obtain ⟨t', k'⟩ := q
              rw [e] at h
              rw [text_app l t' k' r e]
              exact h
        · rw [textR_char h1 h2 h3] at h
          rw [List.cons_append, textR_char h1 h2 h3]
          cases e : textR (d :: l) with
          | error q => rw [e] at h; cases h
          | ok q =>
            obtain ⟨t', k'⟩ := q
            rw [e] at h
            rw [text_app (d :: l) t' k' r e]
            exact h
theorem text_take : ∀ (l : List B) (t : List B) (k j : Nat), textR l = .ok (t, k) → k ≤ j → textR (l.take j) = .ok (t, k)
  | [], t, k, j, h, _ => by simp [textR] at h
  | [c], t, k, j, h, hj => by
    have := textR_le _ _ _ h
    rw [List.take_of_length_le (by simp; omega)]; exact h
  | c :: d :: l, t, k, j, h, hj => by
    have hk := textR_le _ _ _ h
    obtain ⟨j, rfl⟩ : ∃ i, j = i + 1 := ⟨j - 1, by omega⟩
    rw [List.take_succ_cons]
    by_cases h1 : c = 34#8
    · rw [textR_end h1] at h; rw [textR_end h1, h]
    · by_cases h2 : c.toNat < 32
      · rw [textR_low h2] at h; cases h
      · by_cases h3 : c = 92#8
        · by_cases h4 : d.toNat < 32
          · rw [textR_esc_low h3 h4] at h; cases h
          · rw [textR_esc h3 h4] at h
            cases e : textR l with
            | error q => rw [e] at h; cases h
            | ok q =>
              obtain ⟨t', k'⟩ := q
              rw [e] at h
              have hk' := textR_le _ _ _ e
              have h' := h
              simp only [tadd] at h'
              injection h' with h'; injection h' with _ h6
              obtain ⟨j, rfl⟩ : ∃ i, j = i + 1 := ⟨j - 1, by omega⟩
              rw [List.take_succ_cons, textR_esc h3 h4, text_take l t' k' j e (by omega)]
              exact h
        · rw [textR_char h1 h2 h3] at h
          rw [textR_char h1 h2 h3]
          cases e : textR (d :: l) with
          | error q => rw [e] at h; cases h
          | ok q =>
            obtain ⟨t', k'⟩ := q
            rw [e] at h
            have h' := h
            simp only [tadd] at h'
            injection h' with h'; injection h' with _ h6
            rw [text_take (d :: l) t' k' j e (by omega)]
            exact h
theorem while_app {p : B → Bool} (hp : p 10#8 = false) : ∀ (l t : List B), (l ++ 10#8 :: t).takeWhile p = l.takeWhile p
  | [], t => by rw [List.nil_append, List.takeWhile_cons, if_neg (by simp [hp])]; rfl
  | c :: l, t => by
    rw [List.cons_append, List.takeWhile_cons, List.takeWhile_cons]
    split
    · rw [while_app hp l t]
    · rfl
theorem while_take {p : B → Bool} : ∀ (l : List B) (j : Nat), (l.takeWhile p).length ≤ j → (l.take j).takeWhile p = l.takeWhile p
  | [], j, h => by simp
  | c :: l, 0, h => by
    have : (c :: l).takeWhile p = [] := List.eq_nil_of_length_eq_zero (by omega)
    rw [this]; rfl
  | c :: l, j + 1, h => by
    rw [List.take_succ_cons, List.takeWhile_cons, List.takeWhile_cons]
    rw [List.takeWhile_cons] at h
    split at h
    · rename_i hc
      rw [if_pos hc, if_pos hc, while_take l j (by simp at h; omega)]
    · rename_i hc
      rw [if_neg hc, if_neg hc]
theorem one_app {c : B} {m t : List B} {x : Tk} {k : Nat} (h : oneR c m = .ok (x, k)) : oneR c (m ++ 10#8 :: t) = .ok (x, k) := by
  unfold oneR at h ⊢
  by_cases h1 : c = 34#8
  · rw [if_pos h1] at h ⊢
    cases e : textR m with
    | error q => rw [e] at h; cases h
    | ok q =>
      obtain ⟨t', k'⟩ := q
      rw [text_app m t' k' _ e]
      rw [e] at h
      exact h
  · rw [if_neg h1] at h ⊢
    rw [← List.cons_append, while_app (p := within) (by decide), while_app (p := digit) (by decide)]
    exact h
theorem one_take {c : B} {m : List B} {x : Tk} {k j : Nat} (h : oneR c m = .ok (x, k)) (hj : k ≤ j + 1) : oneR c (m.take j) = .ok (x, k) := by
  unfold oneR at h ⊢
  by_cases h1 : c = 34#8
  · rw [if_pos h1] at h ⊢
    cases e : textR m with
    | error q => rw [e] at h; cases h
    | ok q =>
      obtain ⟨t', k'⟩ := q
      rw [e] at h
      have h' := h
      simp only at h'
      injection h' with h'; injection h' with _ h6
      rw [text_take m t' k' j e (by omega)]
      exact h
  · rw [if_neg h1] at h ⊢
    rw [← List.take_succ_cons]
    by_cases h2 : letter c = true
    · rw [if_pos h2] at h ⊢
      split at h
      · cases h
      · rename_i h3
        have h' := h
        injection h' with h'; injection h' with _ h6
        rw [while_take (p := within) (c :: m) (j + 1) (by omega), if_neg h3]
        exact h
    · rw [if_neg h2] at h ⊢
      split at h
      · cases h
      · rename_i h3
        have h' := h
        injection h' with h'; injection h' with _ h6
        rw [while_take (p := digit) (c :: m) (j + 1) (by omega), if_neg h3]
        exact h
/-- What begins a token lies not between tokens. -/
theorem one_begins {c : B} {m : List B} {x : Tk} {k : Nat} (h : oneR c m = .ok (x, k)) : (rem false c || blank c) = false := by
  have hc : c = 34#8 ∨ letter c = true ∨ digit c = true := by
    unfold oneR at h
    by_cases h1 : c = 34#8
    · exact .inl h1
    · rw [if_neg h1] at h
      by_cases h2 : letter c = true
      · exact .inr (.inl h2)
      · rw [if_neg h2] at h
        split at h
        · cases h
        · rename_i h3
          refine .inr (.inr ?_)
          cases hd : digit c
          · exact absurd (.inl (by rw [List.takeWhile_cons, if_neg (by simp [hd])]; rfl)) h3
          · rfl
  have hn : c.toNat = 34 ∨ 97 ≤ c.toNat ∧ c.toNat ≤ 122 ∨ 48 ≤ c.toNat ∧ c.toNat ≤ 57 := by
    rcases hc with rfl | hc | hc
    · exact .inl rfl
    · exact .inr (.inl (by simpa [letter] using hc))
    · exact .inr (.inr (by simpa [digit] using hc))
  have ne : ∀ k : Nat, k < 256 → c.toNat ≠ k → c ≠ BitVec.ofNat 8 k := fun k hk h e => h (by rw [e, BitVec.toNat_ofNat, Nat.mod_eq_of_lt (by omega)])
  have n9 := ne 9 (by decide) (by omega)
  have n10 := ne 10 (by decide) (by omega)
  have n13 := ne 13 (by decide) (by omega)
  have n32 := ne 32 (by decide) (by omega)
  have n35 := ne 35 (by decide) (by omega)
  simp only [rem, blank]
  simp [n9, n10, n13, n32, n35]
/-- From a place between tokens on. -/
def full (p : Nat) (l : List B) : Except Nat (List Tok) := cutR (l.length + 1) (p + skipR false l) (l.drop (skipR false l))
theorem full_eq (p : Nat) (l : List B) (f : Nat) (hf : l.length - skipR false l < f) : full p l = cutR f (p + skipR false l) (l.drop (skipR false l)) :=
  cutR_fuel _ _ _ _ (by rw [List.length_drop]; omega) (by rw [List.length_drop]; omega)
theorem full_end {p : Nat} {l : List B} (h : skipR false l = l.length) : full p l = .ok [] := by
  unfold full; rw [List.drop_eq_nil_of_le (by omega)]; exact cutR_nil _ _
theorem full_go {p : Nat} {l m : List B} {c : B} {x : Tk} {k : Nat} (hd : l.drop (skipR false l) = c :: m) (ho : oneR c m = .ok (x, k)) : full p l = cadd [⟨x, p + skipR false l⟩] (full (p + skipR false l + k) ((c :: m).drop k)) := by
  have hl : (c :: m).length = l.length - skipR false l := by rw [← hd, List.length_drop]
  have hk := oneR_le ho
  rw [full_eq p l (l.length + 1 + 1) (by omega), hd, cutR_go ho, full_eq (p + skipR false l + k) ((c :: m).drop k) (l.length + 1) (by rw [List.length_drop]; omega)]
theorem full_bad {p : Nat} {l m : List B} {c : B} {k : Nat} (hd : l.drop (skipR false l) = c :: m) (ho : oneR c m = .error k) : full p l = .error (p + skipR false l + k) := by
  unfold full; rw [hd, cutR_bad ho]
theorem cut_full (s : List B) : cut s = if 2000 < s.length then .error (0, 3) else cutE (full 0 s) := by
  unfold cut full
  rw [Nat.zero_add]
/-- What is cut is cut so ahead of a byte 10, and what comes behind it is cut as it was. -/
theorem full_app : ∀ (n : Nat) (l : List B) (p : Nat) (t : List B) (us : List Tok), l.length < n → full p l = .ok us → full p (l ++ 10#8 :: t) = cadd us (full (p + l.length + 1) t)
  | 0, _, _, _, _, h, _ => absurd h (Nat.not_lt_zero _)
  | n + 1, l, p, t, us, hn, h => by
    have hle := skipR_le l false
    have hs := skip_app l false t
    by_cases he : skipR false l = l.length
    · rw [full_end he] at h
      injection h with h
      subst h
      rw [cadd_nil]
      rw [if_pos he] at hs
      unfold full
      rw [hs, show p + (l.length + 1 + skipR false t) = p + l.length + 1 + skipR false t by omega]
      rw [show (l ++ 10#8 :: t).drop (l.length + 1 + skipR false t) = t.drop (skipR false t) by
        rw [Nat.add_assoc, List.drop_append, List.drop_eq_nil_of_le (by omega), List.nil_append, show l.length + (1 + skipR false t) - l.length = skipR false t + 1 by omega, List.drop_succ_cons]]
      exact cutR_fuel _ _ _ _ (by rw [List.length_drop, List.length_append]; simp; omega) (by rw [List.length_drop]; omega)
    · rw [if_neg he] at hs
      obtain ⟨c, m, hd⟩ : ∃ c m, l.drop (skipR false l) = c :: m := by
        cases e : l.drop (skipR false l) with
        | nil => have := congrArg List.length e; rw [List.length_drop] at this; simp at this; omega
        | cons c m => exact ⟨c, m, rfl⟩
      have hl : m.length + 1 = l.length - skipR false l := by have := congrArg List.length hd; rw [List.length_drop] at this; simpa using this.symm
      cases ho : oneR c m with
      | error k => rw [full_bad hd ho] at h; cases h
      | ok xk =>
        obtain ⟨x, k⟩ := xk
        have hk := oneR_le ho
        rw [full_go hd ho] at h
        cases e2 : full (p + skipR false l + k) ((c :: m).drop k) with
        | error q => rw [e2] at h; cases h
        | ok ts =>
          rw [e2] at h
          simp only [cadd] at h
          injection h with h
          subst h
          have hd2 : (l ++ 10#8 :: t).drop (skipR false (l ++ 10#8 :: t)) = c :: (m ++ 10#8 :: t) := by
            rw [hs, List.drop_append_of_le_length hle, hd]; rfl
          rw [full_go hd2 (one_app ho), hs]
          rw [show (c :: (m ++ 10#8 :: t)).drop k = (c :: m).drop k ++ 10#8 :: t by rw [← List.cons_append, List.drop_append_of_le_length (by simp; omega)]]
          rw [full_app n ((c :: m).drop k) (p + skipR false l + k) t ts (by rw [List.length_drop]; simp; omega) e2, cadd_cadd]
          rw [show p + skipR false l + k + ((c :: m).drop k).length + 1 = p + l.length + 1 by rw [List.length_drop]; simp; omega]
def shift (d : Nat) (t : Tok) : Tok := ⟨t.t, t.at_ + d⟩
theorem cutR_shift (d : Nat) : ∀ (f p : Nat) (l : List B), cutR f (p + d) l = match cutR f p l with
    | .error e => .error (e + d)
    | .ok ts => .ok (ts.map (shift d))
  | 0, p, l => rfl
  | f + 1, p, [] => rfl
  | f + 1, p, c :: m => by
    cases ho : oneR c m with
    | error k => rw [cutR_bad ho, cutR_bad ho]; show Except.error _ = Except.error _; congr 1; omega
    | ok xk =>
      obtain ⟨x, k⟩ := xk
      rw [cutR_go ho, cutR_go ho, show p + d + k + skipR false ((c :: m).drop k) = p + k + skipR false ((c :: m).drop k) + d by omega, cutR_shift d f]
      cases cutR f (p + k + skipR false ((c :: m).drop k)) (((c :: m).drop k).drop (skipR false ((c :: m).drop k))) <;> rfl
/-- P11.2: what was cut is cut so behind any other text that is cut, with a byte 10 between. -/
theorem cut_behind {a s : List B} {us ts : List Tok} (ha : cut a = .ok us) (hs : cut s = .ok ts) (hl : a.length + s.length + 1 ≤ 2000) : cut (a ++ 10#8 :: s) = .ok (us ++ ts.map (shift (a.length + 1))) := by
  rw [cut_full, if_neg (by omega)] at ha hs
  rw [cut_full, if_neg (by simp; omega)]
  cases e1 : full 0 a with
  | error q => rw [e1] at ha; cases ha
  | ok us' =>
    rw [e1] at ha
    injection ha with ha
    subst ha
    cases e2 : full 0 s with
    | error q => rw [e2] at hs; cases hs
    | ok ts' =>
      rw [e2] at hs
      injection hs with hs
      subst hs
      rw [full_app (a.length + 1) a 0 s us' (by omega) e1]
      have : full (0 + a.length + 1) s = .ok (ts'.map (shift (a.length + 1))) := by
        have h := cutR_shift (a.length + 1) (s.length + 1) (0 + skipR false s) (s.drop (skipR false s))
        unfold full at e2 ⊢
        rw [e2] at h
        rw [show 0 + a.length + 1 + skipR false s = 0 + skipR false s + (a.length + 1) by omega, h]
      rw [this]
      rfl
/-- Where the token behind the i-th one begins. -/
def next (n : Nat) (ts : List Tok) (i : Nat) : Nat := match ts[i + 1]? with
  | none => n
  | some t => t.at_
/-- P11.2: tokens rise, lie in the text, and each is cut alone. -/
theorem alone : ∀ (n : Nat) (s : List B) (q : Nat) (ts : List Tok), s.length - q < n → q ≤ s.length → s.length ≤ 2000 → full q (s.drop q) = .ok ts →
    (∀ t, ts[0]? = some t → q ≤ t.at_ ∧ q + skipR false (s.drop q) = t.at_) ∧ (ts = [] → q + skipR false (s.drop q) = s.length) ∧
    ∀ (i : Nat) t, ts[i]? = some t → t.at_ < next s.length ts i ∧ next s.length ts i ≤ s.length ∧ cut ((s.take (next s.length ts i)).drop t.at_) = .ok [⟨t.t, 0⟩]
  | 0, _, _, _, h, _, _, _ => absurd h (Nat.not_lt_zero _)
  | n + 1, s, q, ts, hn, hq, h2, h => by
    have hle := skipR_le (s.drop q) false
    rw [List.length_drop] at hle
    by_cases he : skipR false (s.drop q) = (s.drop q).length
    · rw [full_end he] at h
      injection h with h
      subst h
      rw [List.length_drop] at he
      exact ⟨fun t ht => by simp at ht, fun _ => by omega, fun i t ht => by simp at ht⟩
    · obtain ⟨c, m, hd⟩ : ∃ c m, (s.drop q).drop (skipR false (s.drop q)) = c :: m := by
        cases e : (s.drop q).drop (skipR false (s.drop q)) with
        | nil => have := congrArg List.length e; rw [List.length_drop] at this; simp at this; rw [List.length_drop] at he; omega
        | cons c m => exact ⟨c, m, rfl⟩
      obtain ⟨p, hp⟩ : ∃ p, p = q + skipR false (s.drop q) := ⟨_, rfl⟩
      have hd' : s.drop p = c :: m := by rw [hp, ← List.drop_drop]; exact hd
      have hl : m.length + 1 = s.length - p := by have := congrArg List.length hd'; rw [List.length_drop] at this; simpa using this.symm
      cases ho : oneR c m with
      | error k => rw [full_bad hd ho] at h; cases h
      | ok xk =>
        obtain ⟨x, k⟩ := xk
        have hk := oneR_le ho
        rw [full_go hd ho, ← hp] at h
        rw [show (c :: m).drop k = s.drop (p + k) by rw [← hd', List.drop_drop]] at h
        cases e2 : full (p + k) (s.drop (p + k)) with
        | error z => rw [e2] at h; cases h
        | ok us =>
          rw [e2] at h
          simp only [cadd, List.singleton_append] at h
          injection h with h
          subst h
          obtain ⟨i1, i2, i3⟩ := alone n s (p + k) us (by omega) (by omega) h2 e2
          obtain ⟨to, hto⟩ : ∃ to, to = p + k + skipR false (s.drop (p + k)) := ⟨_, rfl⟩
          have hle2 := skipR_le (s.drop (p + k)) false
          rw [List.length_drop] at hle2
          have hnx : next s.length (⟨x, p⟩ :: us) 0 = to := by
            show (match us[0]? with | none => s.length | some t => t.at_) = to
            cases hu : us[0]? with
            | none =>
              have : us = [] := by cases us with
                | nil => rfl
                | cons => simp at hu
              exact (i2 this).symm.trans hto.symm
            | some t => exact ((i1 t hu).2.symm).trans hto.symm
          refine ⟨fun t ht => by simp at ht; subst ht; exact ⟨by show q ≤ p; omega, hp.symm⟩, fun e => by simp at e, fun i t ht => ?_⟩
          cases i with
          | zero =>
            simp at ht
            subst ht
            rw [hnx]
            refine ⟨by show p < to; omega, by omega, ?_⟩
            show cut ((s.take to).drop p) = .ok [⟨x, 0⟩]
            have hsub : (s.take to).drop p = c :: m.take (to - p - 1) := by
              rw [List.drop_take, hd', show to - p = (to - p - 1) + 1 by omega, List.take_succ_cons]
              rfl
            have hsk : skipR false ((s.take to).drop p) = 0 := by rw [hsub, skipR_cons, if_neg (by rw [one_begins ho]; decide)]
            have hlen : ((s.take to).drop p).length = to - p := by rw [List.length_drop, List.length_take]; omega
            rw [cut_full, if_neg (by omega)]
            have hd3 : ((s.take to).drop p).drop (skipR false ((s.take to).drop p)) = c :: m.take (to - p - 1) := by rw [hsk, List.drop_zero, hsub]
            rw [full_go hd3 (one_take ho (by omega)), hsk]
            have hrest : (c :: m.take (to - p - 1)).drop k = (s.drop (p + k)).take (skipR false (s.drop (p + k))) := by
              rw [← hsub, List.drop_drop, List.drop_take, hto, show p + k + skipR false (s.drop (p + k)) - (p + k) = skipR false (s.drop (p + k)) by omega]
            rw [hrest, full_end (by rw [skip_take _ _ _ (Nat.le_refl _), List.length_take, List.length_drop]; omega)]
            rfl
          | succ i =>
            have ht' : us[i]? = some t := by simpa using ht
            have hnx2 : next s.length (⟨x, p⟩ :: us) (i + 1) = next s.length us i := by
              show (match (⟨x, p⟩ :: us)[i + 1 + 1]? with | none => s.length | some t => t.at_) = match us[i + 1]? with | none => s.length | some t => t.at_
              rw [List.getElem?_cons_succ]
            rw [hnx2]
            exact i3 i t ht'
theorem cut_alone {s : List B} {ts : List Tok} (h : cut s = .ok ts) : s.length ≤ 2000 ∧ ∀ (i : Nat) t, ts[i]? = some t → t.at_ < next s.length ts i ∧ next s.length ts i ≤ s.length ∧ cut ((s.take (next s.length ts i)).drop t.at_) = .ok [⟨t.t, 0⟩] := by
  rw [cut_full] at h
  split at h
  · cases h
  · rename_i h2
    refine ⟨by omega, ?_⟩
    cases e : full 0 s with
    | error q => rw [e] at h; cases h
    | ok us =>
      rw [e] at h
      injection h with h
      subst h
      exact (alone (s.length + 1) s 0 us (by omega) (by omega) (by omega) (by rw [List.drop_zero]; exact e)).2.2
end Go.Proofs.Ytadfoilbcipdjaa.Lex
