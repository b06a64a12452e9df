/-
  Layer 11: a text read byte by byte, by states: it comes to what 'cut' does. (Of no program.)
-/
import Derived.Test.YtadfoilbcipdjaaLexAlone
namespace Go.Proofs.Ytadfoilbcipdjaa.Lex
set_option linter.unusedVariables false
set_option linter.unusedSimpArgs false

/-- Where one is: between tokens, in a remark, in a word from q with the bytes t, in a number of d digits, in a text, behind a \ in it. -/
inductive St
  | btw | com
  | word (q : Nat) (t : List B)
  | num (q d : Nat) (n : Int)
  | txt (q : Nat) (t : List B)
  | esc (q : Nat) (t : List B)
/-- The token that isn't ended. -/
def St.cur : St → List Tok
  | .btw => [] | .com => []
  | .word q t => [⟨⟨1, 0, t⟩, q⟩]
  | .num q _ n => [⟨⟨2, n, []⟩, q⟩]
  | .txt q t => [⟨⟨3, 0, t⟩, q⟩]
  | .esc q t => [⟨⟨3, 0, t⟩, q⟩]
/-- A byte between tokens, at p. -/
def bst (us : List Tok) (p : Nat) (c : B) : Except Nat (St × List Tok) :=
  if blank c then .ok (.btw, us)
  else if c = 35#8 then .ok (.com, us)
  else if letter c then .ok (.word p [c], us)
  else if digit c then .ok (.num p 1 ((c.toNat : Int) - 48), us)
  else if c = 34#8 then .ok (.txt p [], us)
  else .error p
/-- A byte at p. -/
def step (st : St) (us : List Tok) (p : Nat) (c : B) : Except Nat (St × List Tok) :=
  match st with
  | .btw => bst us p c
  | .com => if c = 10#8 then .ok (.btw, us) else .ok (.com, us)
  | .word q t => if within c then (if t.length + 1 ≤ 20 then .ok (.word q (t ++ [c]), us) else .error q) else bst (us ++ [⟨⟨1, 0, t⟩, q⟩]) p c
  | .num q d n => if digit c then (if (decide (0 < d) && decide (n = 0)) = false ∧ 10 * n + ((c.toNat : Int) - 48) ≤ 9999 then .ok (.num q (d + 1) (10 * n + ((c.toNat : Int) - 48)), us) else .error q) else bst (us ++ [⟨⟨2, n, []⟩, q⟩]) p c
  | .txt q t => if c.toNat < 32 then .error p else if c = 34#8 then .ok (.btw, us ++ [⟨⟨3, 0, t⟩, q⟩]) else if c = 92#8 then .ok (.esc q t, us) else .ok (.txt q (t ++ [c]), us)
  | .esc q t => if c.toNat < 32 then .error p else .ok (.txt q (t ++ if c = 34#8 then [c] else [92#8, c]), us)
def run : St → List Tok → Nat → List B → Except Nat (List Tok)
  | st, us, _, [] => .ok (us ++ st.cur)
  | st, us, p, c :: l => match step st us p c with
    | .error e => .error e
    | .ok (st', us') => run st' us' (p + 1) l
theorem run_cons (st : St) (us : List Tok) (p : Nat) (c : B) (l : List B) : run st us p (c :: l) = match step st us p c with
    | .error e => .error e
    | .ok (st', us') => run st' us' (p + 1) l := rfl
theorem run_ok {st st' : St} {us us' : List Tok} {p : Nat} {c : B} {l : List B} (h : step st us p c = .ok (st', us')) : run st us p (c :: l) = run st' us' (p + 1) l := by rw [run_cons, h]
theorem run_bad {st : St} {us : List Tok} {p e : Nat} {c : B} {l : List B} (h : step st us p c = .error e) : run st us p (c :: l) = .error e := by rw [run_cons, h]
theorem run_like {st : St} {us us' : List Tok} {p : Nat} {c : B} {l : List B} (h : step st us p c = bst us' p c) : run st us p (c :: l) = run .btw us' p (c :: l) := by rw [run_cons, run_cons, h]; rfl
theorem ten_end (us : List Tok) (p : Nat) (r : Bool) : run (if r then .com else .btw) us p [10#8] = .ok us := by
  cases r
  · rw [if_neg (by decide), run_ok (st' := .btw) (us' := us) (by rfl)]; simp [run, St.cur]
  · rw [if_pos rfl, run_ok (st' := .btw) (us' := us) (by rfl)]; simp [run, St.cur]
/-- What lies between tokens. -/
theorem run_skip : ∀ (l : List B) (r : Bool) (us : List Tok) (p : Nat), run (if r then .com else .btw) us p (l ++ [10#8]) = run .btw us (p + skipR r l) (l.drop (skipR r l) ++ [10#8])
  | [], r, us, p => by
    rw [List.nil_append, ten_end]
    have := ten_end us p false
    rw [if_neg (by decide)] at this
    exact this.symm
  | c :: l, r, us, p => by
    have ih := run_skip l
    by_cases h : rem r c || blank c
    · rw [skipR_cons, if_pos h]
      have hs : step (if r then .com else .btw) us p c = .ok ((if rem r c then .com else .btw), us) := by
        by_cases h10 : c = 10#8
        · subst h10
          cases r <;> rfl
        · cases r
          · have hr : rem false c = decide (c = 35#8) := by unfold rem; rw [if_neg h10]; simp
            rw [if_neg (by decide)]
            show bst us p c = _
            unfold bst
            by_cases hb : blank c
            · rw [if_pos hb]
              have : c ≠ 35#8 := by rintro rfl; exact absurd hb (by decide)
              rw [hr, decide_eq_false this]; rfl
            · rw [if_neg hb]
              rw [hr] at h ⊢
              have h35 : c = 35#8 := by simpa [hb] using h
              rw [if_pos h35, decide_eq_true h35]; rfl
          · rw [if_pos rfl]
            show (if c = 10#8 then _ else _) = _
            rw [if_neg h10]
            have hr : rem true c = true := by unfold rem; rw [if_neg h10]; rfl
            rw [hr]; rfl
      rw [List.cons_append, run_ok hs, ih, Nat.add_comm 1, List.drop_succ_cons]
      congr 1; omega
    · rw [skipR_cons, if_neg h]
      have hr : r = false := by
        cases r
        · rfl
        · exfalso; apply h
          by_cases h10 : c = 10#8
          · subst h10; rfl
          · have hr : rem true c = true := by unfold rem; rw [if_neg h10]; rfl
            rw [hr]; rfl
      subst hr
      rfl
theorem run_text : ∀ (n : Nat) (l : List B), l.length < n → ∀ (us : List Tok) (q p : Nat) (t : List B), run (.txt q t) us p (l ++ [10#8]) = match textR l with
    | .error k => .error (p + k)
    | .ok (t', k) => run .btw (us ++ [⟨⟨3, 0, t ++ t'⟩, q⟩]) (p + k) (l.drop k ++ [10#8])
  | 0, _, h, _, _, _, _ => absurd h (Nat.not_lt_zero _)
  | n + 1, [], _, us, q, p, t => by rw [List.nil_append, run_bad (e := p) (by rfl)]; rfl
  | n + 1, c :: l, hn, us, q, p, t => by
    rw [List.cons_append]
    by_cases h34 : c = 34#8
    · rw [textR_end h34, run_ok (st' := .btw) (us' := us ++ [⟨⟨3, 0, t⟩, q⟩]) (by subst h34; rfl)]
      simp
    · by_cases hlow : c.toNat < 32
      · rw [textR_low hlow, run_bad (e := p) (by show (if c.toNat < 32 then _ else _) = _; rw [if_pos hlow])]; rfl
      · by_cases h92 : c = 92#8
        · rw [run_ok (st' := .esc q t) (us' := us) (by subst h92; rfl)]
          cases l with
          | nil => rw [List.nil_append, textR_esc_nil h92, run_bad (e := p + 1) (by rfl)]
          | cons d l =>
            rw [List.cons_append]
            by_cases hd : d.toNat < 32
            · rw [textR_esc_low h92 hd, run_bad (e := p + 1) (by show (if d.toNat < 32 then _ else _) = _; rw [if_pos hd])]
            · rw [textR_esc h92 hd, run_ok (st' := .txt q (t ++ if d = 34#8 then [d] else [92#8, d])) (us' := us) (by show (if d.toNat < 32 then _ else _) = _; rw [if_neg hd]), run_text n l (by simp at hn; omega)]
              subst h92
              cases textR l with
              | error k => simp [tadd]; omega
              | ok r =>
                obtain ⟨t', k⟩ := r
                simp only [tadd]
                rw [List.append_assoc, Nat.add_comm 2 k, List.drop_succ_cons, List.drop_succ_cons]
                congr 1; omega
        · rw [textR_char h34 hlow h92, run_ok (st' := .txt q (t ++ [c])) (us' := us) (by show (if c.toNat < 32 then _ else _) = _; rw [if_neg hlow, if_neg h34, if_neg h92]), run_text n l (by simp at hn; omega)]
          cases textR l with
          | error k => simp [tadd]; omega
          | ok r =>
            obtain ⟨t', k⟩ := r
            simp only [tadd]
            rw [List.append_assoc, Nat.add_comm 1 k, List.drop_succ_cons]
            congr 1; omega
theorem ten_not : within 10#8 = false ∧ digit 10#8 = false := by decide
theorem run_word : ∀ (l : List B) (us : List Tok) (q p : Nat) (t : List B), t.length ≤ 20 → run (.word q t) us p (l ++ [10#8]) = if 20 < (t ++ l.takeWhile within).length then .error q else run .btw (us ++ [⟨⟨1, 0, t ++ l.takeWhile within⟩, q⟩]) (p + (l.takeWhile within).length) (l.drop (l.takeWhile within).length ++ [10#8])
  | [], us, q, p, t, ht => by
    rw [List.nil_append, run_like (us' := us ++ [⟨⟨1, 0, t⟩, q⟩]) (by rfl)]
    rw [if_neg (by simp; omega)]; simp
  | c :: l, us, q, p, t, ht => by
    rw [List.cons_append]
    by_cases hc : within c
    · rw [List.takeWhile_cons, if_pos hc]
      by_cases h20 : t.length + 1 ≤ 20
      · rw [run_ok (st' := .word q (t ++ [c])) (us' := us) (by show (if within c then _ else _) = _; rw [if_pos hc, if_pos h20]), run_word l us q (p + 1) (t ++ [c]) (by simp; omega)]
        simp only [List.append_assoc, List.cons_append, List.nil_append, List.length_cons, List.drop_succ_cons]
        rw [show p + 1 + (l.takeWhile within).length = p + ((l.takeWhile within).length + 1) by omega]
      · rw [run_bad (e := q) (by show (if within c then _ else _) = _; rw [if_pos hc, if_neg h20]), if_pos (by simp; omega)]
    · rw [List.takeWhile_cons, if_neg hc, run_like (us' := us ++ [⟨⟨1, 0, t⟩, q⟩]) (by show (if within c then _ else _) = _; rw [if_neg hc])]
      rw [if_neg (by simp; omega)]; simp
/-- How a number may go on, behind d digits that come to n. -/
def numOk (d : Nat) (n : Int) : List B → Bool
  | [] => true
  | c :: l => decide ((decide (0 < d) && decide (n = 0)) = false ∧ 10 * n + ((c.toNat : Int) - 48) ≤ 9999) && numOk (d + 1) (10 * n + ((c.toNat : Int) - 48)) l
theorem numOk_cons (d : Nat) (n : Int) (c : B) (l : List B) : numOk d n (c :: l) = (decide ((decide (0 < d) && decide (n = 0)) = false ∧ 10 * n + ((c.toNat : Int) - 48) ≤ 9999) && numOk (d + 1) (10 * n + ((c.toNat : Int) - 48)) l) := rfl
def numV (n : Int) (l : List B) : Int := l.foldl (fun n c => 10 * n + ((c.toNat : Int) - 48)) n
theorem run_num : ∀ (l : List B) (us : List Tok) (q p d : Nat) (n : Int), run (.num q d n) us p (l ++ [10#8]) = if numOk d n (l.takeWhile digit) then run .btw (us ++ [⟨⟨2, numV n (l.takeWhile digit), []⟩, q⟩]) (p + (l.takeWhile digit).length) (l.drop (l.takeWhile digit).length ++ [10#8]) else .error q
  | [], us, q, p, d, n => by
    rw [List.nil_append, run_like (us' := us ++ [⟨⟨2, n, []⟩, q⟩]) (by rfl)]
    rfl
  | c :: l, us, q, p, d, n => by
    rw [List.cons_append]
    by_cases hc : digit c
    · rw [List.takeWhile_cons, if_pos hc]
      by_cases hg : (decide (0 < d) && decide (n = 0)) = false ∧ 10 * n + ((c.toNat : Int) - 48) ≤ 9999
      · rw [run_ok (st' := .num q (d + 1) (10 * n + ((c.toNat : Int) - 48))) (us' := us) (by show (if digit c then _ else _) = _; rw [if_pos hc, if_pos hg]), run_num l us q (p + 1) (d + 1) _]
        rw [numOk_cons, decide_eq_true hg, Bool.true_and]
        rw [show numV n (c :: l.takeWhile digit) = numV (10 * n + ((c.toNat : Int) - 48)) (l.takeWhile digit) from rfl]
        simp only [List.length_cons, List.drop_succ_cons]
        rw [show p + 1 + (l.takeWhile digit).length = p + ((l.takeWhile digit).length + 1) by omega]
      · rw [run_bad (e := q) (by show (if digit c then _ else _) = _; rw [if_pos hc, if_neg hg])]
        rw [numOk_cons, decide_eq_false hg]
        rfl
    · rw [List.takeWhile_cons, if_neg hc, run_like (us' := us ++ [⟨⟨2, n, []⟩, q⟩]) (by show (if digit c then _ else _) = _; rw [if_neg hc])]
      rfl
theorem digit_iff {c : B} : digit c = true ↔ 48 ≤ c.toNat ∧ c.toNat ≤ 57 := by simp [digit]
/-- Behind digits that do not begin with a 0: n lies between 10^(d-1) and 10^d. -/
theorem numOk_iff : ∀ (l : List B) (d : Nat) (n : Int), (∀ c ∈ l, digit c = true) → 1 ≤ d → d ≤ 4 → n < 10 ^ d → 10 ^ (d - 1) ≤ n → (numOk d n l = true ↔ d + l.length ≤ 4)
  | [], d, n, _, _, h4, _, _ => by simp [numOk]; omega
  | c :: l, d, n, hl, h1, h4, hn, hm => by
    have hc := digit_iff.1 (hl c (List.mem_cons_self ..))
    have hpos : (1 : Int) ≤ 10 ^ (d - 1) := by
      rcases (show d = 1 ∨ d = 2 ∨ d = 3 ∨ d = 4 by omega) with rfl | rfl | rfl | rfl <;> decide
    have hn0 : n ≠ 0 := by omega
    have hstep : numOk d n (c :: l) = (decide (10 * n + ((c.toNat : Int) - 48) ≤ 9999) && numOk (d + 1) (10 * n + ((c.toNat : Int) - 48)) l) := by
      rw [numOk_cons]
      simp [hn0]
    rw [hstep]
    rcases (show d = 4 ∨ d ≤ 3 by omega) with rfl | hd3
    · have : ¬ (10 * n + ((c.toNat : Int) - 48) ≤ 9999) := by
        have : (10 : Int) ^ (4 - 1) = 1000 := by decide
        omega
      rw [decide_eq_false this]
      simp
    · have e1 : (10 : Int) ^ (d + 1) = 10 * 10 ^ d := by rw [Int.pow_succ]; omega
      have e2 : (10 : Int) ^ d = 10 * 10 ^ (d - 1) := by
        conv => lhs; rw [show d = (d - 1) + 1 by omega]
        rw [Int.pow_succ]; omega
      have hle : (10 : Int) ^ d ≤ 1000 := by
        rcases (show d = 1 ∨ d = 2 ∨ d = 3 by omega) with rfl | rfl | rfl <;> decide
      have : 10 * n + ((c.toNat : Int) - 48) ≤ 9999 := by omega
      rw [decide_eq_true this, Bool.true_and, numOk_iff l (d + 1) _ (fun x hx => hl x (List.mem_cons_of_mem _ hx)) (by omega) (by omega) (by rw [e1]; omega) (by rw [show d + 1 - 1 = d by omega, e2]; omega)]
      simp; omega
theorem takeWhile_all (p : B → Bool) : ∀ (l : List B), ∀ c ∈ l.takeWhile p, p c = true
  | [], _, h => by simp at h
  | x :: l, c, h => by
    rw [List.takeWhile_cons] at h
    split at h
    · rename_i hx
      rcases List.mem_cons.1 h with rfl | h
      · exact hx
      · exact takeWhile_all p l c h
    · simp at h
/-- One token, as the states read it. -/
theorem run_one {c : B} {l : List B} (hb : (rem false c || blank c) = false) (us : List Tok) (p : Nat) : run .btw us p (c :: l ++ [10#8]) = match oneR c l with
    | .error k => .error (p + k)
    | .ok (x, k) => run .btw (us ++ [⟨x, p⟩]) (p + k) ((c :: l).drop k ++ [10#8]) := by
  have hbl : blank c = false := by revert hb; cases blank c <;> simp
  have h10 : c ≠ 10#8 := by rintro rfl; exact absurd hbl (by decide)
  have h35 : c ≠ 35#8 := by
    rintro rfl
    exact absurd hb (by decide)
  rw [List.cons_append]
  have hst : step .btw us p c = if letter c then .ok (.word p [c], us) else if digit c then .ok (.num p 1 ((c.toNat : Int) - 48), us) else if c = 34#8 then .ok (.txt p [], us) else .error p := by
    show bst us p c = _
    unfold bst
    rw [if_neg (by rw [hbl]; decide), if_neg h35]
  by_cases h34 : c = 34#8
  · subst h34
    rw [run_ok (st' := .txt p []) (us' := us) (by rfl), run_text _ l (Nat.lt_succ_self _)]
    unfold oneR
    rw [if_pos rfl]
    cases textR l with
    | error k => simp; omega
    | ok r =>
      obtain ⟨t', k⟩ := r
      dsimp only
      rw [Nat.add_comm 1 k, List.drop_succ_cons]
      rw [show p + 1 + k = p + (k + 1) by omega]; rfl
  · by_cases hlt : letter c
    · rw [run_ok (st' := .word p [c]) (us' := us) (by rw [hst, if_pos hlt]), run_word l us p (p + 1) [c] (by simp)]
      unfold oneR
      rw [if_neg h34, if_pos hlt, List.takeWhile_cons, if_pos (letter_within hlt)]
      by_cases h20 : 20 < ([c] ++ l.takeWhile within).length
      · rw [if_pos h20, if_pos (by simpa using h20)]; rfl
      · rw [if_neg h20, if_neg (by simpa using h20)]
        dsimp only
        simp only [List.length_cons, List.drop_succ_cons, List.cons_append, List.nil_append]
        rw [show p + 1 + (l.takeWhile within).length = p + ((l.takeWhile within).length + 1) by omega]
    · by_cases hdg : digit c
      · rw [run_ok (st' := .num p 1 ((c.toNat : Int) - 48)) (us' := us) (by rw [hst, if_neg hlt, if_pos hdg]), run_num]
        unfold oneR
        rw [if_neg h34, if_neg hlt, List.takeWhile_cons, if_pos hdg]
        have hd := digit_iff.1 hdg
        have hv : val (c :: l.takeWhile digit) = numV ((c.toNat : Int) - 48) (l.takeWhile digit) := by
          unfold val numV; rw [List.foldl_cons]; congr 1; omega
        have hok : numOk 1 ((c.toNat : Int) - 48) (l.takeWhile digit) = true ↔ ¬ ((c :: l.takeWhile digit).length = 0 ∨ 4 < (c :: l.takeWhile digit).length ∨ 1 < (c :: l.takeWhile digit).length ∧ c = 48#8) := by
          by_cases h48 : c = 48#8
          · subst h48
            cases l.takeWhile digit with
            | nil => simp [numOk]
            | cons x m => simp [numOk]
          · have h48' : c.toNat ≠ 48 := fun e => h48 (BitVec.eq_of_toNat_eq e)
            rw [numOk_iff _ 1 _ (takeWhile_all digit l) (by omega) (by omega) (by omega) (by simp; omega)]
            simp [h48]; omega
        by_cases hk : numOk 1 ((c.toNat : Int) - 48) (l.takeWhile digit) = true
        · rw [if_pos hk, if_neg (hok.1 hk)]
          dsimp only
          rw [hv]
          simp only [List.length_cons, List.drop_succ_cons]
          rw [show p + 1 + (l.takeWhile digit).length = p + ((l.takeWhile digit).length + 1) by omega]
        · rw [if_neg hk, if_pos (Classical.not_not.1 (fun h => hk (hok.2 h)))]
          rfl
      · rw [run_bad (e := p) (by rw [hst, if_neg hlt, if_neg hdg, if_neg h34])]
        unfold oneR
        rw [if_neg h34, if_neg hlt, List.takeWhile_cons, if_neg hdg, if_pos (.inl rfl)]
        rfl
theorem drop_begins : ∀ (l : List B) (r : Bool) (c : B) (m : List B), l.drop (skipR r l) = c :: m → (rem false c || blank c) = false
  | [], r, c, m, h => by simp at h
  | x :: l, r, c, m, h => by
    rw [skipR_cons] at h
    split at h
    · rw [Nat.add_comm, List.drop_succ_cons] at h
      exact drop_begins l _ c m h
    · rename_i hn
      rw [List.drop_zero] at h
      injection h with h1 h2
      subst h1
      revert hn
      by_cases h10 : x = 10#8
      · subst h10; intro hn; exact absurd rfl hn
      · unfold rem
        rw [if_neg h10, if_neg h10]
        cases r <;> cases blank x <;> simp
theorem run_full : ∀ (n : Nat) (l : List B), l.length < n → ∀ (us : List Tok) (p : Nat), run .btw us p (l ++ [10#8]) = cadd us (full p l)
  | 0, _, h, _, _ => absurd h (Nat.not_lt_zero _)
  | n + 1, l, hn, us, p => by
    have hs := run_skip l false us p
    rw [if_neg (by decide)] at hs
    rw [hs]
    cases hd : l.drop (skipR false l) with
    | nil =>
      have h1 := skipR_le l false
      have h2 : skipR false l = l.length := by
        have : (l.drop (skipR false l)).length = 0 := by rw [hd]; rfl
        rw [List.length_drop] at this; omega
      rw [full_end h2, List.nil_append]
      have := ten_end us (p + skipR false l) false
      rw [if_neg (by decide)] at this
      rw [this]; simp [cadd]
    | cons c m =>
      rw [run_one (drop_begins l false c m hd)]
      cases ho : oneR c m with
      | error k => rw [full_bad hd ho]; rfl
      | ok r =>
        obtain ⟨x, k⟩ := r
        rw [full_go hd ho]
        dsimp only
        have hk := oneR_le ho
        have hm : m.length + 1 ≤ l.length := by
          have : (l.drop (skipR false l)).length = m.length + 1 := by rw [hd]; rfl
          rw [List.length_drop] at this; omega
        rw [run_full n _ (by rw [List.length_drop, List.length_cons]; omega), cadd_cadd]
theorem cut_run (s : List B) (h : s.length ≤ 2000) : cut s = cutE (run .btw [] 0 (s ++ [10#8])) := by
  rw [cut_full, if_neg (by omega), run_full _ s (Nat.lt_succ_self _), cadd_nil]
theorem cut_long {s : List B} (h : 2000 < s.length) : cut s = .error (0, 3) := by rw [cut_full, if_pos h]
end Go.Proofs.Ytadfoilbcipdjaa.Lex
