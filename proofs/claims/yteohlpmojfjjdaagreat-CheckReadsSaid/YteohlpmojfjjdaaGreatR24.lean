/-
Texts: LexMach LexTests LexCells
-/
import Derived.Test.YteohlpmojfjjdaaGreatR0
import Derived.Test.YteohlpmojfjjdaaGreatR1
import Derived.Test.YteohlpmojfjjdaaGreatR2
import Derived.Test.YteohlpmojfjjdaaGreatR6
import Derived.Test.YteohlpmojfjjdaaGreatR7
import Derived.Test.YteohlpmojfjjdaaGreatR8
import Derived.Lib.Bytealg
import Derived.Laws.Externs
set_option linter.unusedVariables false
set_option linter.unusedSimpArgs false
set_option maxRecDepth 100000
section
namespace Go.Proofs.YteohlpmojfjjdaaGreat.Lex
inductive St
 | btw | com
 | word (q : Nat) (t : List B)
 | num (q d : Nat) (n : Int)
 | txt (q : Nat) (t : List B)
 | esc (q : Nat) (t : List B)
def St.cur : St → List Tok
 | .btw => [] | .com => []
 | .word q t => [⟨⟨1, 0, t⟩, q⟩]
 | .num q _ n => [⟨⟨2, n, []⟩, q⟩]
 | .txt q t => [⟨⟨3, 0, t⟩, q⟩]
 | .esc q t => [⟨⟨3, 0, t⟩, q⟩]
def bst (us : List Tok) (p : Nat) (c : B) : Except Nat (St × List Tok) :=
 if blank c then .ok (.btw, us)
 else if c = 35#8 then .ok (.com, us)
 else if letter c then .ok (.word p [c], us)
 else if digit c then .ok (.num p 1 ((c.toNat : Int) - 48), us)
 else if c = 34#8 then .ok (.txt p [], us)
 else .error p
def step (st : St) (us : List Tok) (p : Nat) (c : B) : Except Nat (St × List Tok) :=
 match st with
 | .btw => bst us p c
 | .com => if c = 10#8 then .ok (.btw, us) else .ok (.com, us)
 | .word q t => if within c then (if t.length + 1 ≤ 20 then .ok (.word q (t ++ [c]), us) else .error q) else bst (us ++ [⟨⟨1, 0, t⟩, q⟩]) p c
 | .num q d n => if digit c then (if (decide (0 < d) && decide (n = 0)) = false ∧ 10 * n + ((c.toNat : Int) - 48) ≤ 9999 then .ok (.num q (d + 1) (10 * n + ((c.toNat : Int) - 48)), us) else .error q) else bst (us ++ [⟨⟨2, n, []⟩, q⟩]) p c
 | .txt q t => if c.toNat < 32 then .error p else if c = 34#8 then .ok (.btw, us ++ [⟨⟨3, 0, t⟩, q⟩]) else if c = 92#8 then .ok (.esc q t, us) else .ok (.txt q (t ++ [c]), us)
 | .esc q t => if c.toNat < 32 then .error p else .ok (.txt q (t ++ if c = 34#8 then [c] else [92#8, c]), us)
def run : St → List Tok → Nat → List B → Except Nat (List Tok)
 | st, us, _, [] => .ok (us ++ st.cur)
 | st, us, p, c :: l => match step st us p c with
  | .error e => .error e
  | .ok (st', us') => run st' us' (p + 1) l
theorem run_cons (st : St) (us : List Tok) (p : Nat) (c : B) (l : List B) : run st us p (c :: l) = match step st us p c with
  | .error e => .error e
  | .ok (st', us') => run st' us' (p + 1) l := rfl
theorem run_ok {st st' : St} {us us' : List Tok} {p : Nat} {c : B} {l : List B} (h : step st us p c = .ok (st', us')) : run st us p (c :: l) = run st' us' (p + 1) l := by rw [run_cons, h]
theorem run_bad {st : St} {us : List Tok} {p e : Nat} {c : B} {l : List B} (h : step st us p c = .error e) : run st us p (c :: l) = .error e := by rw [run_cons, h]
theorem run_like {st : St} {us us' : List Tok} {p : Nat} {c : B} {l : List B} (h : step st us p c = bst us' p c) : run st us p (c :: l) = run .btw us' p (c :: l) := by rw [run_cons, run_cons, h]; rfl
theorem ten_end (us : List Tok) (p : Nat) (r : Bool) : run (if r then .com else .btw) us p [10#8] = .ok us := by
 cases r
 ·rw [if_neg (by decide), run_ok (st' := .btw) (us' := us) (by rfl)]; simp [run, St.cur]
 ·rw [if_pos rfl, run_ok (st' := .btw) (us' := us) (by rfl)]; simp [run, St.cur]
theorem run_skip : ∀ (l : List B) (r : Bool) (us : List Tok) (p : Nat), run (if r then .com else .btw) us p (l ++ [10#8]) = run .btw us (p + skipR r l) (l.drop (skipR r l) ++ [10#8])
 | [], r, us, p => by
  rw [List.nil_append, ten_end]
  have := ten_end us p false
  rw [if_neg (by decide)] at this
  exact this.symm
 | c :: l, r, us, p => by
  have ih := run_skip l
  by_cases h : rem r c || blank c
  ·rw [skipR_cons, if_pos h]
   have hs : step (if r then .com else .btw) us p c = .ok ((if rem r c then .com else .btw), us) := by
    by_cases h10 : c = 10#8
    ·subst h10
     cases r <;> rfl
    ·cases r
     ·have hr : rem false c = decide (c = 35#8) := by unfold rem; rw [if_neg h10]; simp
      rw [if_neg (by decide)]
      show bst us p c = _
      unfold bst
      by_cases hb : blank c
      ·rw [if_pos hb]
       have : c ≠ 35#8 := by rintro rfl; exact absurd hb (by decide)
       rw [hr, decide_eq_false this]; rfl
      ·rw [if_neg hb]
       rw [hr] at h ⊢
       have h35 : c = 35#8 := by simpa [hb] using h
       rw [if_pos h35, decide_eq_true h35]; rfl
     ·rw [if_pos rfl]
      show (if c = 10#8 then _ else _) = _
      rw [if_neg h10]
      have hr : rem true c = true := by unfold rem; rw [if_neg h10]; rfl
      rw [hr]; rfl
   rw [List.cons_append, run_ok hs, ih, Nat.add_comm 1, List.drop_succ_cons]
   congr 1; omega
  ·rw [skipR_cons, if_neg h]
   have hr : r = false := by
    cases r
    ·rfl
    ·exfalso; apply h
     by_cases h10 : c = 10#8
     ·subst h10; rfl
     ·have hr : rem true c = true := by unfold rem; rw [if_neg h10]; rfl
      rw [hr]; rfl
   subst hr
   rfl
theorem run_text : ∀ (n : Nat) (l : List B), l.length < n → ∀ (us : List Tok) (q p : Nat) (t : List B), run (.txt q t) us p (l ++ [10#8]) = match textR l with
  | .error k => .error (p + k)
  | .ok (t', k) => run .btw (us ++ [⟨⟨3, 0, t ++ t'⟩, q⟩]) (p + k) (l.drop k ++ [10#8])
 | 0, _, h, _, _, _, _ => absurd h (Nat.not_lt_zero _)
 | n + 1, [], _, us, q, p, t => by rw [List.nil_append, run_bad (e := p) (by rfl)]; rfl
 | n + 1, c :: l, hn, us, q, p, t => by
  rw [List.cons_append]
  by_cases h34 : c = 34#8
  ·rw [textR_end h34, run_ok (st' := .btw) (us' := us ++ [⟨⟨3, 0, t⟩, q⟩]) (by subst h34; rfl)]
   simp
  ·by_cases hlow : c.toNat < 32
   ·rw [textR_low hlow, run_bad (e := p) (by show (if c.toNat < 32 then _ else _) = _; rw [if_pos hlow])]; rfl
   ·by_cases h92 : c = 92#8
    ·rw [run_ok (st' := .esc q t) (us' := us) (by subst h92; rfl)]
     cases l with
     | nil => rw [List.nil_append, textR_esc_nil h92, run_bad (e := p + 1) (by rfl)]
     | cons d l =>
      rw [List.cons_append]
      by_cases hd : d.toNat < 32
      ·rw [textR_esc_low h92 hd, run_bad (e := p + 1) (by show (if d.toNat < 32 then _ else _) = _; rw [if_pos hd])]
      ·rw [textR_esc h92 hd, run_ok (st' := .txt q (t ++ if d = 34#8 then [d] else [92#8, d])) (us' := us) (by show (if d.toNat < 32 then _ else _) = _; rw [if_neg hd]), run_text n l (by simp at hn; omega)]
       subst h92
       cases textR l with
       | error k => simp [tadd]; omega
       | ok r =>
        obtain ⟨t', k⟩ := r
        simp only [tadd]
        rw [List.append_assoc, Nat.add_comm 2 k, List.drop_succ_cons, List.drop_succ_cons]
        congr 1; omega
    ·rw [textR_char h34 hlow h92, run_ok (st' := .txt q (t ++ [c])) (us' := us) (by show (if c.toNat < 32 then _ else _) = _; rw [if_neg hlow, if_neg h34, if_neg h92]), run_text n l (by simp at hn; omega)]
     cases textR l with
     | error k => simp [tadd]; omega
     | ok r =>
      obtain ⟨t', k⟩ := r
      simp only [tadd]
      rw [List.append_assoc, Nat.add_comm 1 k, List.drop_succ_cons]
      congr 1; omega
theorem run_word : ∀ (l : List B) (us : List Tok) (q p : Nat) (t : List B), t.length ≤ 20 → run (.word q t) us p (l ++ [10#8]) = if 20 < (t ++ l.takeWhile within).length then .error q else run .btw (us ++ [⟨⟨1, 0, t ++ l.takeWhile within⟩, q⟩]) (p + (l.takeWhile within).length) (l.drop (l.takeWhile within).length ++ [10#8])
 | [], us, q, p, t, ht => by
  rw [List.nil_append, run_like (us' := us ++ [⟨⟨1, 0, t⟩, q⟩]) (by rfl)]
  rw [if_neg (by simp; omega)]; simp
 | c :: l, us, q, p, t, ht => by
  rw [List.cons_append]
  by_cases hc : within c
  ·rw [List.takeWhile_cons, if_pos hc]
   by_cases h20 : t.length + 1 ≤ 20
   ·rw [run_ok (st' := .word q (t ++ [c])) (us' := us) (by show (if within c then _ else _) = _; rw [if_pos hc, if_pos h20]), run_word l us q (p + 1) (t ++ [c]) (by simp; omega)]
    simp only [List.append_assoc, List.cons_append, List.nil_append, List.length_cons, List.drop_succ_cons]
    rw [show p + 1 + (l.takeWhile within).length = p + ((l.takeWhile within).length + 1) by omega]
   ·rw [run_bad (e := q) (by show (if within c then _ else _) = _; rw [if_pos hc, if_neg h20]), if_pos (by simp; omega)]
  ·rw [List.takeWhile_cons, if_neg hc, run_like (us' := us ++ [⟨⟨1, 0, t⟩, q⟩]) (by show (if within c then _ else _) = _; rw [if_neg hc])]
   rw [if_neg (by simp; omega)]; simp
def numOk (d : Nat) (n : Int) : List B → Bool
 | [] => true
 | c :: l => decide ((decide (0 < d) && decide (n = 0)) = false ∧ 10 * n + ((c.toNat : Int) - 48) ≤ 9999) && numOk (d + 1) (10 * n + ((c.toNat : Int) - 48)) l
theorem numOk_cons (d : Nat) (n : Int) (c : B) (l : List B) : numOk d n (c :: l) = (decide ((decide (0 < d) && decide (n = 0)) = false ∧ 10 * n + ((c.toNat : Int) - 48) ≤ 9999) && numOk (d + 1) (10 * n + ((c.toNat : Int) - 48)) l) := rfl
def numV (n : Int) (l : List B) : Int := l.foldl (fun n c => 10 * n + ((c.toNat : Int) - 48)) n
theorem run_num : ∀ (l : List B) (us : List Tok) (q p d : Nat) (n : Int), run (.num q d n) us p (l ++ [10#8]) = if numOk d n (l.takeWhile digit) then run .btw (us ++ [⟨⟨2, numV n (l.takeWhile digit), []⟩, q⟩]) (p + (l.takeWhile digit).length) (l.drop (l.takeWhile digit).length ++ [10#8]) else .error q
 | [], us, q, p, d, n => by
  rw [List.nil_append, run_like (us' := us ++ [⟨⟨2, n, []⟩, q⟩]) (by rfl)]
  rfl
 | c :: l, us, q, p, d, n => by
  rw [List.cons_append]
  by_cases hc : digit c
  ·rw [List.takeWhile_cons, if_pos hc]
   by_cases hg : (decide (0 < d) && decide (n = 0)) = false ∧ 10 * n + ((c.toNat : Int) - 48) ≤ 9999
   ·rw [run_ok (st' := .num q (d + 1) (10 * n + ((c.toNat : Int) - 48))) (us' := us) (by show (if digit c then _ else _) = _; rw [if_pos hc, if_pos hg]), run_num l us q (p + 1) (d + 1) _]
    rw [numOk_cons, decide_eq_true hg, Bool.true_and]
    rw [show numV n (c :: l.takeWhile digit) = numV (10 * n + ((c.toNat : Int) - 48)) (l.takeWhile digit) from rfl]
    simp only [List.length_cons, List.drop_succ_cons]
    rw [show p + 1 + (l.takeWhile digit).length = p + ((l.takeWhile digit).length + 1) by omega]
   ·rw [run_bad (e := q) (by show (if digit c then _ else _) = _; rw [if_pos hc, if_neg hg])]
    rw [numOk_cons, decide_eq_false hg]
    rfl
  ·rw [List.takeWhile_cons, if_neg hc, run_like (us' := us ++ [⟨⟨2, n, []⟩, q⟩]) (by show (if digit c then _ else _) = _; rw [if_neg hc])]
   rfl
theorem digit_iff {c : B} : digit c = true ↔ 48 ≤ c.toNat ∧ c.toNat ≤ 57 := by simp [digit]
theorem numOk_iff : ∀ (l : List B) (d : Nat) (n : Int), (∀ c ∈ l, digit c = true) → 1 ≤ d → d ≤ 4 → n < 10 ^ d → 10 ^ (d - 1) ≤ n → (numOk d n l = true ↔ d + l.length ≤ 4)
 | [], d, n, _, _, h4, _, _ => by simp [numOk]; omega
 | c :: l, d, n, hl, h1, h4, hn, hm => by
  have hc := digit_iff.1 (hl c (List.mem_cons_self ..))
  have hpos : (1 : Int) ≤ 10 ^ (d - 1) := by
   rcases (show d = 1 ∨ d = 2 ∨ d = 3 ∨ d = 4 by omega) with rfl | rfl | rfl | rfl <;> decide
  have hn0 : n ≠ 0 := by omega
  have hstep : numOk d n (c :: l) = (decide (10 * n + ((c.toNat : Int) - 48) ≤ 9999) && numOk (d + 1) (10 * n + ((c.toNat : Int) - 48)) l) := by
   rw [numOk_cons]
   simp [hn0]
  rw [hstep]
  rcases (show d = 4 ∨ d ≤ 3 by omega) with rfl | hd3
  ·have : ¬ (10 * n + ((c.toNat : Int) - 48) ≤ 9999) := by
    have : (10 : Int) ^ (4 - 1) = 1000 := by decide
    omega
   rw [decide_eq_false this]
   simp
  ·have e1 : (10 : Int) ^ (d + 1) = 10 * 10 ^ d := by rw [Int.pow_succ]; omega
   have e2 : (10 : Int) ^ d = 10 * 10 ^ (d - 1) := by
    conv => lhs; rw [show d = (d - 1) + 1 by omega]
    rw [Int.pow_succ]; omega
   have hle : (10 : Int) ^ d ≤ 1000 := by
    rcases (show d = 1 ∨ d = 2 ∨ d = 3 by omega) with rfl | rfl | rfl <;> decide
   have : 10 * n + ((c.toNat : Int) - 48) ≤ 9999 := by omega
   rw [decide_eq_true this, Bool.true_and, numOk_iff l (d + 1) _ (fun x hx => hl x (List.mem_cons_of_mem _ hx)) (by omega) (by omega) (by rw [e1]; omega) (by rw [show d + 1 - 1 = d by omega, e2]; omega)]
   simp; omega
theorem takeWhile_all (p : B → Bool) : ∀ (l : List B), ∀ c ∈ l.takeWhile p, p c = true
 | [], _, h => by simp at h
 | x :: l, c, h => by
  rw [List.takeWhile_cons] at h
  split at h
  ·rename_i hx
   rcases List.mem_cons.1 h with rfl | h
   ·exact hx
   ·exact takeWhile_all p l c h
  ·simp at h
theorem run_one {c : B} {l : List B} (hb : (rem false c || blank c) = false) (us : List Tok) (p : Nat) : run .btw us p (c :: l ++ [10#8]) = match oneR c l with
  | .error k => .error (p + k)
  | .ok (x, k) => run .btw (us ++ [⟨x, p⟩]) (p + k) ((c :: l).drop k ++ [10#8]) := by
 have hbl : blank c = false := by revert hb; cases blank c <;> simp
 have h10 : c ≠ 10#8 := by rintro rfl; exact absurd hbl (by decide)
 have h35 : c ≠ 35#8 := by
  rintro rfl
  exact absurd hb (by decide)
 rw [List.cons_append]
 have hst : step .btw us p c = if letter c then .ok (.word p [c], us) else if digit c then .ok (.num p 1 ((c.toNat : Int) - 48), us) else if c = 34#8 then .ok (.txt p [], us) else .error p := by
  show bst us p c = _
  unfold bst
  rw [if_neg (by rw [hbl]; decide), if_neg h35]
 by_cases h34 : c = 34#8
 ·subst h34
  rw [run_ok (st' := .txt p []) (us' := us) (by rfl), run_text _ l (Nat.lt_succ_self _)]
  unfold oneR
  rw [if_pos rfl]
  cases textR l with
  | error k => simp; omega
  | ok r =>
   obtain ⟨t', k⟩ := r
   dsimp only
   rw [Nat.add_comm 1 k, List.drop_succ_cons]
   rw [show p + 1 + k = p + (k + 1) by omega]; rfl
 ·by_cases hlt : letter c
  ·rw [run_ok (st' := .word p [c]) (us' := us) (by rw [hst, if_pos hlt]), run_word l us p (p + 1) [c] (by simp)]
   unfold oneR
   rw [if_neg h34, if_pos hlt, List.takeWhile_cons, if_pos (letter_within hlt)]
   by_cases h20 : 20 < ([c] ++ l.takeWhile within).length
   ·rw [if_pos h20, if_pos (by simpa using h20)]; rfl
   ·rw [if_neg h20, if_neg (by simpa using h20)]
    dsimp only
    simp only [List.length_cons, List.drop_succ_cons, List.cons_append, List.nil_append]
    rw [show p + 1 + (l.takeWhile within).length = p + ((l.takeWhile within).length + 1) by omega]
  ·by_cases hdg : digit c
   ·rw [run_ok (st' := .num p 1 ((c.toNat : Int) - 48)) (us' := us) (by rw [hst, if_neg hlt, if_pos hdg]), run_num]
    unfold oneR
    rw [if_neg h34, if_neg hlt, List.takeWhile_cons, if_pos hdg]
    have hd := digit_iff.1 hdg
    have hv : val (c :: l.takeWhile digit) = numV ((c.toNat : Int) - 48) (l.takeWhile digit) := by
     unfold val numV; rw [List.foldl_cons]; congr 1; omega
    have hok : numOk 1 ((c.toNat : Int) - 48) (l.takeWhile digit) = true ↔ ¬ ((c :: l.takeWhile digit).length = 0 ∨ 4 < (c :: l.takeWhile digit).length ∨ 1 < (c :: l.takeWhile digit).length ∧ c = 48#8) := by
     by_cases h48 : c = 48#8
     ·subst h48
      cases l.takeWhile digit with
      | nil => simp [numOk]
      | cons x m => simp [numOk]
     ·have h48' : c.toNat ≠ 48 := fun e => h48 (BitVec.eq_of_toNat_eq e)
      rw [numOk_iff _ 1 _ (takeWhile_all digit l) (by omega) (by omega) (by omega) (by simp; omega)]
      simp [h48]; omega
    by_cases hk : numOk 1 ((c.toNat : Int) - 48) (l.takeWhile digit) = true
    ·rw [if_pos hk, if_neg (hok.1 hk)]
     dsimp only
     rw [hv]
     simp only [List.length_cons, List.drop_succ_cons]
     rw [show p + 1 + (l.takeWhile digit).length = p + ((l.takeWhile digit).length + 1) by omega]
    ·rw [if_neg hk, if_pos (Classical.not_not.1 (fun h => hk (hok.2 h)))]
     rfl
   ·rw [run_bad (e := p) (by rw [hst, if_neg hlt, if_neg hdg, if_neg h34])]
    unfold oneR
    rw [if_neg h34, if_neg hlt, List.takeWhile_cons, if_neg hdg, if_pos (.inl rfl)]
    rfl
theorem drop_begins : ∀ (l : List B) (r : Bool) (c : B) (m : List B), l.drop (skipR r l) = c :: m → (rem false c || blank c) = false
 | [], r, c, m, h => by simp at h
 | x :: l, r, c, m, h => by
  rw [skipR_cons] at h
  split at h
  ·rw [Nat.add_comm, List.drop_succ_cons] at h
   exact drop_begins l _ c m h
  ·rename_i hn
   rw [List.drop_zero] at h
   injection h with h1 h2
   subst h1
   revert hn
   by_cases h10 : x = 10#8
   ·subst h10; intro hn; exact absurd rfl hn
   ·unfold rem
    rw [if_neg h10, if_neg h10]
    cases r <;> cases blank x <;> simp
theorem run_full : ∀ (n : Nat) (l : List B), l.length < n → ∀ (us : List Tok) (p : Nat), run .btw us p (l ++ [10#8]) = cadd us (full p l)
 | 0, _, h, _, _ => absurd h (Nat.not_lt_zero _)
 | n + 1, l, hn, us, p => by
  have hs := run_skip l false us p
  rw [if_neg (by decide)] at hs
  rw [hs]
  cases hd : l.drop (skipR false l) with
  | nil =>
   have h1 := skipR_le l false
   have h2 : skipR false l = l.length := by
    have : (l.drop (skipR false l)).length = 0 := by rw [hd]; rfl
    rw [List.length_drop] at this; omega
   rw [full_end h2, List.nil_append]
   have := ten_end us (p + skipR false l) false
   rw [if_neg (by decide)] at this
   rw [this]; simp [cadd]
  | cons c m =>
   rw [run_one (drop_begins l false c m hd)]
   cases ho : oneR c m with
   | error k => rw [full_bad hd ho]; rfl
   | ok r =>
    obtain ⟨x, k⟩ := r
    rw [full_go hd ho]
    dsimp only
    have hk := oneR_le ho
    have hm : m.length + 1 ≤ l.length := by
     have : (l.drop (skipR false l)).length = m.length + 1 := by rw [hd]; rfl
     rw [List.length_drop] at this; omega
    rw [run_full n _ (by rw [List.length_drop, List.length_cons]; omega), cadd_cadd]
theorem cut_run (s : List B) (h : s.length ≤ 2000) : cut s = cutE (run .btw [] 0 (s ++ [10#8])) := by
 rw [cut_full, if_neg (by omega), run_full _ s (Nat.lt_succ_self _), cadd_nil]
theorem cut_long {s : List B} (h : 2000 < s.length) : cut s = .error (0, 3) := by rw [cut_full, if_pos h]
end Go.Proofs.YteohlpmojfjjdaaGreat.Lex
end
section
namespace Go.Proofs.YteohlpmojfjjdaaGreat.Lex
open Go.RowKit
theorem u8_of_bv (x : BitVec 8) : (x.toNat : Int).toNat.toUInt8 = (⟨x⟩ : UInt8) := by
 show _ = UInt8.ofBitVec x
 rw [Int.toNat_natCast]
 apply UInt8.toNat_inj.1
 rw [UInt8.toNat_ofNat', UInt8.toNat_ofBitVec]
 exact Nat.mod_eq_of_lt x.isLt
theorem pindex (s : ByteArray) (x : BitVec 8) (w : World) :
  Calls Tryz.prog 114 #[.string s, v8 x] w fun e w' => e = .returned (.int .i64 (Lib.indexByte s.data.toList (⟨x⟩ : UInt8))) ∧ w' = w := by
 have inner : Calls Tryz.prog 144 #[.string s, v8 x] w fun e w' => e = .returned (.int .i64 (Lib.indexByte s.data.toList (⟨x⟩ : UInt8))) ∧ w' = w := by
  go_enter Tryz.func144, Tryz.ntmps144
  go_wp2
  rw [run_callFunc_extern Tryz.func161 (by kernel_rfl) (by kernel_rfl) (by kernel_rfl) (e := Extern.BytealgIndexByte.indexByte) (by kernel_rfl), Lib.run_indexByteString, u8_of_bv]
  simp only [Result.andThen]
  rw [Oper.upon_value]
  go_wp2
  go_ret
  exact ⟨rfl, rfl⟩
 go_enter Tryz.func114, Tryz.ntmps114
 go_wp2_with fail
 refine inner.mono ?_
 rintro e w' ⟨rfl, rfl⟩
 go_wp2_with fail
 go_ret
 exact ⟨rfl, rfl⟩
theorem index_mem : ∀ (l : List UInt8) (c : UInt8), decide (0 ≤ Lib.indexByte l c) = l.contains c
 | [], c => by simp [Lib.indexByte]
 | b :: l, c => by
  have ih := index_mem l c
  have hge := Lib.indexByte_ge l c
  unfold Lib.indexByte
  rw [List.contains_cons]
  by_cases hb : b = c
  ·subst hb; simp
  ·have h1 : (b == c) = false := by simpa using hb
   have h2 : (c == b) = false := by simpa using fun e => hb e.symm
   rw [h1, h2, Bool.false_or, ← ih]
   by_cases hm : Lib.indexByte l c = -1
   ·simp [hm]
   ·have h3 : (Lib.indexByte l c == -1) = false := by simpa using hm
    rw [h3]
    have h4 : 0 ≤ Lib.indexByte l c := by omega
    simp only [Bool.false_eq_true, if_false]
    rw [decide_eq_true h4, decide_eq_true (by omega)]
def amongB (s : ByteArray) (x : BitVec 8) : Bool := s.data.toList.contains (⟨x⟩ : UInt8)
theorem among_blank : ∀ x : BitVec 8, amongB ⟨#[9, 10, 13, 32]⟩ x = blank x := by decide +kernel
theorem among_hash : ∀ x : BitVec 8, amongB ⟨#[35]⟩ x = decide (x = 35#8) := by decide +kernel
theorem among_quote : ∀ x : BitVec 8, amongB ⟨#[34]⟩ x = decide (x = 34#8) := by decide +kernel
theorem among_low : ∀ x : BitVec 8, amongB ⟨#[95]⟩ x = decide (x = 95#8) := by decide +kernel
theorem pamong (w : World) (g : Nat) (s : ByteArray) (x : BitVec 8) (h : w.cell? ⟨g, 0, none⟩ = some (.string s)) :
  Calls Tryz.prog 113 #[v8 x, .pointer (some ⟨g, 0, none⟩)] w fun e w' => e = .returned (.bool (amongB s x)) ∧ w' = w := by
 have con := pindex s x w
 have hi := index_mem s.data.toList (⟨x⟩ : UInt8)
 have HI := Lib.hid (show decide (0 ≤ Lib.indexByte s.data.toList (⟨x⟩ : UInt8)) = amongB s x from hi)
 clear hi
 generalize Lib.indexByte s.data.toList (⟨x⟩ : UInt8) = z at *
 go_enter Tryz.func113, Tryz.ntmps113
 go_wp2_with fail
 refine con.mono ?_
 rintro e w' ⟨rfl, rfl⟩
 go_wp2_with fail
 go_ret
 exact ⟨by rw [← HI.out]; rfl, rfl⟩
theorem pletter (w : World) (x : BitVec 8) : Calls Tryz.prog 115 #[v8 x] w fun e w' => e = .returned (.bool (letter x)) ∧ w' = w := by
 have HL := Lib.hid (show letter x = (decide (97 ≤ x.toNat) && decide (x.toNat ≤ 122)) from rfl)
 by_cases h1 : 97 ≤ x.toNat
 ·by_cases h2 : x.toNat ≤ 122
  ·go_enter Tryz.func115, Tryz.ntmps115
   go_wp2_with fail
   go_ret
   exact ⟨by rw [HL.out]; simp [h1, h2]; try omega, rfl⟩
  ·go_enter Tryz.func115, Tryz.ntmps115
   go_wp2_with fail
   go_ret
   exact ⟨by rw [HL.out]; simp [h1, h2]; try omega, rfl⟩
 ·go_enter Tryz.func115, Tryz.ntmps115
  go_wp2_with fail
  go_ret
  exact ⟨by rw [HL.out]; simp [h1], rfl⟩
theorem pdigit (w : World) (x : BitVec 8) : Calls Tryz.prog 119 #[v8 x] w fun e w' => e = .returned (.bool (digit x)) ∧ w' = w := by
 have HL := Lib.hid (show digit x = (decide (48 ≤ x.toNat) && decide (x.toNat ≤ 57)) from rfl)
 by_cases h1 : 48 ≤ x.toNat
 ·by_cases h2 : x.toNat ≤ 57
  ·go_enter Tryz.func119, Tryz.ntmps119
   go_wp2_with fail
   go_ret
   exact ⟨by rw [HL.out]; simp [h1, h2]; try omega, rfl⟩
  ·go_enter Tryz.func119, Tryz.ntmps119
   go_wp2_with fail
   go_ret
   exact ⟨by rw [HL.out]; simp [h1, h2]; try omega, rfl⟩
 ·go_enter Tryz.func119, Tryz.ntmps119
  go_wp2_with fail
  go_ret
  exact ⟨by rw [HL.out]; simp [h1], rfl⟩
end Go.Proofs.YteohlpmojfjjdaaGreat.Lex
end
section
namespace Go.Proofs.YteohlpmojfjjdaaGreat.Lex
open Go.RowKit
def Lob : Obj → Prop
 | .cells _ t _ => t = 97 ∨ t = 103 ∨ t = 5 ∨ t = 3
 | _ => False
structure Chl (D : Nat) (w w' : World) : Prop where
 os : w'.os = w.os
 tape : w'.tape = w.tape
 output : w'.output = w.output
 size : w.heap.size ≤ w'.heap.size
 block : ∀ k o, w.heap[k]? = some o → (k < D ∨ ¬ Lob o) → w'.heap[k]? = some o
namespace Chl
variable {D : Nat} {w w1 w2 : World}
theorem refl (D : Nat) (w : World) : Chl D w w := ⟨rfl, rfl, rfl, Nat.le_refl _, fun _ _ h _ => h⟩
theorem trans (h : Chl D w w1) (h2 : Chl D w1 w2) : Chl D w w2 :=
 ⟨h2.os.trans h.os, h2.tape.trans h.tape, h2.output.trans h.output, Nat.le_trans h.size h2.size, fun k o hk hn => h2.block k o (h.block k o hk hn) hn⟩
theorem of_below (h : Below w.heap.size w w1) : Chl D w w1 :=
 ⟨h.os, h.tape, h.output, h.size, fun k o hk _ => (h.block k (Array.getElem?_eq_some_iff.1 hk).1).trans hk⟩
theorem below (h : Chl D w w1) (hD : D ≤ w.heap.size) : Below D w w1 :=
 ⟨h.os, h.tape, h.output, h.size, fun k hk => by
  have : k < w.heap.size := by omega
  have e := Array.getElem?_eq_getElem this
  rw [h.block k _ e (.inl hk), e]⟩
theorem grown {row : Option Nat} (hg : w.grownBy w1 row) (hr : ∀ g, row = some g → D ≤ g ∧ ∃ o, w.heap[g]? = some o ∧ Lob o) : Chl D w w1 := by
 refine ⟨hg.os, hg.tape, hg.output, hg.size, fun k o hk hn => ?_⟩
 have hk' := (Array.getElem?_eq_some_iff.1 hk).1
 by_cases e : some k = row
 ·obtain ⟨h3, o', h4, h5⟩ := hr k e.symm
  rw [hk] at h4
  cases h4
  rcases hn with hn | hn
  ·omega
  ·exact absurd h5 hn
 ·exact (hg.block k hk' e).trans hk
theorem set {p : Addr} (u : Value) (hD : D ≤ p.block) {o : Obj} (ho : w.heap[p.block]? = some o) (hl : Lob o) : Chl D w (w.setCell p u) :=
 grown (row := some p.block) ⟨rfl, rfl, rfl, by simp [World.setCell], fun k _ hk => Below.heap_setCell _ _ _ _ (fun e => hk (by rw [e]))⟩ (fun g e => by cases e; exact ⟨hD, o, ho, hl⟩)
end Chl
theorem Cel.chl {D : Nat} {w w' : World} {g : Nat} {t : TypeId} {cs : List Value} (h : Cel w g t cs) (hc : Chl D w w') (hT : ¬ Lob (.cells cs.toArray t (0, 0))) : Cel w' g t cs := hc.block _ _ h (.inr hT)
theorem own_lob {w : World} {base e size n : Nat} {v : Value} {us : List Value} (h : w.ownsRow base e size v n us) (ht : e = 97 ∨ e = 103 ∨ e = 5 ∨ e = 3) : ∀ g, v.ownBlock = some g → ∃ o, w.heap[g]? = some o ∧ Lob o := fun g e' => by
 rcases h.2 with ⟨rfl, _⟩ | ⟨g', cap, cur, rfl, _, h1, _⟩
 ·simp [Value.ownBlock] at e'
 ·obtain rfl : g' = g := by simpa [Value.ownBlock] using e'
  exact ⟨_, h1, ht⟩
def Btx (w : World) (K : Nat) (A : Option Addr) (c : Nat) (bs : List (BitVec 8)) : Prop :=
 bs.length ≤ c ∧ (0 < bs.length → ∃ ad, A = some ad ∧ ad.block < K ∧ (∃ cs fz, w.heap[ad.block]? = some (.cells cs 5 fz)) ∧ ∀ j, j < bs.length → w.cell? (ad.add j) = some (v8 (bs.getD j 0#8)))
namespace Btx
variable {w w' : World} {K c : Nat} {A : Option Addr} {bs : List (BitVec 8)}
theorem keep (h : Btx w K A c bs) (hk : ∀ (k : Nat) cs fz, k < K → w.heap[k]? = some (Obj.cells cs 5 fz) → w'.heap[k]? = w.heap[k]?) : Btx w' K A c bs := ⟨h.1, fun hn => by
 obtain ⟨ad, e, hK, ⟨cs, fz, hb⟩, hc⟩ := h.2 hn
 have h1 := hk _ _ _ hK hb
 exact ⟨ad, e, hK, ⟨cs, fz, h1.trans hb⟩, fun j hj => (World.cell?_of_block (by rw [add_block]; exact h1)).trans (hc j hj)⟩⟩
theorem below (h : Btx w K A c bs) (hb : Below w.heap.size w w') : Btx w' K A c bs := h.keep fun k _ _ _ hk => hb.block k (Array.getElem?_eq_some_iff.1 hk).1
theorem more {K' : Nat} (h : Btx w K A c bs) (hK : K ≤ K') : Btx w K' A c bs := ⟨h.1, fun hn => by
 obtain ⟨ad, e, hl, hb, hc⟩ := h.2 hn
 exact ⟨ad, e, by omega, hb, hc⟩⟩
theorem by_ (h : Btx w K A c bs) : By w A bs.length bs := ⟨rfl, fun hn => by
 obtain ⟨ad, e, _, hb, hc⟩ := h.2 hn
 exact ⟨ad, e, hb, hc⟩⟩
theorem of_own {B n c : Nat} (h : Owb w B A n c bs) : Btx w w.heap.size A c bs := ⟨by rw [h.len]; exact own_room h, fun hn => by
 have hl := h.len
 obtain ⟨ad, e, hb, hc⟩ := (By.of_own (c := c) h).2 (by omega)
 exact ⟨ad, e, by obtain ⟨cs, fz, hb⟩ := hb; exact (Array.getElem?_eq_some_iff.1 hb).1, hb, fun j hj => hc j (by omega)⟩⟩
theorem set (h : Btx w K A c bs) {p : Addr} (u : Value) (hp : K ≤ p.block ∨ ∀ cs fz, w.heap[p.block]? ≠ some (Obj.cells cs 5 fz)) : Btx (w.setCell p u) K A c bs := h.keep fun k cs fz hk hb => Below.heap_setCell _ _ _ _ fun e => by
 rcases hp with hp | hp
 ·omega
 ·exact hp cs fz (e ▸ hb)
theorem grown (h : Btx w K A c bs) {row : Option Nat} (hg : w.grownBy w' row) (hp : ∀ g, row = some g → K ≤ g ∨ ∀ cs fz, w.heap[g]? ≠ some (Obj.cells cs 5 fz)) : Btx w' K A c bs := h.keep fun k cs fz hk hb => hg.block k (Array.getElem?_eq_some_iff.1 hb).1 fun e => by
 rcases hp k e.symm with hp | hp
 ·omega
 ·exact hp cs fz hb
end Btx
theorem infoPtk : (Tryz.prog.info? 103).map (fun i => (i.zero, i.size, i.bytes)) = some (some (.agg #[.int .i64 0, .int .i64 0, .int .i64 0, .slice none 0 0]), 4, 48) := by kernel_rfl
theorem rowPtk : ElemRow Tryz.prog 72 103 4 48 := ElemRow.mk' Tryz.underlying72 infoPtk rfl (by decide)
def Pcc (w : World) (g : Nat) (E : Value) (A : Option Addr) (m c : Nat) (p z : Int) : Prop := Cel w g 97 [E, .slice A m c, .int .i64 p, .int .i64 z]
structure Mc (w : World) (D K g : Nat) (E : Value) (p z : Int) (us xs : List Tv) : Prop where
 low : D ≤ K
 top : K ≤ w.heap.size
 gD : D ≤ g
 mem : ∃ A c, Pcc w g E A (us.length + xs.length) c p z ∧ w.ownsRow D 103 4 (.slice A (us.length + xs.length) c) (us.length + xs.length) (tflat (us ++ xs))
 old : ∀ v ∈ us, Btx w K v.A v.c v.t.t.text
 new : ∀ v ∈ xs, Owb w K v.A v.t.t.text.length v.c v.t.t.text
section
variable {w w' w1 w2 : World} {D K g : Nat} {E : Value} {p z : Int} {us xs : List Tv} {x : Tv}
theorem Mc.below (h : Mc w D K g E p z us xs) (hb : Below w.heap.size w w') : Mc w' D K g E p z us xs := by
 obtain ⟨A, c, hc, ho⟩ := h.mem
 exact ⟨h.low, Nat.le_trans h.top hb.size, h.gD, ⟨A, c, Cel.below hc hb (Cel.lt hc), own_frm (l := []) ho (Frm.of_below hb) (by simp)⟩, fun v hv => (h.old v hv).below hb, fun v hv => (h.new v hv).below hb⟩
theorem Mc.done (h : Mc w D K g E p z us xs) : Mc w D w.heap.size g E p z (us ++ xs) [] := by
 obtain ⟨A, c, hc, ho⟩ := h.mem
 refine ⟨Nat.le_trans h.low h.top, Nat.le_refl _, h.gD, ⟨A, c, ?_, ?_⟩, fun v hv => ?_, by simp⟩
 ·rw [List.length_append]; exact hc
 ·rw [List.length_append, List.append_nil]; exact ho
 ·rcases List.mem_append.1 hv with hv | hv
  ·exact (h.old v hv).more h.top
  ·exact Btx.of_own (h.new v hv)
theorem Mc.put {p' z' : Int} {i : Nat} {u : Value} (h : Mc w D K g E p z us xs) (hi : ∀ (A : Option Addr) (m c : Nat), [E, Value.slice A m c, .int .i64 p, .int .i64 z].set i u = [E, Value.slice A m c, .int .i64 p', .int .i64 z']) : Mc (w.setCell ⟨g, i, none⟩ u) D K g E p' z' us xs ∧ Chl D w (w.setCell ⟨g, i, none⟩ u) := by
 obtain ⟨A, c, hc, ho⟩ := h.mem
 have hf : Frm [g] w (w.setCell ⟨g, i, none⟩ u) := (Frm.refl [g] w).set (by simp) _
 refine ⟨⟨h.low, Nat.le_trans h.top hf.size, h.gD, ⟨A, c, ?_, own_frm ho hf fun k hk => ?_⟩, fun v hv => (h.old v hv).set _ (.inr (Cel.not_ty hc (by decide))), fun v hv => own_frm (h.new v hv) hf fun k hk => ?_⟩, Chl.set _ h.gD hc (.inl rfl)⟩
 ·have := Cel.set hc i u
  rw [hi] at this
  exact this
 ·rw [List.mem_singleton.1 hk]; exact own_ty_ne ho hc (by decide)
 ·rw [List.mem_singleton.1 hk]; exact own_ty_ne (h.new v hv) hc (by decide)
theorem Mc.wrong (h : Mc w D K g E p z us xs) (z' : Int) : Mc (w.setCell ⟨g, 3, none⟩ (.int .i64 z')) D K g E p z' us xs ∧ Chl D w (w.setCell ⟨g, 3, none⟩ (.int .i64 z')) := h.put fun _ _ _ => rfl
theorem Mc.go_on (h : Mc w D K g E p z us xs) (p' : Int) : Mc (w.setCell ⟨g, 2, none⟩ (.int .i64 p')) D K g E p' z us xs ∧ Chl D w (w.setCell ⟨g, 2, none⟩ (.int .i64 p')) := h.put fun _ _ _ => rfl
theorem Mc.pushed {A A' : Option Addr} {c c' : Nat} (h : Mc w1 D K g E p z us []) (hc : Pcc w1 g E A us.length c p z) (ho : w1.ownsRow D 103 4 (.slice A us.length c) us.length (tflat us)) (hx : x.t.t.text = []) (hA : x.A = none) (hxc : x.c = 0)
  (hg : w1.grownBy w2 (Value.slice A us.length c).ownBlock) (ho2 : w2.ownsRow D 103 4 (.slice A' (us.length + 1) c') (us.length + 1) (tflat us ++ x.cells)) :
  Pcc w2 g E A us.length c p z ∧ Mc (w2.setCell ⟨g, 1, none⟩ (.slice A' (us.length + 1) c')) D K g E p z us [x] ∧ Chl D w1 (w2.setCell ⟨g, 1, none⟩ (.slice A' (us.length + 1) c')) := by
 have hc2 : Pcc w2 g E A us.length c p z := Cel.grown hc hg (own_ty_ne ho hc (by decide))
 have hf : Frm [g] w2 (w2.setCell ⟨g, 1, none⟩ (.slice A' (us.length + 1) c')) := (Frm.refl [g] w2).set (by simp) _
 refine ⟨hc2, ⟨h.low, Nat.le_trans h.top (Nat.le_trans hg.size hf.size), h.gD, ⟨A', c', Cel.set hc2 1 _, own_frm (by rw [tflat_app]; simpa [tflat] using ho2) hf fun k hk => ?_⟩, fun v hv => ?_, fun v hv => ?_⟩, (Chl.grown hg fun k e => ⟨own_ge ho k e, own_lob ho (.inr (.inl rfl)) k e⟩).trans (Chl.set _ h.gD hc2 (.inl rfl))⟩
 ·rw [List.mem_singleton.1 hk]; exact own_ty_ne ho2 hc2 (by decide)
 ·exact ((h.old v hv).grown hg fun k e => .inr fun cs fz => not_bytes ho (by decide) k cs fz e).set _ (.inr (Cel.not_ty hc2 (by decide)))
 ·rw [List.mem_singleton.1 hv, hx, hA, hxc]; exact Owb.nil_ _ _
theorem tflat_set (us : List Tv) (x y : Tv) (i : Nat) (u : Value) (hi : i < 4) (h : x.cells.set i u = y.cells) : (tflat (us ++ [x])).set (us.length * 4 + i) u = tflat (us ++ [y]) := by
 rw [tflat_app, tflat_app, List.set_append_right _ _ (by rw [tflat_len]; omega), tflat_len, show us.length * 4 + i - us.length * 4 = i by omega]
 rw [show tflat [x] = x.cells by simp [tflat], show tflat [y] = y.cells by simp [tflat], h]
theorem tflat_at (us : List Tv) (x : Tv) (i : Nat) (hi : i < 4) : (tflat (us ++ [x]))[us.length * 4 + i]? = x.cells[i]? := by
 rw [tflat_app, List.getElem?_append_right (by rw [tflat_len]; omega), tflat_len, show us.length * 4 + i - us.length * 4 = i by omega]
 rw [show tflat [x] = x.cells by simp [tflat]]
structure Ml (w : World) (D K g : Nat) (E : Value) (p z : Int) (us : List Tv) (x : Tv) (r : Nat) : Prop where
 mc : Mc w D K g E p z us [x]
 row : ∃ c, Pcc w g E (some ⟨r, 0, none⟩) (us.length + 1) c p z ∧ w.ownsRow D 103 4 (.slice (some ⟨r, 0, none⟩) (us.length + 1) c) (us.length + 1) (tflat (us ++ [x]))
theorem Mc.last (h : Mc w D K g E p z us [x]) : ∃ r, Ml w D K g E p z us x r := by
 obtain ⟨A, c, hc, ho⟩ := h.mem
 obtain ⟨r, cap, hv, _, _⟩ := ho.form (Nat.succ_pos _)
 have hA : A = some ⟨r, 0, none⟩ := by injection hv
 subst hA
 exact ⟨r, h, c, hc, ho⟩
theorem Ml.at_ {r : Nat} (h : Ml w D K g E p z us x r) {i : Nat} {u : Value} (hi : i < 4) (hu : x.cells[i]? = some u) : w.cell? ⟨r, us.length * 4 + i, none⟩ = some u := by
 obtain ⟨c, hc, ho⟩ := h.row
 rw [ho.cellAt _ (by omega), tflat_at us x i hi]; exact hu
theorem Ml.free {r : Nat} (h : Ml w D K g E p z us x r) (i : Nat) : w.frozen? ⟨r, i, none⟩ = false := by
 obtain ⟨c, hc, ho⟩ := h.row
 exact ho.frozenAt i
theorem Ml.below {r : Nat} (h : Ml w D K g E p z us x r) (hb : Below w.heap.size w w') : Ml w' D K g E p z us x r := by
 obtain ⟨c, hc, ho⟩ := h.row
 exact ⟨h.mc.below hb, c, Cel.below hc hb (Cel.lt hc), own_frm (l := []) ho (Frm.of_below hb) (by simp)⟩
theorem Ml.put {r i : Nat} {u : Value} {y : Tv} (h : Ml w D K g E p z us x r) (hi : i < 4) (hu : x.cells.set i u = y.cells) (hy : Owb w K y.A y.t.t.text.length y.c y.t.t.text) :
  Ml (w.setCell ⟨r, us.length * 4 + i, none⟩ u) D K g E p z us y r ∧ Chl D w (w.setCell ⟨r, us.length * 4 + i, none⟩ u) := by
 obtain ⟨c, hc, ho⟩ := h.row
 obtain ⟨hs, hg⟩ := ho.stored (us.length * 4 + i) u
 rw [tflat_set us x y i u hi hu] at hs
 have hf : Frm [r] w (w.setCell ⟨r, us.length * 4 + i, none⟩ u) := (Frm.refl [r] w).set (by simp) _
 have hrg : g ≠ r := fun e => own_ty_ne ho hc (by decide) (by rw [e]; rfl)
 have hc2 : Pcc (w.setCell ⟨r, us.length * 4 + i, none⟩ u) g E (some ⟨r, 0, none⟩) (us.length + 1) c p z := Cel.far hc hrg _
 refine ⟨⟨⟨h.mc.low, Nat.le_trans h.mc.top hf.size, h.mc.gD, ⟨_, c, hc2, hs⟩, fun v hv => (h.mc.old v hv).set _ (.inr fun cs fz => not_bytes ho (by decide) r cs fz rfl), fun v hv => ?_⟩, c, hc2, hs⟩, Chl.grown hg fun k e => ⟨own_ge ho k e, own_lob ho (.inr (.inl rfl)) k e⟩⟩
 rw [List.mem_singleton.1 hv]
 refine own_frm hy hf fun k hk => ?_
 rw [List.mem_singleton.1 hk]
 exact fun e => own_two hy ho (by decide) r e rfl
theorem Ml.grew {r : Nat} {A' : Option Addr} {c' : Nat} {t : List (BitVec 8)} (h : Ml w1 D K g E p z us x r) (hg : w1.grownBy w2 (Value.slice x.A x.t.t.text.length x.c).ownBlock) (ho : Owb w2 K A' t.length c' t) :
  w2.cell? ⟨r, us.length * 4 + 3, none⟩ = some (.slice x.A x.t.t.text.length x.c) ∧ w2.frozen? ⟨r, us.length * 4 + 3, none⟩ = false ∧
  Ml (w2.setCell ⟨r, us.length * 4 + 3, none⟩ (.slice A' t.length c')) D K g E p z us ⟨⟨⟨x.t.t.kind, x.t.t.n, t⟩, x.t.at_⟩, A', c'⟩ r ∧ Chl D w1 (w2.setCell ⟨r, us.length * 4 + 3, none⟩ (.slice A' t.length c')) := by
 obtain ⟨c, hc, hr⟩ := h.row
 have hx : Owb w1 K x.A x.t.t.text.length x.c x.t.t.text := h.mc.new x (List.mem_singleton.2 rfl)
 have hf : Frm (Value.slice x.A x.t.t.text.length x.c).ownBlock.toList w1 w2 := (Frm.refl _ _).grown hg (fun k e _ => by rw [e]; simp)
 have hr2 : w2.ownsRow D 103 4 (.slice (some ⟨r, 0, none⟩) (us.length + 1) c) (us.length + 1) (tflat (us ++ [x])) := own_frm hr hf fun k hk e => own_two hr hx (by decide) k e (by simpa using hk)
 have hc2 : Pcc w2 g E (some ⟨r, 0, none⟩) (us.length + 1) c p z := Cel.grown hc hg (own_ty_ne hx hc (by decide))
 have hold : ∀ v ∈ us, Btx w2 K v.A v.c v.t.t.text := fun v hv => (h.mc.old v hv).grown hg fun k e => .inl (own_ge hx k e)
 obtain ⟨hs, hg3⟩ := hr2.stored (us.length * 4 + 3) (.slice A' t.length c')
 rw [tflat_set us x ⟨⟨⟨x.t.t.kind, x.t.t.n, t⟩, x.t.at_⟩, A', c'⟩ 3 _ (by decide) rfl] at hs
 have hf3 : Frm [r] w2 (w2.setCell ⟨r, us.length * 4 + 3, none⟩ (.slice A' t.length c')) := (Frm.refl [r] w2).set (by simp) _
 have hrg : g ≠ r := fun e => own_ty_ne hr hc (by decide) (by rw [e]; rfl)
 have hc3 : Pcc (w2.setCell ⟨r, us.length * 4 + 3, none⟩ (.slice A' t.length c')) g E (some ⟨r, 0, none⟩) (us.length + 1) c p z := Cel.far hc2 hrg _
 refine ⟨?_, hr2.frozenAt _, ⟨⟨h.mc.low, Nat.le_trans h.mc.top (Nat.le_trans hg.size hf3.size), h.mc.gD, ⟨_, c, hc3, hs⟩, fun v hv => (hold v hv).set _ (.inr fun cs fz => not_bytes hr2 (by decide) r cs fz rfl), fun v hv => ?_⟩, c, hc3, hs⟩, (Chl.grown hg fun k e => ⟨Nat.le_trans h.mc.low (own_ge hx k e), own_lob hx (.inr (.inr (.inl rfl))) k e⟩).trans (Chl.grown hg3 fun k e => ⟨own_ge hr2 k e, own_lob hr2 (.inr (.inl rfl)) k e⟩)⟩
 ·rw [hr2.cellAt _ (by omega), tflat_at us x 3 (by decide)]; rfl
 ·rw [List.mem_singleton.1 hv]
  refine own_frm ho hf3 fun k hk => ?_
  rw [List.mem_singleton.1 hk]
  exact fun e => own_two ho hr2 (by decide) r e rfl
end
end Go.Proofs.YteohlpmojfjjdaaGreat.Lex
end
