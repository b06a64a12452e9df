/-
  Layer 13 (vars) by the document: names (P13.1), values, a filled text (P13.2).
-/
import Derived.Test.YtamklllmjppinaaLexPure
namespace Go.Proofs.Ytamklllmjppinaa.Vars
open Go.Proofs.Ytamklllmjppinaa.Lex (letter digit within)
set_option linter.unusedVariables false
set_option linter.unusedSimpArgs false

abbrev B := BitVec 8
/-- How long a name is that begins here; 0: none does. -/
def nameR : List B → Nat
  | [] => 0
  | c :: l => if letter c then 1 + (l.takeWhile within).length else 0
theorem nameR_cons (c : B) (l : List B) : nameR (c :: l) = if letter c then 1 + (l.takeWhile within).length else 0 := rfl
theorem nameR_le : ∀ l : List B, nameR l ≤ l.length
  | [] => Nat.le_refl _
  | c :: l => by
    rw [nameR_cons]
    have := (List.takeWhile_prefix within (l := l)).length_le
    split
    · simp; omega
    · simp
def keep (c : B) : Bool := !(decide (c = 10#8) || decide (c = 13#8) || decide (c = 21#8))
def filt (l : List B) : List B := l.filter keep
theorem filt_app (a b : List B) : filt (a ++ b) = filt a ++ filt b := List.filter_append a b
theorem filt_le (a : List B) : (filt a).length ≤ a.length := List.length_filter_le _ _
/-- The names from a place on (fuel f), or the place of the first fault. -/
def namesR : Nat → Nat → List B → Except Nat (List (List B))
  | 0, _, _ => .ok []
  | _ + 1, _, [] => .ok []
  | f + 1, p, c :: l =>
    if c ≠ 36#8 then namesR f (p + 1) l
    else if nameR l = 0 then match l with
      | [] => .error p
      | d :: m => if d = 36#8 then namesR f (p + 2) m else .error p
    else if 20 < nameR l then .error p
    else match namesR f (p + 1 + nameR l) (l.drop (nameR l)) with
      | .error e => .error e
      | .ok ns => .ok (l.take (nameR l) :: ns)
def nadd (o : List (List B)) : Except Nat (List (List B)) → Except Nat (List (List B))
  | .error e => .error e
  | .ok ts => .ok (o ++ ts)
theorem nadd_nil (r : Except Nat (List (List B))) : nadd [] r = r := by cases r <;> rfl
theorem nadd_nadd (o o' : List (List B)) (r : Except Nat (List (List B))) : nadd o (nadd o' r) = nadd (o ++ o') r := by cases r <;> simp [nadd]
theorem namesR_nil (f p : Nat) : namesR f p [] = .ok [] := by cases f <;> rfl
theorem namesR_plain {f p : Nat} {c : B} {l : List B} (h : c ≠ 36#8) : namesR (f + 1) p (c :: l) = namesR f (p + 1) l := by
  conv => lhs; unfold namesR
  rw [if_pos h]
theorem namesR_none {f p : Nat} (h : nameR ([] : List B) = 0) : namesR (f + 1) p [36#8] = .error p := by unfold namesR; rw [if_neg (by simp), if_pos h]
theorem namesR_two {f p : Nat} {m : List B} : namesR (f + 1) p (36#8 :: 36#8 :: m) = namesR f (p + 2) m := by
  conv => lhs; unfold namesR
  rw [if_neg (by simp), if_pos (by rw [nameR_cons, if_neg (by decide)])]
  dsimp only
  rw [if_pos rfl]
theorem namesR_bad {f p : Nat} {d : B} {m : List B} (h0 : nameR (d :: m) = 0) (hd : d ≠ 36#8) : namesR (f + 1) p (36#8 :: d :: m) = .error p := by
  unfold namesR
  rw [if_neg (by simp), if_pos h0]
  dsimp only
  rw [if_neg hd]
theorem namesR_long {f p : Nat} {l : List B} (h0 : nameR l ≠ 0) (h : 20 < nameR l) : namesR (f + 1) p (36#8 :: l) = .error p := by
  unfold namesR
  rw [if_neg (by simp), if_neg h0, if_pos h]
theorem namesR_go {f p : Nat} {l : List B} (h0 : nameR l ≠ 0) (h : ¬ 20 < nameR l) : namesR (f + 1) p (36#8 :: l) = nadd [l.take (nameR l)] (namesR f (p + 1 + nameR l) (l.drop (nameR l))) := by
  conv => lhs; unfold namesR
  rw [if_neg (by simp), if_neg h0, if_neg h]
  cases namesR f (p + 1 + nameR l) (l.drop (nameR l)) <;> rfl
theorem namesR_fuel : ∀ (f g p : Nat) (l : List B), l.length < f → l.length < g → namesR f p l = namesR g p l
  | 0, _, _, _, h, _ => absurd h (Nat.not_lt_zero _)
  | _, 0, _, _, _, h => absurd h (Nat.not_lt_zero _)
  | f + 1, g + 1, p, [], _, _ => rfl
  | f + 1, g + 1, p, c :: l, h1, h2 => by
    simp only [List.length_cons] at h1 h2
    by_cases hc : c ≠ 36#8
    · rw [namesR_plain hc, namesR_plain hc]; exact namesR_fuel f g _ _ (by omega) (by omega)
    · obtain rfl : c = 36#8 := by simpa using hc
      by_cases h0 : nameR l = 0
      · cases l with
        | nil => rw [namesR_none h0, namesR_none h0]
        | cons d m =>
          by_cases hd : d = 36#8
          · subst hd; rw [namesR_two, namesR_two]; simp only [List.length_cons] at h1 h2; exact namesR_fuel f g _ _ (by omega) (by omega)
          · rw [namesR_bad h0 hd, namesR_bad h0 hd]
      · by_cases h20 : 20 < nameR l
        · rw [namesR_long h0 h20, namesR_long h0 h20]
        · rw [namesR_go h0 h20, namesR_go h0 h20, namesR_fuel f g _ _ (by rw [List.length_drop]; omega) (by rw [List.length_drop]; omega)]
/-- P13.1: the names, or the place of the first fault. -/
def names (s : List B) : Except Nat (List (List B)) := namesR (s.length + 1) 0 s
end Go.Proofs.Ytamklllmjppinaa.Vars
