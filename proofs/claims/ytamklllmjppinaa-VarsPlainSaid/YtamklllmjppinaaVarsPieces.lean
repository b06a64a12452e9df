/-
  Layer 13 (vars), the program's way: a text in pieces; its names, and the filled text, told by them.
-/
import Derived.Test.YtamklllmjppinaaVarsFilled
namespace Go.Proofs.Ytamklllmjppinaa.Vars
open Go.Proofs.Ytamklllmjppinaa.Lex (letter digit within)
set_option linter.unusedVariables false
set_option linter.unusedSimpArgs false

/-- A piece: its kind (0: a byte; 1: a variable; 2: a $ that stands for nothing), how many bytes it takes, its text. -/
structure Pce where
  k : Nat
  n : Nat
  t : List B
def leadR : List B → Pce
  | [] => ⟨2, 1, []⟩
  | c :: l => if c ≠ 36#8 then ⟨0, 1, [c]⟩ else if l.head? = some 36#8 then ⟨0, 2, [c]⟩ else if 0 < nameR l ∧ nameR l ≤ 20 then ⟨1, 1 + nameR l, l.take (nameR l)⟩ else ⟨2, 1, []⟩
theorem lead_plain {c : B} {l : List B} (h : c ≠ 36#8) : leadR (c :: l) = ⟨0, 1, [c]⟩ := by unfold leadR; dsimp only; rw [if_pos h]
theorem lead_two {l : List B} : leadR (36#8 :: 36#8 :: l) = ⟨0, 2, [36#8]⟩ := by unfold leadR; dsimp only; rw [if_neg (by simp), if_pos (by rfl)]
theorem lead_name {l : List B} (h : l.head? ≠ some 36#8) (h0 : 0 < nameR l) (h20 : nameR l ≤ 20) : leadR (36#8 :: l) = ⟨1, 1 + nameR l, l.take (nameR l)⟩ := by unfold leadR; dsimp only; rw [if_neg (by simp), if_neg h, if_pos ⟨h0, h20⟩]
theorem lead_none {l : List B} (h : l.head? ≠ some 36#8) (h0 : ¬ (0 < nameR l ∧ nameR l ≤ 20)) : leadR (36#8 :: l) = ⟨2, 1, []⟩ := by unfold leadR; dsimp only; rw [if_neg (by simp), if_neg h, if_neg h0]
theorem head_no {l : List B} (h : 0 < nameR l) : l.head? ≠ some 36#8 := by
  cases l with
  | nil => simp
  | cons d m => rintro e; simp at e; subst e; rw [nameR_cons, if_neg (by decide)] at h; omega
theorem lead_size : ∀ (s : List B), s ≠ [] → 1 ≤ (leadR s).n ∧ (leadR s).n ≤ s.length ∧ (leadR s).k ≤ 2 ∧ (leadR s).t.length ≤ s.length
  | [], h => absurd rfl h
  | c :: l, _ => by
    by_cases hc : c ≠ 36#8
    · rw [lead_plain hc]; simp
    · obtain rfl : c = 36#8 := by simpa using hc
      by_cases h : l.head? = some 36#8
      · cases l with
        | nil => simp at h
        | cons d m => simp at h; subst h; rw [lead_two]; simp
      · by_cases h0 : 0 < nameR l ∧ nameR l ≤ 20
        · rw [lead_name h h0.1 h0.2]
          have := nameR_le l
          simp
          omega
        · rw [lead_none h h0]; simp
/-- A text's pieces, and where they begin. -/
def pcsR : Nat → Nat → List B → List (Nat × Pce)
  | 0, _, _ => []
  | _ + 1, _, [] => []
  | f + 1, p, c :: l => (p, leadR (c :: l)) :: pcsR f (p + (leadR (c :: l)).n) ((c :: l).drop (leadR (c :: l)).n)
theorem pcsR_nil (f p : Nat) : pcsR f p [] = [] := by cases f <;> rfl
theorem pcsR_go {f p : Nat} {s : List B} (h : s ≠ []) : pcsR (f + 1) p s = (p, leadR s) :: pcsR f (p + (leadR s).n) (s.drop (leadR s).n) := by
  cases s with
  | nil => exact absurd rfl h
  | cons c l => rfl
theorem pcsR_fuel : ∀ (f g p : Nat) (l : List B), l.length < f → l.length < g → pcsR f p l = pcsR g p l
  | 0, _, _, _, h, _ => absurd h (Nat.not_lt_zero _)
  | _, 0, _, _, _, h => absurd h (Nat.not_lt_zero _)
  | f + 1, g + 1, p, [], _, _ => rfl
  | f + 1, g + 1, p, c :: l, h1, h2 => by
    have := lead_size (c :: l) (by simp)
    rw [pcsR_go (by simp), pcsR_go (by simp), pcsR_fuel f g _ _ (by rw [List.length_drop]; omega) (by rw [List.length_drop]; omega)]
def pcs (s : List B) : List (Nat × Pce) := pcsR (s.length + 1) 0 s
theorem pcsR_len : ∀ (f p : Nat) (l : List B), (pcsR f p l).length ≤ l.length
  | 0, _, _ => by simp [pcsR]
  | f + 1, p, [] => by simp [pcsR]
  | f + 1, p, c :: l => by
    have := lead_size (c :: l) (by simp)
    have ih := pcsR_len f (p + (leadR (c :: l)).n) ((c :: l).drop (leadR (c :: l)).n)
    rw [pcsR_go (by simp), List.length_cons]
    rw [List.length_drop] at ih
    omega
theorem pcsR_small : ∀ (f p : Nat) (l : List B), ∀ x ∈ pcsR f p l, x.2.t.length ≤ l.length
  | 0, _, _, x, h => by simp [pcsR] at h
  | f + 1, p, [], x, h => by simp [pcsR] at h
  | f + 1, p, c :: l, x, h => by
    have := lead_size (c :: l) (by simp)
    rw [pcsR_go (by simp)] at h
    rcases List.mem_cons.1 h with rfl | h
    · exact this.2.2.2
    · have ih := pcsR_small f _ _ x h
      rw [List.length_drop] at ih
      omega
/-- The names, told by the pieces. -/
def nmP : List (Nat × Pce) → Except Nat (List (List B))
  | [] => .ok []
  | x :: r => if x.2.k = 2 then .error x.1 else if x.2.k = 1 then nadd [x.2.t] (nmP r) else nmP r
theorem nmP_cons (x : Nat × Pce) (r : List (Nat × Pce)) : nmP (x :: r) = if x.2.k = 2 then .error x.1 else if x.2.k = 1 then nadd [x.2.t] (nmP r) else nmP r := rfl
theorem names_pcsR : ∀ (f p : Nat) (l : List B), l.length < f → namesR f p l = nmP (pcsR f p l)
  | 0, _, _, h => absurd h (Nat.not_lt_zero _)
  | f + 1, p, [], _ => rfl
  | f + 1, p, c :: l, h => by
    simp only [List.length_cons] at h
    rw [pcsR_go (by simp), nmP_cons]
    by_cases hc : c ≠ 36#8
    · rw [namesR_plain hc, lead_plain hc]
      simpa using names_pcsR f (p + 1) l (by omega)
    · obtain rfl : c = 36#8 := by simpa using hc
      by_cases h0 : nameR l = 0
      · cases l with
        | nil => rw [namesR_none h0, lead_none (by simp) (by simp [nameR])]; rfl
        | cons d m =>
          by_cases hd : d = 36#8
          · subst hd
            rw [namesR_two, lead_two]
            simp only [List.length_cons] at h
            simpa using names_pcsR f (p + 2) m (by omega)
          · rw [namesR_bad h0 hd, lead_none (by simpa using hd) (by omega)]; rfl
      · by_cases h20 : 20 < nameR l
        · rw [namesR_long h0 h20, lead_none (head_no (by omega)) (by omega)]; rfl
        · rw [namesR_go h0 h20, lead_name (head_no (by omega)) (by omega) (by omega), names_pcsR f _ _ (by rw [List.length_drop]; omega)]
          simp only [List.drop_succ_cons, Nat.add_comm 1 (nameR l)]
          rw [show p + 1 + nameR l = p + (nameR l + 1) by omega]
          rfl
theorem names_pcs (s : List B) : names s = nmP (pcs s) := names_pcsR _ _ _ (by omega)
def nms (xs : List (Nat × Pce)) : List (List B) := xs.flatMap fun x => if x.2.k = 1 then [x.2.t] else []
theorem nmP_app : ∀ {a b : List (Nat × Pce)}, (∀ x ∈ a, x.2.k ≠ 2) → nmP (a ++ b) = nadd (nms a) (nmP b)
  | [], b, _ => by simp [nms, nadd_nil]
  | x :: a, b, h => by
    rw [List.cons_append, nmP_cons, if_neg (h x (by simp)), nmP_app (fun y hy => h y (by simp [hy]))]
    unfold nms
    rw [List.flatMap_cons]
    split
    · rw [nadd_nadd]
    · rw [List.nil_append]
theorem nmP_all {a : List (Nat × Pce)} (h : ∀ x ∈ a, x.2.k ≠ 2) : nmP a = .ok (nms a) := by
  have := nmP_app (b := []) h
  rw [List.append_nil] at this
  rw [this]; simp [nmP, nadd]
theorem nmP_bad {a : List (Nat × Pce)} {x : Nat × Pce} {r : List (Nat × Pce)} (h : ∀ y ∈ a, y.2.k ≠ 2) (hx : x.2.k = 2) : nmP (a ++ x :: r) = .error x.1 := by
  rw [nmP_app h, nmP_cons, if_pos hx]; rfl
theorem nmP_ok : ∀ {a : List (Nat × Pce)} {l : List (List B)}, nmP a = .ok l → ∀ x ∈ a, x.2.k ≠ 2
  | [], _, _, x, hx => by simp at hx
  | y :: a, l, h, x, hx => by
    rw [nmP_cons] at h
    split at h
    · cases h
    · rename_i hy
      have ha : ∃ l', nmP a = .ok l' := by
        cases e : nmP a with
        | ok l' => exact ⟨l', rfl⟩
        | error q =>
          rw [e] at h
          split at h <;> cases h
      obtain ⟨l', ha⟩ := ha
      rcases List.mem_cons.1 hx with rfl | hx
      · exact hy
      · exact nmP_ok ha x hx
/-- What a piece is filled to. -/
def mean (ns : List ByteArray) (vs : List (List B)) (x : Pce) : List B := if x.k = 1 then (valR ns vs (str x.t)).getD [] else x.t
def byP (ns : List ByteArray) (vs : List (List B)) (x : Nat × Pce) : List B := filt (mean ns vs x.2)
theorem fill_pcsR (ns : List ByteArray) (vs : List (List B)) : ∀ (f p : Nat) (l : List B), l.length < f → (∀ x ∈ pcsR f p l, x.2.k ≠ 2) → fillR ns vs f l = (pcsR f p l).flatMap (byP ns vs)
  | 0, _, _, h, _ => absurd h (Nat.not_lt_zero _)
  | f + 1, p, [], _, _ => rfl
  | f + 1, p, c :: l, h, hk => by
    simp only [List.length_cons] at h
    rw [pcsR_go (by simp)] at hk ⊢
    have h2 := hk _ (List.mem_cons_self ..)
    have hk' : ∀ x ∈ pcsR f (p + (leadR (c :: l)).n) ((c :: l).drop (leadR (c :: l)).n), x.2.k ≠ 2 := fun x hx => hk x (List.mem_cons_of_mem _ hx)
    rw [List.flatMap_cons]
    by_cases hc : c ≠ 36#8
    · rw [lead_plain hc] at hk' h2 ⊢
      rw [fillR_plain hc, fill_pcsR ns vs f (p + 1) l (by omega) (by simpa using hk')]
      rfl
    · obtain rfl : c = 36#8 := by simpa using hc
      by_cases h0 : nameR l = 0
      · cases l with
        | nil => rw [lead_none (by simp) (by simp [nameR])] at h2; exact absurd rfl h2
        | cons d m =>
          by_cases hd : d = 36#8
          · subst hd
            rw [lead_two] at hk' ⊢
            simp only [List.length_cons] at h
            rw [fillR_two h0, List.drop_one, List.tail_cons, fill_pcsR ns vs f (p + 2) m (by omega) (by simpa using hk')]
            rfl
          · rw [lead_none (by simpa using hd) (by omega)] at h2; exact absurd rfl h2
      · by_cases h20 : 20 < nameR l
        · rw [lead_none (head_no (by omega)) (by omega)] at h2; exact absurd rfl h2
        · rw [lead_name (head_no (by omega)) (by omega) (by omega)] at hk' ⊢
          simp only [List.drop_succ_cons, Nat.add_comm 1 (nameR l)] at hk' ⊢
          rw [fillR_go h0, fill_pcsR ns vs f (p + (nameR l + 1)) _ (by rw [List.length_drop]; omega) hk']
          rfl
/-- P13.2 by the pieces. -/
theorem fill_pcs {s : List B} {ns : List ByteArray} {vs : List (List B)} {l : List (List B)} (h : names s = .ok l) :
    fill s ns vs = if l.any (fun n => (valR ns vs (str n)).isNone) then .error 9 else if 200 < ((pcs s).flatMap (byP ns vs)).length then .error 3 else .ok ((pcs s).flatMap (byP ns vs)) := by
  rw [fill_ok h, fill_pcsR ns vs _ 0 s (by omega) (nmP_ok (by rw [names_pcs] at h; exact h))]
  rfl
end Go.Proofs.Ytamklllmjppinaa.Vars
