/-
  Layer 8 (regex) by the document: how a pattern is read, byte by byte, with a pile of open brackets; and what its ops do with a pile (P8.2).
-/
import Derived.WalkKit
namespace Go.Proofs.Ytjpbndpfbdfhjaa.Reg
set_option linter.unusedVariables false
set_option linter.unusedSimpArgs false

/-- The bytes from a to b. -/
structure Sp where
  a : BitVec 8
  b : BitVec 8
deriving DecidableEq, Inhabited
/-- An op. -/
structure Rop where
  kind : Int
  neg : Bool
  sp : List Sp
deriving DecidableEq, Inhabited
/-- How far a level is read: has it a branch, has its branch a piece? -/
structure Lv where
  hb : Bool
  hp : Bool
deriving DecidableEq, Inhabited
/-- How far a pattern is read; the innermost of the open levels first. -/
structure St where
  at_ : Nat
  ops : List Rop
  inner : Lv
  outer : List Lv

def named (c : BitVec 8) : Bool := (48 ≤ c.toNat && c.toNat ≤ 57) || (65 ≤ c.toNat && c.toNat ≤ 90) || (97 ≤ c.toNat && c.toNat ≤ 122)
/-- The byte for which \c stands. -/
def escB (c : BitVec 8) : Option (BitVec 8) :=
  if c = 110#8 then some 10#8 else if c = 116#8 then some 9#8 else if c = 114#8 then some 13#8 else if named c then none else some c
/-- The spans of a letter's class. -/
def classOf (c : BitVec 8) : List Sp :=
  if c = 100#8 then [⟨48#8, 57#8⟩] else if c = 119#8 then [⟨48#8, 57#8⟩, ⟨65#8, 90#8⟩, ⟨95#8, 95#8⟩, ⟨97#8, 122#8⟩] else if c = 115#8 then [⟨9#8, 13#8⟩, ⟨32#8, 32#8⟩] else []
def escS (c : BitVec 8) : List Sp :=
  match classOf c with
  | [] => match escB c with
    | none => []
    | some b => [⟨b, b⟩]
  | l => l
/-- A byte of a set's item, not less than another one, and the place behind it; or where it goes wrong. -/
def setByte (s : List (BitVec 8)) (k : Nat) (least : BitVec 8) : Except Nat (BitVec 8 × Nat) :=
  if s[k]? = some 92#8 then
    match s[k + 1]? with
    | none => .error (k + 1)
    | some c => match escB c with
      | none => .error (k + 1)
      | some b => if b.toNat < least.toNat then .error (k + 1) else .ok (b, k + 2)
  else
    match s[k]? with
    | none => .error k
    | some c => if c = 93#8 ∨ c = 45#8 ∨ c = 94#8 ∨ c.toNat < least.toNat then .error k else .ok (c, k + 1)
def item (s : List (BitVec 8)) (k : Nat) : Except Nat (Sp × Nat) :=
  match setByte s k 0#8 with
  | .error e => .error e
  | .ok (a, j) =>
    if s[j]? = some 45#8 then
      match setByte s (j + 1) a with
      | .error e => .error e
      | .ok (b, i) => .ok (⟨a, b⟩, i)
    else .ok (⟨a, a⟩, j)
def itemsF (s : List (BitVec 8)) : Nat → Nat → List Sp → Except Nat (List Sp × Nat)
  | 0, k, acc => .error k
  | n + 1, k, acc =>
    if acc ≠ [] ∧ s[k]? = some 93#8 then .ok (acc, k + 1)
    else match item s k with
      | .error e => .error e
      | .ok (x, j) => itemsF s n j (acc ++ [x])
/-- The items of a set, and the place behind its end. -/
def items (s : List (BitVec 8)) (k : Nat) (acc : List Sp) : Except Nat (List Sp × Nat) := itemsF s (s.length + 1 - k) k acc
/-- A set, from its bracket on. -/
def setR (s : List (BitVec 8)) (k : Nat) : Except Nat (Rop × Nat) :=
  let neg := decide (s[k + 1]? = some 94#8)
  match items s (if neg then k + 2 else k + 1) [] with
  | .error e => .error e
  | .ok (l, j) => .ok (⟨1, neg, l⟩, j)
/-- A \ and what follows it. -/
def escape (s : List (BitVec 8)) (k : Nat) : Except Nat (Rop × Nat) :=
  match s[k + 1]? with
  | none => .error (k + 1)
  | some c => match escS c with
    | [] => .error (k + 1)
    | l => .ok (⟨1, false, l⟩, k + 2)
/-- An atom that begins with c, and is no bracket. -/
def atomL (s : List (BitVec 8)) (k : Nat) (c : BitVec 8) : Except Nat (Rop × Nat) :=
  if c = 42#8 ∨ c = 43#8 ∨ c = 63#8 ∨ c = 93#8 then .error k
  else if c = 91#8 then setR s k
  else if c = 92#8 then escape s k
  else if c = 46#8 then .ok (⟨1, true, [⟨10#8, 10#8⟩]⟩, k + 1)
  else .ok (⟨1, false, [⟨c, c⟩]⟩, k + 1)
def one (k : Int) : Rop := ⟨k, false, []⟩
/-- The kind of the op of a *, + or ? at a place; 0: there is none. -/
def repet (s : List (BitVec 8)) (k : Nat) : Int :=
  if s[k]? = some 42#8 then 5 else if s[k]? = some 43#8 then 6 else if s[k]? = some 63#8 then 7 else 0
/-- What is done behind an atom. -/
def pieceEnd (s : List (BitVec 8)) (x : St) : St :=
  let r := repet s x.at_
  ⟨if r = 0 then x.at_ else x.at_ + 1, x.ops ++ (if r = 0 then [] else [one r]) ++ (if x.inner.hp then [one 3] else []), ⟨x.inner.hb, true⟩, x.outer⟩
/-- What is done behind a branch. -/
def branchEnd (x : St) : St :=
  ⟨x.at_, x.ops ++ (if x.inner.hp then [] else [one 2]) ++ (if x.inner.hb then [one 4] else []), ⟨true, false⟩, x.outer⟩
/-- What begins with c: a bracket, a |, or an atom. An error, and where; or how far it is read then. -/
def step (s : List (BitVec 8)) (x : St) (c : BitVec 8) : Except (Nat × Nat) St :=
  if c = 40#8 then
    if x.outer.length = 8 then .error (5, x.at_) else .ok ⟨x.at_ + 1, x.ops, ⟨false, false⟩, x.inner :: x.outer⟩
  else if c = 41#8 then
    match x.outer with
    | [] => .error (2, x.at_)
    | l :: K => .ok (pieceEnd s ⟨x.at_ + 1, (branchEnd x).ops, l, K⟩)
  else if c = 124#8 then .ok (branchEnd ⟨x.at_ + 1, x.ops, x.inner, x.outer⟩)
  else match atomL s x.at_ c with
    | .error e => .error (2, e)
    | .ok (o, j) => .ok (pieceEnd s ⟨j, x.ops ++ [o], x.inner, x.outer⟩)
def runF (s : List (BitVec 8)) : Nat → St → Except (Nat × Nat) (List Rop)
  | 0, x => .error (2, x.at_)
  | n + 1, x => match s[x.at_]? with
    | none => if x.outer ≠ [] then .error (2, x.at_) else .ok (branchEnd x).ops
    | some c => match step s x c with
      | .error e => .error e
      | .ok y => runF s n y
/-- What is read from there on. -/
def run (s : List (BitVec 8)) (x : St) : Except (Nat × Nat) (List Rop) := runF s (s.length + 1 - x.at_) x
def St0 : St := ⟨0, [], ⟨false, false⟩, []⟩
/-- P8.1: the ops, or an error's number, and where. -/
def parse (s : List (BitVec 8)) : Except (Nat × Nat) (List Rop) := if 80 < s.length then .error (3, 0) else run s St0

theorem get_lt {s : List (BitVec 8)} {k : Nat} {c : BitVec 8} (h : s[k]? = some c) : k < s.length := (List.getElem?_eq_some_iff.1 h).1

theorem setByte_ok {s : List (BitVec 8)} {k : Nat} {least b : BitVec 8} {j : Nat} (h : setByte s k least = .ok (b, j)) : k < j ∧ j ≤ s.length ∧ least.toNat ≤ b.toNat := by
  unfold setByte at h
  split at h
  · split at h
    · cases h
    · rename_i c hc
      split at h
      · cases h
      · split at h
        · cases h
        · have := get_lt hc
          injection h with h; injection h with h1 h2; subst h1 h2
          omega
  · split at h
    · cases h
    · rename_i c hc
      split at h
      · cases h
      · rename_i hn
        have := get_lt hc
        injection h with h; injection h with h1 h2; subst h1 h2
        refine ⟨by omega, by omega, ?_⟩
        have := fun q => hn (.inr (.inr (.inr q)))
        omega
theorem setByte_err {s : List (BitVec 8)} {k e : Nat} {least : BitVec 8} (h : setByte s k least = .error e) (hk : k ≤ s.length) : k ≤ e ∧ e ≤ s.length := by
  unfold setByte at h
  split at h
  · rename_i h92
    have := get_lt h92
    split at h
    · injection h with h; omega
    · rename_i c hc
      split at h
      · injection h with h; omega
      · split at h
        · injection h with h; omega
        · cases h
  · split at h
    · injection h with h; omega
    · rename_i c hc
      split at h
      · injection h with h; omega
      · cases h
theorem item_ok {s : List (BitVec 8)} {k : Nat} {x : Sp} {j : Nat} (h : item s k = .ok (x, j)) : k < j ∧ j ≤ s.length ∧ x.a.toNat ≤ x.b.toNat := by
  unfold item at h
  split at h
  · cases h
  · rename_i a i h1
    have q1 := setByte_ok h1
    split at h
    · split at h
      · cases h
      · rename_i b i2 h2
        have q2 := setByte_ok h2
        injection h with h; injection h with e1 e2; subst e1 e2
        exact ⟨by omega, q2.2.1, q2.2.2⟩
    · injection h with h; injection h with e1 e2; subst e1 e2
      exact ⟨q1.1, q1.2.1, Nat.le_refl _⟩
theorem item_err {s : List (BitVec 8)} {k e : Nat} (h : item s k = .error e) (hk : k ≤ s.length) : k ≤ e ∧ e ≤ s.length := by
  unfold item at h
  split at h
  · rename_i e' h1
    injection h with h; subst h
    exact setByte_err h1 hk
  · rename_i a i h1
    have q1 := setByte_ok h1
    split at h
    · rename_i h45
      have := get_lt h45
      split at h
      · rename_i e' h2
        injection h with h; subst h
        have := setByte_err h2 (by omega)
        omega
      · cases h
    · cases h
theorem itemsF_eq (s : List (BitVec 8)) : ∀ (n m k : Nat) (acc : List Sp), s.length + 1 - k ≤ n → s.length + 1 - k ≤ m → k ≤ s.length → itemsF s n k acc = itemsF s m k acc := by
  intro n
  induction n with
  | zero => intro m k acc h1 _ h3; omega
  | succ n ih =>
    intro m k acc h1 h2 h3
    match m, h2 with
    | 0, h2 => omega
    | m + 1, h2 =>
      unfold itemsF
      split
      · rfl
      · split
        · rfl
        · rename_i x j hj
          have := item_ok hj
          exact ih m j _ (by omega) (by omega) this.2.1
theorem items_end {s : List (BitVec 8)} {k : Nat} {acc : List Sp} (ha : acc ≠ []) (h : s[k]? = some 93#8) : items s k acc = .ok (acc, k + 1) := by
  have := get_lt h
  unfold items
  rw [show s.length + 1 - k = (s.length - k) + 1 by omega]
  unfold itemsF
  rw [if_pos ⟨ha, h⟩]
theorem items_more {s : List (BitVec 8)} {k : Nat} {acc : List Sp} (hk : k ≤ s.length) (h : ¬ (acc ≠ [] ∧ s[k]? = some 93#8)) :
    items s k acc = match item s k with
      | .error e => .error e
      | .ok (x, j) => items s j (acc ++ [x]) := by
  unfold items
  rw [show s.length + 1 - k = (s.length - k) + 1 by omega]
  rw [itemsF, if_neg h]
  split
  · rfl
  · rename_i x j hj
    have := item_ok hj
    exact itemsF_eq s _ _ _ _ (by omega) (by omega) this.2.1
theorem itemsF_ok {s : List (BitVec 8)} : ∀ (n k : Nat) (acc l : List Sp) (j : Nat), itemsF s n k acc = .ok (l, j) → k ≤ s.length → (∀ x ∈ acc, x.a.toNat ≤ x.b.toNat) → k < j ∧ j ≤ s.length ∧ l ≠ [] ∧ l.length + k ≤ acc.length + j ∧ ∀ x ∈ l, x.a.toNat ≤ x.b.toNat := by
  intro n
  induction n with
  | zero => intro k acc l j h; cases h
  | succ n ih =>
    intro k acc l j h hk hacc
    unfold itemsF at h
    split at h
    · rename_i hc
      have := get_lt hc.2
      injection h with h; injection h with e1 e2; subst e1 e2
      exact ⟨by omega, by omega, hc.1, by omega, hacc⟩
    · split at h
      · cases h
      · rename_i x i hi
        have q := item_ok hi
        have := ih i _ l j h q.2.1 (fun y hy => by
          rcases List.mem_append.1 hy with hy | hy
          · exact hacc y hy
          · rw [List.mem_singleton.1 hy]; exact q.2.2)
        rw [List.length_append, List.length_singleton] at this
        exact ⟨by omega, this.2.1, this.2.2.1, by omega, this.2.2.2.2⟩
theorem itemsF_err {s : List (BitVec 8)} : ∀ (n k : Nat) (acc : List Sp) (e : Nat), itemsF s n k acc = .error e → k ≤ s.length → k ≤ e ∧ e ≤ s.length := by
  intro n
  induction n with
  | zero => intro k acc e h hk; injection h with h; omega
  | succ n ih =>
    intro k acc e h hk
    unfold itemsF at h
    split at h
    · cases h
    · split at h
      · rename_i e' he
        injection h with h; subst h
        exact item_err he hk
      · rename_i x i hi
        have q := item_ok hi
        have := ih i _ e h q.2.1
        omega
theorem setR_ok {s : List (BitVec 8)} {k : Nat} {o : Rop} {j : Nat} (h : setR s k = .ok (o, j)) (hk : k < s.length) : k < j ∧ j ≤ s.length ∧ o.kind = 1 ∧ o.sp ≠ [] ∧ o.sp.length ≤ 80 + j := by
  unfold setR at h
  simp only at h
  by_cases hn : s[k + 1]? = some 94#8
  · have := get_lt hn
    simp only [hn, decide_true, if_true] at h
    split at h
    · cases h
    · rename_i l i hi
      have q := itemsF_ok _ _ _ _ _ hi (by omega) (by simp)
      injection h with h; injection h with e1 e2; subst e1 e2
      simp only [List.length_nil] at q
      exact ⟨by omega, q.2.1, rfl, q.2.2.1, by show l.length ≤ _; omega⟩
  · simp only [hn, decide_false] at h
    split at h
    · cases h
    · rename_i l i hi
      have q := itemsF_ok _ _ _ _ _ hi (by simp; omega) (by simp)
      injection h with h; injection h with e1 e2; subst e1 e2
      simp at q
      exact ⟨by omega, q.2.1, rfl, q.2.2.1, by show l.length ≤ _; omega⟩
theorem escape_ok {s : List (BitVec 8)} {k : Nat} {o : Rop} {j : Nat} (h : escape s k = .ok (o, j)) : k < j ∧ j ≤ s.length ∧ o.kind = 1 ∧ o.sp ≠ [] := by
  unfold escape at h
  split at h
  · cases h
  · rename_i c hc
    have := get_lt hc
    rcases e : escS c with _ | ⟨x, t⟩ <;> rw [e] at h
    · cases h
    · injection h with h; injection h with e1 e2; subst e1 e2
      exact ⟨by omega, by omega, rfl, by simp⟩
theorem atomL_ok {s : List (BitVec 8)} {k : Nat} {c : BitVec 8} {o : Rop} {j : Nat} (h : atomL s k c = .ok (o, j)) (hc : s[k]? = some c) : k < j ∧ j ≤ s.length ∧ o.kind = 1 ∧ o.sp ≠ [] := by
  have hk := get_lt hc
  unfold atomL at h
  split at h
  · cases h
  · split at h
    · have := setR_ok h hk
      exact ⟨this.1, this.2.1, this.2.2.1, this.2.2.2.1⟩
    · split at h
      · exact escape_ok h
      · split at h <;> (injection h with h; injection h with e1 e2; subst e1 e2; exact ⟨by omega, by omega, rfl, by simp⟩)
theorem repet_lt {s : List (BitVec 8)} {k : Nat} (h : repet s k ≠ 0) : k < s.length := by
  unfold repet at h
  split at h
  · exact get_lt (by assumption)
  · split at h
    · exact get_lt (by assumption)
    · split at h
      · exact get_lt (by assumption)
      · exact absurd rfl h
theorem repet_or (s : List (BitVec 8)) (k : Nat) : repet s k = 0 ∨ repet s k = 5 ∨ repet s k = 6 ∨ repet s k = 7 := by
  unfold repet
  split
  · simp
  · split
    · simp
    · split <;> simp
theorem pieceEnd_at {s : List (BitVec 8)} {x : St} (h : x.at_ ≤ s.length) : x.at_ ≤ (pieceEnd s x).at_ ∧ (pieceEnd s x).at_ ≤ s.length := by
  show x.at_ ≤ (if repet s x.at_ = 0 then x.at_ else x.at_ + 1) ∧ (if repet s x.at_ = 0 then x.at_ else x.at_ + 1) ≤ _
  split
  · exact ⟨Nat.le_refl _, h⟩
  · have := repet_lt (by assumption)
    omega
theorem step_at {s : List (BitVec 8)} {x y : St} {c : BitVec 8} (h : step s x c = .ok y) (hc : s[x.at_]? = some c) : x.at_ < y.at_ ∧ y.at_ ≤ s.length := by
  have hk := get_lt hc
  unfold step at h
  split at h
  · split at h
    · cases h
    · injection h with h; subst h; exact ⟨Nat.lt_succ_self _, hk⟩
  · split at h
    · split at h
      · cases h
      · injection h with h; subst h
        have := pieceEnd_at (s := s) (x := ⟨x.at_ + 1, (branchEnd x).ops, ‹_›, ‹_›⟩) hk
        exact ⟨Nat.lt_of_lt_of_le (Nat.lt_succ_self _) this.1, this.2⟩
    · split at h
      · injection h with h; subst h; exact ⟨Nat.lt_succ_self _, hk⟩
      · split at h
        · cases h
        · rename_i o j hj
          have q := atomL_ok hj hc
          injection h with h; subst h
          have := pieceEnd_at (s := s) (x := ⟨j, x.ops ++ [o], x.inner, x.outer⟩) q.2.1
          exact ⟨Nat.lt_of_lt_of_le q.1 this.1, this.2⟩
theorem runF_eq (s : List (BitVec 8)) : ∀ (n m : Nat) (x : St), s.length + 1 - x.at_ ≤ n → s.length + 1 - x.at_ ≤ m → x.at_ ≤ s.length → runF s n x = runF s m x := by
  intro n
  induction n with
  | zero => intro m x h1 _ h3; omega
  | succ n ih =>
    intro m x h1 h2 h3
    match m, h2 with
    | 0, h2 => omega
    | m + 1, h2 =>
      unfold runF
      split
      · rfl
      · rename_i c hc
        split
        · rfl
        · rename_i y hy
          have := step_at hy hc
          exact ih m y (by omega) (by omega) this.2
theorem run_end {s : List (BitVec 8)} {x : St} (hx : x.at_ = s.length) : run s x = if x.outer ≠ [] then .error (2, x.at_) else .ok (branchEnd x).ops := by
  unfold run
  rw [show s.length + 1 - x.at_ = 0 + 1 by omega, runF, List.getElem?_eq_none (by omega)]
theorem run_step {s : List (BitVec 8)} {x : St} {c : BitVec 8} (hc : s[x.at_]? = some c) :
    run s x = match step s x c with
      | .error e => .error e
      | .ok y => run s y := by
  have hk := get_lt hc
  unfold run
  rw [show s.length + 1 - x.at_ = (s.length - x.at_) + 1 by omega, runF, hc]
  simp only
  split
  · rfl
  · rename_i y hy
    have := step_at hy hc
    exact runF_eq s _ _ _ (by omega) (by omega) this.2

/-! What ops do with a pile. -/

/-- How many an op takes, none: it is none. -/
def takes (k : Int) : Option Nat := if k = 1 ∨ k = 2 then some 0 else if k = 3 ∨ k = 4 then some 2 else if k = 5 ∨ k = 6 ∨ k = 7 then some 1 else none
def does (n : Nat) (k : Int) : Option Nat := match takes k with
  | none => none
  | some t => if n < t then none else some (n - t + 1)
def piled (n : Nat) : List Rop → Option Nat
  | [] => some n
  | o :: l => match does n o.kind with
    | none => none
    | some m => piled m l
theorem piled_append (l m : List Rop) : ∀ n, piled n (l ++ m) = match piled n l with
    | none => none
    | some k => piled k m := by
  induction l with
  | nil => intro n; rfl
  | cons o l ih =>
    intro n
    show (match does n o.kind with | none => none | some k => piled k (l ++ m)) = match (match does n o.kind with | none => none | some k => piled k l) with | none => none | some k => piled k m
    split
    · rfl
    · exact ih _
theorem piled_one {l : List Rop} {n k : Nat} (o : Rop) (h : piled n l = some k) : piled n (l ++ [o]) = does k o.kind := by
  rw [piled_append, h]
  show (match does k o.kind with | none => none | some m => some m) = _
  cases does k o.kind <;> rfl
/-- How many instructions an op has. -/
def weight (k : Int) : Nat := if k = 4 ∨ k = 5 then 2 else if k = 1 ∨ k = 6 ∨ k = 7 then 1 else 0
def heavy (l : List Rop) : Nat := (l.map fun o => weight o.kind).sum
theorem heavy_append (l m : List Rop) : heavy (l ++ m) = heavy l + heavy m := by simp [heavy]
theorem heavy_one (o : Rop) : heavy [o] = weight o.kind := by simp [heavy]
def Lv.n (l : Lv) : Nat := (if l.hb then 1 else 0) + (if l.hp then 1 else 0)
def lvs (L : List Lv) : Nat := (L.map Lv.n).sum
def hbs (L : List Lv) : Nat := (L.map fun l => if l.hb then 1 else 0).sum
theorem lvs_cons (l : Lv) (L : List Lv) : lvs (l :: L) = l.n + lvs L := by simp [lvs]
theorem hbs_cons (l : Lv) (L : List Lv) : hbs (l :: L) = (if l.hb then 1 else 0) + hbs L := by simp [hbs]
/-- What holds of each state: each value that is open lies on the pile, and there are few instructions. -/
structure Good (x : St) : Prop where
  pile : piled 0 x.ops = some (lvs (x.inner :: x.outer))
  few : heavy x.ops + 2 * hbs (x.inner :: x.outer) ≤ 2 * x.at_
  spans : ∀ o ∈ x.ops, (o.kind = 1 ↔ o.sp ≠ [])
theorem Good.zero : Good St0 := ⟨rfl, by decide, by simp [St0]⟩
theorem spans_one {l : List Rop} {k : Int} (h : ∀ o ∈ l, (o.kind = 1 ↔ o.sp ≠ [])) (hk : k ≠ 1) : ∀ o ∈ l ++ [one k], (o.kind = 1 ↔ o.sp ≠ []) := by
  intro o ho
  rcases List.mem_append.1 ho with ho | ho
  · exact h o ho
  · rw [List.mem_singleton.1 ho]; simp [one, hk]
/-- A value more on the pile, and a level whose piece it is: the state behind the piece. -/
theorem Good.piece {s : List (BitVec 8)} {k : Nat} {ops : List Rop} {l : Lv} {K : List Lv} (hp : piled 0 ops = some (1 + lvs (l :: K))) (hf : heavy ops + 2 * hbs (l :: K) ≤ 2 * k) (hs : ∀ o ∈ ops, (o.kind = 1 ↔ o.sp ≠ [])) : Good (pieceEnd s ⟨k, ops, l, K⟩) := by
  have key : ∀ (r : Int) (ops' : List Rop), ops' = ops ++ (if r = 0 then [] else [one r]) → (r = 0 ∨ r = 5 ∨ r = 6 ∨ r = 7) →
      piled 0 ops' = some (1 + lvs (l :: K)) ∧ heavy ops' + 2 * hbs (l :: K) ≤ 2 * (if r = 0 then k else k + 1) ∧ ∀ o ∈ ops', (o.kind = 1 ↔ o.sp ≠ []) := by
    intro r ops' e hr
    subst e
    rcases hr with rfl | rfl | rfl | rfl
    · rw [if_pos rfl, List.append_nil]; exact ⟨hp, hf, hs⟩
    all_goals
      rw [if_neg (by decide), if_neg (by decide)]
      refine ⟨?_, ?_, spans_one hs (by decide)⟩
      · rw [piled_one _ hp]
        show (if 1 + lvs (l :: K) < 1 then none else some (1 + lvs (l :: K) - 1 + 1)) = _
        rw [if_neg (by omega)]
        congr 1
        omega
      · rw [heavy_append, heavy_one]
        simp only [one, weight]
        simp
        omega
  obtain ⟨h1, h2, h3⟩ := key (repet s k) _ rfl (repet_or s k)
  obtain ⟨hb, hpc⟩ := l
  have e : pieceEnd s ⟨k, ops, ⟨hb, hpc⟩, K⟩ = ⟨if repet s k = 0 then k else k + 1, ops ++ (if repet s k = 0 then [] else [one (repet s k)]) ++ (if hpc then [one 3] else []), ⟨hb, true⟩, K⟩ := rfl
  rw [e]
  generalize ops ++ (if repet s k = 0 then [] else [one (repet s k)]) = ops' at *
  generalize (if repet s k = 0 then k else k + 1) = k' at *
  rw [lvs_cons] at h1
  rw [hbs_cons] at h2
  cases hpc with
  | false =>
    refine ⟨?_, ?_, ?_⟩
    · show piled 0 (ops' ++ []) = _
      rw [List.append_nil, h1, lvs_cons]
      congr 1
      cases hb <;> simp [Lv.n] <;> omega
    · show heavy (ops' ++ []) + 2 * hbs (⟨hb, true⟩ :: K) ≤ 2 * k'
      rw [List.append_nil, hbs_cons]
      exact h2
    · show ∀ o ∈ ops' ++ [], _
      rw [List.append_nil]; exact h3
  | true =>
    refine ⟨?_, ?_, ?_⟩
    · show piled 0 (ops' ++ [one 3]) = some (lvs (⟨hb, true⟩ :: K))
      rw [piled_one _ h1, lvs_cons]
      show (if _ < 2 then none else some _) = _
      have : 1 ≤ Lv.n ⟨hb, true⟩ := by cases hb <;> simp [Lv.n]
      rw [if_neg (by omega)]
      congr 1
      omega
    · show heavy (ops' ++ [one 3]) + 2 * hbs (⟨hb, true⟩ :: K) ≤ 2 * k'
      rw [heavy_append, heavy_one, hbs_cons]
      exact h2
    · exact spans_one h3 (by decide)
/-- Behind a branch: its level's one value lies on the pile. -/
theorem Good.branch {x : St} (h : Good x) : piled 0 (branchEnd x).ops = some (1 + lvs x.outer) ∧ heavy (branchEnd x).ops + 2 * hbs x.outer ≤ 2 * x.at_ ∧ ∀ o ∈ (branchEnd x).ops, (o.kind = 1 ↔ o.sp ≠ []) := by
  obtain ⟨k, ops, ⟨hb, hp⟩, K⟩ := x
  obtain ⟨h1, h2, h3⟩ := h
  simp only at h1 h2 h3
  show piled 0 (ops ++ (if hp then [] else [one 2]) ++ (if hb then [one 4] else [])) = some (1 + lvs K) ∧ heavy (ops ++ (if hp then [] else [one 2]) ++ (if hb then [one 4] else [])) + 2 * hbs K ≤ 2 * k ∧ ∀ o ∈ ops ++ (if hp then [] else [one 2]) ++ (if hb then [one 4] else []), _
  rw [lvs_cons] at h1
  rw [hbs_cons] at h2
  have key : ∀ ops' : List Rop, ops' = ops ++ (if hp then [] else [one 2]) → piled 0 ops' = some ((if hb then 1 else 0) + 1 + lvs K) ∧ heavy ops' = heavy ops ∧ ∀ o ∈ ops', (o.kind = 1 ↔ o.sp ≠ []) := by
    intro ops' e
    subst e
    cases hp with
    | true =>
      have e : ops ++ (if true = true then [] else [one 2]) = ops := List.append_nil _
      rw [e]
      exact ⟨h1, rfl, h3⟩
    | false =>
      refine ⟨?_, ?_, spans_one h3 (by decide)⟩
      · show piled 0 (ops ++ [one 2]) = _
        rw [piled_one _ h1]
        show some (Lv.n ⟨hb, false⟩ + lvs K - 0 + 1) = _
        congr 1
        cases hb <;> simp [Lv.n] <;> omega
      · show heavy (ops ++ [one 2]) = _
        rw [heavy_append, heavy_one]; rfl
  obtain ⟨q1, q2, q3⟩ := key _ rfl
  generalize ops ++ (if hp then [] else [one 2]) = ops' at *
  cases hb with
  | false =>
    simp only [Bool.false_eq_true, if_false, List.append_nil] at *
    exact ⟨by first | exact q1 | (rw [q1]; congr 1; omega), by omega, q3⟩
  | true =>
    simp only [if_true] at *
    refine ⟨?_, ?_, spans_one q3 (by decide)⟩
    · rw [piled_one _ q1]
      show (if _ < 2 then none else some _) = _
      rw [if_neg (by omega)]
      congr 1
      omega
    · rw [heavy_append, heavy_one, q2]
      show heavy ops + 2 + _ ≤ _
      omega
theorem Good.step {s : List (BitVec 8)} {x y : St} {c : BitVec 8} (h : Good x) (hc : s[x.at_]? = some c) (hs : step s x c = .ok y) : Good y := by
  unfold Reg.step at hs
  split at hs
  · split at hs
    · cases hs
    · injection hs with hs; subst hs
      refine ⟨?_, ?_, h.spans⟩
      · show piled 0 x.ops = some (lvs (⟨false, false⟩ :: x.inner :: x.outer))
        rw [h.pile, lvs_cons ⟨false, false⟩]
        simp [Lv.n]
      · show heavy x.ops + 2 * hbs (⟨false, false⟩ :: x.inner :: x.outer) ≤ 2 * (x.at_ + 1)
        rw [hbs_cons ⟨false, false⟩]
        have := h.few
        simp
        omega
  · have hb := h.branch
    split at hs
    · split at hs
      · cases hs
      · rename_i l K hK
        injection hs with hs; subst hs
        rw [hK] at hb
        exact Good.piece hb.1 (by have := hb.2.1; omega) hb.2.2
    · split at hs
      · injection hs with hs; subst hs
        refine ⟨?_, ?_, hb.2.2⟩
        · show piled 0 (branchEnd x).ops = some (lvs (⟨true, false⟩ :: x.outer))
          rw [hb.1, lvs_cons]
          rfl
        · show heavy (branchEnd x).ops + 2 * hbs (⟨true, false⟩ :: x.outer) ≤ 2 * (x.at_ + 1)
          rw [hbs_cons]
          have := hb.2.1
          simp
          omega
      · split at hs
        · cases hs
        · rename_i o j hj
          have q := atomL_ok hj hc
          injection hs with hs; subst hs
          refine Good.piece ?_ ?_ ?_
          · rw [piled_one _ h.pile, q.2.2.1]
            show (if lvs (x.inner :: x.outer) < 0 then none else some (lvs (x.inner :: x.outer) - 0 + 1)) = _
            rw [if_neg (by omega)]
            congr 1
            omega
          · rw [heavy_append, heavy_one, q.2.2.1]
            have := h.few
            show _ + 1 + _ ≤ _
            omega
          · intro o' ho
            rcases List.mem_append.1 ho with ho | ho
            · exact h.spans o' ho
            · rw [List.mem_singleton.1 ho]
              exact ⟨fun _ => q.2.2.2, fun _ => q.2.2.1⟩
theorem Good.run {s : List (BitVec 8)} : ∀ (n : Nat) (x : St) (l : List Rop), Good x → x.at_ ≤ s.length → runF s n x = .ok l → piled 0 l = some 1 ∧ heavy l ≤ 2 * s.length ∧ ∀ o ∈ l, (o.kind = 1 ↔ o.sp ≠ []) := by
  intro n
  induction n with
  | zero => intro x l _ _ h; cases h
  | succ n ih =>
    intro x l hx hk h
    unfold runF at h
    split at h
    · split at h
      · cases h
      · rename_i ho
        have ho' : x.outer = [] := by
          rcases e : x.outer with _ | ⟨a, b⟩
          · rfl
          · exact absurd (by rw [e]; simp) ho
        injection h with h; subst h
        have q := hx.branch
        rw [ho'] at q
        exact ⟨q.1, by have := q.2.1; simp [hbs] at this; omega, q.2.2⟩
    · rename_i c hc
      split at h
      · cases h
      · rename_i y hy
        have := step_at hy hc
        exact ih y l (hx.step hc hy) this.2 h
/-- P8.2: what is read leaves one value, and has at most twice as many instructions as bytes. -/
theorem parse_good {s : List (BitVec 8)} {l : List Rop} (h : parse s = .ok l) : s.length ≤ 80 ∧ piled 0 l = some 1 ∧ heavy l ≤ 2 * s.length ∧ ∀ o ∈ l, (o.kind = 1 ↔ o.sp ≠ []) := by
  unfold parse at h
  split at h
  · cases h
  · exact ⟨by omega, Good.run _ _ _ Good.zero (Nat.zero_le _) h⟩
end Go.Proofs.Ytjpbndpfbdfhjaa.Reg
