/-
  Layer 12 (runbook): what tokens are a runbook (P12.1), told by their rest; a runbook behind another one (P12.2).
-/
import Derived.Test.YtadfoilbcipdjaaLexAlone
namespace Go.Proofs.Ytadfoilbcipdjaa.Book
open Go.Proofs.Ytadfoilbcipdjaa.Lex (Tok Tk B cut shift cut_behind)
set_option linter.unusedVariables false
set_option linter.unusedSimpArgs false

abbrev T := List Tok
/-- Does this word, a token of this kind stand here? -/
def wd (w : List B) : T → Bool
  | [] => false
  | x :: _ => decide (x.t.kind = 1) && decide (x.t.text = w)
def kd (k : Int) : T → Bool
  | [] => false
  | x :: _ => decide (x.t.kind = k)
/-- A token that must stand here; else it can't go on from here. -/
def want {α : Type} (c : T → Bool) (f : Tok → T → Except T α) (l : T) : Except T α := match l with
  | [] => .error []
  | x :: m => if c (x :: m) then f x m else .error (x :: m)
/-- One that may. -/
def may {α : Type} (c : T → Bool) (f : Tok → T → Except T α) (g : T → Except T α) (l : T) : Except T α := match l with
  | [] => g []
  | x :: m => if c (x :: m) then f x m else g (x :: m)
structure Arm where
  at_ : Nat
  pat : List B
  as_ : List B
  go : List B
structure Step where
  at_ : Nat
  name : List B
  tag : Int
  sends : Bool
  send : List B
  arms : List Arm
  time : Int
  try_ : Int
  els : List B
structure Book where
  most : Int
  steps : List Step
def wOn : List B := [111#8, 110#8]
def wAs : List B := [97#8, 115#8]
def wGo : List B := [103#8, 111#8]
def wMost : List B := [109#8, 111#8, 115#8, 116#8]
def wStep : List B := [115#8, 116#8, 101#8, 112#8]
def wOnce : List B := [111#8, 110#8, 99#8, 101#8]
def wIdem : List B := [105#8, 100#8, 101#8, 109#8]
def wSend : List B := [115#8, 101#8, 110#8, 100#8]
def wWithin : List B := [119#8, 105#8, 116#8, 104#8, 105#8, 110#8]
def wTries : List B := [116#8, 114#8, 105#8, 101#8, 115#8]
def wElse : List B := [101#8, 108#8, 115#8, 101#8]
def wEnd : List B := [101#8, 110#8, 100#8]
/-- An arm, behind its "on". -/
def armGo (a : Nat) (p v : List B) : T → Except T (Arm × T) := want (wd wGo) fun _ => want (kd 1) fun g m => .ok (⟨a, p, v, g.t.text⟩, m)
def armR (a : Nat) : T → Except T (Arm × T) := want (kd 3) fun p => may (wd wAs) (fun _ => want (kd 1) fun v => armGo a p.t.text v.t.text) (armGo a p.t.text [])
/-- A step, from "else" on. -/
def elseR (x : Step) : T → Except T (Step × T) := want (wd wElse) fun _ => want (kd 1) fun w => want (wd wEnd) fun _ m => .ok ({ x with els := w.t.text }, m)
def tailR (x : Step) : T → Except T (Step × T) := want (wd wWithin) fun _ => want (kd 2) fun n => may (wd wTries) (fun _ => want (kd 2) fun k => elseR { x with time := n.t.n, try_ := k.t.n }) (elseR { x with time := n.t.n })
/-- The arms, and what follows (fuel f). -/
def armsR : Nat → Step → T → Except T (Step × T)
  | 0, x => tailR x
  | f + 1, x => may (wd wOn) (fun o m => match armR o.at_ m with
    | .error e => .error e
    | .ok (a, m2) => armsR f { x with arms := x.arms ++ [a] } m2) (tailR x)
def sendR (f : Nat) (x : Step) : T → Except T (Step × T) := may (wd wSend) (fun _ => want (kd 3) fun t => armsR f { x with sends := true, send := t.t.text }) (armsR f x)
/-- A step, behind its "step". -/
def stepR (f a : Nat) : T → Except T (Step × T) := want (kd 1) fun n => may (wd wOnce) (fun _ => sendR f ⟨a, n.t.text, 1, false, [], [], 0, 0, []⟩) (may (wd wIdem) (fun _ => sendR f ⟨a, n.t.text, 2, false, [], [], 0, 0, []⟩) (sendR f ⟨a, n.t.text, 0, false, [], [], 0, 0, []⟩))

/-- What goes on alike when more comes behind. -/
def Ext {α : Type} (F : T → Except T (α × T)) : Prop := ∀ l a m r, F l = .ok (a, m) → F (l ++ r) = .ok (a, m ++ r)
def Strict {α : Type} (F : T → Except T α) : Prop := ∀ a, F [] ≠ .ok a
def Good {α : Type} (F : T → Except T (α × T)) : Prop := Ext F ∧ Strict F
theorem wd_app (w : List B) (x : Tok) (m r : T) : wd w (x :: m ++ r) = wd w (x :: m) := rfl
theorem kd_app (k : Int) (x : Tok) (m r : T) : kd k (x :: m ++ r) = kd k (x :: m) := rfl
/-- A test of the first token alone. -/
def Head (c : T → Bool) : Prop := ∀ x m m', c (x :: m) = c (x :: m')
theorem head_wd (w : List B) : Head (wd w) := fun _ _ _ => rfl
theorem head_kd (k : Int) : Head (kd k) := fun _ _ _ => rfl
theorem good_want {α : Type} {c : T → Bool} (hc : Head c) {f : Tok → T → Except T (α × T)} (h : ∀ x, Ext (f x)) : Good (want c f) := by
  refine ⟨fun l a m r hl => ?_, fun a h => by cases h⟩
  cases l with
  | nil => cases hl
  | cons x l =>
    unfold want at hl ⊢
    rw [List.cons_append]
    dsimp only at hl ⊢
    rw [hc x (l ++ r) l]
    split at hl
    · rename_i hx
      rw [if_pos hx]
      exact h x l a m r hl
    · cases hl
theorem good_may {α : Type} {c : T → Bool} (hc : Head c) {f : Tok → T → Except T (α × T)} {g : T → Except T (α × T)} (hf : ∀ x, Ext (f x)) (hg : Good g) : Good (may c f g) := by
  refine ⟨fun l a m r hl => ?_, fun a h => hg.2 a h⟩
  cases l with
  | nil => exact absurd hl (hg.2 _)
  | cons x l =>
    unfold may at hl ⊢
    rw [List.cons_append]
    dsimp only at hl ⊢
    rw [hc x (l ++ r) l]
    split at hl
    · rename_i hx
      rw [if_pos hx]
      exact hf x l a m r hl
    · rename_i hx
      rw [if_neg hx]
      exact hg.1 (x :: l) a m r hl
theorem ext_ok {α : Type} (a : α) : Ext (fun m => (.ok (a, m) : Except T (α × T))) := fun l b m r h => by injection h with h; injection h with h1 h2; subst h1; subst h2; rfl
theorem good_armGo (a : Nat) (p v : List B) : Good (armGo a p v) := good_want (head_wd _) fun _ => (good_want (head_kd _) fun g => ext_ok _).1
theorem good_arm (a : Nat) : Good (armR a) := good_want (head_kd _) fun p => (good_may (head_wd _) (fun _ => (good_want (head_kd _) fun v => (good_armGo _ _ _).1).1) (good_armGo _ _ _)).1
theorem good_else (x : Step) : Good (elseR x) := good_want (head_wd _) fun _ => (good_want (head_kd _) fun w => (good_want (head_wd _) fun _ => ext_ok _).1).1
theorem good_tail (x : Step) : Good (tailR x) := good_want (head_wd _) fun _ => (good_want (head_kd _) fun n => (good_may (head_wd _) (fun _ => (good_want (head_kd _) fun k => (good_else _).1).1) (good_else _)).1).1
theorem good_arms : ∀ (f : Nat) (x : Step), Good (armsR f x)
  | 0, x => good_tail x
  | f + 1, x => good_may (head_wd _) (fun o l a m r hl => by
      cases e : armR o.at_ l with
      | error z => rw [e] at hl; cases hl
      | ok q =>
        obtain ⟨a1, m2⟩ := q
        rw [e] at hl
        rw [(good_arm o.at_).1 l a1 m2 r e]
        exact (good_arms f _).1 m2 a m r hl) (good_tail x)
theorem good_send (f : Nat) (x : Step) : Good (sendR f x) := good_may (head_wd _) (fun _ => (good_want (head_kd _) fun t => (good_arms f _).1).1) (good_arms f x)
theorem good_step (f a : Nat) : Good (stepR f a) := good_want (head_kd _) fun n => (good_may (head_wd _) (fun _ => (good_send f _).1) (good_may (head_wd _) (fun _ => (good_send f _).1) (good_send f _))).1
/-- Steps to the end (fuel f). -/
def stepsR : Nat → T → Except T (List Step)
  | 0, _ => .ok []
  | _ + 1, [] => .ok []
  | f + 1, x :: m => if wd wStep (x :: m) then match stepR 2001 x.at_ m with
    | .error e => .error e
    | .ok (s, m2) => match stepsR f m2 with
      | .error e => .error e
      | .ok ss => .ok (s :: ss)
    else .error (x :: m)
def sadd (o : List Step) : Except T (List Step) → Except T (List Step)
  | .error e => .error e
  | .ok ts => .ok (o ++ ts)
theorem stepsR_nil (f : Nat) : stepsR f [] = .ok [] := by cases f <;> rfl
theorem stepsR_no {f : Nat} {x : Tok} {m : T} (h : wd wStep (x :: m) = false) : stepsR (f + 1) (x :: m) = .error (x :: m) := by unfold stepsR; rw [if_neg (by simp [h])]
theorem stepsR_bad {f : Nat} {x : Tok} {m e : T} (h : wd wStep (x :: m) = true) (hs : stepR 2001 x.at_ m = .error e) : stepsR (f + 1) (x :: m) = .error e := by unfold stepsR; rw [if_pos h, hs]
theorem stepsR_go {f : Nat} {x : Tok} {m m2 : T} {s : Step} (h : wd wStep (x :: m) = true) (hs : stepR 2001 x.at_ m = .ok (s, m2)) : stepsR (f + 1) (x :: m) = sadd [s] (stepsR f m2) := by
  conv => lhs; unfold stepsR
  rw [if_pos h, hs]
  dsimp only
  cases stepsR f m2 <;> rfl
/-- What is left is no more. -/
def Les {α : Type} (F : T → Except T (α × T)) : Prop := ∀ l a m, F l = .ok (a, m) → m.length ≤ l.length
theorem les_want {α : Type} {c : T → Bool} {f : Tok → T → Except T (α × T)} (h : ∀ x, Les (f x)) : Les (want c f) := fun l a m hl => by
  cases l with
  | nil => cases hl
  | cons x l =>
    unfold want at hl
    dsimp only at hl
    split at hl
    · have := h x l a m hl; simp; omega
    · cases hl
theorem les_may {α : Type} {c : T → Bool} {f : Tok → T → Except T (α × T)} {g : T → Except T (α × T)} (hf : ∀ x, Les (f x)) (hg : Les g) : Les (may c f g) := fun l a m hl => by
  cases l with
  | nil => exact hg [] a m hl
  | cons x l =>
    unfold may at hl
    dsimp only at hl
    split at hl
    · have := hf x l a m hl; simp; omega
    · exact hg (x :: l) a m hl
theorem les_ok {α : Type} (a : α) : Les (fun m => (.ok (a, m) : Except T (α × T))) := fun l b m h => by injection h with h; injection h with h1 h2; subst h2; exact Nat.le_refl _
theorem les_armGo (a : Nat) (p v : List B) : Les (armGo a p v) := les_want fun _ => les_want fun g => les_ok _
theorem les_arm (a : Nat) : Les (armR a) := les_want fun p => les_may (fun _ => les_want fun v => les_armGo _ _ _) (les_armGo _ _ _)
theorem les_else (x : Step) : Les (elseR x) := les_want fun _ => les_want fun w => les_want fun _ => les_ok _
theorem les_tail (x : Step) : Les (tailR x) := les_want fun _ => les_want fun n => les_may (fun _ => les_want fun k => les_else _) (les_else _)
theorem les_arms : ∀ (f : Nat) (x : Step), Les (armsR f x)
  | 0, x => les_tail x
  | f + 1, x => les_may (fun o l a m hl => by
      cases e : armR o.at_ l with
      | error z => rw [e] at hl; cases hl
      | ok q =>
        obtain ⟨a1, m2⟩ := q
        rw [e] at hl
        have h1 := les_arm o.at_ l a1 m2 e
        have h2 := les_arms f _ m2 a m hl
        omega) (les_tail x)
theorem les_send (f : Nat) (x : Step) : Les (sendR f x) := les_may (fun _ => les_want fun t => les_arms f _) (les_arms f x)
theorem les_step (f a : Nat) : Les (stepR f a) := les_want fun n => les_may (fun _ => les_send f _) (les_may (fun _ => les_send f _) (les_send f _))
theorem stepsR_fuel : ∀ (f g : Nat) (l : T), l.length < f → l.length < g → stepsR f l = stepsR g l
  | 0, _, _, h, _ => absurd h (Nat.not_lt_zero _)
  | _, 0, _, _, h => absurd h (Nat.not_lt_zero _)
  | f + 1, g + 1, [], _, _ => rfl
  | f + 1, g + 1, x :: m, h1, h2 => by
    simp only [List.length_cons] at h1 h2
    cases hw : wd wStep (x :: m)
    · rw [stepsR_no hw, stepsR_no hw]
    · cases hs : stepR 2001 x.at_ m with
      | error e => rw [stepsR_bad hw hs, stepsR_bad hw hs]
      | ok q =>
        obtain ⟨s, m2⟩ := q
        have := les_step _ _ _ _ _ hs
        rw [stepsR_go hw hs, stepsR_go hw hs, stepsR_fuel f g m2 (by omega) (by omega)]
theorem sadd_sadd (o o' : List Step) (r : Except T (List Step)) : sadd o (sadd o' r) = sadd (o ++ o') r := by cases r <;> simp [sadd]
theorem sadd_nil (r : Except T (List Step)) : sadd [] r = r := by cases r <;> rfl
/-- Steps behind steps. -/
theorem steps_app : ∀ (f : Nat) (l r : T) (as : List Step), l.length < f → stepsR f l = .ok as → stepsR ((l ++ r).length + 1) (l ++ r) = sadd as (stepsR (r.length + 1) r)
  | 0, _, _, _, h, _ => absurd h (Nat.not_lt_zero _)
  | f + 1, [], r, as, _, h => by rw [stepsR_nil] at h; injection h with h; subst h; rw [sadd_nil]; rfl
  | f + 1, x :: m, r, as, h1, h => by
    simp only [List.length_cons] at h1
    cases hw : wd wStep (x :: m)
    · rw [stepsR_no hw] at h; cases h
    · cases hs : stepR 2001 x.at_ m with
      | error e => rw [stepsR_bad hw hs] at h; cases h
      | ok q =>
        obtain ⟨s, m2⟩ := q
        have hle := les_step _ _ _ _ _ hs
        rw [stepsR_go hw hs] at h
        cases h2 : stepsR f m2 with
        | error e => rw [h2] at h; cases h
        | ok ss =>
          rw [h2] at h
          simp only [sadd, List.singleton_append] at h
          injection h with h
          subst h
          rw [List.cons_append, List.length_cons, stepsR_go (m := m ++ r) (m2 := m2 ++ r) (s := s) hw ((good_step _ _).1 m s m2 r hs)]
          rw [stepsR_fuel (m ++ r).length.succ ((m2 ++ r).length + 1) (m2 ++ r) (by simp; omega) (by omega)]
          rw [steps_app f m2 r ss (by omega) h2, sadd_sadd]
          rfl
/-- The book of tokens; or the tokens from which on it can't go on. -/
def bookR (l : T) : Except T Book := match l with
  | [] => .ok ⟨100, []⟩
  | x :: m => if wd wMost (x :: m) then match m with
      | [] => .error []
      | n :: m2 => if kd 2 (n :: m2) then match stepsR (m2.length + 1) m2 with
          | .error e => .error e
          | .ok ss => .ok ⟨n.t.n, ss⟩
        else .error (n :: m2)
    else match stepsR ((x :: m).length + 1) (x :: m) with
      | .error e => .error e
      | .ok ss => .ok ⟨100, ss⟩
def bookOf (s : List B) : Except (Nat × Nat) Book := match cut s with
  | .error e => .error e
  | .ok l => match bookR l with
    | .error [] => .error (s.length, 2)
    | .error (x :: _) => .error (x.at_, 2)
    | .ok b => .ok b
/-- Tokens that do not begin with "most", behind a book. -/
theorem book_app {l r : T} {a b : Book} (ha : bookR l = .ok a) (hb : bookR r = .ok b) (hm : wd wMost r = false) (hl : l ≠ []) : bookR (l ++ r) = .ok ⟨a.most, a.steps ++ b.steps⟩ := by
  have hr : stepsR (r.length + 1) r = .ok b.steps := by
    cases r with
    | nil => unfold bookR at hb; injection hb with hb; subst hb; rfl
    | cons y r =>
      unfold bookR at hb
      dsimp only at hb
      rw [if_neg (by simp [hm])] at hb
      cases e : stepsR ((y :: r).length + 1) (y :: r) with
      | error z => rw [e] at hb; cases hb
      | ok ss => rw [e] at hb; injection hb with hb; subst hb; rfl
  cases l with
  | nil => exact absurd rfl hl
  | cons x m =>
    unfold bookR at ha ⊢
    rw [List.cons_append]
    dsimp only at ha ⊢
    rw [← List.cons_append, wd_app]
    cases hw : wd wMost (x :: m)
    · rw [hw] at ha
      simp only [Bool.false_eq_true, if_false] at ha ⊢
      cases e : stepsR ((x :: m).length + 1) (x :: m) with
      | error z => rw [e] at ha; cases ha
      | ok ss =>
        rw [e] at ha
        injection ha with ha
        subst ha
        rw [steps_app _ (x :: m) r ss (Nat.lt_succ_self _) e, hr]
        rfl
    · rw [hw] at ha
      simp only [if_true] at ha ⊢
      cases m with
      | nil => cases ha
      | cons n m2 =>
        rw [List.cons_append]
        dsimp only at ha ⊢
        rw [← List.cons_append, kd_app]
        split at ha
        · rename_i hk
          rw [if_pos hk]
          cases e : stepsR (m2.length + 1) m2 with
          | error z => rw [e] at ha; cases ha
          | ok ss =>
            rw [e] at ha
            injection ha with ha
            subst ha
            rw [steps_app _ m2 r ss (Nat.lt_succ_self _) e, hr]
            rfl
        · cases ha
end Go.Proofs.Ytadfoilbcipdjaa.Book
