/-
Layer 12 (runbook): the parser's parts, one behind another, as functions of what it has; and that they read what the model reads.
-/
import Derived.Test.YteohlpmojfjjdaaGreatC0
set_option linter.unusedVariables false
set_option linter.unusedSimpArgs false
namespace Go.Proofs.YteohlpmojfjjdaaGreat.Book
open Lex (Tok Tk B cut)
structure Ps where
 l : T
 at_ : Nat
 most : Int
 steps : List Step
 step : Step
 arm : Arm
abbrev Pf := Ps → Except T Ps
def step0 (a : Nat) : Step := ⟨a, [], 0, false, [], [], 0, 0, []⟩
def arm0 (a : Nat) : Arm := ⟨a, [], [], []⟩
def ps0 (l : T) : Ps := ⟨l, 0, 100, [], step0 0, arm0 0⟩
def took (s : Ps) (x : Tok) (m : T) : Ps := { s with l := m, at_ := x.at_ }
def takeS (s : Ps) : Ps := match s.l with
 | [] => s
 | x :: m => took s x m
def fWant (c : T → Bool) (f : Tok → Ps → Ps) : Pf := fun s => match s.l with
 | [] => .error []
 | x :: m => if c (x :: m) then .ok (f x (took s x m)) else .error (x :: m)
def fMay (w : List B) (f : Pf) : Pf := fun s => if wd w s.l then f (takeS s) else .ok s
def fAfter (w : List B) (f : Pf) : Pf := fun s => if wd w s.l then f (takeS s) else .error s.l
def fThen (f g : Pf) : Pf := fun s => match f s with
 | .error e => .error e
 | .ok s' => g s'
def fAll : List Pf → Pf
 | [] => .ok
 | f :: fs => fThen f (fAll fs)
def fMany (w : List B) (f : Pf) : Nat → Pf
 | 0 => .ok
 | n + 1 => fun s => if wd w s.l then fThen f (fMany w f n) (takeS s) else .ok s
def uMost (x : Tok) (s : Ps) : Ps := { s with most := x.t.n }
def uName (x : Tok) (s : Ps) : Ps := { s with step := { s.step with name := x.t.text } }
def uSend (x : Tok) (s : Ps) : Ps := { s with step := { s.step with send := x.t.text } }
def uPat (x : Tok) (s : Ps) : Ps := { s with arm := { s.arm with pat := x.t.text } }
def uAs (x : Tok) (s : Ps) : Ps := { s with arm := { s.arm with as_ := x.t.text } }
def uGo (x : Tok) (s : Ps) : Ps := { s with arm := { s.arm with go := x.t.text } }
def uTime (x : Tok) (s : Ps) : Ps := { s with step := { s.step with time := x.t.n } }
def uTry (x : Tok) (s : Ps) : Ps := { s with step := { s.step with try_ := x.t.n } }
def uElse (x : Tok) (s : Ps) : Ps := { s with step := { s.step with els := x.t.text } }
def uTag (z : Int) (s : Ps) : Ps := { s with step := { s.step with tag := z } }
def uSends (s : Ps) : Ps := { s with step := { s.step with sends := true } }
def uArm (s : Ps) : Ps := { s with step := { s.step with arms := s.step.arms ++ [s.arm] } }
def uStep (s : Ps) : Ps := { s with steps := s.steps ++ [s.step] }
def uBegin (s : Ps) : Ps := { s with step := step0 s.at_ }
def uBeginA (s : Ps) : Ps := { s with arm := arm0 s.at_ }
def fMost : Pf := fWant (kd 2) uMost
def fLimit : Pf := fMay wMost fMost
def fBegin : Pf := fun s => .ok (uBegin s)
def fName : Pf := fWant (kd 1) uName
def fTag : Pf := fun s => if wd wOnce s.l then .ok (uTag 1 (takeS s)) else if wd wIdem s.l then .ok (uTag 2 (takeS s)) else .ok s
def fLine : Pf := fun s => fWant (kd 3) uSend (uSends s)
def fSend : Pf := fMay wSend fLine
def fBeginA : Pf := fun s => .ok (uBeginA s)
def fPat : Pf := fWant (kd 3) uPat
def fVar : Pf := fWant (kd 1) uAs
def fAs : Pf := fMay wAs fVar
def fGo : Pf := fAfter wGo (fWant (kd 1) uGo)
def fEndA : Pf := fun s => .ok (uArm s)
def fArm : Pf := fAll [fBeginA, fPat, fAs, fGo, fEndA]
def fArms : Pf := fun s => fMany wOn fArm (s.l.length + 1) s
def fTime : Pf := fAfter wWithin (fWant (kd 2) uTime)
def fTry : Pf := fWant (kd 2) uTry
def fTries : Pf := fMay wTries fTry
def fElse : Pf := fAfter wElse (fWant (kd 1) uElse)
def fEnd : Pf := fAfter wEnd fun s => .ok (uStep s)
def fStep : Pf := fAll [fBegin, fName, fTag, fSend, fArms, fTime, fTries, fElse, fEnd]
def fSteps : Pf := fun s => fMany wStep fStep (s.l.length + 1) s
def fBook : Pf := fAll [fLimit, fSteps]
theorem wd_cons {w : List B} {l : T} (h : wd w l = true) : ∃ x m, l = x :: m := by
 cases l with
 | nil => cases h
 | cons x m => exact ⟨x, m, rfl⟩
theorem takeS_cons {s : Ps} {x : Tok} {m : T} (h : s.l = x :: m) : takeS s = took s x m := by unfold takeS; rw [h]
theorem fWant_hit {c : T → Bool} {f : Tok → Ps → Ps} {s : Ps} {x : Tok} {m : T} (h : s.l = x :: m) (hc : c (x :: m) = true) : fWant c f s = .ok (f x (took s x m)) := by unfold fWant; rw [h]; dsimp only; rw [if_pos hc]
theorem fWant_miss {c : T → Bool} {f : Tok → Ps → Ps} {s : Ps} (h : c s.l = false) (h0 : c [] = false) : fWant c f s = .error s.l := by
 unfold fWant
 cases e : s.l with
 | nil => rfl
 | cons x m => dsimp only; rw [e] at h; rw [if_neg (by simp [h])]
theorem fThen_ok {f g : Pf} {s s' : Ps} (h : f s = .ok s') : fThen f g s = g s' := by unfold fThen; rw [h]
theorem fThen_bad {f g : Pf} {s : Ps} {e : T} (h : f s = .error e) : fThen f g s = .error e := by unfold fThen; rw [h]
theorem fMay_hit {w : List B} {f : Pf} {s : Ps} (h : wd w s.l = true) : fMay w f s = f (takeS s) := by unfold fMay; rw [if_pos h]
theorem fMay_miss {w : List B} {f : Pf} {s : Ps} (h : wd w s.l = false) : fMay w f s = .ok s := by unfold fMay; rw [if_neg (by simp [h])]
theorem fAfter_hit {w : List B} {f : Pf} {s : Ps} (h : wd w s.l = true) : fAfter w f s = f (takeS s) := by unfold fAfter; rw [if_pos h]
theorem fAfter_miss {w : List B} {f : Pf} {s : Ps} (h : wd w s.l = false) : fAfter w f s = .error s.l := by unfold fAfter; rw [if_neg (by simp [h])]
theorem fMany_go {w : List B} {f : Pf} {n : Nat} {s : Ps} (h : wd w s.l = true) : fMany w f (n + 1) s = fThen f (fMany w f n) (takeS s) := by
 conv => lhs; unfold fMany
 rw [if_pos h]
theorem fMany_end {w : List B} {f : Pf} {n : Nat} {s : Ps} (h : wd w s.l = false) : fMany w f n s = .ok s := by
 cases n with
 | zero => rfl
 | succ n => unfold fMany; rw [if_neg (by simp [h])]
def Cn (d : Nat) (f : Pf) : Prop := ∀ s s', f s = .ok s' → s'.l.length ≤ s.l.length ∧ s'.l.length + s'.step.arms.length ≤ s.l.length + s.step.arms.length + d ∧ s'.l.length + s'.steps.length ≤ s.l.length + s.steps.length
theorem takeS_cn {s : Ps} {x : Tok} {m : T} (h : s.l = x :: m) : (takeS s).l.length + 1 = s.l.length ∧ (takeS s).step = s.step ∧ (takeS s).steps = s.steps := by
 rw [takeS_cons h, h]
 exact ⟨rfl, rfl, rfl⟩
theorem cn_want {c : T → Bool} {f : Tok → Ps → Ps} (h : ∀ x s, (f x s).l = s.l ∧ (f x s).step.arms = s.step.arms ∧ (f x s).steps = s.steps) : Cn 0 (fWant c f) := fun s s' hs => by
 unfold fWant at hs
 cases e : s.l with
 | nil => rw [e] at hs; cases hs
 | cons x m =>
  rw [e] at hs
  dsimp only at hs
  split at hs
  ·injection hs with hs
   subst hs
   obtain ⟨h1, h2, h3⟩ := h x (took s x m)
   rw [h1, h2, h3]
   exact ⟨Nat.le_succ _, by show m.length + s.step.arms.length ≤ (x :: m).length + s.step.arms.length + 0; rw [List.length_cons]; omega, by show m.length + s.steps.length ≤ (x :: m).length + s.steps.length; simp only [List.length_cons, List.length_append, List.length_nil]; omega⟩
  ·cases hs
theorem cn_may {w : List B} {f : Pf} (h : Cn 0 f) : Cn 0 (fMay w f) := fun s s' hs => by
 cases hw : wd w s.l
 ·rw [fMay_miss hw] at hs
  injection hs with hs
  subst hs
  exact ⟨Nat.le_refl _, Nat.le_refl _, Nat.le_refl _⟩
 ·rw [fMay_hit hw] at hs
  obtain ⟨x, m, e⟩ := wd_cons hw
  obtain ⟨t1, t2, t3⟩ := takeS_cn e
  obtain ⟨h1, h2, h3⟩ := h _ _ hs
  rw [t2] at h2
  rw [t3] at h3
  exact ⟨by omega, by omega, by omega⟩
theorem cn_after {w : List B} {f : Pf} (h : Cn 0 f) : Cn 0 (fAfter w f) := fun s s' hs => by
 cases hw : wd w s.l
 ·rw [fAfter_miss hw] at hs; cases hs
 ·rw [fAfter_hit hw] at hs
  obtain ⟨x, m, e⟩ := wd_cons hw
  obtain ⟨t1, t2, t3⟩ := takeS_cn e
  obtain ⟨h1, h2, h3⟩ := h _ _ hs
  rw [t2] at h2
  rw [t3] at h3
  exact ⟨by omega, by omega, by omega⟩
theorem cn_then {a b : Nat} {f g : Pf} (h : Cn a f) (h2 : Cn b g) : Cn (a + b) (fThen f g) := fun s s' hs => by
 unfold fThen at hs
 cases e : f s with
 | error z => rw [e] at hs; cases hs
 | ok s1 =>
  rw [e] at hs
  obtain ⟨a1, a2, a3⟩ := h _ _ e
  obtain ⟨b1, b2, b3⟩ := h2 _ _ hs
  exact ⟨by omega, by omega, by omega⟩
theorem cn_ok : Cn 0 (.ok : Pf) := fun s s' hs => by injection hs with hs; subst hs; exact ⟨Nat.le_refl _, Nat.le_refl _, Nat.le_refl _⟩
theorem cn_many {w : List B} {f : Pf} (h : Cn 1 f) : ∀ n, Cn 0 (fMany w f n)
 | 0 => cn_ok
 | n + 1 => fun s s' hs => by
  cases hw : wd w s.l
  ·rw [fMany_end hw] at hs
   injection hs with hs
   subst hs
   exact ⟨Nat.le_refl _, Nat.le_refl _, Nat.le_refl _⟩
  ·rw [fMany_go hw] at hs
   obtain ⟨x, m, e⟩ := wd_cons hw
   obtain ⟨t1, t2, t3⟩ := takeS_cn e
   obtain ⟨h1, h2, h3⟩ := cn_then h (cn_many h n) _ _ hs
   rw [t2] at h2
   rw [t3] at h3
   exact ⟨by omega, by omega, by omega⟩
theorem cn_most : Cn 0 fMost := cn_want fun _ _ => ⟨rfl, rfl, rfl⟩
theorem cn_limit : Cn 0 fLimit := cn_may cn_most
theorem cn_begin : Cn 0 fBegin := fun s s' hs => by injection hs with hs; subst hs; exact ⟨Nat.le_refl _, by show s.l.length + 0 ≤ _; omega, Nat.le_refl _⟩
theorem cn_name : Cn 0 fName := cn_want fun _ _ => ⟨rfl, rfl, rfl⟩
theorem cn_tag : Cn 0 fTag := fun s s' hs => by
 unfold fTag at hs
 split at hs
 ·rename_i hw
  obtain ⟨x, m, e⟩ := wd_cons hw
  injection hs with hs
  subst hs
  rw [takeS_cons e, e]
  exact ⟨Nat.le_succ _, by show m.length + s.step.arms.length ≤ (x :: m).length + s.step.arms.length + 0; rw [List.length_cons]; omega, by show m.length + s.steps.length ≤ (x :: m).length + s.steps.length; simp only [List.length_cons, List.length_append, List.length_nil]; omega⟩
 ·split at hs
  ·rename_i hw
   obtain ⟨x, m, e⟩ := wd_cons hw
   injection hs with hs
   subst hs
   rw [takeS_cons e, e]
   exact ⟨Nat.le_succ _, by show m.length + s.step.arms.length ≤ (x :: m).length + s.step.arms.length + 0; rw [List.length_cons]; omega, by show m.length + s.steps.length ≤ (x :: m).length + s.steps.length; simp only [List.length_cons, List.length_append, List.length_nil]; omega⟩
  ·injection hs with hs
   subst hs
   exact ⟨Nat.le_refl _, Nat.le_refl _, Nat.le_refl _⟩
theorem cn_line : Cn 0 fLine := fun s s' hs => cn_want (f := uSend) (fun _ _ => ⟨rfl, rfl, rfl⟩) (uSends s) s' hs
theorem cn_send : Cn 0 fSend := cn_may cn_line
theorem cn_beginA : Cn 0 fBeginA := fun s s' hs => by injection hs with hs; subst hs; exact ⟨Nat.le_refl _, Nat.le_refl _, Nat.le_refl _⟩
theorem cn_pat : Cn 0 fPat := cn_want fun _ _ => ⟨rfl, rfl, rfl⟩
theorem cn_as : Cn 0 fAs := cn_may (cn_want fun _ _ => ⟨rfl, rfl, rfl⟩)
theorem cn_go : Cn 0 fGo := cn_after (cn_want fun _ _ => ⟨rfl, rfl, rfl⟩)
theorem cn_endA : Cn 1 fEndA := fun s s' hs => by injection hs with hs; subst hs; exact ⟨Nat.le_refl _, by show s.l.length + (s.step.arms ++ [s.arm]).length ≤ _; simp; omega, Nat.le_refl _⟩
theorem cn_arm : Cn 1 fArm := cn_then cn_beginA (cn_then cn_pat (cn_then cn_as (cn_then cn_go (cn_then cn_endA cn_ok))))
theorem cn_arms : Cn 0 fArms := fun s s' hs => cn_many cn_arm _ s s' hs
theorem cn_time : Cn 0 fTime := cn_after (cn_want fun _ _ => ⟨rfl, rfl, rfl⟩)
theorem cn_tries : Cn 0 fTries := cn_may (cn_want fun _ _ => ⟨rfl, rfl, rfl⟩)
theorem cn_else : Cn 0 fElse := cn_after (cn_want fun _ _ => ⟨rfl, rfl, rfl⟩)
theorem cn_end : Cn 0 fEnd := fun s s' hs => by
 unfold fEnd at hs
 cases hw : wd wEnd s.l
 ·rw [fAfter_miss hw] at hs; cases hs
 ·rw [fAfter_hit hw] at hs
  obtain ⟨x, m, e⟩ := wd_cons hw
  rw [takeS_cons e] at hs
  injection hs with hs
  subst hs
  rw [e]
  exact ⟨Nat.le_succ _, by show m.length + s.step.arms.length ≤ (x :: m).length + s.step.arms.length + 0; rw [List.length_cons]; omega, by show m.length + (s.steps ++ [s.step]).length ≤ (x :: m).length + s.steps.length; simp only [List.length_cons, List.length_append, List.length_nil]; omega⟩
theorem cn_step : Cn 0 fStep := cn_then cn_begin (cn_then cn_name (cn_then cn_tag (cn_then cn_send (cn_then cn_arms (cn_then cn_time (cn_then cn_tries (cn_then cn_else (cn_then cn_end cn_ok))))))))
theorem cn_steps : Cn 0 fSteps := fun s s' hs => cn_many (fun s s' h => by obtain ⟨a, b, c⟩ := cn_step s s' h; exact ⟨a, by omega, c⟩) _ s s' hs
def Jj (s : Ps) : Prop := s.l.length + s.step.arms.length + 1 ≤ 3000 ∧ s.l.length + s.steps.length ≤ 3000
def Ii (s : Ps) : Prop := s.l.length + s.step.arms.length ≤ 3000 ∧ s.l.length + s.steps.length ≤ 3000
theorem Jj.go {f : Pf} (h : Cn 0 f) {s s' : Ps} (hj : Jj s) (hs : f s = .ok s') : Jj s' := by
 obtain ⟨h1, h2, h3⟩ := h s s' hs
 exact ⟨by have := hj.1; omega, by have := hj.2; omega⟩
theorem Ii.take {s : Ps} (h : Ii s) {w : List B} (hw : wd w s.l = true) : Jj (takeS s) := by
 obtain ⟨x, m, e⟩ := wd_cons hw
 obtain ⟨t1, t2, t3⟩ := takeS_cn e
 refine ⟨?_, ?_⟩
 ·rw [t2]; have := h.1; omega
 ·rw [t3]; have := h.2; omega
theorem Jj.ii {s : Ps} (h : Jj s) : Ii s := ⟨by have := h.1; omega, h.2⟩
def Sim {α : Type} (R : α → Ps → Prop) (r : Except T Ps) (r' : Except T (α × T)) : Prop := match r' with
 | .error e => r = .error e
 | .ok (a, m) => ∃ s', r = .ok s' ∧ s'.l = m ∧ R a s'
section
variable {α : Type} {R : α → Ps → Prop} {s : Ps} {k : Pf}
theorem sim_want {c : T → Bool} {f : Tok → Ps → Ps} {g : Tok → T → Except T (α × T)} (h : ∀ x m, s.l = x :: m → Sim R (k (f x (took s x m))) (g x m)) : Sim R (fThen (fWant c f) k s) (want c g s.l) := by
 unfold fThen fWant want
 cases e : s.l with
 | nil => exact rfl
 | cons x m =>
  dsimp only
  cases hc : c (x :: m)
  ·rfl
  ·simp only [if_true]; exact h x m e
theorem sim_may {w : List B} {f : Pf} {g : Tok → T → Except T (α × T)} {q : T → Except T (α × T)} (h : ∀ x m, s.l = x :: m → Sim R (fThen f k (took s x m)) (g x m)) (h2 : Sim R (k s) (q s.l)) : Sim R (fThen (fMay w f) k s) (may (wd w) g q s.l) := by
 unfold may
 cases e : s.l with
 | nil => rw [e] at h2; unfold fThen; rw [fMay_miss (by rw [e]; rfl)]; exact h2
 | cons x m =>
  dsimp only
  cases hc : wd w (x :: m)
  ·rw [e] at h2; unfold fThen; rw [fMay_miss (by rw [e]; exact hc)]; simpa using h2
  ·simp only [if_true]
   have := h x m e
   unfold fThen at this ⊢
   rw [fMay_hit (by rw [e]; exact hc), takeS_cons e]
   exact this
theorem sim_after {w : List B} {f : Pf} {g : Tok → T → Except T (α × T)} (h : ∀ x m, s.l = x :: m → Sim R (fThen f k (took s x m)) (g x m)) : Sim R (fThen (fAfter w f) k s) (want (wd w) g s.l) := by
 unfold want
 cases e : s.l with
 | nil => unfold fThen; rw [fAfter_miss (by rw [e]; rfl), e]; exact rfl
 | cons x m =>
  dsimp only
  cases hc : wd w (x :: m)
  ·unfold fThen; rw [fAfter_miss (by rw [e]; exact hc), e]; exact rfl
  ·simp only [if_true]
   have := h x m e
   unfold fThen at this ⊢
   rw [fAfter_hit (by rw [e]; exact hc), takeS_cons e]
   exact this
end
theorem sim_armGo (s : Ps) : Sim (fun a s' => s'.most = s.most ∧ s'.steps = s.steps ∧ s'.step = { s.step with arms := s.step.arms ++ [a] }) (fAll [fGo, fEndA] s) (armGo s.arm.at_ s.arm.pat s.arm.as_ s.l) := by
 unfold armGo
 refine sim_after fun x m hx => ?_
 exact sim_want (s := took s x m) fun y m2 hy => ⟨_, rfl, rfl, rfl, rfl, rfl⟩
theorem sim_arm (s : Ps) : Sim (fun a s' => s'.most = s.most ∧ s'.steps = s.steps ∧ s'.step = { s.step with arms := s.step.arms ++ [a] }) (fArm s) (armR s.at_ s.l) := by
 unfold armR
 show Sim _ (fThen fPat (fAll [fAs, fGo, fEndA]) (uBeginA s)) (want (kd 3) _ (uBeginA s).l)
 refine sim_want fun x m hx => ?_
 obtain ⟨s1, h1⟩ : ∃ s1, s1 = uPat x (took (uBeginA s) x m) := ⟨_, rfl⟩
 have hl : m = s1.l := by rw [h1]; rfl
 have ha : s1.arm = ⟨s.at_, x.t.text, [], []⟩ := by rw [h1]; rfl
 have hm : s1.most = s.most ∧ s1.steps = s.steps ∧ s1.step = s.step := by rw [h1]; exact ⟨rfl, rfl, rfl⟩
 rw [← h1]
 clear h1
 obtain ⟨m1, m2, m3⟩ := hm
 rw [hl]
 refine sim_may (fun y mb hy => sim_want (s := took s1 y mb) fun z mc hz => ?_) ?_
 ·have := sim_armGo (uAs z (took (took s1 y mb) z mc))
  rw [show (uAs z (took (took s1 y mb) z mc)).arm = { s1.arm with as_ := z.t.text } from rfl, ha] at this
  rw [show (uAs z (took (took s1 y mb) z mc)).most = s.most from m1, show (uAs z (took (took s1 y mb) z mc)).steps = s.steps from m2, show (uAs z (took (took s1 y mb) z mc)).step = s.step from m3] at this
  exact this
 ·have := sim_armGo s1
  rw [ha, m1, m2, m3] at this
  exact this
def RS (s : Ps) (x : Step) (s' : Ps) : Prop := s'.most = s.most ∧ s'.steps = s.steps ++ [x]
theorem sim_else (s : Ps) : Sim (RS s) (fAll [fElse, fEnd] s) (elseR s.step s.l) := by
 unfold elseR
 refine sim_after fun x m hx => ?_
 refine sim_want (s := took s x m) fun y m2 hy => ?_
 obtain ⟨s1, h1⟩ : ∃ s1, s1 = uElse y (took (took s x m) y m2) := ⟨_, rfl⟩
 have hl : m2 = s1.l := by rw [h1]; rfl
 have hm : s1.most = s.most ∧ s1.steps = s.steps ∧ s1.step = { s.step with els := y.t.text } := by rw [h1]; exact ⟨rfl, rfl, rfl⟩
 rw [← h1]
 clear h1
 obtain ⟨m1, m2', m3⟩ := hm
 rw [hl, ← m3]
 exact sim_after fun z m3' hz => ⟨_, rfl, rfl, m1, by rw [← m2']; rfl⟩
theorem RS.of {s1 s : Ps} (h1 : s1.most = s.most) (h2 : s1.steps = s.steps) : RS s1 = RS s := by funext x s'; unfold RS; rw [h1, h2]
theorem sim_tail (s : Ps) : Sim (RS s) (fAll [fTime, fTries, fElse, fEnd] s) (tailR s.step s.l) := by
 unfold tailR
 refine sim_after fun x m hx => sim_want (s := took s x m) fun y m2 hy => ?_
 obtain ⟨s1, h1⟩ : ∃ s1, s1 = uTime y (took (took s x m) y m2) := ⟨_, rfl⟩
 have hl : m2 = s1.l := by rw [h1]; rfl
 have hm : s1.most = s.most ∧ s1.steps = s.steps ∧ s1.step = { s.step with time := y.t.n } := by rw [h1]; exact ⟨rfl, rfl, rfl⟩
 rw [← h1]
 clear h1
 obtain ⟨m1, m2', m3⟩ := hm
 rw [hl, ← RS.of m1 m2']
 refine sim_may (fun u m3' hu => sim_want (s := took s1 u m3') fun z m4 hz => ?_) ?_
 ·have := sim_else (uTry z (took (took s1 u m3') z m4))
  rw [show (uTry z (took (took s1 u m3') z m4)).step = { s1.step with try_ := z.t.n } from rfl, m3] at this
  exact this
 ·have := sim_else s1
  rw [m3] at this
  exact this
theorem fThen_assoc (f g h : Pf) (s : Ps) : fThen (fThen f g) h s = fThen f (fThen g h) s := by
 unfold fThen
 cases f s <;> rfl
theorem sim_arms : ∀ (f n : Nat) (s : Ps), s.l.length < f → s.l.length < n → Sim (RS s) (fThen (fMany wOn fArm n) (fAll [fTime, fTries, fElse, fEnd]) s) (armsR f s.step s.l)
 | 0, _, _, h, _ => absurd h (Nat.not_lt_zero _)
 | _, 0, _, _, h => absurd h (Nat.not_lt_zero _)
 | f + 1, n + 1, s, hf, hn => by
  unfold armsR may
  cases e : s.l with
  | nil =>
   dsimp only
   rw [fThen_ok (fMany_end (by rw [e]; rfl)), ← e]
   exact sim_tail s
  | cons x m =>
   dsimp only
   cases hc : wd wOn (x :: m)
   ·simp only [Bool.false_eq_true, if_false]
    rw [fThen_ok (fMany_end (by rw [e]; exact hc)), ← e]
    exact sim_tail s
   ·simp only [if_true]
    have h1 : fThen (fMany wOn fArm (n + 1)) (fAll [fTime, fTries, fElse, fEnd]) s = fThen fArm (fThen (fMany wOn fArm n) (fAll [fTime, fTries, fElse, fEnd])) (took s x m) := by
     rw [← fThen_assoc]
     conv => lhs; unfold fThen
     rw [fMany_go (by rw [e]; exact hc), takeS_cons e]
     rfl
    rw [h1]
    have h2 := sim_arm (took s x m)
    rw [show (took s x m).at_ = x.at_ from rfl, show (took s x m).l = m from rfl] at h2
    cases ha : armR x.at_ m with
    | error z =>
     rw [ha] at h2
     exact fThen_bad h2
    | ok q =>
     obtain ⟨a, m2⟩ := q
     rw [ha] at h2
     obtain ⟨s1, e1, el, b1, b2, b3⟩ := h2
     rw [fThen_ok e1]
     have hle := les_arm _ _ _ _ ha
     rw [e] at hf hn
     simp only [List.length_cons] at hf hn
     have h3 := sim_arms f n s1 (by rw [el]; omega) (by rw [el]; omega)
     rw [b3, el] at h3
     have h4 : RS s1 = RS s := RS.of b1 b2
     rw [h4] at h3
     exact h3
theorem sim_arms' (s : Ps) (h : s.l.length < 2001) : Sim (RS s) (fAll [fArms, fTime, fTries, fElse, fEnd] s) (armsR 2001 s.step s.l) := sim_arms 2001 (s.l.length + 1) s h (Nat.lt_succ_self _)
theorem sim_send (s : Ps) (h : s.l.length < 2001) (hsn : s.step.sends = false) : Sim (RS s) (fAll [fSend, fArms, fTime, fTries, fElse, fEnd] s) (sendR 2001 s.step s.l) := by
 unfold sendR
 refine sim_may (fun x m hx => ?_) (sim_arms' s h)
 have h1 : fThen fLine (fAll [fArms, fTime, fTries, fElse, fEnd]) (took s x m) = fThen (fWant (kd 3) uSend) (fAll [fArms, fTime, fTries, fElse, fEnd]) (uSends (took s x m)) := rfl
 rw [h1]
 refine sim_want (s := uSends (took s x m)) fun y m2 hy => ?_
 have := sim_arms' (uSend y (took (uSends (took s x m)) y m2)) (by
  have e1 : (uSends (took s x m)).l = m := rfl
  have : m = y :: m2 := hy
  rw [hx, this] at h
  show m2.length < 2001
  simp at h; omega)
 exact this
theorem sim_step (s : Ps) (h : s.l.length < 2001) : Sim (RS s) (fStep s) (stepR 2001 s.at_ s.l) := by
 unfold stepR
 show Sim _ (fThen fName (fAll [fTag, fSend, fArms, fTime, fTries, fElse, fEnd]) (uBegin s)) (want (kd 1) _ (uBegin s).l)
 refine sim_want fun x m hx => ?_
 obtain ⟨s1, h1⟩ : ∃ s1, s1 = uName x (took (uBegin s) x m) := ⟨_, rfl⟩
 have hl : m = s1.l := by rw [h1]; rfl
 have ha : s1.step = ⟨s.at_, x.t.text, 0, false, [], [], 0, 0, []⟩ := by rw [h1]; rfl
 have hlen : s1.l.length < 2001 := by rw [← hl]; have e : s.l = x :: m := hx; rw [e] at h; simp at h; omega
 have hm : s1.most = s.most ∧ s1.steps = s.steps := by rw [h1]; exact ⟨rfl, rfl⟩
 rw [← h1]
 clear h1
 rw [hl, ← RS.of hm.1 hm.2]
 show Sim _ (fThen fTag (fAll [fSend, fArms, fTime, fTries, fElse, fEnd]) s1) _
 unfold may
 cases e : s1.l with
 | nil =>
  dsimp only
  rw [fThen_ok (show fTag s1 = .ok s1 by unfold fTag; rw [e]; rfl)]
  have := sim_send s1 hlen (by rw [ha])
  rw [ha, e] at this
  exact this
 | cons y m2 =>
  dsimp only
  cases h1 : wd wOnce (y :: m2)
  ·simp only [Bool.false_eq_true, if_false]
   cases h2 : wd wIdem (y :: m2)
   ·simp only [Bool.false_eq_true, if_false]
    rw [fThen_ok (show fTag s1 = .ok s1 by unfold fTag; rw [e, h1, h2]; rfl)]
    have := sim_send s1 hlen (by rw [ha])
    rw [ha, e] at this
    exact this
   ·simp only [if_true]
    rw [fThen_ok (show fTag s1 = .ok (uTag 2 (took s1 y m2)) by unfold fTag; rw [takeS_cons e, e, h1, h2]; rfl)]
    have := sim_send (uTag 2 (took s1 y m2)) (by rw [e] at hlen; simp at hlen; show m2.length < 2001; omega) (by show s1.step.sends = false; rw [ha])
    rw [show (uTag 2 (took s1 y m2)).step = { s1.step with tag := 2 } from rfl, ha] at this
    exact this
  ·simp only [if_true]
   rw [fThen_ok (show fTag s1 = .ok (uTag 1 (took s1 y m2)) by unfold fTag; rw [takeS_cons e, e, h1]; rfl)]
   have := sim_send (uTag 1 (took s1 y m2)) (by rw [e] at hlen; simp at hlen; show m2.length < 2001; omega) (by show s1.step.sends = false; rw [ha])
   rw [show (uTag 1 (took s1 y m2)).step = { s1.step with tag := 1 } from rfl, ha] at this
   exact this
def headAt (n : Nat) : T → Nat
 | [] => n
 | y :: _ => y.at_
def stop : Except T Ps → Except T Book
 | .error e => .error e
 | .ok s => if s.l = [] then .ok ⟨s.most, s.steps⟩ else .error s.l
def withS (most : Int) (o : List Step) : Except T (List Step) → Except T Book
 | .error e => .error e
 | .ok ss => .ok ⟨most, o ++ ss⟩
theorem sim_steps : ∀ (f n : Nat) (s : Ps), s.l.length < f → s.l.length < n → s.l.length < 2001 → stop (fMany wStep fStep n s) = withS s.most s.steps (stepsR f s.l)
 | 0, _, _, h, _, _ => absurd h (Nat.not_lt_zero _)
 | _, 0, _, _, h, _ => absurd h (Nat.not_lt_zero _)
 | f + 1, n + 1, s, hf, hn, h2 => by
  cases e : s.l with
  | nil =>
   rw [fMany_end (by rw [e]; rfl), stepsR_nil]
   unfold stop withS
   simp [e]
  | cons x m =>
   cases hc : wd wStep (x :: m)
   ·rw [fMany_end (by rw [e]; exact hc), stepsR_no hc]
    unfold stop withS
    simp [e]
   ·rw [fMany_go (by rw [e]; exact hc), takeS_cons e]
    rw [e] at hf hn h2
    simp only [List.length_cons] at hf hn h2
    have h1 := sim_step (took s x m) (by show m.length < 2001; omega)
    rw [show (took s x m).at_ = x.at_ from rfl, show (took s x m).l = m from rfl] at h1
    cases ha : stepR 2001 x.at_ m with
    | error z =>
     rw [ha] at h1
     rw [fThen_bad h1, stepsR_bad hc ha]
     rfl
    | ok q =>
     obtain ⟨a, m2⟩ := q
     rw [ha] at h1
     obtain ⟨s1, e1, el, b1, b2⟩ := h1
     have hle := les_step _ _ _ _ _ ha
     rw [fThen_ok e1, stepsR_go hc ha, sim_steps f n s1 (by rw [el]; omega) (by rw [el]; omega) (by rw [el]; omega), el, b1, b2]
     cases stepsR f m2 with
     | error z => rfl
     | ok ss =>
      show Except.ok _ = Except.ok _
      rw [List.append_assoc]
      rfl
theorem sim_book (l : T) (h : l.length ≤ 2000) : stop (fBook (ps0 l)) = bookR l := by
 show stop (fThen (fMay wMost fMost) (fThen fSteps .ok) (ps0 l)) = _
 have key : ∀ s : Ps, s.steps = [] → s.l.length < 2001 → stop (fThen fSteps .ok s) = withS s.most [] (stepsR (s.l.length + 1) s.l) := fun s hs hl => by
  have h1 : fThen fSteps .ok s = fMany wStep fStep (s.l.length + 1) s := by
   unfold fThen fSteps
   cases fMany wStep fStep (s.l.length + 1) s <;> rfl
  rw [h1, sim_steps _ _ s (Nat.lt_succ_self _) (Nat.lt_succ_self _) hl, hs]
 have fin : ∀ (most : Int) (r : Except T (List Step)), withS most [] r = match r with | .error e => .error e | .ok ss => .ok ⟨most, ss⟩ := fun most r => by cases r <;> rfl
 cases hw : wd wMost l
 ·rw [fThen_ok (fMay_miss (s := ps0 l) hw), key _ rfl (by show l.length < 2001; omega), fin]
  cases l with
  | nil => rfl
  | cons x m =>
   unfold bookR
   dsimp only
   rw [if_neg (by simp [hw])]
   rfl
 ·obtain ⟨x, m, rfl⟩ := wd_cons hw
  unfold bookR
  dsimp only
  rw [if_pos hw]
  have e0 : fMay wMost fMost (ps0 (x :: m)) = fMost (took (ps0 (x :: m)) x m) := fMay_hit (s := ps0 (x :: m)) hw
  cases m with
  | nil =>
   rw [fThen_bad (e0.trans (fWant_miss (s := took (ps0 [x]) x []) rfl rfl))]
   rfl
  | cons n m2 =>
   dsimp only
   cases hk : kd 2 (n :: m2)
   ·rw [fThen_bad (e0.trans (fWant_miss (s := took (ps0 (x :: n :: m2)) x (n :: m2)) hk rfl)), if_neg (by simp)]
    rfl
   ·rw [if_pos rfl, fThen_ok (e0.trans (fWant_hit (s := took (ps0 (x :: n :: m2)) x (n :: m2)) rfl hk)), key _ rfl (by simp at h; show m2.length < 2001; omega), fin]
    rfl
end Go.Proofs.YteohlpmojfjjdaaGreat.Book
