/-
  Layer 12 (runbook): tokens moved by d are read as the runbook moved by d; a runbook behind another one (P12.2).
-/
import Derived.Test.YtadfoilbcipdjaaBookPure
namespace Go.Proofs.Ytadfoilbcipdjaa.Book
open Go.Proofs.Ytadfoilbcipdjaa.Lex (Tok Tk B cut cutE cutR cadd oneR skipR shift cut_behind full full_go full_eq full_end cut_full cutR_shift)
set_option linter.unusedVariables false
set_option linter.unusedSimpArgs false

abbrev sh (d : Nat) (l : T) : T := l.map (shift d)
def shA (d : Nat) (a : Arm) : Arm := { a with at_ := a.at_ + d }
def shS (d : Nat) (x : Step) : Step := { x with at_ := x.at_ + d, arms := x.arms.map (shA d) }
def shE {α : Type} (s : α → α) (d : Nat) : Except T (α × T) → Except T (α × T)
  | .error e => .error (sh d e)
  | .ok (a, m) => .ok (s a, sh d m)
def Shf {α : Type} (s : α → α) (d : Nat) (F G : T → Except T (α × T)) : Prop := ∀ l, G (sh d l) = shE s d (F l)
def Blind (c : T → Bool) : Prop := ∀ d l, c (sh d l) = c l
theorem blind_wd (w : List B) : Blind (wd w) := fun d l => by cases l <;> rfl
theorem blind_kd (k : Int) : Blind (kd k) := fun d l => by cases l <;> rfl
theorem shf_want {α : Type} {s : α → α} {d : Nat} {c : T → Bool} (hc : Blind c) {f g : Tok → T → Except T (α × T)} (h : ∀ x, Shf s d (f x) (g (shift d x))) : Shf s d (want c f) (want c g) := fun l => by
  cases l with
  | nil => rfl
  | cons x m =>
    have hx := hc d (x :: m)
    unfold want
    rw [show sh d (x :: m) = shift d x :: sh d m from rfl] at hx ⊢
    dsimp only
    rw [hx]
    cases c (x :: m)
    · rfl
    · exact h x m
theorem shf_may {α : Type} {s : α → α} {d : Nat} {c : T → Bool} (hc : Blind c) {f g : Tok → T → Except T (α × T)} {f' g' : T → Except T (α × T)} (h : ∀ x, Shf s d (f x) (g (shift d x))) (h' : Shf s d f' g') : Shf s d (may c f f') (may c g g') := fun l => by
  cases l with
  | nil => exact h' []
  | cons x m =>
    have hx := hc d (x :: m)
    unfold may
    rw [show sh d (x :: m) = shift d x :: sh d m from rfl] at hx ⊢
    dsimp only
    rw [hx]
    cases c (x :: m)
    · exact h' (x :: m)
    · exact h x m
theorem shf_ok {α : Type} {s : α → α} {d : Nat} {a b : α} (h : b = s a) : Shf s d (fun m => (.ok (a, m) : Except T (α × T))) (fun m => .ok (b, m)) := fun l => by subst h; rfl
theorem shf_armGo (d a : Nat) (p v : List B) : Shf (shA d) d (armGo a p v) (armGo (a + d) p v) := shf_want (blind_wd _) fun _ => shf_want (blind_kd _) fun g => shf_ok rfl
theorem shf_arm (d a : Nat) : Shf (shA d) d (armR a) (armR (a + d)) := shf_want (blind_kd _) fun p => shf_may (blind_wd _) (fun _ => shf_want (blind_kd _) fun v => shf_armGo _ _ _ _) (shf_armGo _ _ _ _)
theorem shf_else (d : Nat) (x : Step) : Shf (shS d) d (elseR x) (elseR (shS d x)) := shf_want (blind_wd _) fun _ => shf_want (blind_kd _) fun w => shf_want (blind_wd _) fun _ => shf_ok rfl
theorem shf_tail (d : Nat) (x : Step) : Shf (shS d) d (tailR x) (tailR (shS d x)) := shf_want (blind_wd _) fun _ => shf_want (blind_kd _) fun n => shf_may (blind_wd _) (fun _ => shf_want (blind_kd _) fun k => shf_else d { x with time := n.t.n, try_ := k.t.n }) (shf_else d { x with time := n.t.n })
theorem shf_arms (d : Nat) : ∀ (f : Nat) (x : Step), Shf (shS d) d (armsR f x) (armsR f (shS d x))
  | 0, x => shf_tail d x
  | f + 1, x => shf_may (blind_wd _) (fun o l => by
      have h := shf_arm d o.at_ l
      rw [show (shift d o).at_ = o.at_ + d from rfl, h]
      cases armR o.at_ l with
      | error e => rfl
      | ok q =>
        obtain ⟨a, m2⟩ := q
        have := shf_arms d f { x with arms := x.arms ++ [a] } m2
        show armsR f _ (sh d m2) = shE (shS d) d (armsR f _ m2)
        rw [← this]
        congr 1
        simp [shS]) (shf_tail d x)
theorem shf_send (d f : Nat) (x : Step) : Shf (shS d) d (sendR f x) (sendR f (shS d x)) := shf_may (blind_wd _) (fun _ => shf_want (blind_kd _) fun t => shf_arms d f { x with sends := true, send := t.t.text }) (shf_arms d f x)
theorem shf_step (d f a : Nat) : Shf (shS d) d (stepR f a) (stepR f (a + d)) := shf_want (blind_kd _) fun n => shf_may (blind_wd _) (fun _ => shf_send d f ⟨a, n.t.text, 1, false, [], [], 0, 0, []⟩) (shf_may (blind_wd _) (fun _ => shf_send d f ⟨a, n.t.text, 2, false, [], [], 0, 0, []⟩) (shf_send d f ⟨a, n.t.text, 0, false, [], [], 0, 0, []⟩))
def shL (d : Nat) : Except T (List Step) → Except T (List Step)
  | .error e => .error (sh d e)
  | .ok ss => .ok (ss.map (shS d))
theorem shL_sadd (d : Nat) (s : Step) (r : Except T (List Step)) : shL d (sadd [s] r) = sadd [shS d s] (shL d r) := by cases r <;> rfl
theorem shf_steps (d : Nat) : ∀ (f : Nat) (l : T), stepsR f (sh d l) = shL d (stepsR f l)
  | 0, l => rfl
  | f + 1, [] => rfl
  | f + 1, x :: m => by
    have hx := blind_wd wStep d (x :: m)
    rw [show sh d (x :: m) = shift d x :: sh d m from rfl] at hx ⊢
    cases hw : wd wStep (x :: m)
    · rw [stepsR_no (by rw [hx, hw]), stepsR_no hw]; rfl
    · have h : stepR 2001 (shift d x).at_ (sh d m) = shE (shS d) d (stepR 2001 x.at_ m) := by
        rw [show (shift d x).at_ = x.at_ + d from rfl]; exact shf_step d 2001 x.at_ m
      cases hs : stepR 2001 x.at_ m with
      | error e =>
        rw [hs] at h
        simp only [shE] at h
        rw [stepsR_bad (by rw [hx, hw]) h, stepsR_bad hw hs]; rfl
      | ok q =>
        obtain ⟨s, m2⟩ := q
        rw [hs] at h
        simp only [shE] at h
        rw [stepsR_go (by rw [hx, hw]) h, stepsR_go hw hs, shf_steps d f m2, shL_sadd]
def shB (d : Nat) : Except T Book → Except T Book
  | .error e => .error (sh d e)
  | .ok b => .ok ⟨b.most, b.steps.map (shS d)⟩
theorem shf_book (d : Nat) (l : T) : bookR (sh d l) = shB d (bookR l) := by
  cases l with
  | nil => rfl
  | cons x m =>
    have hx := blind_wd wMost d (x :: m)
    have hs := shf_steps d ((x :: m).length + 1) (x :: m)
    rw [show sh d (x :: m) = shift d x :: sh d m from rfl] at hx hs ⊢
    unfold bookR
    dsimp only
    rw [hx]
    cases wd wMost (x :: m)
    · simp only [Bool.false_eq_true, if_false, List.length_cons, List.length_map] at hs ⊢
      rw [hs]
      cases stepsR (m.length + 1 + 1) (x :: m) <;> rfl
    · simp only [if_true]
      cases m with
      | nil => rfl
      | cons n m2 =>
        have hn := blind_kd 2 d (n :: m2)
        have hs := shf_steps d (m2.length + 1) m2
        rw [show sh d (n :: m2) = shift d n :: sh d m2 from rfl] at hn ⊢
        dsimp only
        rw [hn]
        cases kd 2 (n :: m2)
        · rfl
        · simp only [if_true, List.length_map] at hs ⊢
          rw [hs]
          cases stepsR (m2.length + 1) m2 <;> rfl
end Go.Proofs.Ytadfoilbcipdjaa.Book
