/-
  Layer 12 (runbook): P12.2, about the model.
-/
import Derived.Test.YtadfoilbcipdjaaBookShift
namespace Go.Proofs.Ytadfoilbcipdjaa.Book
open Go.Proofs.Ytadfoilbcipdjaa.Lex (Tok Tk B cut cutE cutR cadd oneR skipR shift cut_behind full full_go full_eq full_end cut_full cutR_shift)
set_option linter.unusedVariables false
set_option linter.unusedSimpArgs false

/-- Tokens that begin with "most", behind a book that has a token. -/
theorem book_not {l r : T} {a : Book} {y : Tok} (ha : bookR l = .ok a) (hm : wd wMost (y :: r) = true) (hl : l ≠ []) : bookR (l ++ y :: r) = .error (y :: r) := by
  have hy : wd wStep (y :: r) = false := by
    unfold wd at hm ⊢
    simp only [Bool.and_eq_true, decide_eq_true_eq] at hm
    show (decide (y.t.kind = 1) && decide (y.t.text = wStep)) = false
    rw [hm.2]
    simp [wMost, wStep]
  have hr : stepsR ((y :: r).length + 1) (y :: r) = .error (y :: r) := stepsR_no hy
  cases l with
  | nil => exact absurd rfl hl
  | cons x m =>
    unfold bookR at ha ⊢
    rw [List.cons_append]
    dsimp only at ha ⊢
    rw [← List.cons_append, wd_app]
    cases hw : wd wMost (x :: m)
    · rw [hw] at ha
      simp only [Bool.false_eq_true, if_false] at ha ⊢
      cases e : stepsR ((x :: m).length + 1) (x :: m) with
      | error z => rw [e] at ha; cases ha
      | ok ss =>
        rw [steps_app _ (x :: m) (y :: r) ss (Nat.lt_succ_self _) e, hr]
        rfl
    · rw [hw] at ha
      simp only [if_true] at ha ⊢
      cases m with
      | nil => cases ha
      | cons n m2 =>
        rw [List.cons_append]
        dsimp only at ha ⊢
        rw [← List.cons_append, kd_app]
        split at ha
        · rename_i hk
          rw [if_pos hk]
          cases e : stepsR (m2.length + 1) m2 with
          | error z => rw [e] at ha; cases ha
          | ok ss =>
            rw [steps_app _ m2 (y :: r) ss (Nat.lt_succ_self _) e, hr]
            rfl
        · cases ha
/-- "step a within 1 else a end ": -/
def pre : List B := [115#8, 116#8, 101#8, 112#8, 32#8, 97#8, 32#8, 119#8, 105#8, 116#8, 104#8, 105#8, 110#8, 32#8, 49#8, 32#8, 101#8, 108#8, 115#8, 101#8, 32#8, 97#8, 32#8, 101#8, 110#8, 100#8, 32#8]
def preT : T := [⟨⟨1, 0, wStep⟩, 0⟩, ⟨⟨1, 0, [97#8]⟩, 5⟩, ⟨⟨1, 0, wWithin⟩, 7⟩, ⟨⟨2, 1, []⟩, 14⟩, ⟨⟨1, 0, wElse⟩, 16⟩, ⟨⟨1, 0, [97#8]⟩, 21⟩, ⟨⟨1, 0, wEnd⟩, 23⟩]
theorem full_one {p n k : Nat} {l m r : List B} {c : B} {x : Tk} (hs : skipR false l = n) (hd : l.drop n = c :: m) (ho : oneR c m = .ok (x, k)) (hr : (c :: m).drop k = r) : full p l = cadd [⟨x, p + n⟩] (full (p + n + k) r) := by
  subst hs; subst hr; exact full_go hd ho
theorem full_blank (p : Nat) (t : List B) : full p (32#8 :: t) = full (p + 1) t := by
  have h : skipR false (32#8 :: t) = 1 + skipR false t := rfl
  have hl := Go.Proofs.Ytadfoilbcipdjaa.Lex.skipR_le t false
  rw [full_eq p _ (t.length + 1) (by rw [h]; simp; omega), h]
  unfold full
  rw [show p + (1 + skipR false t) = p + 1 + skipR false t by omega, show (32#8 :: t).drop (1 + skipR false t) = t.drop (skipR false t) by rw [Nat.add_comm]; rfl]
theorem full_pre (t : List B) : full 0 (pre ++ t) = cadd preT (full 27 t) := by
  unfold pre
  simp only [List.cons_append, List.nil_append]
  rw [full_one (n := 0) (k := 4) (x := ⟨1, 0, wStep⟩) rfl rfl rfl rfl]
  simp only [List.drop_succ_cons, List.drop_zero]
  rw [full_one (n := 1) (k := 1) (x := ⟨1, 0, [97#8]⟩) rfl rfl rfl rfl]
  simp only [List.drop_succ_cons, List.drop_zero]
  rw [full_one (n := 1) (k := 6) (x := ⟨1, 0, wWithin⟩) rfl rfl rfl rfl]
  simp only [List.drop_succ_cons, List.drop_zero]
  rw [full_one (n := 1) (k := 1) (x := ⟨2, 1, []⟩) rfl rfl rfl rfl]
  simp only [List.drop_succ_cons, List.drop_zero]
  rw [full_one (n := 1) (k := 4) (x := ⟨1, 0, wElse⟩) rfl rfl rfl rfl]
  simp only [List.drop_succ_cons, List.drop_zero]
  rw [full_one (n := 1) (k := 1) (x := ⟨1, 0, [97#8]⟩) rfl rfl rfl rfl]
  simp only [List.drop_succ_cons, List.drop_zero]
  rw [full_one (n := 1) (k := 3) (x := ⟨1, 0, wEnd⟩) rfl rfl rfl rfl]
  simp only [List.drop_succ_cons, List.drop_zero]
  rw [full_blank]
  simp only [Go.Proofs.Ytadfoilbcipdjaa.Lex.cadd_cadd]
  rfl
theorem full_shift (d p : Nat) (s : List B) : full (p + d) s = match full p s with
    | .error e => .error (e + d)
    | .ok ts => .ok (sh d ts) := by
  unfold full
  rw [show p + d + skipR false s = p + skipR false s + d by omega]
  exact cutR_shift d _ _ _
theorem cut_pre {t : List B} {ts : T} (ht : cut t = .ok ts) (hl : t.length ≤ 1900) : cut (pre ++ t) = .ok (preT ++ sh 27 ts) := by
  rw [cut_full, if_neg (by omega)] at ht
  rw [cut_full, if_neg (by simp [pre]; omega), full_pre]
  cases e : full 0 t with
  | error q => rw [e] at ht; cases ht
  | ok ts' =>
    rw [e] at ht
    injection ht with ht
    subst ht
    have h := full_shift 27 0 t
    rw [e] at h
    rw [show (27 : Nat) = 0 + 27 from rfl, h]
    rfl
theorem step_pre : ∀ f, stepR f 0 preT.tail = .ok (⟨0, [97#8], 0, false, [], [], 1, 0, [97#8]⟩, [])
  | 0 => rfl
  | f + 1 => rfl
theorem book_pre : bookR preT = .ok ⟨100, [⟨0, [97#8], 0, false, [], [], 1, 0, [97#8]⟩]⟩ := by
  have h := stepsR_go (f := 7) (x := ⟨⟨1, 0, wStep⟩, 0⟩) (m := preT.tail) rfl (step_pre 2001)
  unfold bookR
  unfold preT at h ⊢
  simp only [List.tail_cons] at h
  dsimp only
  rw [if_neg (by decide), show ([⟨⟨1, 0, wStep⟩, 0⟩, ⟨⟨1, 0, [97#8]⟩, 5⟩, ⟨⟨1, 0, wWithin⟩, 7⟩, ⟨⟨2, 1, []⟩, 14⟩, ⟨⟨1, 0, wElse⟩, 16⟩, ⟨⟨1, 0, [97#8]⟩, 21⟩, ⟨⟨1, 0, wEnd⟩, 23⟩] : T).length + 1 = 7 + 1 from rfl, h, stepsR_nil]
  rfl
theorem book_of {s : List B} {a : Book} (h : bookOf s = .ok a) : ∃ l, cut s = .ok l ∧ bookR l = .ok a := by
  unfold bookOf at h
  cases e : cut s with
  | error z => rw [e] at h; cases h
  | ok l =>
    rw [e] at h
    dsimp only at h
    cases e2 : bookR l with
    | error z => rw [e2] at h; cases z <;> cases h
    | ok b => rw [e2] at h; injection h with h; subst h; exact ⟨l, rfl, e2⟩
theorem of_book {s : List B} {l : T} {a : Book} (h : cut s = .ok l) (h2 : bookR l = .ok a) : bookOf s = .ok a := by
  unfold bookOf; rw [h]; dsimp only; rw [h2]
/-- P12.2: a runbook behind another one. -/
theorem joins {s t : List B} {a b : Book} (ha : bookOf s = .ok a) (hb : bookOf t = .ok b) (hs : s.length ≤ 900) (ht : t.length ≤ 900) :
    (∃ c, bookOf (s ++ 10#8 :: t) = .ok c ∧ c.steps = a.steps ++ b.steps.map (shS (s.length + 1)) ∧ (a.steps = [] ∨ c.most = a.most)) ∨
    ((∃ e, bookOf (s ++ 10#8 :: t) = .error e) ∧ ∃ p, bookOf (pre ++ t) = .error (p, 2) ∧ 27 ≤ p) := by
  obtain ⟨us, hus, hau⟩ := book_of ha
  obtain ⟨ts, hts, hbt⟩ := book_of hb
  have hc := cut_behind hus hts (by omega)
  have hsh := shf_book (s.length + 1) ts
  rw [hbt] at hsh
  by_cases hu : us = []
  · subst hu
    injection hau with hau
    subst hau
    exact .inl ⟨_, of_book hc hsh, rfl, .inl rfl⟩
  · cases hm : wd wMost ts
    · refine .inl ⟨_, of_book hc (book_app hau hsh ?_ hu), rfl, .inr rfl⟩
      rw [blind_wd, hm]
    · refine .inr ?_
      cases ts with
      | nil => cases hm
      | cons y r =>
        have n1 : bookR (us ++ shift (s.length + 1) y :: sh (s.length + 1) r) = _ := book_not hau (by have := blind_wd wMost (s.length + 1) (y :: r); rw [hm] at this; exact this) hu
        have n2 : bookR (preT ++ shift 27 y :: sh 27 r) = _ := book_not book_pre (by have := blind_wd wMost 27 (y :: r); rw [hm] at this; exact this) (by unfold preT; exact List.cons_ne_nil _ _)
        refine ⟨⟨((shift (s.length + 1) y).at_, 2), ?_⟩, (shift 27 y).at_, ?_, ?_⟩
        · unfold bookOf; rw [hc]; dsimp only; rw [show (y :: r).map (shift (s.length + 1)) = shift (s.length + 1) y :: sh (s.length + 1) r from rfl, n1]
        · unfold bookOf; rw [cut_pre hts (by omega)]; dsimp only; rw [show sh 27 (y :: r) = shift 27 y :: sh 27 r from rfl, n2]
        · show 27 ≤ y.at_ + 27; omega
end Go.Proofs.Ytadfoilbcipdjaa.Book
