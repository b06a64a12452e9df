/-
Texts: BookFew BookTxt BookParts
-/
import Derived.Test.YteohlpmojfjjdaaGreatR0
import Derived.Test.YteohlpmojfjjdaaGreatR1
import Derived.Test.YteohlpmojfjjdaaGreatR7
import Derived.Test.YteohlpmojfjjdaaGreatR8
import Derived.Test.YteohlpmojfjjdaaGreatR23
import Derived.Test.YteohlpmojfjjdaaGreatR25
import Derived.Test.YteohlpmojfjjdaaGreatR27
set_option linter.unusedVariables false
set_option linter.unusedSimpArgs false
set_option maxRecDepth 100000
set_option maxHeartbeats 4000000
section
namespace Go.Proofs.YteohlpmojfjjdaaGreat.Book
open Lex (Tok Tk B cut cutR cutE cadd oneR skipR)
theorem cutR_txt : ∀ (f p : Nat) (l : List B) (ts : List Tok), cutR f p l = .ok ts → ∀ x ∈ ts, x.t.text.length ≤ l.length
 | 0, _, _, ts, h => by injection h with h; subst h; simp
 | f + 1, p, [], ts, h => by injection h with h; subst h; simp
 | f + 1, p, c :: m, ts, h => by
  cases ho : oneR c m with
  | error k => rw [Lex.cutR_bad ho] at h; cases h
  | ok q =>
   obtain ⟨x, k⟩ := q
   rw [Lex.cutR_go ho] at h
   obtain ⟨h1, h2, h3⟩ := Lex.oneR_le ho
   cases e : cutR f (p + k + skipR false ((c :: m).drop k)) (((c :: m).drop k).drop (skipR false ((c :: m).drop k))) with
   | error z => rw [e] at h; cases h
   | ok us =>
    rw [e] at h
    simp only [cadd, List.singleton_append] at h
    injection h with h
    subst h
    intro y hy
    rcases List.mem_cons.1 hy with rfl | hy
    ·show x.text.length ≤ _; simp; omega
    ·have := cutR_txt f _ _ us e y hy
     rw [List.length_drop, List.length_drop] at this
     omega
theorem cut_txt {s : List B} {ts : List Tok} (h : cut s = .ok ts) : ∀ x ∈ ts, x.t.text.length ≤ 2000 := by
 unfold cut at h
 split at h
 ·cases h
 ·rename_i hn
  cases e : cutR (s.length + 1) (skipR false s) (s.drop (skipR false s)) with
  | error z => rw [e] at h; cases h
  | ok us =>
   rw [e] at h
   injection h with h
   subst h
   intro x hx
   have := cutR_txt _ _ _ us e x hx
   rw [List.length_drop] at this
   omega
def Sb (F : T → Except T (Arm × T)) : Prop := ∀ l a m, F l = .ok (a, m) → ∀ x ∈ m, x ∈ l
theorem sb_want {c : T → Bool} {f : Tok → T → Except T (Arm × T)} (h : ∀ x, Sb (f x)) : Sb (want c f) := fun l a m hl => by
 cases l with
 | nil => cases hl
 | cons x l =>
  unfold want at hl
  dsimp only at hl
  split at hl
  ·exact fun y hy => List.mem_cons_of_mem _ (h x l a m hl y hy)
  ·cases hl
theorem sb_may {c : T → Bool} {f : Tok → T → Except T (Arm × T)} {q : T → Except T (Arm × T)} (hf : ∀ x, Sb (f x)) (hg : Sb q) : Sb (may c f q) := fun l a m hl => by
 cases l with
 | nil => exact hg _ a m hl
 | cons x l =>
  unfold may at hl
  dsimp only at hl
  split at hl
  ·exact fun y hy => List.mem_cons_of_mem _ (hf x l a m hl y hy)
  ·exact hg _ a m hl
theorem sb_ok (a : Arm) : Sb (fun m => (.ok (a, m) : Except T (Arm × T))) := fun l s m h => by injection h with h; injection h with h1 h2; subst h2; exact fun x hx => hx
theorem sb_armGo (a : Nat) (p v : List B) : Sb (armGo a p v) := sb_want fun _ => sb_want fun g => sb_ok _
theorem sb_arm (a : Nat) : Sb (armR a) := sb_want fun p => sb_may (fun _ => sb_want fun v => sb_armGo _ _ _) (sb_armGo _ _ _)
def Kc (N c : Nat) (F : T → Except T (Step × T)) : Prop := ∀ l s m, (∀ x ∈ l, x.t.text.length ≤ N) → F l = .ok (s, m) → s.send.length ≤ N ∧ s.arms.length + m.length ≤ c + l.length ∧ ∀ x ∈ m, x.t.text.length ≤ N
theorem kc_want {N k : Nat} {c : T → Bool} {f : Tok → T → Except T (Step × T)} (h : ∀ x, x.t.text.length ≤ N → Kc N k (f x)) : Kc N k (want c f) := fun l s m ha hl => by
 cases l with
 | nil => cases hl
 | cons x l =>
  unfold want at hl
  dsimp only at hl
  split at hl
  ·obtain ⟨h1, h2, h3⟩ := h x (ha x (List.mem_cons_self ..)) l s m (fun y hy => ha y (List.mem_cons_of_mem _ hy)) hl
   exact ⟨h1, by rw [List.length_cons]; omega, h3⟩
  ·cases hl
theorem kc_may {N k : Nat} {c : T → Bool} {f : Tok → T → Except T (Step × T)} {q : T → Except T (Step × T)} (hf : ∀ x, x.t.text.length ≤ N → Kc N k (f x)) (hg : Kc N k q) : Kc N k (may c f q) := fun l s m ha hl => by
 cases l with
 | nil => exact hg _ s m ha hl
 | cons x l =>
  unfold may at hl
  dsimp only at hl
  split at hl
  ·obtain ⟨h1, h2, h3⟩ := hf x (ha x (List.mem_cons_self ..)) l s m (fun y hy => ha y (List.mem_cons_of_mem _ hy)) hl
   exact ⟨h1, by rw [List.length_cons]; omega, h3⟩
  ·exact hg _ s m ha hl
theorem kc_ok {N k : Nat} {a : Step} (h : a.send.length ≤ N) (hk : a.arms.length ≤ k) : Kc N k (fun m => (.ok (a, m) : Except T (Step × T))) := fun l s m ha hl => by
 injection hl with hl; injection hl with h1 h2; subst h1; subst h2; exact ⟨h, by omega, ha⟩
theorem kc_else {N k : Nat} (x : Step) (h : x.send.length ≤ N) (hk : x.arms.length ≤ k) : Kc N k (elseR x) := kc_want fun _ _ => kc_want fun w _ => kc_want fun _ _ => kc_ok h hk
theorem kc_tail {N k : Nat} (x : Step) (h : x.send.length ≤ N) (hk : x.arms.length ≤ k) : Kc N k (tailR x) := kc_want fun _ _ => kc_want fun n _ => kc_may (fun _ _ => kc_want fun k _ => kc_else _ h hk) (kc_else _ h hk)
theorem kc_arms {N : Nat} : ∀ (f k : Nat) (x : Step), x.send.length ≤ N → x.arms.length ≤ k → Kc N k (armsR f x)
 | 0, k, x, h, hk => kc_tail x h hk
 | f + 1, k, x, h, hk => fun l s m ha hl => by
  cases l with
  | nil => exact kc_tail x h hk [] s m ha hl
  | cons o l =>
   unfold armsR may at hl
   dsimp only at hl
   split at hl
   ·cases e : armR o.at_ l with
    | error z => rw [e] at hl; cases hl
    | ok q =>
     obtain ⟨a1, m2⟩ := q
     rw [e] at hl
     have h1 := sb_arm _ _ _ _ e
     have h2 := les_arm _ _ _ _ e
     obtain ⟨g1, g2, g3⟩ := kc_arms f (k + 1) { x with arms := x.arms ++ [a1] } h (by simp; omega) m2 s m (fun y hy => ha y (List.mem_cons_of_mem _ (h1 y hy))) hl
     exact ⟨g1, by rw [List.length_cons]; omega, g3⟩
   ·exact kc_tail x h hk _ s m ha hl
theorem kc_send {N : Nat} (f k : Nat) (x : Step) (h : x.send.length ≤ N) (hk : x.arms.length ≤ k) : Kc N k (sendR f x) := kc_may (fun _ _ => kc_want fun t ht => kc_arms f k _ ht hk) (kc_arms f k x h hk)
theorem kc_step {N : Nat} (f a : Nat) : Kc N 0 (stepR f a) := kc_want fun n _ => kc_may (fun _ _ => kc_send f 0 _ (Nat.zero_le _) (Nat.le_refl _)) (kc_may (fun _ _ => kc_send f 0 _ (Nat.zero_le _) (Nat.le_refl _)) (kc_send f 0 _ (Nat.zero_le _) (Nat.le_refl _)))
def sumS (ss : List Step) : Nat := (ss.map fun s => s.arms.length).sum
theorem kc_steps {N : Nat} : ∀ (f : Nat) (l : T) (ss : List Step), (∀ x ∈ l, x.t.text.length ≤ N) → stepsR f l = .ok ss → (∀ s ∈ ss, s.send.length ≤ N) ∧ sumS ss ≤ l.length ∧ ss.length ≤ l.length
 | 0, l, ss, ha, h => by injection h with h; subst h; simp [sumS]
 | f + 1, [], ss, ha, h => by rw [stepsR_nil] at h; injection h with h; subst h; simp [sumS]
 | f + 1, x :: m, ss, ha, h => by
  cases hw : wd wStep (x :: m)
  ·rw [stepsR_no hw] at h; cases h
  ·cases hs : stepR 2001 x.at_ m with
   | error e => rw [stepsR_bad hw hs] at h; cases h
   | ok q =>
    obtain ⟨s, m2⟩ := q
    obtain ⟨h1, h2, h3⟩ := kc_step 2001 x.at_ m s m2 (fun y hy => ha y (List.mem_cons_of_mem _ hy)) hs
    have hle := les_step _ _ _ _ _ hs
    rw [stepsR_go hw hs] at h
    cases e : stepsR f m2 with
    | error z => rw [e] at h; cases h
    | ok ss2 =>
     rw [e] at h
     simp only [sadd, List.singleton_append] at h
     injection h with h
     subst h
     obtain ⟨g1, g2, g3⟩ := kc_steps f m2 ss2 h3 e
     refine ⟨fun u hu => ?_, ?_, ?_⟩
     ·rcases List.mem_cons.1 hu with rfl | hu
      ·exact h1
      ·exact g1 u hu
     ·unfold sumS at g2 ⊢
      rw [List.map_cons, List.sum_cons, List.length_cons]
      omega
     ·rw [List.length_cons, List.length_cons]; omega
theorem kc_book {N : Nat} {l : T} {b : Book} (ha : ∀ x ∈ l, x.t.text.length ≤ N) (h : bookR l = .ok b) : (∀ s ∈ b.steps, s.send.length ≤ N) ∧ sumS b.steps ≤ l.length ∧ b.steps.length ≤ l.length := by
 cases l with
 | nil => injection h with h; subst h; simp [sumS]
 | cons x m =>
  unfold bookR at h
  dsimp only at h
  split at h
  ·cases m with
   | nil => cases h
   | cons y m2 =>
    dsimp only at h
    split at h
    ·cases e : stepsR (m2.length + 1) m2 with
     | error z => rw [e] at h; cases h
     | ok ss =>
      rw [e] at h
      injection h with h
      subst h
      obtain ⟨g1, g2, g3⟩ := kc_steps _ m2 ss (fun u hu => ha u (List.mem_cons_of_mem _ (List.mem_cons_of_mem _ hu))) e
      exact ⟨g1, by simp; omega, by simp; omega⟩
    ·cases h
  ·cases e : stepsR ((x :: m).length + 1) (x :: m) with
   | error z => rw [e] at h; cases h
   | ok ss =>
    rw [e] at h
    injection h with h
    subst h
    exact kc_steps _ _ ss ha e
theorem book_of2 {s : List B} {a : Book} (h : bookOf s = .ok a) : ∃ l, cut s = .ok l ∧ bookR l = .ok a := by
 unfold bookOf at h
 cases e : cut s with
 | error z => rw [e] at h; cases h
 | ok l =>
  rw [e] at h
  dsimp only at h
  cases e2 : bookR l with
  | error z => rw [e2] at h; cases z <;> cases h
  | ok b => rw [e2] at h; injection h with h; subst h; exact ⟨l, rfl, e2⟩
theorem mem_sum {ss : List Step} {s : Step} (h : s ∈ ss) : s.arms.length ≤ sumS ss := by
 induction ss with
 | nil => cases h
 | cons x l ih =>
  unfold sumS at ih ⊢
  rw [List.map_cons, List.sum_cons]
  rcases List.mem_cons.1 h with rfl | h
  ·omega
  ·have := ih h; omega
theorem few_book {s : List B} {b : Book} (h : bookOf s = .ok b) : (∀ x ∈ b.steps, x.send.length ≤ 2000 ∧ x.arms.length ≤ 2000) ∧ sumS b.steps ≤ 2000 ∧ b.steps.length ≤ 2000 := by
 obtain ⟨l, h1, h2⟩ := book_of2 h
 have hl := cut_few h1
 obtain ⟨g1, g2, g3⟩ := kc_book (cut_txt h1) h2
 exact ⟨fun x hx => ⟨g1 x hx, by have := mem_sum hx; omega⟩, by omega, by omega⟩
end Go.Proofs.YteohlpmojfjjdaaGreat.Book
end
section
namespace Go.Proofs.YteohlpmojfjjdaaGreat.Book
open Lex (Tok Tk B cut cutR cutE cadd oneR skipR)
def Sm (N : Nat) (s : Step) : Prop := s.name.length ≤ N ∧ s.els.length ≤ N ∧ ∀ a ∈ s.arms, a.as_.length ≤ N ∧ a.go.length ≤ N ∧ a.pat.length ≤ N
def Tl (N : Nat) (l : T) : Prop := ∀ x ∈ l, x.t.text.length ≤ N
def Sk {α : Type} (N : Nat) (P : α → Prop) (F : T → Except T (α × T)) : Prop := ∀ l s m, Tl N l → F l = .ok (s, m) → P s ∧ Tl N m
theorem sk_want {α : Type} {N : Nat} {P : α → Prop} {c : T → Bool} {f : Tok → T → Except T (α × T)} (h : ∀ x, x.t.text.length ≤ N → Sk N P (f x)) : Sk N P (want c f) := fun l s m ha hl => by
 cases l with
 | nil => cases hl
 | cons x l =>
  unfold want at hl
  dsimp only at hl
  split at hl
  ·exact h x (ha x (List.mem_cons_self ..)) l s m (fun y hy => ha y (List.mem_cons_of_mem _ hy)) hl
  ·cases hl
theorem sk_may {α : Type} {N : Nat} {P : α → Prop} {c : T → Bool} {f : Tok → T → Except T (α × T)} {q : T → Except T (α × T)} (hf : ∀ x, x.t.text.length ≤ N → Sk N P (f x)) (hg : Sk N P q) : Sk N P (may c f q) := fun l s m ha hl => by
 cases l with
 | nil => exact hg _ s m ha hl
 | cons x l =>
  unfold may at hl
  dsimp only at hl
  split at hl
  ·exact hf x (ha x (List.mem_cons_self ..)) l s m (fun y hy => ha y (List.mem_cons_of_mem _ hy)) hl
  ·exact hg _ s m ha hl
theorem sk_ok {α : Type} {N : Nat} {P : α → Prop} {a : α} (h : P a) : Sk N P (fun m => (.ok (a, m) : Except T (α × T))) := fun l s m ha hl => by
 injection hl with hl; injection hl with h1 h2; subst h1; subst h2; exact ⟨h, ha⟩
theorem sk_armGo {N : Nat} (a : Nat) (p v : List B) (hp : p.length ≤ N) (hv : v.length ≤ N) : Sk N (fun a : Arm => a.as_.length ≤ N ∧ a.go.length ≤ N ∧ a.pat.length ≤ N) (armGo a p v) := sk_want fun _ _ => sk_want fun g hg => sk_ok ⟨hv, hg, hp⟩
theorem sk_arm {N : Nat} (a : Nat) : Sk N (fun a : Arm => a.as_.length ≤ N ∧ a.go.length ≤ N ∧ a.pat.length ≤ N) (armR a) := sk_want fun p hp => sk_may (fun _ _ => sk_want fun v hv => sk_armGo _ _ _ hp hv) (sk_armGo _ _ _ hp (Nat.zero_le _))
theorem sk_else {N : Nat} (x : Step) (h : Sm N x) : Sk N (Sm N) (elseR x) := sk_want fun _ _ => sk_want fun w hw => sk_want fun _ _ => sk_ok ⟨h.1, hw, h.2.2⟩
theorem sk_tail {N : Nat} (x : Step) (h : Sm N x) : Sk N (Sm N) (tailR x) := sk_want fun _ _ => sk_want fun n _ => sk_may (fun _ _ => sk_want fun k _ => sk_else _ h) (sk_else _ h)
theorem sk_arms {N : Nat} : ∀ (f : Nat) (x : Step), Sm N x → Sk N (Sm N) (armsR f x)
 | 0, x, h => sk_tail x h
 | f + 1, x, h => fun l s m ha hl => by
  cases l with
  | nil => exact sk_tail x h [] s m ha hl
  | cons o l =>
   unfold armsR may at hl
   dsimp only at hl
   split at hl
   ·cases e : armR o.at_ l with
    | error z => rw [e] at hl; cases hl
    | ok q =>
     obtain ⟨a1, m2⟩ := q
     rw [e] at hl
     obtain ⟨h1, h2⟩ := sk_arm (N := N) _ _ _ _ (fun y hy => ha y (List.mem_cons_of_mem _ hy)) e
     refine sk_arms f { x with arms := x.arms ++ [a1] } ⟨h.1, h.2.1, fun a haa => ?_⟩ m2 s m h2 hl
     rcases List.mem_append.1 haa with haa | haa
     ·exact h.2.2 a haa
     ·rw [List.mem_singleton.1 haa]; exact h1
   ·exact sk_tail x h _ s m ha hl
theorem sk_send {N : Nat} (f : Nat) (x : Step) (h : Sm N x) : Sk N (Sm N) (sendR f x) := sk_may (fun _ _ => sk_want fun t ht => sk_arms f _ h) (sk_arms f x h)
theorem sk_step {N : Nat} (f a : Nat) : Sk N (Sm N) (stepR f a) :=
 have h0 : ∀ (n : Tok) (k : Int), n.t.text.length ≤ N → Sm N ⟨a, n.t.text, k, false, [], [], 0, 0, []⟩ := fun n k hn => ⟨hn, Nat.zero_le _, fun _ h => by cases h⟩
 sk_want fun n hn => sk_may (fun _ _ => sk_send f _ (h0 n 1 hn)) (sk_may (fun _ _ => sk_send f _ (h0 n 2 hn)) (sk_send f _ (h0 n 0 hn)))
theorem sk_steps {N : Nat} : ∀ (f : Nat) (l : T) (ss : List Step), Tl N l → stepsR f l = .ok ss → ∀ s ∈ ss, Sm N s
 | 0, l, ss, ha, h => by injection h with h; subst h; simp
 | f + 1, [], ss, ha, h => by rw [stepsR_nil] at h; injection h with h; subst h; simp
 | f + 1, x :: m, ss, ha, h => by
  cases hw : wd wStep (x :: m)
  ·rw [stepsR_no hw] at h; cases h
  ·cases hs : stepR 2001 x.at_ m with
   | error e => rw [stepsR_bad hw hs] at h; cases h
   | ok q =>
    obtain ⟨s, m2⟩ := q
    obtain ⟨h1, h3⟩ := sk_step 2001 x.at_ m s m2 (fun y hy => ha y (List.mem_cons_of_mem _ hy)) hs
    rw [stepsR_go hw hs] at h
    cases e : stepsR f m2 with
    | error z => rw [e] at h; cases h
    | ok ss2 =>
     rw [e] at h
     simp only [sadd, List.singleton_append] at h
     injection h with h
     subst h
     intro u hu
     rcases List.mem_cons.1 hu with rfl | hu
     ·exact h1
     ·exact sk_steps f m2 ss2 h3 e u hu
theorem sk_book {N : Nat} {l : T} {b : Book} (ha : Tl N l) (h : bookR l = .ok b) : ∀ s ∈ b.steps, Sm N s := by
 cases l with
 | nil => injection h with h; subst h; simp
 | cons x m =>
  unfold bookR at h
  dsimp only at h
  split at h
  ·cases m with
   | nil => cases h
   | cons y m2 =>
    dsimp only at h
    split at h
    ·cases e : stepsR (m2.length + 1) m2 with
     | error z => rw [e] at h; cases h
     | ok ss =>
      rw [e] at h
      injection h with h
      subst h
      exact sk_steps _ m2 ss (fun u hu => ha u (List.mem_cons_of_mem _ (List.mem_cons_of_mem _ hu))) e
    ·cases h
  ·cases e : stepsR ((x :: m).length + 1) (x :: m) with
   | error z => rw [e] at h; cases h
   | ok ss =>
    rw [e] at h
    injection h with h
    subst h
    exact sk_steps _ _ ss ha e
theorem txt_book {s : List B} {b : Book} (h : bookOf s = .ok b) : ∀ x ∈ b.steps, Sm 2000 x := by
 obtain ⟨l, h1, h2⟩ := book_of2 h
 exact sk_book (cut_txt h1) h2
end Go.Proofs.YteohlpmojfjjdaaGreat.Book
end
section
namespace Go.Proofs.YteohlpmojfjjdaaGreat.Book
open Go.RowKit
open Lex (Tok Tk B cut Tv Tx tflat Cr cr_ry Ptk hmf)
section
variable {W : World} {g : Nat}
def gx8 (A : Option Addr) (c : Nat) (x : Px) : Px := { x with A8 := A, c8 := c }
def gx14 (A : Option Addr) (c : Nat) (x : Px) : Px := { x with A14 := A, c14 := c }
theorem takeMost_ : Contract W g true true 88 fMost := by
 intro w s h hj
 have con := number_ h 2 uMost (fun _ _ _ => rfl) (by decide) (fun _ _ => ⟨rfl, rfl, rfl, rfl, rfl⟩)
 clear h hj
 go_enter Tryz.func88, Tryz.ntmps88
 go_wp2_with fail
 refine con.mono ?_
 clear con
 rintro e w2 h2
 have HT := Lib.hid h2
 obtain ⟨b, rfl, _⟩ := h2.bool
 clear h2
 go_wp2_with fail
 go_ret
 exact HT.out
theorem takeMost_e : Enters 88 := enters_of Tryz.func88 (by kernel_rfl) rfl
theorem takeName_ : Contract W g true true 91 fName := by
 intro w s h hj
 have con := word_ h 5 uName (fun _ _ _ => rfl) (by decide) (fun _ _ => ⟨rfl, rfl, rfl, rfl, rfl⟩)
 clear h hj
 go_enter Tryz.func91, Tryz.ntmps91
 go_wp2_with fail
 refine con.mono ?_
 clear con
 rintro e w2 h2
 have HT := Lib.hid h2
 obtain ⟨b, rfl, _⟩ := h2.bool
 clear h2
 go_wp2_with fail
 go_ret
 exact HT.out
theorem takeName_e : Enters 91 := enters_of Tryz.func91 (by kernel_rfl) rfl
theorem takeVariable_ : Contract W g true true 151 fVar := by
 intro w s h hj
 have con := word_ h 15 uAs (fun _ _ _ => rfl) (by decide) (fun _ _ => ⟨rfl, rfl, rfl, rfl, rfl⟩)
 clear h hj
 go_enter Tryz.func151, Tryz.ntmps151
 go_wp2_with fail
 refine con.mono ?_
 clear con
 rintro e w2 h2
 have HT := Lib.hid h2
 obtain ⟨b, rfl, _⟩ := h2.bool
 clear h2
 go_wp2_with fail
 go_ret
 exact HT.out
theorem takeVariable_e : Enters 151 := enters_of Tryz.func151 (by kernel_rfl) rfl
theorem takePattern_ : Contract W g true true 128 fPat := by
 intro w s h hj
 have con := text_ h 14 uPat (gx := gx14) (fun _ _ _ _ _ => rfl) (by decide) (fun _ _ => ⟨rfl, rfl, rfl⟩) (fun _ _ _ => ⟨rfl, rfl, rfl, ⟨rfl, rfl, rfl⟩, rfl, rfl, rfl⟩) (fun _ _ _ _ _ h1 h2 h3 => ⟨h2, h1.1⟩)
 clear h hj
 go_enter Tryz.func128, Tryz.ntmps128
 go_wp2_with fail
 refine con.mono ?_
 clear con
 rintro e w2 h2
 have HT := Lib.hid h2
 obtain ⟨b, rfl, _⟩ := h2.bool
 clear h2
 go_wp2_with fail
 go_ret
 exact HT.out
theorem takePattern_e : Enters 128 := enters_of Tryz.func128 (by kernel_rfl) rfl
theorem takeTry_ : Contract W g true true 132 fTry := by
 intro w s h hj
 have con := number_ h 11 uTry (fun _ _ _ => rfl) (by decide) (fun _ _ => ⟨rfl, rfl, rfl, rfl, rfl⟩)
 clear h hj
 go_enter Tryz.func132, Tryz.ntmps132
 go_wp2_with fail
 refine con.mono ?_
 clear con
 rintro e w2 h2
 have HT := Lib.hid h2
 obtain ⟨b, rfl, _⟩ := h2.bool
 clear h2
 go_wp2_with fail
 go_ret
 exact HT.out
theorem takeTry_e : Enters 132 := enters_of Tryz.func132 (by kernel_rfl) rfl
theorem takeLine_ : Contract W g true true 126 fLine := by
 intro w s h hj
 obtain ⟨K, x, h⟩ := h
 have k0 : w.cell? ⟨g, 7, none⟩ = some (.bool s.step.sends) := h.c 7
 have f0 := h.f 7
 have h2 : Pw W (w.setCell ⟨g, 7, none⟩ (.bool true)) g K true (uSends s) x := h.put (by rfl) h.rest h.send h.pat ⟨rfl, rfl, rfl, rfl⟩ ⟨rfl, rfl, rfl, rfl⟩
 have hc : Chp w (w.setCell ⟨g, 7, none⟩ (.bool true)) := Chp.frm h.cel ((Frm.refl [g] w).set (p := ⟨g, 7, none⟩) (by simp) _)
 have con := (text_ (W := W) ⟨K, x, h2⟩ 8 uSend (gx := gx8) (fun _ _ _ _ _ => rfl) (by decide) (fun _ _ => ⟨rfl, rfl, rfl⟩) (fun _ _ _ => ⟨rfl, rfl, rfl, ⟨rfl, rfl, rfl⟩, rfl, rfl, rfl⟩) (fun _ _ _ _ _ h1 h2 h3 => ⟨h1, h3⟩)).mono fun e w' hh => hh.of hc
 rw [show fWant (kd 3) uSend (uSends s) = fLine s from rfl] at con
 clear h h2 hc hj
 go_enter Tryz.func126, Tryz.ntmps126
 go_wp2_with fail
 refine con.mono ?_
 clear con
 rintro e w2 h2
 have HT := Lib.hid h2
 obtain ⟨b, rfl, _⟩ := h2.bool
 clear h2
 go_wp2_with fail
 go_ret
 exact HT.out
theorem takeLine_e : Enters 126 := enters_of Tryz.func126 (by kernel_rfl) rfl
theorem takeLimit_ : Contract W g true true 37 fLimit := by
 intro w s h hj
 have con := maybe_ (W := W) takeMost_e takeMost_ h hj wMost _ rfl
 rw [show str wMost = ByteArray.mk #[109, 111, 115, 116] from rfl] at con
 have hm := hmf
 clear h hj
 go_enter Tryz.func37, Tryz.ntmps37
 go_wp2_with fail
 refine con.mono ?_
 clear con
 rintro e w2 h2
 have HT := Lib.hid h2
 obtain ⟨b, rfl, _⟩ := h2.bool
 clear h2
 go_wp2_with fail
 go_ret
 exact HT.out
theorem takeLimit_e : Enters 37 := enters_of Tryz.func37 (by kernel_rfl) rfl
theorem takeSend_ : Contract W g true true 93 fSend := by
 intro w s h hj
 have con := maybe_ (W := W) takeLine_e takeLine_ h hj wSend _ rfl
 rw [show str wSend = ByteArray.mk #[115, 101, 110, 100] from rfl] at con
 have hm := hmf
 clear h hj
 go_enter Tryz.func93, Tryz.ntmps93
 go_wp2_with fail
 refine con.mono ?_
 clear con
 rintro e w2 h2
 have HT := Lib.hid h2
 obtain ⟨b, rfl, _⟩ := h2.bool
 clear h2
 go_wp2_with fail
 go_ret
 exact HT.out
theorem takeSend_e : Enters 93 := enters_of Tryz.func93 (by kernel_rfl) rfl
theorem takeAs_ : Contract W g true true 129 fAs := by
 intro w s h hj
 have con := maybe_ (W := W) takeVariable_e takeVariable_ h hj wAs _ rfl
 rw [show str wAs = ByteArray.mk #[97, 115] from rfl] at con
 have hm := hmf
 clear h hj
 go_enter Tryz.func129, Tryz.ntmps129
 go_wp2_with fail
 refine con.mono ?_
 clear con
 rintro e w2 h2
 have HT := Lib.hid h2
 obtain ⟨b, rfl, _⟩ := h2.bool
 clear h2
 go_wp2_with fail
 go_ret
 exact HT.out
theorem takeAs_e : Enters 129 := enters_of Tryz.func129 (by kernel_rfl) rfl
theorem takeTries_ : Contract W g true true 96 fTries := by
 intro w s h hj
 have con := maybe_ (W := W) takeTry_e takeTry_ h hj wTries _ rfl
 rw [show str wTries = ByteArray.mk #[116, 114, 105, 101, 115] from rfl] at con
 have hm := hmf
 clear h hj
 go_enter Tryz.func96, Tryz.ntmps96
 go_wp2_with fail
 refine con.mono ?_
 clear con
 rintro e w2 h2
 have HT := Lib.hid h2
 obtain ⟨b, rfl, _⟩ := h2.bool
 clear h2
 go_wp2_with fail
 go_ret
 exact HT.out
theorem takeTries_e : Enters 96 := enters_of Tryz.func96 (by kernel_rfl) rfl
theorem takeGo_ : Contract W g true true 130 fGo := by
 intro w s h hj
 obtain ⟨K, x, h⟩ := h
 have con := hasWord_ h wGo _ rfl
 rw [show str wGo = ByteArray.mk #[103, 111] from rfl] at con
 obtain ⟨b, hb⟩ : ∃ b, b = wd wGo s.l := ⟨_, rfl⟩
 unfold HwSays at con
 rw [← hb] at con
 cases b with
 | false =>
  have HEND := Lib.hid (show ∀ w' x', Chp w w' → Pw W w' g K true s x' → PtSays W w g true (fGo s) (.returned (.bool false)) w' from fun w' x' hc hp => by unfold fGo; rw [fAfter_miss hb.symm]; exact ⟨hc, rfl, s, rfl, Pb.weak ⟨K, x', hp⟩⟩)
  clear h hb hj
  go_enter Tryz.func130, Tryz.ntmps130
  go_wp2_with fail
  refine con.mono ?_
  clear con
  rintro e w1 ⟨rfl, hc, x', hp⟩
  have HT := Lib.hid (HEND.out w1 x' hc hp)
  clear hc hp
  go_wp2_with fail
  go_ret
  exact HT.out
 | true =>
  have HEND := Lib.hid (show ∀ w' x', Chp w w' → Pw W w' g K true (takeS s) x' → Calls Tryz.prog 125 #[pp g, .pointer (some ⟨g, 16, none⟩)] w' (PtSays W w g true (fGo s)) from fun w' x' hc hp => by
   unfold fGo
   rw [fAfter_hit hb.symm]
   have h : Pb W w' g true (takeS s) := ⟨K, x', hp⟩
   exact (word_ h 16 uGo (fun _ _ _ => rfl) (by decide) (fun _ _ => ⟨rfl, rfl, rfl, rfl, rfl⟩)).mono fun e w2 h2 => h2.of hc)
  clear h hb hj
  go_enter Tryz.func130, Tryz.ntmps130
  go_wp2_with fail
  refine con.mono ?_
  clear con
  rintro e w1 ⟨rfl, hc, x', hp⟩
  have con2 := HEND.out w1 x' hc hp
  clear hc hp
  go_wp2_with fail
  refine con2.mono ?_
  clear con2
  rintro e w2 h2
  have HT := Lib.hid h2
  obtain ⟨b, rfl, _⟩ := h2.bool
  clear h2
  go_wp2_with fail
  go_ret
  exact HT.out
theorem takeGo_e : Enters 130 := enters_of Tryz.func130 (by kernel_rfl) rfl
theorem takeTime_ : Contract W g true true 95 fTime := by
 intro w s h hj
 obtain ⟨K, x, h⟩ := h
 have con := hasWord_ h wWithin _ rfl
 rw [show str wWithin = ByteArray.mk #[119, 105, 116, 104, 105, 110] from rfl] at con
 obtain ⟨b, hb⟩ : ∃ b, b = wd wWithin s.l := ⟨_, rfl⟩
 unfold HwSays at con
 rw [← hb] at con
 cases b with
 | false =>
  have HEND := Lib.hid (show ∀ w' x', Chp w w' → Pw W w' g K true s x' → PtSays W w g true (fTime s) (.returned (.bool false)) w' from fun w' x' hc hp => by unfold fTime; rw [fAfter_miss hb.symm]; exact ⟨hc, rfl, s, rfl, Pb.weak ⟨K, x', hp⟩⟩)
  clear h hb hj
  go_enter Tryz.func95, Tryz.ntmps95
  go_wp2_with fail
  refine con.mono ?_
  clear con
  rintro e w1 ⟨rfl, hc, x', hp⟩
  have HT := Lib.hid (HEND.out w1 x' hc hp)
  clear hc hp
  go_wp2_with fail
  go_ret
  exact HT.out
 | true =>
  have HEND := Lib.hid (show ∀ w' x', Chp w w' → Pw W w' g K true (takeS s) x' → Calls Tryz.prog 124 #[pp g, .pointer (some ⟨g, 10, none⟩)] w' (PtSays W w g true (fTime s)) from fun w' x' hc hp => by
   unfold fTime
   rw [fAfter_hit hb.symm]
   have h : Pb W w' g true (takeS s) := ⟨K, x', hp⟩
   exact (number_ h 10 uTime (fun _ _ _ => rfl) (by decide) (fun _ _ => ⟨rfl, rfl, rfl, rfl, rfl⟩)).mono fun e w2 h2 => h2.of hc)
  clear h hb hj
  go_enter Tryz.func95, Tryz.ntmps95
  go_wp2_with fail
  refine con.mono ?_
  clear con
  rintro e w1 ⟨rfl, hc, x', hp⟩
  have con2 := HEND.out w1 x' hc hp
  clear hc hp
  go_wp2_with fail
  refine con2.mono ?_
  clear con2
  rintro e w2 h2
  have HT := Lib.hid h2
  obtain ⟨b, rfl, _⟩ := h2.bool
  clear h2
  go_wp2_with fail
  go_ret
  exact HT.out
theorem takeTime_e : Enters 95 := enters_of Tryz.func95 (by kernel_rfl) rfl
theorem takeElse_ : Contract W g true true 97 fElse := by
 intro w s h hj
 obtain ⟨K, x, h⟩ := h
 have con := hasWord_ h wElse _ rfl
 rw [show str wElse = ByteArray.mk #[101, 108, 115, 101] from rfl] at con
 obtain ⟨b, hb⟩ : ∃ b, b = wd wElse s.l := ⟨_, rfl⟩
 unfold HwSays at con
 rw [← hb] at con
 cases b with
 | false =>
  have HEND := Lib.hid (show ∀ w' x', Chp w w' → Pw W w' g K true s x' → PtSays W w g true (fElse s) (.returned (.bool false)) w' from fun w' x' hc hp => by unfold fElse; rw [fAfter_miss hb.symm]; exact ⟨hc, rfl, s, rfl, Pb.weak ⟨K, x', hp⟩⟩)
  clear h hb hj
  go_enter Tryz.func97, Tryz.ntmps97
  go_wp2_with fail
  refine con.mono ?_
  clear con
  rintro e w1 ⟨rfl, hc, x', hp⟩
  have HT := Lib.hid (HEND.out w1 x' hc hp)
  clear hc hp
  go_wp2_with fail
  go_ret
  exact HT.out
 | true =>
  have HEND := Lib.hid (show ∀ w' x', Chp w w' → Pw W w' g K true (takeS s) x' → Calls Tryz.prog 125 #[pp g, .pointer (some ⟨g, 12, none⟩)] w' (PtSays W w g true (fElse s)) from fun w' x' hc hp => by
   unfold fElse
   rw [fAfter_hit hb.symm]
   have h : Pb W w' g true (takeS s) := ⟨K, x', hp⟩
   exact (word_ h 12 uElse (fun _ _ _ => rfl) (by decide) (fun _ _ => ⟨rfl, rfl, rfl, rfl, rfl⟩)).mono fun e w2 h2 => h2.of hc)
  clear h hb hj
  go_enter Tryz.func97, Tryz.ntmps97
  go_wp2_with fail
  refine con.mono ?_
  clear con
  rintro e w1 ⟨rfl, hc, x', hp⟩
  have con2 := HEND.out w1 x' hc hp
  clear hc hp
  go_wp2_with fail
  refine con2.mono ?_
  clear con2
  rintro e w2 h2
  have HT := Lib.hid h2
  obtain ⟨b, rfl, _⟩ := h2.bool
  clear h2
  go_wp2_with fail
  go_ret
  exact HT.out
theorem takeElse_e : Enters 97 := enters_of Tryz.func97 (by kernel_rfl) rfl
end
end Go.Proofs.YteohlpmojfjjdaaGreat.Book
end
