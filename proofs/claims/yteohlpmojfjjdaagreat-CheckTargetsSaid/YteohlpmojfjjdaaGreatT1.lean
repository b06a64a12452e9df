/-
Texts: VarsPure RegPure NfaPure ChkPure
-/
import Derived.Test.YteohlpmojfjjdaaGreatT0
import Derived.WalkKit
set_option linter.unusedVariables false
set_option linter.unusedSimpArgs false
section
namespace Go.Proofs.YteohlpmojfjjdaaGreat.Vars
open Lex (letter digit within)
abbrev B := BitVec 8
def nameR : List B → Nat
 | [] => 0
 | c :: l => if letter c then 1 + (l.takeWhile within).length else 0
theorem nameR_cons (c : B) (l : List B) : nameR (c :: l) = if letter c then 1 + (l.takeWhile within).length else 0 := rfl
theorem nameR_le : ∀ l : List B, nameR l ≤ l.length
 | [] => Nat.le_refl _
 | c :: l => by
  rw [nameR_cons]
  have := (List.takeWhile_prefix within (l := l)).length_le
  split
  ·simp; omega
  ·simp
def namesR : Nat → Nat → List B → Except Nat (List (List B))
 | 0, _, _ => .ok []
 | _ + 1, _, [] => .ok []
 | f + 1, p, c :: l =>
  if c ≠ 36#8 then namesR f (p + 1) l
  else if nameR l = 0 then match l with
   | [] => .error p
   | d :: m => if d = 36#8 then namesR f (p + 2) m else .error p
  else if 20 < nameR l then .error p
  else match namesR f (p + 1 + nameR l) (l.drop (nameR l)) with
   | .error e => .error e
   | .ok ns => .ok (l.take (nameR l) :: ns)
def nadd (o : List (List B)) : Except Nat (List (List B)) → Except Nat (List (List B))
 | .error e => .error e
 | .ok ts => .ok (o ++ ts)
theorem nadd_nil (r : Except Nat (List (List B))) : nadd [] r = r := by cases r <;> rfl
theorem nadd_nadd (o o' : List (List B)) (r : Except Nat (List (List B))) : nadd o (nadd o' r) = nadd (o ++ o') r := by cases r <;> simp [nadd]
theorem namesR_nil (f p : Nat) : namesR f p [] = .ok [] := by cases f <;> rfl
theorem namesR_plain {f p : Nat} {c : B} {l : List B} (h : c ≠ 36#8) : namesR (f + 1) p (c :: l) = namesR f (p + 1) l := by
 conv => lhs; unfold namesR
 rw [if_pos h]
theorem namesR_none {f p : Nat} (h : nameR ([] : List B) = 0) : namesR (f + 1) p [36#8] = .error p := by unfold namesR; rw [if_neg (by simp), if_pos h]
theorem namesR_two {f p : Nat} {m : List B} : namesR (f + 1) p (36#8 :: 36#8 :: m) = namesR f (p + 2) m := by
 conv => lhs; unfold namesR
 rw [if_neg (by simp), if_pos (by rw [nameR_cons, if_neg (by decide)])]
 dsimp only
 rw [if_pos rfl]
theorem namesR_bad {f p : Nat} {d : B} {m : List B} (h0 : nameR (d :: m) = 0) (hd : d ≠ 36#8) : namesR (f + 1) p (36#8 :: d :: m) = .error p := by
 unfold namesR
 rw [if_neg (by simp), if_pos h0]
 dsimp only
 rw [if_neg hd]
theorem namesR_long {f p : Nat} {l : List B} (h0 : nameR l ≠ 0) (h : 20 < nameR l) : namesR (f + 1) p (36#8 :: l) = .error p := by
 unfold namesR
 rw [if_neg (by simp), if_neg h0, if_pos h]
theorem namesR_go {f p : Nat} {l : List B} (h0 : nameR l ≠ 0) (h : ¬ 20 < nameR l) : namesR (f + 1) p (36#8 :: l) = nadd [l.take (nameR l)] (namesR f (p + 1 + nameR l) (l.drop (nameR l))) := by
 conv => lhs; unfold namesR
 rw [if_neg (by simp), if_neg h0, if_neg h]
 cases namesR f (p + 1 + nameR l) (l.drop (nameR l)) <;> rfl
def names (s : List B) : Except Nat (List (List B)) := namesR (s.length + 1) 0 s
end Go.Proofs.YteohlpmojfjjdaaGreat.Vars
end
section
namespace Go.Proofs.YteohlpmojfjjdaaGreat.Reg
structure Sp where
 a : BitVec 8
 b : BitVec 8
deriving DecidableEq, Inhabited
structure Rop where
 kind : Int
 neg : Bool
 sp : List Sp
deriving DecidableEq, Inhabited
structure Lv where
 hb : Bool
 hp : Bool
deriving DecidableEq, Inhabited
structure St where
 at_ : Nat
 ops : List Rop
 inner : Lv
 outer : List Lv
def named (c : BitVec 8) : Bool := (48 ≤ c.toNat && c.toNat ≤ 57) || (65 ≤ c.toNat && c.toNat ≤ 90) || (97 ≤ c.toNat && c.toNat ≤ 122)
def escB (c : BitVec 8) : Option (BitVec 8) :=
 if c = 110#8 then some 10#8 else if c = 116#8 then some 9#8 else if c = 114#8 then some 13#8 else if named c then none else some c
def classOf (c : BitVec 8) : List Sp :=
 if c = 100#8 then [⟨48#8, 57#8⟩] else if c = 119#8 then [⟨48#8, 57#8⟩, ⟨65#8, 90#8⟩, ⟨95#8, 95#8⟩, ⟨97#8, 122#8⟩] else if c = 115#8 then [⟨9#8, 13#8⟩, ⟨32#8, 32#8⟩] else []
def escS (c : BitVec 8) : List Sp :=
 match classOf c with
 | [] => match escB c with
  | none => []
  | some b => [⟨b, b⟩]
 | l => l
def setByte (s : List (BitVec 8)) (k : Nat) (least : BitVec 8) : Except Nat (BitVec 8 × Nat) :=
 if s[k]? = some 92#8 then
  match s[k + 1]? with
  | none => .error (k + 1)
  | some c => match escB c with
   | none => .error (k + 1)
   | some b => if b.toNat < least.toNat then .error (k + 1) else .ok (b, k + 2)
 else
  match s[k]? with
  | none => .error k
  | some c => if c = 93#8 ∨ c = 45#8 ∨ c = 94#8 ∨ c.toNat < least.toNat then .error k else .ok (c, k + 1)
def item (s : List (BitVec 8)) (k : Nat) : Except Nat (Sp × Nat) :=
 match setByte s k 0#8 with
 | .error e => .error e
 | .ok (a, j) =>
  if s[j]? = some 45#8 then
   match setByte s (j + 1) a with
   | .error e => .error e
   | .ok (b, i) => .ok (⟨a, b⟩, i)
  else .ok (⟨a, a⟩, j)
def itemsF (s : List (BitVec 8)) : Nat → Nat → List Sp → Except Nat (List Sp × Nat)
 | 0, k, acc => .error k
 | n + 1, k, acc =>
  if acc ≠ [] ∧ s[k]? = some 93#8 then .ok (acc, k + 1)
  else match item s k with
   | .error e => .error e
   | .ok (x, j) => itemsF s n j (acc ++ [x])
def items (s : List (BitVec 8)) (k : Nat) (acc : List Sp) : Except Nat (List Sp × Nat) := itemsF s (s.length + 1 - k) k acc
def setR (s : List (BitVec 8)) (k : Nat) : Except Nat (Rop × Nat) :=
 let neg := decide (s[k + 1]? = some 94#8)
 match items s (if neg then k + 2 else k + 1) [] with
 | .error e => .error e
 | .ok (l, j) => .ok (⟨1, neg, l⟩, j)
def escape (s : List (BitVec 8)) (k : Nat) : Except Nat (Rop × Nat) :=
 match s[k + 1]? with
 | none => .error (k + 1)
 | some c => match escS c with
  | [] => .error (k + 1)
  | l => .ok (⟨1, false, l⟩, k + 2)
def atomL (s : List (BitVec 8)) (k : Nat) (c : BitVec 8) : Except Nat (Rop × Nat) :=
 if c = 42#8 ∨ c = 43#8 ∨ c = 63#8 ∨ c = 93#8 then .error k
 else if c = 91#8 then setR s k
 else if c = 92#8 then escape s k
 else if c = 46#8 then .ok (⟨1, true, [⟨10#8, 10#8⟩]⟩, k + 1)
 else .ok (⟨1, false, [⟨c, c⟩]⟩, k + 1)
def one (k : Int) : Rop := ⟨k, false, []⟩
def repet (s : List (BitVec 8)) (k : Nat) : Int :=
 if s[k]? = some 42#8 then 5 else if s[k]? = some 43#8 then 6 else if s[k]? = some 63#8 then 7 else 0
def pieceEnd (s : List (BitVec 8)) (x : St) : St :=
 let r := repet s x.at_
 ⟨if r = 0 then x.at_ else x.at_ + 1, x.ops ++ (if r = 0 then [] else [one r]) ++ (if x.inner.hp then [one 3] else []), ⟨x.inner.hb, true⟩, x.outer⟩
def branchEnd (x : St) : St :=
 ⟨x.at_, x.ops ++ (if x.inner.hp then [] else [one 2]) ++ (if x.inner.hb then [one 4] else []), ⟨true, false⟩, x.outer⟩
def step (s : List (BitVec 8)) (x : St) (c : BitVec 8) : Except (Nat × Nat) St :=
 if c = 40#8 then
  if x.outer.length = 8 then .error (5, x.at_) else .ok ⟨x.at_ + 1, x.ops, ⟨false, false⟩, x.inner :: x.outer⟩
 else if c = 41#8 then
  match x.outer with
  | [] => .error (2, x.at_)
  | l :: K => .ok (pieceEnd s ⟨x.at_ + 1, (branchEnd x).ops, l, K⟩)
 else if c = 124#8 then .ok (branchEnd ⟨x.at_ + 1, x.ops, x.inner, x.outer⟩)
 else match atomL s x.at_ c with
  | .error e => .error (2, e)
  | .ok (o, j) => .ok (pieceEnd s ⟨j, x.ops ++ [o], x.inner, x.outer⟩)
def runF (s : List (BitVec 8)) : Nat → St → Except (Nat × Nat) (List Rop)
 | 0, x => .error (2, x.at_)
 | n + 1, x => match s[x.at_]? with
  | none => if x.outer ≠ [] then .error (2, x.at_) else .ok (branchEnd x).ops
  | some c => match step s x c with
   | .error e => .error e
   | .ok y => runF s n y
def run (s : List (BitVec 8)) (x : St) : Except (Nat × Nat) (List Rop) := runF s (s.length + 1 - x.at_) x
def St0 : St := ⟨0, [], ⟨false, false⟩, []⟩
def parse (s : List (BitVec 8)) : Except (Nat × Nat) (List Rop) := if 80 < s.length then .error (3, 0) else run s St0
theorem get_lt {s : List (BitVec 8)} {k : Nat} {c : BitVec 8} (h : s[k]? = some c) : k < s.length := (List.getElem?_eq_some_iff.1 h).1
theorem setByte_ok {s : List (BitVec 8)} {k : Nat} {least b : BitVec 8} {j : Nat} (h : setByte s k least = .ok (b, j)) : k < j ∧ j ≤ s.length ∧ least.toNat ≤ b.toNat := by
 unfold setByte at h
 split at h
 ·split at h
  ·cases h
  ·rename_i c hc
   split at h
   ·cases h
   ·split at h
    ·cases h
    ·have := get_lt hc
     injection h with h; injection h with h1 h2; subst h1 h2
     omega
 ·split at h
  ·cases h
  ·rename_i c hc
   split at h
   ·cases h
   ·rename_i hn
    have := get_lt hc
    injection h with h; injection h with h1 h2; subst h1 h2
    refine ⟨by omega, by omega, ?_⟩
    have := fun q => hn (.inr (.inr (.inr q)))
    omega
theorem item_ok {s : List (BitVec 8)} {k : Nat} {x : Sp} {j : Nat} (h : item s k = .ok (x, j)) : k < j ∧ j ≤ s.length ∧ x.a.toNat ≤ x.b.toNat := by
 unfold item at h
 split at h
 ·cases h
 ·rename_i a i h1
  have q1 := setByte_ok h1
  split at h
  ·split at h
   ·cases h
   ·rename_i b i2 h2
    have q2 := setByte_ok h2
    injection h with h; injection h with e1 e2; subst e1 e2
    exact ⟨by omega, q2.2.1, q2.2.2⟩
  ·injection h with h; injection h with e1 e2; subst e1 e2
   exact ⟨q1.1, q1.2.1, Nat.le_refl _⟩
theorem itemsF_eq (s : List (BitVec 8)) : ∀ (n m k : Nat) (acc : List Sp), s.length + 1 - k ≤ n → s.length + 1 - k ≤ m → k ≤ s.length → itemsF s n k acc = itemsF s m k acc := by
 intro n
 induction n with
 | zero => intro m k acc h1 _ h3; omega
 | succ n ih =>
  intro m k acc h1 h2 h3
  match m, h2 with
  | 0, h2 => omega
  | m + 1, h2 =>
   unfold itemsF
   split
   ·rfl
   ·split
    ·rfl
    ·rename_i x j hj
     have := item_ok hj
     exact ih m j _ (by omega) (by omega) this.2.1
theorem items_end {s : List (BitVec 8)} {k : Nat} {acc : List Sp} (ha : acc ≠ []) (h : s[k]? = some 93#8) : items s k acc = .ok (acc, k + 1) := by
 have := get_lt h
 unfold items
 rw [show s.length + 1 - k = (s.length - k) + 1 by omega]
 unfold itemsF
 rw [if_pos ⟨ha, h⟩]
theorem items_more {s : List (BitVec 8)} {k : Nat} {acc : List Sp} (hk : k ≤ s.length) (h : ¬ (acc ≠ [] ∧ s[k]? = some 93#8)) :
  items s k acc = match item s k with
   | .error e => .error e
   | .ok (x, j) => items s j (acc ++ [x]) := by
 unfold items
 rw [show s.length + 1 - k = (s.length - k) + 1 by omega]
 rw [itemsF, if_neg h]
 split
 ·rfl
 ·rename_i x j hj
  have := item_ok hj
  exact itemsF_eq s _ _ _ _ (by omega) (by omega) this.2.1
theorem itemsF_ok {s : List (BitVec 8)} : ∀ (n k : Nat) (acc l : List Sp) (j : Nat), itemsF s n k acc = .ok (l, j) → k ≤ s.length → (∀ x ∈ acc, x.a.toNat ≤ x.b.toNat) → k < j ∧ j ≤ s.length ∧ l ≠ [] ∧ l.length + k ≤ acc.length + j ∧ ∀ x ∈ l, x.a.toNat ≤ x.b.toNat := by
 intro n
 induction n with
 | zero => intro k acc l j h; cases h
 | succ n ih =>
  intro k acc l j h hk hacc
  unfold itemsF at h
  split at h
  ·rename_i hc
   have := get_lt hc.2
   injection h with h; injection h with e1 e2; subst e1 e2
   exact ⟨by omega, by omega, hc.1, by omega, hacc⟩
  ·split at h
   ·cases h
   ·rename_i x i hi
    have q := item_ok hi
    have := ih i _ l j h q.2.1 (fun y hy => by
     rcases List.mem_append.1 hy with hy | hy
     ·exact hacc y hy
     ·rw [List.mem_singleton.1 hy]; exact q.2.2)
    rw [List.length_append, List.length_singleton] at this
    exact ⟨by omega, this.2.1, this.2.2.1, by omega, this.2.2.2.2⟩
theorem setR_ok {s : List (BitVec 8)} {k : Nat} {o : Rop} {j : Nat} (h : setR s k = .ok (o, j)) (hk : k < s.length) : k < j ∧ j ≤ s.length ∧ o.kind = 1 ∧ o.sp ≠ [] ∧ o.sp.length ≤ 80 + j := by
 unfold setR at h
 simp only at h
 by_cases hn : s[k + 1]? = some 94#8
 ·have := get_lt hn
  simp only [hn, decide_true, if_true] at h
  split at h
  ·cases h
  ·rename_i l i hi
   have q := itemsF_ok _ _ _ _ _ hi (by omega) (by simp)
   injection h with h; injection h with e1 e2; subst e1 e2
   simp only [List.length_nil] at q
   exact ⟨by omega, q.2.1, rfl, q.2.2.1, by show l.length ≤ _; omega⟩
 ·simp only [hn, decide_false] at h
  split at h
  ·cases h
  ·rename_i l i hi
   have q := itemsF_ok _ _ _ _ _ hi (by simp; omega) (by simp)
   injection h with h; injection h with e1 e2; subst e1 e2
   simp at q
   exact ⟨by omega, q.2.1, rfl, q.2.2.1, by show l.length ≤ _; omega⟩
theorem escape_ok {s : List (BitVec 8)} {k : Nat} {o : Rop} {j : Nat} (h : escape s k = .ok (o, j)) : k < j ∧ j ≤ s.length ∧ o.kind = 1 ∧ o.sp ≠ [] := by
 unfold escape at h
 split at h
 ·cases h
 ·rename_i c hc
  have := get_lt hc
  rcases e : escS c with _ | ⟨x, t⟩ <;> rw [e] at h
  ·cases h
  ·injection h with h; injection h with e1 e2; subst e1 e2
   exact ⟨by omega, by omega, rfl, by simp⟩
theorem atomL_ok {s : List (BitVec 8)} {k : Nat} {c : BitVec 8} {o : Rop} {j : Nat} (h : atomL s k c = .ok (o, j)) (hc : s[k]? = some c) : k < j ∧ j ≤ s.length ∧ o.kind = 1 ∧ o.sp ≠ [] := by
 have hk := get_lt hc
 unfold atomL at h
 split at h
 ·cases h
 ·split at h
  ·have := setR_ok h hk
   exact ⟨this.1, this.2.1, this.2.2.1, this.2.2.2.1⟩
  ·split at h
   ·exact escape_ok h
   ·split at h <;> (injection h with h; injection h with e1 e2; subst e1 e2; exact ⟨by omega, by omega, rfl, by simp⟩)
theorem repet_lt {s : List (BitVec 8)} {k : Nat} (h : repet s k ≠ 0) : k < s.length := by
 unfold repet at h
 split at h
 ·exact get_lt (by assumption)
 ·split at h
  ·exact get_lt (by assumption)
  ·split at h
   ·exact get_lt (by assumption)
   ·exact absurd rfl h
theorem repet_or (s : List (BitVec 8)) (k : Nat) : repet s k = 0 ∨ repet s k = 5 ∨ repet s k = 6 ∨ repet s k = 7 := by
 unfold repet
 split
 ·simp
 ·split
  ·simp
  ·split <;> simp
theorem pieceEnd_at {s : List (BitVec 8)} {x : St} (h : x.at_ ≤ s.length) : x.at_ ≤ (pieceEnd s x).at_ ∧ (pieceEnd s x).at_ ≤ s.length := by
 show x.at_ ≤ (if repet s x.at_ = 0 then x.at_ else x.at_ + 1) ∧ (if repet s x.at_ = 0 then x.at_ else x.at_ + 1) ≤ _
 split
 ·exact ⟨Nat.le_refl _, h⟩
 ·have := repet_lt (by assumption)
  omega
theorem step_at {s : List (BitVec 8)} {x y : St} {c : BitVec 8} (h : step s x c = .ok y) (hc : s[x.at_]? = some c) : x.at_ < y.at_ ∧ y.at_ ≤ s.length := by
 have hk := get_lt hc
 unfold step at h
 split at h
 ·split at h
  ·cases h
  ·injection h with h; subst h; exact ⟨Nat.lt_succ_self _, hk⟩
 ·split at h
  ·split at h
   ·cases h
   ·injection h with h; subst h
    have := pieceEnd_at (s := s) (x := ⟨x.at_ + 1, (branchEnd x).ops, ‹_›, ‹_›⟩) hk
    exact ⟨Nat.lt_of_lt_of_le (Nat.lt_succ_self _) this.1, this.2⟩
  ·split at h
   ·injection h with h; subst h; exact ⟨Nat.lt_succ_self _, hk⟩
   ·split at h
    ·cases h
    ·rename_i o j hj
     have q := atomL_ok hj hc
     injection h with h; subst h
     have := pieceEnd_at (s := s) (x := ⟨j, x.ops ++ [o], x.inner, x.outer⟩) q.2.1
     exact ⟨Nat.lt_of_lt_of_le q.1 this.1, this.2⟩
theorem runF_eq (s : List (BitVec 8)) : ∀ (n m : Nat) (x : St), s.length + 1 - x.at_ ≤ n → s.length + 1 - x.at_ ≤ m → x.at_ ≤ s.length → runF s n x = runF s m x := by
 intro n
 induction n with
 | zero => intro m x h1 _ h3; omega
 | succ n ih =>
  intro m x h1 h2 h3
  match m, h2 with
  | 0, h2 => omega
  | m + 1, h2 =>
   unfold runF
   split
   ·rfl
   ·rename_i c hc
    split
    ·rfl
    ·rename_i y hy
     have := step_at hy hc
     exact ih m y (by omega) (by omega) this.2
theorem run_end {s : List (BitVec 8)} {x : St} (hx : x.at_ = s.length) : run s x = if x.outer ≠ [] then .error (2, x.at_) else .ok (branchEnd x).ops := by
 unfold run
 rw [show s.length + 1 - x.at_ = 0 + 1 by omega, runF, List.getElem?_eq_none (by omega)]
theorem run_step {s : List (BitVec 8)} {x : St} {c : BitVec 8} (hc : s[x.at_]? = some c) :
  run s x = match step s x c with
   | .error e => .error e
   | .ok y => run s y := by
 have hk := get_lt hc
 unfold run
 rw [show s.length + 1 - x.at_ = (s.length - x.at_) + 1 by omega, runF, hc]
 simp only
 split
 ·rfl
 ·rename_i y hy
  have := step_at hy hc
  exact runF_eq s _ _ _ (by omega) (by omega) this.2
/-! What ops do with a pile. -/
def takes (k : Int) : Option Nat := if k = 1 ∨ k = 2 then some 0 else if k = 3 ∨ k = 4 then some 2 else if k = 5 ∨ k = 6 ∨ k = 7 then some 1 else none
def does (n : Nat) (k : Int) : Option Nat := match takes k with
 | none => none
 | some t => if n < t then none else some (n - t + 1)
def piled (n : Nat) : List Rop → Option Nat
 | [] => some n
 | o :: l => match does n o.kind with
  | none => none
  | some m => piled m l
theorem piled_append (l m : List Rop) : ∀ n, piled n (l ++ m) = match piled n l with
  | none => none
  | some k => piled k m := by
 induction l with
 | nil => intro n; rfl
 | cons o l ih =>
  intro n
  show (match does n o.kind with | none => none | some k => piled k (l ++ m)) = match (match does n o.kind with | none => none | some k => piled k l) with | none => none | some k => piled k m
  split
  ·rfl
  ·exact ih _
theorem piled_one {l : List Rop} {n k : Nat} (o : Rop) (h : piled n l = some k) : piled n (l ++ [o]) = does k o.kind := by
 rw [piled_append, h]
 show (match does k o.kind with | none => none | some m => some m) = _
 cases does k o.kind <;> rfl
def weight (k : Int) : Nat := if k = 4 ∨ k = 5 then 2 else if k = 1 ∨ k = 6 ∨ k = 7 then 1 else 0
def heavy (l : List Rop) : Nat := (l.map fun o => weight o.kind).sum
theorem heavy_append (l m : List Rop) : heavy (l ++ m) = heavy l + heavy m := by simp [heavy]
theorem heavy_one (o : Rop) : heavy [o] = weight o.kind := by simp [heavy]
def Lv.n (l : Lv) : Nat := (if l.hb then 1 else 0) + (if l.hp then 1 else 0)
def lvs (L : List Lv) : Nat := (L.map Lv.n).sum
def hbs (L : List Lv) : Nat := (L.map fun l => if l.hb then 1 else 0).sum
theorem lvs_cons (l : Lv) (L : List Lv) : lvs (l :: L) = l.n + lvs L := by simp [lvs]
theorem hbs_cons (l : Lv) (L : List Lv) : hbs (l :: L) = (if l.hb then 1 else 0) + hbs L := by simp [hbs]
structure Good (x : St) : Prop where
 pile : piled 0 x.ops = some (lvs (x.inner :: x.outer))
 few : heavy x.ops + 2 * hbs (x.inner :: x.outer) ≤ 2 * x.at_
 spans : ∀ o ∈ x.ops, (o.kind = 1 ↔ o.sp ≠ [])
theorem Good.zero : Good St0 := ⟨rfl, by decide, by simp [St0]⟩
theorem spans_one {l : List Rop} {k : Int} (h : ∀ o ∈ l, (o.kind = 1 ↔ o.sp ≠ [])) (hk : k ≠ 1) : ∀ o ∈ l ++ [one k], (o.kind = 1 ↔ o.sp ≠ []) := by
 intro o ho
 rcases List.mem_append.1 ho with ho | ho
 ·exact h o ho
 ·rw [List.mem_singleton.1 ho]; simp [one, hk]
theorem Good.piece {s : List (BitVec 8)} {k : Nat} {ops : List Rop} {l : Lv} {K : List Lv} (hp : piled 0 ops = some (1 + lvs (l :: K))) (hf : heavy ops + 2 * hbs (l :: K) ≤ 2 * k) (hs : ∀ o ∈ ops, (o.kind = 1 ↔ o.sp ≠ [])) : Good (pieceEnd s ⟨k, ops, l, K⟩) := by
 have key : ∀ (r : Int) (ops' : List Rop), ops' = ops ++ (if r = 0 then [] else [one r]) → (r = 0 ∨ r = 5 ∨ r = 6 ∨ r = 7) →
   piled 0 ops' = some (1 + lvs (l :: K)) ∧ heavy ops' + 2 * hbs (l :: K) ≤ 2 * (if r = 0 then k else k + 1) ∧ ∀ o ∈ ops', (o.kind = 1 ↔ o.sp ≠ []) := by
  intro r ops' e hr
  subst e
  rcases hr with rfl | rfl | rfl | rfl
  ·rw [if_pos rfl, List.append_nil]; exact ⟨hp, hf, hs⟩
  all_goals
   rw [if_neg (by decide), if_neg (by decide)]
   refine ⟨?_, ?_, spans_one hs (by decide)⟩
   ·rw [piled_one _ hp]
    show (if 1 + lvs (l :: K) < 1 then none else some (1 + lvs (l :: K) - 1 + 1)) = _
    rw [if_neg (by omega)]
    congr 1
    omega
   ·rw [heavy_append, heavy_one]
    simp only [one, weight]
    simp
    omega
 obtain ⟨h1, h2, h3⟩ := key (repet s k) _ rfl (repet_or s k)
 obtain ⟨hb, hpc⟩ := l
 have e : pieceEnd s ⟨k, ops, ⟨hb, hpc⟩, K⟩ = ⟨if repet s k = 0 then k else k + 1, ops ++ (if repet s k = 0 then [] else [one (repet s k)]) ++ (if hpc then [one 3] else []), ⟨hb, true⟩, K⟩ := rfl
 rw [e]
 generalize ops ++ (if repet s k = 0 then [] else [one (repet s k)]) = ops' at *
 generalize (if repet s k = 0 then k else k + 1) = k' at *
 rw [lvs_cons] at h1
 rw [hbs_cons] at h2
 cases hpc with
 | false =>
  refine ⟨?_, ?_, ?_⟩
  ·show piled 0 (ops' ++ []) = _
   rw [List.append_nil, h1, lvs_cons]
   congr 1
   cases hb <;> simp [Lv.n] <;> omega
  ·show heavy (ops' ++ []) + 2 * hbs (⟨hb, true⟩ :: K) ≤ 2 * k'
   rw [List.append_nil, hbs_cons]
   exact h2
  ·show ∀ o ∈ ops' ++ [], _
   rw [List.append_nil]; exact h3
 | true =>
  refine ⟨?_, ?_, ?_⟩
  ·show piled 0 (ops' ++ [one 3]) = some (lvs (⟨hb, true⟩ :: K))
   rw [piled_one _ h1, lvs_cons]
   show (if _ < 2 then none else some _) = _
   have : 1 ≤ Lv.n ⟨hb, true⟩ := by cases hb <;> simp [Lv.n]
   rw [if_neg (by omega)]
   congr 1
   omega
  ·show heavy (ops' ++ [one 3]) + 2 * hbs (⟨hb, true⟩ :: K) ≤ 2 * k'
   rw [heavy_append, heavy_one, hbs_cons]
   exact h2
  ·exact spans_one h3 (by decide)
theorem Good.branch {x : St} (h : Good x) : piled 0 (branchEnd x).ops = some (1 + lvs x.outer) ∧ heavy (branchEnd x).ops + 2 * hbs x.outer ≤ 2 * x.at_ ∧ ∀ o ∈ (branchEnd x).ops, (o.kind = 1 ↔ o.sp ≠ []) := by
 obtain ⟨k, ops, ⟨hb, hp⟩, K⟩ := x
 obtain ⟨h1, h2, h3⟩ := h
 simp only at h1 h2 h3
 show piled 0 (ops ++ (if hp then [] else [one 2]) ++ (if hb then [one 4] else [])) = some (1 + lvs K) ∧ heavy (ops ++ (if hp then [] else [one 2]) ++ (if hb then [one 4] else [])) + 2 * hbs K ≤ 2 * k ∧ ∀ o ∈ ops ++ (if hp then [] else [one 2]) ++ (if hb then [one 4] else []), _
 rw [lvs_cons] at h1
 rw [hbs_cons] at h2
 have key : ∀ ops' : List Rop, ops' = ops ++ (if hp then [] else [one 2]) → piled 0 ops' = some ((if hb then 1 else 0) + 1 + lvs K) ∧ heavy ops' = heavy ops ∧ ∀ o ∈ ops', (o.kind = 1 ↔ o.sp ≠ []) := by
  intro ops' e
  subst e
  cases hp with
  | true =>
   have e : ops ++ (if true = true then [] else [one 2]) = ops := List.append_nil _
   rw [e]
   exact ⟨h1, rfl, h3⟩
  | false =>
   refine ⟨?_, ?_, spans_one h3 (by decide)⟩
   ·show piled 0 (ops ++ [one 2]) = _
    rw [piled_one _ h1]
    show some (Lv.n ⟨hb, false⟩ + lvs K - 0 + 1) = _
    congr 1
    cases hb <;> simp [Lv.n] <;> omega
   ·show heavy (ops ++ [one 2]) = _
    rw [heavy_append, heavy_one]; rfl
 obtain ⟨q1, q2, q3⟩ := key _ rfl
 generalize ops ++ (if hp then [] else [one 2]) = ops' at *
 cases hb with
 | false =>
  simp only [Bool.false_eq_true, if_false, List.append_nil] at *
  exact ⟨by first | exact q1 | (rw [q1]; congr 1; omega), by omega, q3⟩
 | true =>
  simp only [if_true] at *
  refine ⟨?_, ?_, spans_one q3 (by decide)⟩
  ·rw [piled_one _ q1]
   show (if _ < 2 then none else some _) = _
   rw [if_neg (by omega)]
   congr 1
   omega
  ·rw [heavy_append, heavy_one, q2]
   show heavy ops + 2 + _ ≤ _
   omega
theorem Good.step {s : List (BitVec 8)} {x y : St} {c : BitVec 8} (h : Good x) (hc : s[x.at_]? = some c) (hs : step s x c = .ok y) : Good y := by
 unfold Reg.step at hs
 split at hs
 ·split at hs
  ·cases hs
  ·injection hs with hs; subst hs
   refine ⟨?_, ?_, h.spans⟩
   ·show piled 0 x.ops = some (lvs (⟨false, false⟩ :: x.inner :: x.outer))
    rw [h.pile, lvs_cons ⟨false, false⟩]
    simp [Lv.n]
   ·show heavy x.ops + 2 * hbs (⟨false, false⟩ :: x.inner :: x.outer) ≤ 2 * (x.at_ + 1)
    rw [hbs_cons ⟨false, false⟩]
    have := h.few
    simp
    omega
 ·have hb := h.branch
  split at hs
  ·split at hs
   ·cases hs
   ·rename_i l K hK
    injection hs with hs; subst hs
    rw [hK] at hb
    exact Good.piece hb.1 (by have := hb.2.1; omega) hb.2.2
  ·split at hs
   ·injection hs with hs; subst hs
    refine ⟨?_, ?_, hb.2.2⟩
    ·show piled 0 (branchEnd x).ops = some (lvs (⟨true, false⟩ :: x.outer))
     rw [hb.1, lvs_cons]
     rfl
    ·show heavy (branchEnd x).ops + 2 * hbs (⟨true, false⟩ :: x.outer) ≤ 2 * (x.at_ + 1)
     rw [hbs_cons]
     have := hb.2.1
     simp
     omega
   ·split at hs
    ·cases hs
    ·rename_i o j hj
     have q := atomL_ok hj hc
     injection hs with hs; subst hs
     refine Good.piece ?_ ?_ ?_
     ·rw [piled_one _ h.pile, q.2.2.1]
      show (if lvs (x.inner :: x.outer) < 0 then none else some (lvs (x.inner :: x.outer) - 0 + 1)) = _
      rw [if_neg (by omega)]
      congr 1
      omega
     ·rw [heavy_append, heavy_one, q.2.2.1]
      have := h.few
      show _ + 1 + _ ≤ _
      omega
     ·intro o' ho
      rcases List.mem_append.1 ho with ho | ho
      ·exact h.spans o' ho
      ·rw [List.mem_singleton.1 ho]
       exact ⟨fun _ => q.2.2.2, fun _ => q.2.2.1⟩
theorem Good.run {s : List (BitVec 8)} : ∀ (n : Nat) (x : St) (l : List Rop), Good x → x.at_ ≤ s.length → runF s n x = .ok l → piled 0 l = some 1 ∧ heavy l ≤ 2 * s.length ∧ ∀ o ∈ l, (o.kind = 1 ↔ o.sp ≠ []) := by
 intro n
 induction n with
 | zero => intro x l _ _ h; cases h
 | succ n ih =>
  intro x l hx hk h
  unfold runF at h
  split at h
  ·split at h
   ·cases h
   ·rename_i ho
    have ho' : x.outer = [] := by
     rcases e : x.outer with _ | ⟨a, b⟩
     ·rfl
     ·exact absurd (by rw [e]; simp) ho
    injection h with h; subst h
    have q := hx.branch
    rw [ho'] at q
    exact ⟨q.1, by have := q.2.1; simp [hbs] at this; omega, q.2.2⟩
  ·rename_i c hc
   split at h
   ·cases h
   ·rename_i y hy
    have := step_at hy hc
    exact ih y l (hx.step hc hy) this.2 h
theorem parse_good {s : List (BitVec 8)} {l : List Rop} (h : parse s = .ok l) : s.length ≤ 80 ∧ piled 0 l = some 1 ∧ heavy l ≤ 2 * s.length ∧ ∀ o ∈ l, (o.kind = 1 ↔ o.sp ≠ []) := by
 unfold parse at h
 split at h
 ·cases h
 ·exact ⟨by omega, Good.run _ _ _ Good.zero (Nat.zero_le _) h⟩
end Go.Proofs.YteohlpmojfjjdaaGreat.Reg
end
section
namespace Go.Proofs.YteohlpmojfjjdaaGreat.Nfa
open Reg (Sp Rop takes does piled weight heavy)
structure In where
 kind : Int
 x : Int
 y : Int
 neg : Bool
 sp : List Sp
deriving DecidableEq, Inhabited
def oneI (o : Rop) : In := ⟨1, 0, 0, o.neg, o.sp⟩
def two (x y : Int) : In := ⟨2, x, y, false, []⟩
def go (x : Int) : In := ⟨3, x, 0, false, []⟩
def doneI : In := ⟨4, 0, 0, false, []⟩
def altOf (a b : List In) : List In := two 1 (a.length + 2) :: (a ++ go (b.length + 1) :: b)
def starOf (a : List In) : List In := two 1 (a.length + 2) :: (a ++ [go (-a.length - 1)])
def plusOf (a : List In) : List In := a ++ [two (-a.length) 1]
def optOf (a : List In) : List In := two 1 (a.length + 1) :: a
def opS (o : Rop) (p : List (List In)) : Option (List (List In)) :=
 if o.kind = 1 then some ([oneI o] :: p)
 else if o.kind = 2 then some ([] :: p)
 else if o.kind = 3 then match p with
  | b :: a :: q => some ((a ++ b) :: q)
  | _ => none
 else if o.kind = 4 then match p with
  | b :: a :: q => some (altOf a b :: q)
  | _ => none
 else if o.kind = 5 then match p with
  | a :: q => some (starOf a :: q)
  | _ => none
 else if o.kind = 6 then match p with
  | a :: q => some (plusOf a :: q)
  | _ => none
 else if o.kind = 7 then match p with
  | a :: q => some (optOf a :: q)
  | _ => none
 else none
def sem (p : List (List In)) : List Rop → Option (List (List In))
 | [] => some p
 | o :: l => match opS o p with
  | none => none
  | some q => sem q l
def build (l : List Rop) : Except Nat (List In) :=
 match sem [] l with
 | some [a] => if 200 < a.length + 1 then .error 3 else .ok (a ++ [doneI])
 | _ => .error 1
def lens (p : List (List In)) : Nat := (p.map List.length).sum
theorem lens_cons (a : List In) (p : List (List In)) : lens (a :: p) = a.length + lens p := by simp [lens]
/-! Where instructions go on (P9.2). -/
end Go.Proofs.YteohlpmojfjjdaaGreat.Nfa
end
section
namespace Go.Proofs.YteohlpmojfjjdaaGreat.Chk
abbrev B := BitVec 8
structure GArm where
 at_ : Int
 pat : List B
 as_ : List B
 go : List B
structure GStep where
 at_ : Int
 name : List B
 tag : Int
 sends : Bool
 send : List B
 arms : List GArm
 time : Int
 try_ : Int
 els : List B
structure GBook where
 most : Int
 steps : List GStep
def gArm (a : Book.Arm) : GArm := ⟨a.at_, a.pat, a.as_, a.go⟩
def gStep (s : Book.Step) : GStep := ⟨s.at_, s.name, s.tag, s.sends, s.send, s.arms.map gArm, s.time, s.try_, s.els⟩
def gBook (b : Book.Book) : GBook := ⟨b.most, b.steps.map gStep⟩
structure CArm where
 pat : List B
 var : Int
 to : Int
structure CStep where
 name : List B
 tag : Int
 send : List B
 arms : List CArm
 time : Int
 try_ : Int
 els : Int
structure CBook where
 steps : List CStep
 vars : List (List B)
 most : Int
def atF : List (List B) → List B → Nat → Int
 | [], _, _ => -1
 | x :: l, n, i => if x = n then (i : Int) else atF l n (i + 1)
def atOf (l : List (List B)) (n : List B) : Int := atF l n 0
def varA (o : List (List B)) (a : GArm) : List (List B) := if a.as_ ≠ [] ∧ atOf o a.as_ < 0 then o ++ [a.as_] else o
def varS (o : List (List B)) (s : GStep) : List (List B) := s.arms.foldl varA o
def varsOf (b : GBook) : List (List B) := b.steps.foldl varS []
def wDone : List B := [100#8, 111#8, 110#8, 101#8]
def wFail : List B := [102#8, 97#8, 105#8, 108#8]
def wDoubt : List B := [100#8, 111#8, 117#8, 98#8, 116#8]
def tgF : List GStep → List B → Nat → Int × Bool
 | [], _, _ => (0, false)
 | s :: l, n, i => if s.name = n then ((i : Int), true) else tgF l n (i + 1)
def target (b : GBook) (n : List B) : Int × Bool := if n = wDone then (-1, true) else if n = wFail then (-2, true) else if n = wDoubt then (-3, true) else tgF b.steps n 0
def numsBad (s : GStep) : Bool := decide (s.tag < 0) || decide (2 < s.tag) || (s.sends && decide (s.tag = 0)) || (!s.sends && !decide (s.tag = 0)) || (decide (s.tag = 1) && !decide (s.try_ = 0)) || decide (s.time < 1) || decide (100 < s.time) || decide (s.try_ < 0) || decide (5 < s.try_)
def stepBad (b : GBook) (i : Nat) (s : GStep) : Int :=
 if 30 ≤ i then 3
 else if (target b s.name).1 ≠ (i : Int) then 6
 else if numsBad s then 1
 else match Vars.names s.send with
  | .error _ => 2
  | .ok l => if l.any (fun n => decide (atOf (varsOf b) n < 0)) then 9 else if (target b s.els).2 then 0 else 9
def armBad (b : GBook) (k : Nat) (a : GArm) : Int :=
 if 6 ≤ k then 3
 else match Reg.parse a.pat with
  | .error (bad, _) => (bad : Int)
  | .ok ops => match Nfa.build ops with
   | .error bad => (bad : Int)
   | .ok _ => if 8 ≤ atOf (varsOf b) a.as_ then 3 else if (target b a.go).2 then 0 else 9
def armsBad (b : GBook) : Nat → List GArm → Int × Int
 | _, [] => (0, 0)
 | k, a :: l => if armBad b k a ≠ 0 then (armBad b k a, a.at_) else armsBad b (k + 1) l
def stepsBad (b : GBook) : Nat → List GStep → Int × Int
 | _, [] => (0, 0)
 | i, s :: l => if stepBad b i s ≠ 0 then (stepBad b i s, s.at_) else if (armsBad b 0 s.arms).1 ≠ 0 then armsBad b 0 s.arms else stepsBad b (i + 1) l
def check (b : GBook) : Int × Int := if b.steps = [] then (4, 0) else if b.most < 1 ∨ 1000 < b.most then (1, 0) else stepsBad b 0 b.steps
def cArm (b : GBook) (a : GArm) : CArm := ⟨a.pat, atOf (varsOf b) a.as_, (target b a.go).1⟩
def cStep (b : GBook) (s : GStep) : CStep := ⟨s.name, s.tag, s.send, s.arms.map (cArm b), s.time, s.try_, (target b s.els).1⟩
def compile (b : GBook) : Except (Int × Int) CBook := if (check b).1 ≠ 0 then .error (check b) else .ok ⟨b.steps.map (cStep b), varsOf b, b.most⟩
theorem atF_hit {x n : List B} {l : List (List B)} {i : Nat} (h : x = n) : atF (x :: l) n i = (i : Int) := by unfold atF; rw [if_pos h]
theorem atF_miss {x n : List B} {l : List (List B)} {i : Nat} (h : x ≠ n) : atF (x :: l) n i = atF l n (i + 1) := by
 conv => lhs; unfold atF
 rw [if_neg h]
theorem tgF_hit {s : GStep} {n : List B} {l : List GStep} {i : Nat} (h : s.name = n) : tgF (s :: l) n i = ((i : Int), true) := by unfold tgF; rw [if_pos h]
theorem tgF_miss {s : GStep} {n : List B} {l : List GStep} {i : Nat} (h : s.name ≠ n) : tgF (s :: l) n i = tgF l n (i + 1) := by
 conv => lhs; unfold tgF
 rw [if_neg h]
theorem atF_ge (l : List (List B)) (n : List B) : ∀ i, -1 ≤ atF l n i := by
 induction l with
 | nil => intro i; exact Int.le_refl _
 | cons x l ih =>
  intro i
  unfold atF
  split
  ·omega
  ·exact ih _
theorem atF_lt (l : List (List B)) (n : List B) : ∀ i, atF l n i < ((i + l.length : Nat) : Int) := by
 induction l with
 | nil => intro i; unfold atF; omega
 | cons x l ih =>
  intro i
  unfold atF
  have := ih (i + 1)
  split
  ·simp; omega
  ·simp at this ⊢; omega
theorem atOf_lt (l : List (List B)) (n : List B) : atOf l n < (l.length : Int) := by have := atF_lt l n 0; unfold atOf; simpa using this
theorem tgF_ok (n : List B) : ∀ (l : List GStep) (i : Nat), (tgF l n i).2 = true → (i : Int) ≤ (tgF l n i).1 ∧ (tgF l n i).1 < ((i + l.length : Nat) : Int)
 | [], i, h => by cases h
 | s :: l, i, h => by
  unfold tgF at h ⊢
  split
  ·simp; omega
  ·rename_i hn
   rw [if_neg hn] at h
   have := tgF_ok n l (i + 1) h
   simp at this ⊢; omega
theorem target_ok {b : GBook} {n : List B} (h : (target b n).2 = true) : -3 ≤ (target b n).1 ∧ (target b n).1 < (b.steps.length : Int) ∨ (target b n).1 < 0 ∧ -3 ≤ (target b n).1 := by
 unfold target at h ⊢
 split
 ·right; decide
 ·split
  ·right; decide
  ·split
   ·right; decide
   ·rename_i h1 h2 h3
    rw [if_neg h1, if_neg h2, if_neg h3] at h
    have := tgF_ok n b.steps 0 h
    left; simp at this; omega
end Go.Proofs.YteohlpmojfjjdaaGreat.Chk
end
