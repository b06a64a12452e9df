/-
  Layer 9 (nfa) by the document: the instructions of ops, with a pile of sequences (P9.1), and where they go on (P9.2).
-/
import Derived.Test.YtjpbndpfbdfhjaaMRegPure
namespace Go.Proofs.Ytjpbndpfbdfhjaa.Nfa
open Go.Proofs.Ytjpbndpfbdfhjaa.Reg (Sp Rop takes does piled weight heavy)
set_option linter.unusedVariables false
set_option linter.unusedSimpArgs false

/-- An instruction. -/
structure In where
  kind : Int
  x : Int
  y : Int
  neg : Bool
  sp : List Sp
deriving DecidableEq, Inhabited
def oneI (o : Rop) : In := ⟨1, 0, 0, o.neg, o.sp⟩
def two (x y : Int) : In := ⟨2, x, y, false, []⟩
def go (x : Int) : In := ⟨3, x, 0, false, []⟩
def doneI : In := ⟨4, 0, 0, false, []⟩
def altOf (a b : List In) : List In := two 1 (a.length + 2) :: (a ++ go (b.length + 1) :: b)
def starOf (a : List In) : List In := two 1 (a.length + 2) :: (a ++ [go (-a.length - 1)])
def plusOf (a : List In) : List In := a ++ [two (-a.length) 1]
def optOf (a : List In) : List In := two 1 (a.length + 1) :: a
/-- What an op does with the pile, the last sequence first; none: it can't be done. -/
def opS (o : Rop) (p : List (List In)) : Option (List (List In)) :=
  if o.kind = 1 then some ([oneI o] :: p)
  else if o.kind = 2 then some ([] :: p)
  else if o.kind = 3 then match p with
    | b :: a :: q => some ((a ++ b) :: q)
    | _ => none
  else if o.kind = 4 then match p with
    | b :: a :: q => some (altOf a b :: q)
    | _ => none
  else if o.kind = 5 then match p with
    | a :: q => some (starOf a :: q)
    | _ => none
  else if o.kind = 6 then match p with
    | a :: q => some (plusOf a :: q)
    | _ => none
  else if o.kind = 7 then match p with
    | a :: q => some (optOf a :: q)
    | _ => none
  else none
def sem (p : List (List In)) : List Rop → Option (List (List In))
  | [] => some p
  | o :: l => match opS o p with
    | none => none
    | some q => sem q l
theorem sem_append (l m : List Rop) : ∀ p, sem p (l ++ m) = match sem p l with
    | none => none
    | some q => sem q m := by
  induction l with
  | nil => intro p; rfl
  | cons o l ih =>
    intro p
    show (match opS o p with | none => none | some q => sem q (l ++ m)) = match (match opS o p with | none => none | some q => sem q l) with | none => none | some q => sem q m
    split
    · rfl
    · exact ih _
theorem sem_snoc {l : List Rop} {p q : List (List In)} (o : Rop) (h : sem p l = some q) : sem p (l ++ [o]) = opS o q := by
  rw [sem_append, h]
  show (match opS o q with | none => none | some r => some r) = _
  cases opS o q <;> rfl
/-- P9.1: the instructions of ops, or an error's number. -/
def build (l : List Rop) : Except Nat (List In) :=
  match sem [] l with
  | some [a] => if 200 < a.length + 1 then .error 3 else .ok (a ++ [doneI])
  | _ => .error 1
def lens (p : List (List In)) : Nat := (p.map List.length).sum
theorem lens_cons (a : List In) (p : List (List In)) : lens (a :: p) = a.length + lens p := by simp [lens]

/-- An op with its pile: how many sequences there are then, and how many instructions. -/
theorem opS_piled (o : Rop) (p : List (List In)) : match opS o p with
    | none => does p.length o.kind = none
    | some q => does p.length o.kind = some q.length ∧ lens q = lens p + weight o.kind := by
  unfold opS does takes weight
  by_cases h1 : o.kind = 1
  · simp [h1, lens_cons]; omega
  by_cases h2 : o.kind = 2
  · simp [h2, lens_cons]
  by_cases h3 : o.kind = 3
  · rcases p with _ | ⟨b, _ | ⟨a, q⟩⟩ <;> simp [h3, lens_cons] <;> omega
  by_cases h4 : o.kind = 4
  · rcases p with _ | ⟨b, _ | ⟨a, q⟩⟩ <;> simp [h4, lens_cons, altOf] <;> omega
  by_cases h5 : o.kind = 5
  · rcases p with _ | ⟨a, q⟩ <;> simp [h5, lens_cons, starOf] <;> omega
  by_cases h6 : o.kind = 6
  · rcases p with _ | ⟨a, q⟩ <;> simp [h6, lens_cons, plusOf] <;> omega
  by_cases h7 : o.kind = 7
  · rcases p with _ | ⟨a, q⟩ <;> simp [h7, lens_cons, optOf] <;> omega
  simp [h1, h2, h3, h4, h5, h6, h7]
theorem sem_piled (l : List Rop) : ∀ p, match sem p l with
    | none => piled p.length l = none
    | some q => piled p.length l = some q.length ∧ lens q = lens p + heavy l := by
  induction l with
  | nil => intro p; exact ⟨rfl, rfl⟩
  | cons o l ih =>
    intro p
    have h := opS_piled o p
    show match (match opS o p with | none => none | some q => sem q l) with | none => (match does p.length o.kind with | none => none | some m => piled m l) = none | some q => (match does p.length o.kind with | none => none | some m => piled m l) = some q.length ∧ lens q = lens p + heavy (o :: l)
    split at h
    · rw [h]
    · rename_i q e
      rw [h.1]
      have h2 := ih q
      simp only
      split at h2
      · rename_i e2; rw [e2]; exact h2
      · rename_i r e2
        rw [e2]
        exact ⟨h2.1, by rw [h2.2, h.2]; simp [heavy]; omega⟩
theorem sem_some {l : List Rop} {p q : List (List In)} (h : sem p l = some q) : piled p.length l = some q.length ∧ lens q = lens p + heavy l := by
  have := sem_piled l p
  rw [h] at this
  exact this
theorem sem_none {l : List Rop} {p : List (List In)} (h : sem p l = none) : piled p.length l = none := by
  have := sem_piled l p
  rw [h] at this
  exact this
/-- Ops that leave one value: their one sequence. -/
theorem sem_one {l : List Rop} (h : piled 0 l = some 1) : ∃ a, sem [] l = some [a] ∧ a.length = heavy l := by
  have := sem_piled l []
  split at this
  · rw [show piled 0 l = none from this] at h; cases h
  · rename_i q e
    have e2 : (some q.length : Option Nat) = some 1 := this.1.symm.trans h
    injection e2 with e2
    rcases q with _ | ⟨a, _ | ⟨b, q⟩⟩
    · cases e2
    · exact ⟨a, e, by have := this.2; simp [lens] at this; omega⟩
    · simp at e2
theorem build_may (l : List Rop) : build l = if piled 0 l = some 1 then (match sem [] l with | some [a] => if 200 < heavy l + 1 then .error 3 else .ok (a ++ [doneI]) | _ => .error 1) else .error 1 := by
  unfold build
  by_cases h : piled 0 l = some 1
  · obtain ⟨a, e, ha⟩ := sem_one h
    rw [if_pos h, e]
    simp only [ha]
  · rw [if_neg h]
    split
    · rename_i a e
      exact absurd (sem_some e).1 h
    · rfl

/-! Where instructions go on (P9.2). -/

/-- Each Two and Go of a sequence goes on at a place in it, or behind it; none is Done. -/
def Stays (a : List In) : Prop := ∀ (i : Nat) (x : In), a[i]? = some x →
  (x.kind = 1 ∨ x.kind = 2 ∨ x.kind = 3) ∧ (x.kind = 2 ∨ x.kind = 3 → 0 ≤ (i : Int) + x.x ∧ (i : Int) + x.x ≤ a.length) ∧ (x.kind = 2 → 0 ≤ (i : Int) + x.y ∧ (i : Int) + x.y ≤ a.length)
theorem Stays.nil : Stays [] := by intro i x h; simp at h
theorem Stays.one (o : Rop) : Stays [oneI o] := by
  intro i x h
  rcases i with _ | i
  · simp at h; subst h; simp [oneI]
  · simp at h
/-- A sequence between others. -/
theorem Stays.mid {a b c : List In} {i : Nat} {x : In} (ha : Stays a) (h : a[i]? = some x) (n : Nat) (hn : n + a.length ≤ c.length) :
    (x.kind = 1 ∨ x.kind = 2 ∨ x.kind = 3) ∧ (x.kind = 2 ∨ x.kind = 3 → 0 ≤ ((n + i : Nat) : Int) + x.x ∧ ((n + i : Nat) : Int) + x.x ≤ c.length) ∧ (x.kind = 2 → 0 ≤ ((n + i : Nat) : Int) + x.y ∧ ((n + i : Nat) : Int) + x.y ≤ c.length) := by
  obtain ⟨h1, h2, h3⟩ := ha i x h
  refine ⟨h1, fun q => ?_, fun q => ?_⟩
  · have := h2 q; omega
  · have := h3 q; omega
theorem Stays.cat {a b : List In} (ha : Stays a) (hb : Stays b) : Stays (a ++ b) := by
  intro i x h
  by_cases hi : i < a.length
  · rw [List.getElem?_append_left hi] at h
    have := ha.mid (b := b) (c := a ++ b) h 0 (by simp)
    rw [Nat.zero_add] at this; exact this
  · rw [List.getElem?_append_right (by omega)] at h
    have := hb.mid (b := b) (c := a ++ b) h a.length (by simp)
    rw [show a.length + (i - a.length) = i by omega] at this; exact this
theorem Stays.alt {a b : List In} (ha : Stays a) (hb : Stays b) : Stays (altOf a b) := by
  have hl : (altOf a b).length = a.length + b.length + 2 := by simp [altOf]; omega
  intro i x h
  rcases i with _ | i
  · have e : two 1 (a.length + 2) = x := by simpa [altOf] using h
    subst e
    rw [hl]
    simp [two]; omega
  · have h : (a ++ go (b.length + 1) :: b)[i]? = some x := by simpa [altOf] using h
    by_cases hi : i < a.length
    · rw [List.getElem?_append_left hi] at h
      have := ha.mid (b := b) (c := altOf a b) h 1 (by omega)
      rw [Nat.add_comm 1 i] at this; exact this
    · rw [List.getElem?_append_right (by omega)] at h
      by_cases hg : i = a.length
      · subst hg
        have e : go (b.length + 1) = x := by simpa using h
        subst e
        rw [hl]
        simp [go]; omega
      · have h : b[i - a.length - 1]? = some x := by
          rw [show i - a.length = (i - a.length - 1) + 1 by omega] at h
          simpa using h
        have := hb.mid (b := b) (c := altOf a b) h (a.length + 2) (by omega)
        rw [show a.length + 2 + (i - a.length - 1) = i + 1 by omega] at this; exact this
theorem Stays.star {a : List In} (ha : Stays a) : Stays (starOf a) := by
  have hl : (starOf a).length = a.length + 2 := by simp [starOf]
  intro i x h
  rcases i with _ | i
  · have e : two 1 (a.length + 2) = x := by simpa [starOf] using h
    subst e
    rw [hl]
    simp [two]; omega
  · have h : (a ++ [go (-a.length - 1)])[i]? = some x := by simpa [starOf] using h
    by_cases hi : i < a.length
    · rw [List.getElem?_append_left hi] at h
      have := ha.mid (b := a) (c := starOf a) h 1 (by omega)
      rw [Nat.add_comm 1 i] at this; exact this
    · rw [List.getElem?_append_right (by omega)] at h
      have hg : i = a.length := by
        have := get_lt' h
        simp at this; omega
      subst hg
      have e : go (-a.length - 1) = x := by simpa using h
      subst e
      rw [hl]
      simp [go]; omega
where get_lt' {l : List In} {k : Nat} {c : In} (h : l[k]? = some c) : k < l.length := (List.getElem?_eq_some_iff.1 h).1
theorem Stays.plus {a : List In} (ha : Stays a) : Stays (plusOf a) := by
  have hl : (plusOf a).length = a.length + 1 := by simp [plusOf]
  intro i x h
  have h : (a ++ [two (-a.length) 1])[i]? = some x := h
  by_cases hi : i < a.length
  · rw [List.getElem?_append_left hi] at h
    have := ha.mid (b := a) (c := plusOf a) h 0 (by omega)
    rw [Nat.zero_add] at this; exact this
  · rw [List.getElem?_append_right (by omega)] at h
    have hg : i = a.length := by
      have := (List.getElem?_eq_some_iff.1 h).1
      simp at this; omega
    subst hg
    have e : two (-a.length) 1 = x := by simpa using h
    subst e
    rw [hl]
    simp [two]; omega
theorem Stays.opt {a : List In} (ha : Stays a) : Stays (optOf a) := by
  have hl : (optOf a).length = a.length + 1 := by simp [optOf]
  intro i x h
  rcases i with _ | i
  · have e : two 1 (a.length + 1) = x := by simpa [optOf] using h
    subst e
    rw [hl]
    simp [two]; omega
  · have h : a[i]? = some x := by simpa [optOf] using h
    have := ha.mid (b := a) (c := optOf a) h 1 (by omega)
    rw [Nat.add_comm 1 i] at this; exact this
theorem opS_stays {o : Rop} {p q : List (List In)} (h : opS o p = some q) (hp : ∀ a ∈ p, Stays a) : ∀ a ∈ q, Stays a := by
  have cons : ∀ {a : List In} {r : List (List In)}, Stays a → (∀ b ∈ r, Stays b) → ∀ b ∈ a :: r, Stays b := fun h1 h2 b hb => by
    rcases List.mem_cons.1 hb with rfl | hb
    · exact h1
    · exact h2 b hb
  unfold opS at h
  split at h
  · injection h with h; subst h; exact cons (Stays.one o) hp
  split at h
  · injection h with h; subst h; exact cons Stays.nil hp
  split at h
  · split at h
    · injection h with h; subst h
      exact cons (Stays.cat (hp _ (by simp)) (hp _ (by simp))) fun b hb => hp b (by simp [hb])
    · cases h
  split at h
  · split at h
    · injection h with h; subst h
      exact cons (Stays.alt (hp _ (by simp)) (hp _ (by simp))) fun b hb => hp b (by simp [hb])
    · cases h
  split at h
  · split at h
    · injection h with h; subst h
      exact cons (Stays.star (hp _ (by simp))) fun b hb => hp b (by simp [hb])
    · cases h
  split at h
  · split at h
    · injection h with h; subst h
      exact cons (Stays.plus (hp _ (by simp))) fun b hb => hp b (by simp [hb])
    · cases h
  split at h
  · split at h
    · injection h with h; subst h
      exact cons (Stays.opt (hp _ (by simp))) fun b hb => hp b (by simp [hb])
    · cases h
  · cases h
theorem sem_stays (l : List Rop) : ∀ (p q : List (List In)), sem p l = some q → (∀ a ∈ p, Stays a) → ∀ a ∈ q, Stays a := by
  induction l with
  | nil => intro p q h hp; injection h with h; subst h; exact hp
  | cons o l ih =>
    intro p q h hp
    have h : (match opS o p with | none => none | some r => sem r l) = some q := h
    split at h
    · cases h
    · rename_i r e
      exact ih r q h (opS_stays e hp)
/-- P9.2, of instructions that were built. -/
theorem build_places {l : List Rop} {a : List In} (h : build l = .ok a) : ∃ b, a = b ++ [doneI] ∧ Stays b ∧ b.length = heavy l ∧ a.length ≤ 200 ∧ sem [] l = some [b] := by
  unfold build at h
  split at h
  · rename_i b e
    split at h
    · cases h
    · injection h with h; subst h
      refine ⟨b, rfl, sem_stays l [] [b] e (by simp) b (by simp), ?_, by simp; omega, e⟩
      have := (sem_some e).2
      simp [lens] at this
      exact this
  · cases h
/-- Each instruction is of one of the four kinds; Done is last, and nowhere else; each Two and Go goes on at a place that there is. -/
theorem places {b : List In} (hb : Stays b) {i : Nat} {x : In} (h : (b ++ [doneI])[i]? = some x) :
    1 ≤ x.kind ∧ x.kind ≤ 4 ∧ (x.kind = 4 ↔ i = b.length) ∧ (x.kind = 2 ∨ x.kind = 3 → 0 ≤ (i : Int) + x.x ∧ (i : Int) + x.x ≤ b.length) ∧ (x.kind = 2 → 0 ≤ (i : Int) + x.y ∧ (i : Int) + x.y ≤ b.length) := by
  by_cases hi : i < b.length
  · rw [List.getElem?_append_left hi] at h
    obtain ⟨h1, h2, h3⟩ := hb i x h
    exact ⟨by omega, by omega, by omega, h2, h3⟩
  · rw [List.getElem?_append_right (by omega)] at h
    have hg : i = b.length := by
      have := (List.getElem?_eq_some_iff.1 h).1
      simp at this; omega
    subst hg
    have e : doneI = x := by simpa using h
    subst e
    simp [doneI]
/-- What ops end with: the sequence that the ops up to a place leave on top, and what lies below it. -/
def tops (l : List Rop) (k : Nat) : Option (List (List In)) := sem [] (l.take k)
theorem tops_succ {l : List Rop} {k : Nat} {o : Rop} (h : l[k]? = some o) : tops l (k + 1) = match tops l k with
    | none => none
    | some p => opS o p := by
  unfold tops
  rw [List.take_add_one, h]
  rw [sem_append]
  split
  · rfl
  · rename_i p e
    show (match opS o p with | none => none | some r => some r) = _
    cases opS o p <;> rfl
end Go.Proofs.Ytjpbndpfbdfhjaa.Nfa
