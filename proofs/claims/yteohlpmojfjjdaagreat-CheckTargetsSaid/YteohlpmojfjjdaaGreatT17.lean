/-
Texts: NfaLow NfaAs NfaCopy
-/
import Derived.Test.YteohlpmojfjjdaaGreatT0
import Derived.Test.YteohlpmojfjjdaaGreatT1
import Derived.Test.YteohlpmojfjjdaaGreatT2
import Derived.Test.YteohlpmojfjjdaaGreatT3
import Derived.Test.YteohlpmojfjjdaaGreatT5
import Derived.Test.YteohlpmojfjjdaaGreatT8
import Derived.BigQuiet
import Derived.Laws.CopyRow
import Derived.Lib.AppendZerosOnto
import Derived.Lib.Overlaps
import Derived.Laws.Externs
import Derived.Laws.CopyOwn
set_option linter.unusedVariables false
set_option linter.unusedSimpArgs false
section
namespace Go.Proofs.YteohlpmojfjjdaaGreat.Nfa
open Reg (Sp Rop takes does piled weight heavy)
structure Lw where
 code : List In
 bs : List Nat
 big : Bool
def Lw.ins (q : Lw) (at_ : Nat) (x : In) : Lw := if q.code.length = 200 then ⟨q.code, q.bs, true⟩ else ⟨q.code.take at_ ++ x :: q.code.drop at_, q.bs, q.big⟩
def Lw.emit (q : Lw) (x : In) : Lw := q.ins q.code.length x
def Lw.push (q : Lw) : Lw := ⟨q.code, q.code.length :: q.bs, q.big⟩
def Lw.size (q : Lw) (a : Nat) : Int := (q.code.length : Int) - a
def opL (o : Rop) (q : Lw) : Option Lw :=
 if o.kind = 1 then some (q.push.emit (oneI o))
 else if o.kind = 2 then some q.push
 else if o.kind = 3 then match q.bs with
  | b :: a :: r => some ⟨q.code, a :: r, q.big⟩
  | _ => none
 else if o.kind = 4 then match q.bs with
  | b :: a :: r => some ((Lw.ins ⟨q.code, a :: r, q.big⟩ b (go (q.size b + 1))).ins a (two 1 ((b : Int) - a + 2)))
  | _ => none
 else if o.kind = 5 then match q.bs with
  | a :: r => some ((q.ins a (two 1 (q.size a + 2))).emit (go (-q.size a - 1)))
  | _ => none
 else if o.kind = 6 then match q.bs with
  | a :: r => some (q.emit (two (-q.size a) 1))
  | _ => none
 else if o.kind = 7 then match q.bs with
  | a :: r => some (q.ins a (two 1 (q.size a + 1)))
  | _ => none
 else none
def semL (q : Lw) : List Rop → Option Lw
 | [] => some q
 | o :: l => match opL o q with
  | none => none
  | some q' => semL q' l
theorem semL_append (l m : List Rop) : ∀ q, semL q (l ++ m) = match semL q l with
  | none => none
  | some q' => semL q' m := by
 induction l with
 | nil => intro q; rfl
 | cons o l ih =>
  intro q
  show (match opL o q with | none => none | some q' => semL q' (l ++ m)) = match (match opL o q with | none => none | some q' => semL q' l) with | none => none | some q' => semL q' m
  split
  ·rfl
  ·exact ih _
theorem semL_snoc {l : List Rop} {p q : Lw} (o : Rop) (h : semL p l = some q) : semL p (l ++ [o]) = opL o q := by
 rw [semL_append, h]
 show (match opL o q with | none => none | some r => some r) = _
 cases opL o q <;> rfl
structure Ok (q : Lw) : Prop where
 len : q.code.length ≤ 200
 bs : ∀ b ∈ q.bs, b ≤ q.code.length
theorem ins_len (q : Lw) (a : Nat) (x : In) (ha : a ≤ q.code.length) : q.code.length ≤ (q.ins a x).code.length ∧ ((q.ins a x).code.length = 200 ∨ (q.ins a x).code.length = q.code.length + 1) := by
 unfold Lw.ins
 split
 ·rename_i h; exact ⟨Nat.le_refl _, .inl h⟩
 ·simp only [List.length_append, List.length_take, List.length_cons, List.length_drop]
  omega
theorem ins_bs (q : Lw) (a : Nat) (x : In) : (q.ins a x).bs = q.bs := by unfold Lw.ins; split <;> rfl
theorem Ok.ins {q : Lw} (h : Ok q) {a : Nat} (x : In) (ha : a ≤ q.code.length) : Ok (q.ins a x) := by
 have hl := ins_len q a x ha
 have h1 := h.len
 refine ⟨?_, fun b hb => ?_⟩
 ·by_cases e : q.code.length = 200
  ·unfold Lw.ins; rw [if_pos e]; exact h1
  ·have : (q.ins a x).code.length = q.code.length + 1 := by
    unfold Lw.ins; rw [if_neg e]
    simp only [List.length_append, List.length_take, List.length_cons, List.length_drop]
    omega
   omega
 ·rw [ins_bs] at hb
  exact Nat.le_trans (h.bs b hb) hl.1
theorem Ok.push {q : Lw} (h : Ok q) : Ok q.push := ⟨h.len, fun b hb => by
 rcases List.mem_cons.1 hb with rfl | hb
 ·exact Nat.le_refl _
 ·exact h.bs b hb⟩
/-! Against the document's pile. -/
def offs : List (List In) → List Nat
 | [] => []
 | _ :: r => lens r :: offs r
def flat (p : List (List In)) : List In := p.reverse.flatten
theorem flat_cons (a : List In) (p : List (List In)) : flat (a :: p) = flat p ++ a := by simp [flat]
theorem flat_length : ∀ p : List (List In), (flat p).length = lens p
 | [] => rfl
 | a :: p => by rw [flat_cons, List.length_append, flat_length p, lens_cons, Nat.add_comm]
theorem offs_length : ∀ p : List (List In), (offs p).length = p.length
 | [] => rfl
 | a :: p => by simp [offs, offs_length p]
structure Abs (p : List (List In)) (q : Lw) : Prop where
 n : q.bs.length = p.length
 small : lens p ≤ 200 → q = ⟨flat p, offs p, false⟩
 big : 200 < lens p → q.big = true ∧ q.code.length = 200
theorem Abs.of_small {p : List (List In)} (h : lens p ≤ 200) : Abs p ⟨flat p, offs p, false⟩ := ⟨offs_length p, fun _ => rfl, fun h2 => by omega⟩
theorem Abs.of_big {p : List (List In)} {q : Lw} (h : 200 < lens p) (hn : q.bs.length = p.length) (hb : q.big = true) (hc : q.code.length = 200) : Abs p q := ⟨hn, fun h2 => by omega, fun _ => ⟨hb, hc⟩⟩
theorem ins_full {q : Lw} (h : q.code.length = 200) (a : Nat) (x : In) : q.ins a x = ⟨q.code, q.bs, true⟩ := by unfold Lw.ins; rw [if_pos h]
theorem ins_room {q : Lw} (h : q.code.length < 200) (a : Nat) (x : In) : q.ins a x = ⟨q.code.take a ++ x :: q.code.drop a, q.bs, q.big⟩ := by unfold Lw.ins; rw [if_neg (by omega)]
theorem emit_full {q : Lw} (h : q.code.length = 200) (x : In) : q.emit x = ⟨q.code, q.bs, true⟩ := ins_full h _ _
theorem emit_room {q : Lw} (h : q.code.length < 200) (x : In) : q.emit x = ⟨q.code ++ [x], q.bs, q.big⟩ := by
 unfold Lw.emit
 rw [ins_room h, List.take_length, List.drop_length]
theorem full_two {q : Lw} (h : q.code.length = 200) (a b : Nat) (x y : In) : (q.ins a x).ins b y = ⟨q.code, q.bs, true⟩ := by rw [ins_full h, ins_full (q := ⟨q.code, q.bs, true⟩) h]
theorem near_two {q : Lw} (h : 199 ≤ q.code.length) (hq : q.code.length ≤ 200) (a b : Nat) (x y : In) (ha : a ≤ q.code.length) : ((q.ins a x).ins b y).big = true ∧ ((q.ins a x).ins b y).code.length = 200 ∧ ((q.ins a x).ins b y).bs = q.bs := by
 have h2 : (q.ins a x).code.length = 200 := by
  rcases (ins_len q a x ha).2 with e | e
  ·exact e
  ·by_cases h3 : q.code.length = 200
   ·rw [ins_full h3]; exact h3
   ·omega
 rw [ins_full h2]
 exact ⟨rfl, h2, ins_bs _ _ _⟩
theorem opL_abs (o : Rop) {p : List (List In)} {q : Lw} (h : Abs p q) : match opS o p with
  | none => opL o q = none
  | some p' => ∃ q', opL o q = some q' ∧ Abs p' q' := by
 by_cases hs : lens p ≤ 200
 ·obtain rfl := h.small hs
  have hfl := flat_length p
  unfold opS opL
  by_cases h1 : o.kind = 1
  ·simp only [h1, if_true]
   refine ⟨_, rfl, ?_⟩
   rcases Nat.lt_or_ge (lens p) 200 with hlt | hge
   ·rw [emit_room (by show (flat p).length < 200; omega)]
    have e : (⟨(Lw.push ⟨flat p, offs p, false⟩).code ++ [oneI o], (Lw.push ⟨flat p, offs p, false⟩).bs, (Lw.push ⟨flat p, offs p, false⟩).big⟩ : Lw) = ⟨flat ([oneI o] :: p), offs ([oneI o] :: p), false⟩ := by
     rw [flat_cons]
     show (⟨flat p ++ [oneI o], (flat p).length :: offs p, false⟩ : Lw) = ⟨flat p ++ [oneI o], lens p :: offs p, false⟩
     rw [hfl]
    rw [e]
    exact Abs.of_small (by rw [lens_cons]; simp; omega)
   ·rw [emit_full (by show (flat p).length = 200; omega)]
    exact Abs.of_big (by rw [lens_cons]; simp; omega) (by show ((flat p).length :: offs p).length = _; simp [offs_length]) rfl (by show (flat p).length = 200; omega)
  by_cases h2 : o.kind = 2
  ·simp only [h2, if_true, show ¬ ((2 : Int) = 1) by decide, if_false]
   refine ⟨_, rfl, ?_⟩
   have e : Lw.push ⟨flat p, offs p, false⟩ = ⟨flat ([] :: p), offs ([] :: p), false⟩ := by
    rw [flat_cons]
    show (⟨flat p, (flat p).length :: offs p, false⟩ : Lw) = ⟨flat p ++ [], lens p :: offs p, false⟩
    rw [hfl, List.append_nil]
   rw [e]
   exact Abs.of_small (by rw [lens_cons]; simp; omega)
  by_cases h3 : o.kind = 3
  ·simp only [h3, if_true, show ¬ ((3 : Int) = 1) by decide, show ¬ ((3 : Int) = 2) by decide, if_false]
   rcases p with _ | ⟨b, _ | ⟨a, r⟩⟩
   ·simp [offs]
   ·simp [offs]
   ·simp only [lens_cons] at hs
    refine ⟨_, rfl, ?_⟩
    have e : (⟨flat (b :: a :: r), lens r :: offs r, false⟩ : Lw) = ⟨flat ((a ++ b) :: r), offs ((a ++ b) :: r), false⟩ := by
     rw [flat_cons, flat_cons, flat_cons, List.append_assoc]; rfl
    show Abs _ (⟨flat (b :: a :: r), lens r :: offs r, false⟩ : Lw)
    rw [e]
    exact Abs.of_small (by rw [lens_cons, List.length_append]; omega)
  by_cases h4 : o.kind = 4
  ·simp only [h4, if_true, show ¬ ((4 : Int) = 1) by decide, show ¬ ((4 : Int) = 2) by decide, show ¬ ((4 : Int) = 3) by decide, if_false]
   rcases p with _ | ⟨b, _ | ⟨a, r⟩⟩
   ·simp [offs]
   ·simp [offs]
   ·rw [flat_length, lens_cons, lens_cons] at hfl
    simp only [lens_cons] at hs
    refine ⟨_, rfl, ?_⟩
    have hF : (flat (b :: a :: r)) = flat r ++ (a ++ b) := by rw [flat_cons, flat_cons, List.append_assoc]
    have hla := flat_length r
    have hl : (flat (b :: a :: r)).length = lens r + (a.length + b.length) := by rw [hF]; simp [hla]
    show Abs _ ((Lw.ins ⟨flat (b :: a :: r), lens r :: offs r, false⟩ (lens (a :: r)) (go (((flat (b :: a :: r)).length : Int) - (lens (a :: r) : Nat) + 1))).ins (lens r) (two 1 (((lens (a :: r) : Nat) : Int) - (lens r : Nat) + 2)))
    rw [lens_cons, hl]
    have ex : go (((lens r + (a.length + b.length) : Nat) : Int) - ((a.length + lens r : Nat) : Int) + 1) = go (b.length + 1) := by congr 1; omega
    have ey : two 1 (((a.length + lens r : Nat) : Int) - (lens r : Int) + 2) = two 1 (a.length + 2) := by congr 1; omega
    rw [ex, ey]
    rcases Nat.lt_or_ge (lens r + (a.length + b.length)) 199 with hlt | hge
    ·have e1 : (flat (b :: a :: r)).take (a.length + lens r) = flat r ++ a := by
      rw [hF, ← List.append_assoc, List.take_append_of_le_length (by simp [hla]; omega), List.take_of_length_le (by simp [hla]; omega)]
     have e2 : (flat (b :: a :: r)).drop (a.length + lens r) = b := by
      rw [hF, ← List.append_assoc, List.drop_append, List.drop_eq_nil_of_le (by simp [hla]; omega), List.nil_append, show a.length + lens r - (flat r ++ a).length = 0 by simp [hla]; omega]
      rfl
     rw [ins_room (q := ⟨flat (b :: a :: r), lens r :: offs r, false⟩) (by show (flat (b :: a :: r)).length < 200; omega)]
     simp only [e1, e2]
     rw [ins_room (by simp [hla]; omega)]
     simp only [List.append_assoc]
     rw [List.take_append_of_le_length (by omega), List.take_of_length_le (by omega), List.drop_append, List.drop_eq_nil_of_le (by omega), List.nil_append, show lens r - (flat r).length = 0 by omega, List.drop_zero]
     have e : (⟨flat r ++ two 1 (a.length + 2) :: (a ++ go (b.length + 1) :: b), lens r :: offs r, false⟩ : Lw) = ⟨flat (altOf a b :: r), offs (altOf a b :: r), false⟩ := by
      rw [flat_cons]; rfl
     rw [e]
     exact Abs.of_small (by rw [lens_cons]; simp [altOf]; omega)
    ·obtain ⟨n1, n2, n3⟩ := near_two (q := ⟨flat (b :: a :: r), lens r :: offs r, false⟩) (by show 199 ≤ (flat (b :: a :: r)).length; omega) (by show (flat (b :: a :: r)).length ≤ 200; omega) (a.length + lens r) (lens r) (go (b.length + 1)) (two 1 (a.length + 2)) (by show _ ≤ (flat (b :: a :: r)).length; omega)
     exact Abs.of_big (by rw [lens_cons]; simp [altOf]; omega) (by rw [n3]; simp [offs_length]) n1 n2
  by_cases h5 : o.kind = 5
  ·simp only [h5, if_true, show ¬ ((5 : Int) = 1) by decide, show ¬ ((5 : Int) = 2) by decide, show ¬ ((5 : Int) = 3) by decide, show ¬ ((5 : Int) = 4) by decide, if_false]
   rcases p with _ | ⟨a, r⟩
   ·simp [offs]
   ·simp only [lens_cons] at hs
    refine ⟨_, rfl, ?_⟩
    have hF := flat_cons a r
    have hla := flat_length r
    have hl : (flat (a :: r)).length = lens r + a.length := by rw [hF]; simp [hla]
    have hz : Lw.size ⟨flat (a :: r), offs (a :: r), false⟩ (lens r) = a.length := by show ((flat (a :: r)).length : Int) - (lens r : Nat) = _; omega
    rw [hz]
    rcases Nat.lt_or_ge (lens r + a.length) 199 with hlt | hge
    ·rw [ins_room (by show (flat (a :: r)).length < 200; omega)]
     have e1 : (flat (a :: r)).take (lens r) = flat r := by rw [hF, List.take_append_of_le_length (by omega), List.take_of_length_le (by omega)]
     have e2 : (flat (a :: r)).drop (lens r) = a := by rw [hF, List.drop_append, List.drop_eq_nil_of_le (by omega), List.nil_append, show lens r - (flat r).length = 0 by omega]; rfl
     simp only [e1, e2]
     rw [emit_room (by simp [hla]; omega)]
     have e : (⟨flat r ++ two 1 (a.length + 2) :: a ++ [go (-(a.length : Int) - 1)], offs (a :: r), false⟩ : Lw) = ⟨flat (starOf a :: r), offs (starOf a :: r), false⟩ := by
      rw [flat_cons, List.append_assoc]; rfl
     rw [e]
     exact Abs.of_small (by rw [lens_cons]; simp [starOf]; omega)
    ·obtain ⟨n1, n2, n3⟩ := near_two (q := ⟨flat (a :: r), offs (a :: r), false⟩) (by show 199 ≤ (flat (a :: r)).length; omega) (by show (flat (a :: r)).length ≤ 200; omega) (lens r) (Lw.ins ⟨flat (a :: r), offs (a :: r), false⟩ (lens r) (two 1 (a.length + 2))).code.length (two 1 (a.length + 2)) (go (-(a.length : Int) - 1)) (by show _ ≤ (flat (a :: r)).length; omega)
     exact Abs.of_big (by rw [lens_cons]; simp [starOf]; omega) (by unfold Lw.emit; rw [n3]; simp [offs_length]) n1 n2
  by_cases h6 : o.kind = 6
  ·simp only [h6, if_true, show ¬ ((6 : Int) = 1) by decide, show ¬ ((6 : Int) = 2) by decide, show ¬ ((6 : Int) = 3) by decide, show ¬ ((6 : Int) = 4) by decide, show ¬ ((6 : Int) = 5) by decide, if_false]
   rcases p with _ | ⟨a, r⟩
   ·simp [offs]
   ·simp only [lens_cons] at hs
    refine ⟨_, rfl, ?_⟩
    have hF := flat_cons a r
    have hla := flat_length r
    have hl : (flat (a :: r)).length = lens r + a.length := by rw [hF]; simp [hla]
    have hz : Lw.size ⟨flat (a :: r), offs (a :: r), false⟩ (lens r) = a.length := by show ((flat (a :: r)).length : Int) - (lens r : Nat) = _; omega
    rw [hz]
    rcases Nat.lt_or_ge (lens r + a.length) 200 with hlt | hge
    ·rw [emit_room (by show (flat (a :: r)).length < 200; omega)]
     have e : (⟨flat (a :: r) ++ [two (-(a.length : Int)) 1], offs (a :: r), false⟩ : Lw) = ⟨flat (plusOf a :: r), offs (plusOf a :: r), false⟩ := by
      rw [flat_cons, flat_cons, List.append_assoc]; rfl
     show Abs _ (⟨flat (a :: r) ++ [two (-(a.length : Int)) 1], offs (a :: r), false⟩ : Lw)
     rw [e]
     exact Abs.of_small (by rw [lens_cons]; simp [plusOf]; omega)
    ·rw [emit_full (by show (flat (a :: r)).length = 200; omega)]
     exact Abs.of_big (by rw [lens_cons]; simp [plusOf]; omega) (by show (offs (a :: r)).length = _; simp [offs_length]) rfl (by show (flat (a :: r)).length = 200; omega)
  by_cases h7 : o.kind = 7
  ·simp only [h7, if_true, show ¬ ((7 : Int) = 1) by decide, show ¬ ((7 : Int) = 2) by decide, show ¬ ((7 : Int) = 3) by decide, show ¬ ((7 : Int) = 4) by decide, show ¬ ((7 : Int) = 5) by decide, show ¬ ((7 : Int) = 6) by decide, if_false]
   rcases p with _ | ⟨a, r⟩
   ·simp [offs]
   ·simp only [lens_cons] at hs
    refine ⟨_, rfl, ?_⟩
    have hF := flat_cons a r
    have hla := flat_length r
    have hl : (flat (a :: r)).length = lens r + a.length := by rw [hF]; simp [hla]
    have hz : Lw.size ⟨flat (a :: r), offs (a :: r), false⟩ (lens r) = a.length := by show ((flat (a :: r)).length : Int) - (lens r : Nat) = _; omega
    rw [hz]
    rcases Nat.lt_or_ge (lens r + a.length) 200 with hlt | hge
    ·rw [ins_room (by show (flat (a :: r)).length < 200; omega)]
     have e1 : (flat (a :: r)).take (lens r) = flat r := by rw [hF, List.take_append_of_le_length (by omega), List.take_of_length_le (by omega)]
     have e2 : (flat (a :: r)).drop (lens r) = a := by rw [hF, List.drop_append, List.drop_eq_nil_of_le (by omega), List.nil_append, show lens r - (flat r).length = 0 by omega]; rfl
     simp only [e1, e2]
     have e : (⟨flat r ++ two 1 (a.length + 1) :: a, offs (a :: r), false⟩ : Lw) = ⟨flat (optOf a :: r), offs (optOf a :: r), false⟩ := by
      rw [flat_cons]; rfl
     rw [e]
     exact Abs.of_small (by rw [lens_cons]; simp [optOf]; omega)
    ·rw [ins_full (by show (flat (a :: r)).length = 200; omega)]
     exact Abs.of_big (by rw [lens_cons]; simp [optOf]; omega) (by show (offs (a :: r)).length = _; simp [offs_length]) rfl (by show (flat (a :: r)).length = 200; omega)
  simp [h1, h2, h3, h4, h5, h6, h7]
 ·obtain ⟨hb, hc⟩ := h.big (by omega)
  have hn := h.n
  obtain ⟨code, bs, bg⟩ := q
  simp only at hb hc hn
  subst hb
  have lb : ∀ {p' : List (List In)} {bs' : List Nat}, 200 < lens p' → bs'.length = p'.length → Abs p' ⟨code, bs', true⟩ := fun h1 h2 => Abs.of_big h1 h2 rfl hc
  unfold opS opL
  by_cases h1 : o.kind = 1
  ·simp only [h1, if_true]
   refine ⟨_, rfl, ?_⟩
   rw [emit_full (show (Lw.push ⟨code, bs, true⟩).code.length = 200 from hc)]
   exact lb (by rw [lens_cons]; omega) (by simp [Lw.push, hn])
  by_cases h2 : o.kind = 2
  ·simp only [h2, if_true, show ¬ ((2 : Int) = 1) by decide, if_false]
   exact ⟨_, rfl, lb (by rw [lens_cons]; omega) (by simp [hn])⟩
  by_cases h3 : o.kind = 3
  ·simp only [h3, if_true, show ¬ ((3 : Int) = 1) by decide, show ¬ ((3 : Int) = 2) by decide, if_false]
   rcases p with _ | ⟨b, _ | ⟨a, r⟩⟩
   ·rw [List.length_eq_zero_iff.1 hn]
   ·obtain ⟨x, rfl⟩ := List.length_eq_one_iff.1 hn
    simp
   ·rcases bs with _ | ⟨x, _ | ⟨y, r2⟩⟩
    ·simp at hn
    ·simp at hn
    ·exact ⟨_, rfl, lb (by simp only [lens_cons, List.length_append] at hs ⊢; omega) (by simp at hn ⊢; omega)⟩
  by_cases h4 : o.kind = 4
  ·simp only [h4, if_true, show ¬ ((4 : Int) = 1) by decide, show ¬ ((4 : Int) = 2) by decide, show ¬ ((4 : Int) = 3) by decide, if_false]
   rcases p with _ | ⟨b, _ | ⟨a, r⟩⟩
   ·rw [List.length_eq_zero_iff.1 hn]
   ·obtain ⟨x, rfl⟩ := List.length_eq_one_iff.1 hn
    simp
   ·rcases bs with _ | ⟨x, _ | ⟨y, r2⟩⟩
    ·simp at hn
    ·simp at hn
    ·refine ⟨_, rfl, ?_⟩
     rw [full_two (by exact hc)]
     exact lb (by simp only [lens_cons, altOf, List.length_append, List.length_cons] at hs ⊢; omega) (by simp at hn ⊢; omega)
  by_cases h5 : o.kind = 5
  ·simp only [h5, if_true, show ¬ ((5 : Int) = 1) by decide, show ¬ ((5 : Int) = 2) by decide, show ¬ ((5 : Int) = 3) by decide, show ¬ ((5 : Int) = 4) by decide, if_false]
   rcases p with _ | ⟨a, r⟩
   ·rw [List.length_eq_zero_iff.1 hn]
   ·rcases bs with _ | ⟨x, r2⟩
    ·simp at hn
    ·refine ⟨_, rfl, ?_⟩
     unfold Lw.emit
     rw [full_two (by exact hc)]
     exact lb (by simp only [lens_cons, starOf, List.length_append, List.length_cons, List.length_nil] at hs ⊢; omega) (by simp at hn ⊢; omega)
  by_cases h6 : o.kind = 6
  ·simp only [h6, if_true, show ¬ ((6 : Int) = 1) by decide, show ¬ ((6 : Int) = 2) by decide, show ¬ ((6 : Int) = 3) by decide, show ¬ ((6 : Int) = 4) by decide, show ¬ ((6 : Int) = 5) by decide, if_false]
   rcases p with _ | ⟨a, r⟩
   ·rw [List.length_eq_zero_iff.1 hn]
   ·rcases bs with _ | ⟨x, r2⟩
    ·simp at hn
    ·refine ⟨_, rfl, ?_⟩
     rw [emit_full (by exact hc)]
     exact lb (by simp only [lens_cons, plusOf, List.length_append, List.length_cons, List.length_nil] at hs ⊢; omega) (by simp at hn ⊢; omega)
  by_cases h7 : o.kind = 7
  ·simp only [h7, if_true, show ¬ ((7 : Int) = 1) by decide, show ¬ ((7 : Int) = 2) by decide, show ¬ ((7 : Int) = 3) by decide, show ¬ ((7 : Int) = 4) by decide, show ¬ ((7 : Int) = 5) by decide, show ¬ ((7 : Int) = 6) by decide, if_false]
   rcases p with _ | ⟨a, r⟩
   ·rw [List.length_eq_zero_iff.1 hn]
   ·rcases bs with _ | ⟨x, r2⟩
    ·simp at hn
    ·refine ⟨_, rfl, ?_⟩
     rw [ins_full (by exact hc)]
     exact lb (by simp only [lens_cons, optOf, List.length_cons] at hs ⊢; omega) (by simp at hn ⊢; omega)
  simp [h1, h2, h3, h4, h5, h6, h7]
theorem semL_abs (l : List Rop) : ∀ {p : List (List In)} {q : Lw}, Abs p q → match sem p l with
  | none => semL q l = none
  | some p' => ∃ q', semL q l = some q' ∧ Abs p' q' := by
 induction l with
 | nil => intro p q h; exact ⟨q, rfl, h⟩
 | cons o l ih =>
  intro p q h
  have h1 := opL_abs o h
  show match (match opS o p with | none => none | some p' => sem p' l) with | none => (match opL o q with | none => none | some q' => semL q' l) = none | some p' => ∃ q', (match opL o q with | none => none | some q' => semL q' l) = some q' ∧ Abs p' q'
  split at h1
  ·rename_i e; rw [h1]
  ·rename_i p' e
   obtain ⟨q', e2, h2⟩ := h1
   rw [e2]
   exact ih h2
def finL (q : Lw) : Except Nat (List In) := if q.bs.length = 1 then (if (q.emit doneI).big then .error 3 else .ok (q.emit doneI).code) else .error 1
theorem build_low (l : List Rop) : build l = match semL ⟨[], [], false⟩ l with
  | none => .error 1
  | some q => finL q := by
 have h := semL_abs l (Abs.of_small (p := []) (by simp [lens]))
 have e0 : (⟨flat [], offs [], false⟩ : Lw) = ⟨[], [], false⟩ := rfl
 rw [e0] at h
 have fin : ∀ {q : Lw}, q.bs.length ≠ 1 → finL q = .error 1 := fun hq => by unfold finL; rw [if_neg hq]
 have fin2 : ∀ {q : Lw}, q.bs.length = 1 → finL q = (if (q.emit doneI).big then .error 3 else .ok (q.emit doneI).code) := fun hq => by unfold finL; rw [if_pos hq]
 unfold build
 split at h
 ·rename_i e; rw [h, e]
 ·rename_i p' e
  obtain ⟨q', e2, h2⟩ := h
  rw [e2, e]
  rcases p' with _ | ⟨a, _ | ⟨b, r⟩⟩
  ·exact (fin (by rw [h2.n]; simp)).symm
  ·refine Eq.trans ?_ (fin2 h2.n).symm
   show (if 200 < a.length + 1 then Except.error 3 else Except.ok (a ++ [doneI])) = _
   have hl : lens [a] = a.length := by simp [lens]
   by_cases hs : lens [a] ≤ 200
   ·obtain rfl := h2.small hs
    have hf : flat [a] = a := by simp [flat]
    rw [hl] at hs
    simp only [hf]
    rcases Nat.lt_or_ge a.length 200 with hlt | hge
    ·rw [emit_room (by exact hlt), if_neg (by omega)]
     rfl
    ·rw [emit_full (by show a.length = 200; omega), if_pos (by omega)]
     rfl
   ·obtain ⟨hb, hc⟩ := h2.big (by omega)
    rw [emit_full hc, if_pos (by omega)]
    rfl
  ·exact (fin (by rw [h2.n]; simp)).symm
end Go.Proofs.YteohlpmojfjjdaaGreat.Nfa
end
section
namespace Go.Proofs.YteohlpmojfjjdaaGreat.Nfa
open Go.RowKit Go.Proofs.YteohlpmojfjjdaaGreat.Ord
open Reg (Sp Spn sflat sflat_length sflat_snoc)
def Cz (w : World) (A : Option Addr) (cs : List Value) : Prop := cs ≠ [] → ∃ ad, A = some ad ∧ ∀ j u, cs[j]? = some u → w.cell? (ad.add j) = some u
theorem cz_ry {t : TypeId} {w : World} {A : Option Addr} {cs : List Value} (h : Ry t w A cs) : Cz w A cs := fun hn => by
 obtain ⟨ad, e, _, hc⟩ := h hn
 exact ⟨ad, e, hc⟩
theorem Cz.below {w w' : World} {A : Option Addr} {cs : List Value} (h : Cz w A cs) (hb : Below w.heap.size w w') : Cz w' A cs := fun hn => by
 obtain ⟨ad, e, hc⟩ := h hn
 exact ⟨ad, e, fun j u hj => (hb.cell (cell_lt (hc j u hj))).trans (hc j u hj)⟩
end Go.Proofs.YteohlpmojfjjdaaGreat.Nfa
end
section
namespace Go.Proofs.YteohlpmojfjjdaaGreat.Nfa
open Go.RowKit Go.Proofs.YteohlpmojfjjdaaGreat.Ord
open Reg (Sp sflat)
theorem cut_mid {α : Type} (L D T x : List α) (a m : Nat) (hx : x.length = m) (hL : a + m ≤ L.length) : splice (L.take (a + m) ++ (D ++ T)) a x = L.take a ++ (x ++ (D ++ T)) := by
 have h1 : (L.take (a + m)).length = a + m := by rw [List.length_take]; omega
 unfold splice
 rw [List.take_append_of_le_length (by omega), List.take_take, Nat.min_eq_left (by omega), hx, List.drop_append_of_le_length (by omega)]
 rw [show (L.take (a + m)).drop (a + m) = [] from List.drop_eq_nil_of_le (by omega), List.nil_append]
theorem splice_in {α : Type} (cur us x : List α) (a m N : Nat) (hx : x.length = m) (h : cur.take N = us) (hN : us.length = N) (ha : a ≤ N) (hc : N + m ≤ cur.length) :
  (splice (splice cur (a + m) (us.drop a)) a x).take (N + m) = us.take a ++ (x ++ us.drop a) := by
 have e : splice cur (a + m) (us.drop a) = cur.take (a + m) ++ (us.drop a ++ cur.drop (a + m + (us.drop a).length)) := rfl
 rw [e, cut_mid _ _ _ _ _ _ hx (by omega)]
 have h2 : cur.take a = us.take a := by rw [← h, List.take_take, Nat.min_eq_left ha]
 rw [h2, ← List.append_assoc, ← List.append_assoc, List.take_append_of_le_length (by simp; omega), List.take_of_length_le (by simp; omega), List.append_assoc]
theorem splice_new {α : Type} (us Z x : List α) (a m N : Nat) (hx : x.length = m) (hN : us.length = N) (ha : a ≤ N) (hZ : m + (N - a) ≤ Z.length) :
  (splice (splice (us.take a ++ Z) a x) (a + m) (us.drop a)).take (N + m) = us.take a ++ (x ++ us.drop a) := by
 have h1 : (us.take a).length = a := by rw [List.length_take]; omega
 have e : splice (us.take a ++ Z) a x = us.take a ++ (x ++ Z.drop m) := by
  unfold splice
  rw [List.take_append_of_le_length (by omega), List.take_of_length_le (by omega), List.drop_append, List.drop_eq_nil_of_le (by omega), List.nil_append, h1, hx]
  congr 3; omega
 rw [e]
 unfold splice
 have e2 : (us.take a ++ (x ++ Z.drop m)).take (a + m) = us.take a ++ x := by
  rw [← List.append_assoc, List.take_append_of_le_length (by simp; omega), List.take_of_length_le (by simp; omega)]
 rw [e2, ← List.append_assoc, List.take_append_of_le_length (by simp; omega), List.take_of_length_le (by simp; omega), List.append_assoc]
section
variable {P : Program}
theorem run_copy_cel (w : World) (dT sT ty elem : TypeId) (size g o dLen dCap : Nat) (a : Addr) (sLen sCap : Nat) (cur : List Value) (t : TypeId) (cs : List Value)
  (hu : P.underlying dT = some (.slice elem)) (hs : (P.info? elem).map (·.size) = some size)
  (hg : Cel w g t cur) (hn : cs.length = Nat.min sLen dLen * size)
  (hsrc : ∀ j v, cs[j]? = some v → w.cell? (a.add j) = some v) (hfit : o + cs.length ≤ cur.length) (h1 : ∀ v ∈ cs, v.oneCell' = true) :
  ∃ w', (Builtin.copy_ #[dT, sT] ty #[.slice (some ⟨g, o, none⟩) dLen dCap, .slice (some a) sLen sCap]).run P w = .ok (goInt (Nat.min sLen dLen)) w' ∧ Cel w' g t (splice cur o cs) ∧ Frm [g] w w' := by
 have hl := run_loadCells_list (P := P) w a cs hsrc
 have hst := run_storeCells_at P g o t cs 0 cur.toArray w hg (by simpa using hfit) h1
 refine ⟨w.setRow g (splice cur o cs).toArray, ?_, setRow_heap w g cur.toArray (splice cur o cs).toArray t (0, 0) hg, ⟨rfl, rfl, rfl, by simp [World.setRow], fun k hk hl => setRow_other w g k _ (by simpa using hl)⟩⟩
 cases hq : P.info? elem with
 | none => simp [hq] at hs
 | some i =>
  have hi : i.size = size := by simpa [hq] using hs
  simp [Builtin.copy_, run_underlying hu, Builtin.lenOf, Builtin.firstCells, sizeOf, typeInfo, hq, hi, ← hn, hl, hst, splice]
theorem wpList_copy_cel {w : World} {ops : Array Oper} {rest : List Oper} {o : Oper} {a : Act} {Q : Exit → Act → World → Prop} (hgd : o.guard = none) (d s : Operand) (dT sT : TypeId)
  (ho : o.op = .call { callee := .builtin .copy, args := #[d, s], argTypes := #[dT, sT] }) (elem : TypeId) (size : Nat) (hu : P.underlying dT = some (.slice elem)) (hs : (P.info? elem).map (·.size) = some size)
  (g off dLen dCap : Nat) (ad : Addr) (sLen sCap : Nat) (hd : a.eval d = .slice (some ⟨g, off, none⟩) dLen dCap) (hx : a.eval s = .slice (some ad) sLen sCap)
  (cur : List Value) (t : TypeId) (hg : Cel w g t cur) (cs : List Value) (hn : cs.length = Nat.min sLen dLen * size)
  (hsrc : ∀ j v, cs[j]? = some v → w.cell? (ad.add j) = some v) (hfit : off + cs.length ≤ cur.length) (h1 : ∀ v ∈ cs, v.oneCell' = true)
  (h : ∀ w', Cel w' g t (splice cur off cs) → Frm [g] w w' → wpList P ops Q rest (a.put o.dst (goInt (Nat.min sLen dLen))) w') : wpList P ops Q (o :: rest) a w := by
 refine wpList_plain hgd fun K hK => ?_
 obtain ⟨w', hrun, h2, h3⟩ := run_copy_cel (P := P) w dT sT o.type elem size g off dLen dCap ad sLen sCap cur t cs hu hs hg hn hsrc hfit h1
 unfold Oper.wp execOp
 simp only [ho, resolve, invoke, builtin, Sem.run_bind, Sem.run_pure, Result.andThen_ok, List.map_toArray, List.map_cons, List.map_nil, hd, hx, hrun]
 exact hK _ _ (h w' h2 h3)
theorem step_copy_cel {w : World} {ops : Array Oper} {o : Oper} {a : Act} {K : Act → World → Prop} {Q : Exit → Act → World → Prop} {E : Prop} (hgd : o.guard = none) (d s : Operand) (dT sT : TypeId)
  (ho : o.op = .call { callee := .builtin .copy, args := #[d, s], argTypes := #[dT, sT] }) (elem : TypeId) (size : Nat) (hu : P.underlying dT = some (.slice elem)) (hs : (P.info? elem).map (·.size) = some size)
  (g off dLen dCap : Nat) (ad : Addr) (sLen sCap : Nat) (hd : a.eval d = .slice (some ⟨g, off, none⟩) dLen dCap) (hx : a.eval s = .slice (some ad) sLen sCap)
  (cur : List Value) (t : TypeId) (hg : Cel w g t cur) (cs : List Value) (hn : cs.length = Nat.min sLen dLen * size)
  (hsrc : ∀ j v, cs[j]? = some v → w.cell? (ad.add j) = some v) (hfit : off + cs.length ≤ cur.length) (h1 : ∀ v ∈ cs, v.oneCell' = true)
  (h : ∀ w', Cel w' g t (splice cur off cs) → Frm [g] w w' → K (a.put o.dst (goInt (Nat.min sLen dLen))) w') :
  if Region.wanted o (yielded ops a.tmps) = true then Oper.wp P o a w K Q else E := by
 have hw : Region.wanted o (yielded ops a.tmps) = true := by simp [Region.wanted, hgd]
 rw [if_pos hw]
 obtain ⟨w', hrun, h2, h3⟩ := run_copy_cel (P := P) w dT sT o.type elem size g off dLen dCap ad sLen sCap cur t cs hu hs hg hn hsrc hfit h1
 unfold Oper.wp execOp
 simp only [ho, resolve, invoke, builtin, Sem.run_bind, Sem.run_pure, Result.andThen_ok, List.map_toArray, List.map_cons, List.map_nil, hd, hx, hrun]
 exact h w' h2 h3
end
end Go.Proofs.YteohlpmojfjjdaaGreat.Nfa
end
