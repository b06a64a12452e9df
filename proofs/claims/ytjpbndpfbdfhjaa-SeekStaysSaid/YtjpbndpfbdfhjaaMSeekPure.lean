/-
  Layer 10, the mathematics: which instructions one comes to (a relation, so that whatever way of coming serves), what matches, what is found, and that it stays found.
-/
import Derived.Test.YtjpbndpfbdfhjaaMNfaHas
namespace Go.Proofs.Ytjpbndpfbdfhjaa.Seek
open Go.Proofs.Ytjpbndpfbdfhjaa.Nfa (In has)
set_option linter.unusedVariables false
set_option linter.unusedSimpArgs false

/-- One comes from i to j without a byte. -/
def Eps (p : List In) (i j : Nat) : Prop := ∃ x, p[i]? = some x ∧ j < p.length ∧ ((x.kind = 2 ∨ x.kind = 3) ∧ (j : Int) = (i : Int) + x.x ∨ x.kind = 2 ∧ (j : Int) = (i : Int) + x.y)
inductive Rch (p : List In) (i : Nat) : Nat → Prop
  | refl (h : i < p.length) : Rch p i i
  | step {j k : Nat} (h : Rch p i j) (e : Eps p j k) : Rch p i k
theorem Rch.lt {p : List In} {i j : Nat} (h : Rch p i j) : j < p.length := by
  cases h with
  | refl h => exact h
  | step _ e => obtain ⟨_, _, hl, _⟩ := e; exact hl
theorem Rch.head {p : List In} {i j k : Nat} (e : Eps p i j) (h : Rch p j k) : Rch p i k := by
  induction h with
  | refl h =>
    have hi : i < p.length := by obtain ⟨x, hx, _⟩ := e; exact (List.getElem?_eq_some_iff.1 hx).1
    exact .step (.refl hi) e
  | step _ e2 ih => exact .step ih e2

/-- What coming to a place does to the marks. -/
structure Come (p : List In) (M M' : List Bool) (pl : Int) : Prop where
  len : M'.length = M.length
  mono : ∀ j : Nat, M[j]? = some true → M'[j]? = some true
  here : ∀ a : Nat, (a : Int) = pl → a < p.length → M'[a]? = some true
  reach : ∀ j : Nat, M'[j]? = some true → M[j]? ≠ some true → ∃ a : Nat, (a : Int) = pl ∧ Rch p a j
  closed : ∀ j k : Nat, M'[j]? = some true → M[j]? ≠ some true → Eps p j k → M'[k]? = some true
theorem Come.out {p : List In} {M : List Bool} {pl : Int} (h : pl < 0 ∨ (p.length : Int) ≤ pl) : Come p M M pl :=
  ⟨rfl, fun _ h => h, fun a e hl => by omega, fun j h1 h2 => absurd h1 h2, fun j k h1 h2 => absurd h1 h2⟩
theorem Come.met {p : List In} {M : List Bool} {a : Nat} (h : M[a]? = some true) : Come p M M (a : Int) :=
  ⟨rfl, fun _ h => h, fun b e hl => by rw [show b = a by omega]; exact h, fun j h1 h2 => absurd h1 h2, fun j k h1 h2 => absurd h1 h2⟩
theorem set_true {M : List Bool} {a j : Nat} (ha : a < M.length) : (M.set a true)[j]? = some true ↔ j = a ∨ M[j]? = some true := by
  by_cases e : a = j
  · subst e; simp [ha]
  · rw [List.getElem?_set_ne e]
    constructor
    · exact .inr
    · rintro (h | h)
      · exact absurd h.symm e
      · exact h
theorem Come.one {p : List In} {M : List Bool} {a : Nat} {x : In} (hl : M.length = p.length) (hx : p[a]? = some x) (h2 : x.kind ≠ 2) (h3 : x.kind ≠ 3) : Come p M (M.set a true) (a : Int) := by
  have ha := (List.getElem?_eq_some_iff.1 hx).1
  have hm : a < M.length := by omega
  refine ⟨by simp, fun j h => (set_true hm).2 (.inr h), fun b e _ => (set_true hm).2 (.inl (by omega)), fun j h1 h4 => ?_, fun j k h1 h4 e => ?_⟩
  · rcases (set_true hm).1 h1 with rfl | h
    · exact ⟨j, rfl, .refl ha⟩
    · exact absurd h h4
  · rcases (set_true hm).1 h1 with rfl | h
    · obtain ⟨y, hy, _, hk⟩ := e
      rw [hx] at hy; cases hy
      rcases hk with ⟨hk | hk, _⟩ | ⟨hk, _⟩
      · exact absurd hk h2
      · exact absurd hk h3
      · exact absurd hk h2
    · exact absurd h h4
theorem Come.go {p : List In} {M M' : List Bool} {a : Nat} {x : In} (hl : M.length = p.length) (hx : p[a]? = some x) (h3 : x.kind = 3) (h : Come p (M.set a true) M' ((a : Int) + x.x)) : Come p M M' (a : Int) := by
  have ha := (List.getElem?_eq_some_iff.1 hx).1
  have hm : a < M.length := by omega
  have hm1 : ∀ j, j = a ∨ M[j]? = some true → M'[j]? = some true := fun j hj => h.mono j ((set_true hm).2 hj)
  have heps : ∀ k : Nat, (k : Int) = (a : Int) + x.x → k < p.length → Eps p a k := fun k e hk => ⟨x, hx, hk, .inl ⟨.inr h3, e⟩⟩
  refine ⟨by rw [h.len]; simp, fun j hj => hm1 j (.inr hj), fun b e _ => hm1 b (.inl (by omega)), fun j h1 h4 => ?_, fun j k h1 h4 e => ?_⟩
  · by_cases e : j = a
    · subst e; exact ⟨j, rfl, .refl ha⟩
    · obtain ⟨b, hb, hr⟩ := h.reach j h1 (fun q => by rcases (set_true hm).1 q with q | q; exact e q; exact h4 q)
      have hbl : b < p.length := by
        clear hb h1 h4 e
        induction hr with
        | refl h => exact h
        | step _ _ ih => exact ih
      exact ⟨a, rfl, .head (heps b hb hbl) hr⟩
  · by_cases ej : j = a
    · subst ej
      obtain ⟨y, hy, hk, hq⟩ := e
      rw [hx] at hy; cases hy
      rcases hq with ⟨_, hq⟩ | ⟨hq, _⟩
      · exact h.here k hq hk
      · omega
    · exact h.closed j k h1 (fun q => by rcases (set_true hm).1 q with q | q; exact ej q; exact h4 q) e
theorem Rch.start {p : List In} {i j : Nat} (h : Rch p i j) : i < p.length := by
  induction h with
  | refl h => exact h
  | step _ _ ih => exact ih
theorem Come.two {p : List In} {M M1 M2 : List Bool} {a : Nat} {x : In} (hl : M.length = p.length) (hx : p[a]? = some x) (h2 : x.kind = 2) (h : Come p (M.set a true) M1 ((a : Int) + x.x)) (h' : Come p M1 M2 ((a : Int) + x.y)) : Come p M M2 (a : Int) := by
  have ha := (List.getElem?_eq_some_iff.1 hx).1
  have hm : a < M.length := by omega
  have hm1 : ∀ j, j = a ∨ M[j]? = some true → M1[j]? = some true := fun j hj => h.mono j ((set_true hm).2 hj)
  have hn : ∀ j, j ≠ a → M[j]? ≠ some true → (M.set a true)[j]? ≠ some true := fun j e h4 q => by rcases (set_true hm).1 q with q | q; exact e q; exact h4 q
  refine ⟨by rw [h'.len, h.len]; simp, fun j hj => h'.mono j (hm1 j (.inr hj)), fun b e _ => h'.mono b (hm1 b (.inl (by omega))), fun j h1 h4 => ?_, fun j k h1 h4 e => ?_⟩
  · by_cases e : j = a
    · subst e; exact ⟨j, rfl, .refl ha⟩
    · by_cases e1 : M1[j]? = some true
      · obtain ⟨b, hb, hr⟩ := h.reach j e1 (hn j e h4)
        exact ⟨a, rfl, .head ⟨x, hx, hr.start, .inl ⟨.inl h2, hb⟩⟩ hr⟩
      · obtain ⟨b, hb, hr⟩ := h'.reach j h1 e1
        exact ⟨a, rfl, .head ⟨x, hx, hr.start, .inr ⟨h2, hb⟩⟩ hr⟩
  · by_cases ej : j = a
    · subst ej
      obtain ⟨y, hy, hk, hq⟩ := e
      rw [hx] at hy; cases hy
      rcases hq with ⟨_, hq⟩ | ⟨_, hq⟩
      · exact h'.mono k (h.here k hq hk)
      · exact h'.here k hq hk
    · by_cases e1 : M1[j]? = some true
      · exact h'.mono k (h.closed j k e1 (hn j ej h4) e)
      · exact h'.closed j k h1 e1 e

/-- The marks are the set S, and S is closed. -/
structure Marks (p : List In) (M : List Bool) (S : Nat → Prop) : Prop where
  len : M.length = p.length
  iff : ∀ j : Nat, M[j]? = some true ↔ S j
  closed : ∀ j k : Nat, S j → Eps p j k → S k
theorem Marks.none (p : List In) : Marks p (List.replicate p.length false) (fun _ => False) :=
  ⟨by simp, fun j => by simp [List.getElem?_replicate], fun _ _ h => h.elim⟩
theorem Marks.congr {p : List In} {M : List Bool} {S T : Nat → Prop} (h : Marks p M S) (e : ∀ j, S j ↔ T j) : Marks p M T :=
  ⟨h.len, fun j => (h.iff j).trans (e j), fun j k hj he => (e k).1 (h.closed j k ((e j).2 hj) he)⟩
theorem Marks.come {p : List In} {M M' : List Bool} {S : Nat → Prop} {a : Nat} (h : Marks p M S) (hc : Come p M M' (a : Int)) : Marks p M' (fun j => S j ∨ Rch p a j) := by
  have hcl : ∀ j k : Nat, M'[j]? = some true → Eps p j k → M'[k]? = some true := fun j k hj he => by
    by_cases e : M[j]? = some true
    · exact hc.mono k ((h.iff k).2 (h.closed j k ((h.iff j).1 e) he))
    · exact hc.closed j k hj e he
  have hr : ∀ j, Rch p a j → M'[j]? = some true := fun j hj => by
    induction hj with
    | refl hl => exact hc.here a rfl hl
    | step _ e ih => exact hcl _ _ ih e
  have hi : ∀ j, M'[j]? = some true ↔ S j ∨ Rch p a j := fun j => by
    constructor
    · intro hj
      by_cases e : M[j]? = some true
      · exact .inl ((h.iff j).1 e)
      · obtain ⟨b, hb, hr⟩ := hc.reach j hj e
        rw [show b = a by omega] at hr
        exact .inr hr
    · rintro (hj | hj)
      · exact hc.mono j ((h.iff j).2 hj)
      · exact hr j hj
  exact ⟨hc.len.trans h.len, hi, fun j k hj he => (hi k).1 (hcl j k ((hi j).2 hj) he)⟩
/-- Where one stands behind a byte, from the places S. -/
def Take (p : List In) (S : Nat → Prop) (c : BitVec 8) (j : Nat) : Prop := ∃ (i : Nat) (x : In), S i ∧ p[i]? = some x ∧ x.kind = 1 ∧ has x c = true ∧ Rch p (i + 1) j
/-- .. behind bytes. -/
def OnFrom (p : List In) : (Nat → Prop) → List (BitVec 8) → Nat → Prop
  | S, [] => S
  | S, c :: bs => OnFrom p (Take p S c) bs
def On (p : List In) (bs : List (BitVec 8)) : Nat → Prop := OnFrom p (Rch p 0) bs
theorem OnFrom.snoc (p : List In) (c : BitVec 8) : ∀ (bs : List (BitVec 8)) (S : Nat → Prop), OnFrom p S (bs ++ [c]) = Take p (OnFrom p S bs) c
  | [], _ => rfl
  | b :: bs, S => by rw [List.cons_append, OnFrom, OnFrom, OnFrom.snoc p c bs]
theorem On.nil (p : List In) : On p [] = Rch p 0 := rfl
theorem On.snoc (p : List In) (bs : List (BitVec 8)) (c : BitVec 8) : On p (bs ++ [c]) = Take p (On p bs) c := OnFrom.snoc p c bs _
/-- Do instructions match bytes? -/
def Hits (p : List In) (bs : List (BitVec 8)) : Prop := ∃ (i : Nat) (x : In), On p bs i ∧ p[i]? = some x ∧ x.kind = 4
/-- A round of taking a byte: of the first k places, those that take it have been gone on from. -/
def TakeTo (p : List In) (S : Nat → Prop) (c : BitVec 8) (k j : Nat) : Prop := ∃ (i : Nat) (x : In), i < k ∧ S i ∧ p[i]? = some x ∧ x.kind = 1 ∧ has x c = true ∧ Rch p (i + 1) j
theorem takeTo_zero (p : List In) (S : Nat → Prop) (c : BitVec 8) (j : Nat) : TakeTo p S c 0 j ↔ False := ⟨fun ⟨i, x, h, _⟩ => absurd h (Nat.not_lt_zero _), False.elim⟩
theorem takeTo_yes {p : List In} {S : Nat → Prop} {c : BitVec 8} {k : Nat} {x : In} (hs : S k) (hx : p[k]? = some x) (h1 : x.kind = 1) (hh : has x c = true) (j : Nat) : TakeTo p S c (k + 1) j ↔ TakeTo p S c k j ∨ Rch p (k + 1) j := by
  constructor
  · rintro ⟨i, y, hi, q⟩
    rcases Nat.lt_or_ge i k with h | h
    · exact .inl ⟨i, y, h, q⟩
    · obtain rfl : i = k := by omega
      exact .inr q.2.2.2.2
  · rintro (⟨i, y, hi, q⟩ | h)
    · exact ⟨i, y, by omega, q⟩
    · exact ⟨k, x, by omega, hs, hx, h1, hh, h⟩
theorem takeTo_no {p : List In} {S : Nat → Prop} {c : BitVec 8} {k : Nat} (hn : ∀ x, S k → p[k]? = some x → x.kind = 1 → has x c = true → False) (j : Nat) : TakeTo p S c (k + 1) j ↔ TakeTo p S c k j := by
  constructor
  · rintro ⟨i, y, hi, q⟩
    rcases Nat.lt_or_ge i k with h | h
    · exact ⟨i, y, h, q⟩
    · obtain rfl : i = k := by omega
      exact (hn y q.1 q.2.1 q.2.2.1 q.2.2.2.1).elim
  · rintro ⟨i, y, hi, q⟩
    exact ⟨i, y, by omega, q⟩
theorem takeTo_all (p : List In) (S : Nat → Prop) (c : BitVec 8) (j : Nat) : TakeTo p S c p.length j ↔ Take p S c j := by
  constructor
  · rintro ⟨i, y, hi, q⟩
    exact ⟨i, y, q⟩
  · rintro ⟨i, y, q⟩
    exact ⟨i, y, (List.getElem?_eq_some_iff.1 q.2.1).1, q⟩
theorem closed_take {p : List In} {S : Nat → Prop} {c : BitVec 8} : ∀ j k : Nat, Take p S c j → Eps p j k → Take p S c k := fun j k ⟨i, x, q1, q2, q3, q4, q5⟩ e => ⟨i, x, q1, q2, q3, q4, .step q5 e⟩

/-- The bytes from one place to another. -/
def cut (b : List (BitVec 8)) (f t : Nat) : List (BitVec 8) := (b.take t).drop f
theorem cut_self (b : List (BitVec 8)) (f : Nat) : cut b f f = [] := by rw [cut]; exact List.drop_eq_nil_of_le (by rw [List.length_take]; omega)
theorem cut_snoc {b : List (BitVec 8)} {f t : Nat} {c : BitVec 8} (hf : f ≤ t) (hc : b[t]? = some c) : cut b f (t + 1) = cut b f t ++ [c] := by
  have ht := (List.getElem?_eq_some_iff.1 hc).1
  rw [cut, cut, List.take_add_one, hc, List.drop_append_of_le_length (by rw [List.length_take]; omega)]; rfl
theorem cut_more {b m : List (BitVec 8)} {f t : Nat} (h : t ≤ b.length) : cut (b ++ m) f t = cut b f t := by rw [cut, cut, List.take_append_of_le_length h]
/-- An arm is met between two places. -/
def Met (ps : List (List In)) (b : List (BitVec 8)) (i f t : Nat) : Prop := ∃ p, ps[i]? = some p ∧ f ≤ t ∧ t ≤ b.length ∧ Hits p (cut b f t)
/-- What is found: the first end; of these the first arm; of these the first beginning. -/
structure Best (ps : List (List In)) (b : List (BitVec 8)) (i f t : Nat) : Prop where
  met : Met ps b i f t
  first : ∀ i' f' t', Met ps b i' f' t' → t < t' ∨ t = t' ∧ (i < i' ∨ i = i' ∧ f ≤ f')
def None_ (ps : List (List In)) (b : List (BitVec 8)) : Prop := ∀ i f t, ¬ Met ps b i f t
theorem Best.unique {ps : List (List In)} {b : List (BitVec 8)} {i f t i' f' t' : Nat} (h : Best ps b i f t) (h' : Best ps b i' f' t') : i = i' ∧ f = f' ∧ t = t' := by
  have := h.first _ _ _ h'.met
  have := h'.first _ _ _ h.met
  omega
theorem Best.not_none {ps : List (List In)} {b : List (BitVec 8)} {i f t : Nat} (h : Best ps b i f t) : ¬ None_ ps b := fun q => q _ _ _ h.met
theorem Met.more {ps : List (List In)} {b m : List (BitVec 8)} {i f t : Nat} (h : Met ps b i f t) : Met ps (b ++ m) i f t := by
  obtain ⟨p, hp, hf, ht, hh⟩ := h
  exact ⟨p, hp, hf, by rw [List.length_append]; omega, by rw [cut_more ht]; exact hh⟩
theorem Met.less {ps : List (List In)} {b m : List (BitVec 8)} {i f t : Nat} (h : Met ps (b ++ m) i f t) (ht : t ≤ b.length) : Met ps b i f t := by
  obtain ⟨p, hp, hf, _, hh⟩ := h
  exact ⟨p, hp, hf, ht, by rw [cut_more ht] at hh; exact hh⟩
/-- P10.3: what is found is found, too, when more comes behind. -/
theorem Best.more {ps : List (List In)} {b m : List (BitVec 8)} {i f t : Nat} (h : Best ps b i f t) : Best ps (b ++ m) i f t :=
  ⟨h.met.more, fun i' f' t' q => by
    obtain ⟨_, _, _, ht, _⟩ := h.met
    rcases Nat.lt_or_ge b.length t' with hl | hl
    · omega
    · exact h.first _ _ _ (q.less hl)⟩
/-- .. and if none was found, what is found ends in what came. -/
theorem Best.late {ps : List (List In)} {b m : List (BitVec 8)} {i f t : Nat} (hn : None_ ps b) (h : Best ps (b ++ m) i f t) : b.length < t := by
  rcases Nat.lt_or_ge b.length t with hl | hl
  · exact hl
  · exact absurd (h.met.less hl) (hn _ _ _)

/-- The places ahead of (i, f, t), in the order in which they are tried: arm by arm, beginning by beginning, end by end. -/
def Vis (i f t i' f' t' : Nat) : Prop := i' < i ∨ i' = i ∧ (f' < f ∨ f' = f ∧ t' < t)
/-- How far is looked: what is found of the places ahead of (i, f, t) (o: the arm, the beginning; e: the end). -/
structure Lk (ps : List (List In)) (b : List (BitVec 8)) (i f t : Nat) (o : Option (Nat × Nat)) (e : Nat) : Prop where
  no : o = none → e = b.length + 1
  yes : ∀ a g, o = some (a, g) → Met ps b a g e ∧ (a < i ∨ a = i ∧ g ≤ f)
  best : ∀ i' f' t', Vis i f t i' f' t' → Met ps b i' f' t' → ∃ a g, o = some (a, g) ∧ (e < t' ∨ e = t' ∧ (a < i' ∨ a = i' ∧ g ≤ f'))
section
variable {ps : List (List In)} {b : List (BitVec 8)} {i f t e : Nat} {o : Option (Nat × Nat)}
theorem Met.le (h : Met ps b i f t) : f ≤ t ∧ t ≤ b.length := by obtain ⟨_, _, h1, h2, _⟩ := h; exact ⟨h1, h2⟩
theorem Lk.start : Lk ps b 0 0 0 none (b.length + 1) := by
  refine ⟨fun _ => rfl, fun a g h => ?_, fun i' f' t' h _ => ?_⟩
  · cases h
  · unfold Vis at h; omega
theorem Lk.le (h : Lk ps b i f t o e) : e ≤ b.length + 1 := by
  cases o with
  | none => exact Nat.le_of_eq (h.no rfl)
  | some q => obtain ⟨a, g⟩ := q; have := (h.yes a g rfl).1.le; omega
theorem Lk.hit (h : Lk ps b i f t o e) (hte : t < e) (hm : Met ps b i f t) : Lk ps b i f (t + 1) (some (i, f)) t := by
  refine ⟨fun q => (by cases q), fun a g q => (by cases q; exact ⟨hm, .inr ⟨rfl, Nat.le_refl _⟩⟩), fun i' f' t' hv hm' => ⟨i, f, rfl, ?_⟩⟩
  by_cases q : Vis i f t i' f' t'
  · obtain ⟨a, g, _, r⟩ := h.best i' f' t' q hm'
    omega
  · unfold Vis at hv q
    omega
theorem Lk.miss (h : Lk ps b i f t o e) (hm : ¬ Met ps b i f t) : Lk ps b i f (t + 1) o e := by
  refine ⟨h.no, h.yes, fun i' f' t' hv hm' => ?_⟩
  by_cases q : Vis i f t i' f' t'
  · exact h.best i' f' t' q hm'
  · unfold Vis at hv q
    obtain ⟨rfl, rfl, rfl⟩ : i' = i ∧ f' = f ∧ t' = t := by omega
    exact absurd hm' hm
theorem Lk.nextF (h : Lk ps b i f t o e) (hq : e ≤ t ∨ b.length < t) : Lk ps b i (f + 1) (f + 1) o e := by
  refine ⟨h.no, fun a g q => ⟨(h.yes a g q).1, by have := (h.yes a g q).2; omega⟩, fun i' f' t' hv hm' => ?_⟩
  have hle := hm'.le
  by_cases q : Vis i f t i' f' t'
  · exact h.best i' f' t' q hm'
  · unfold Vis at hv q
    obtain ⟨rfl, rfl, ht⟩ : i' = i ∧ f' = f ∧ t ≤ t' := by omega
    cases o with
    | none => have := h.no rfl; omega
    | some q => obtain ⟨a, g⟩ := q; have := (h.yes a g rfl).2; exact ⟨a, g, rfl, by omega⟩
theorem Lk.nextI (h : Lk ps b i f f o e) (hq : e < f ∨ b.length < f) : Lk ps b (i + 1) 0 0 o e := by
  refine ⟨h.no, fun a g q => ⟨(h.yes a g q).1, by have := (h.yes a g q).2; omega⟩, fun i' f' t' hv hm' => ?_⟩
  have hle := hm'.le
  by_cases q : Vis i f f i' f' t'
  · exact h.best i' f' t' q hm'
  · unfold Vis at hv q
    obtain ⟨rfl, ht⟩ : i' = i ∧ f ≤ f' := by omega
    cases o with
    | none => have := h.no rfl; omega
    | some q => obtain ⟨a, g⟩ := q; exact ⟨a, g, rfl, by omega⟩
theorem Met.arm (h : Met ps b i f t) : i < ps.length := by obtain ⟨p, hp, _⟩ := h; exact (List.getElem?_eq_some_iff.1 hp).1
theorem Lk.done (h : Lk ps b ps.length 0 0 o e) : (o = none ∧ None_ ps b) ∨ ∃ a g, o = some (a, g) ∧ Best ps b a g e := by
  cases o with
  | none => exact .inl ⟨rfl, fun i f t hm => by obtain ⟨_, _, q, _⟩ := h.best i f t (.inl hm.arm) hm; cases q⟩
  | some q =>
    obtain ⟨a, g⟩ := q
    refine .inr ⟨a, g, rfl, (h.yes a g rfl).1, fun i' f' t' hm => ?_⟩
    obtain ⟨a', g', q, r⟩ := h.best i' f' t' (.inl hm.arm) hm
    cases q
    exact r
end
/-- Fewer places are unmarked. -/
theorem cnt_le : ∀ (M M' : List Bool), M'.length = M.length → (∀ j : Nat, M[j]? = some true → M'[j]? = some true) → M'.count false ≤ M.count false
  | [], [], _, _ => Nat.le_refl _
  | [], _ :: _, h, _ => by simp at h
  | _ :: _, [], h, _ => by simp at h
  | a :: M, b :: M', h, hm => by
    have ih := cnt_le M M' (by simpa using h) (fun j hj => by simpa using hm (j + 1) (by simpa using hj))
    have h0 := hm 0
    cases a <;> cases b <;> simp at h0 ⊢ <;> omega
theorem cnt_lt : ∀ (M M' : List Bool) (a : Nat), M'.length = M.length → (∀ j : Nat, M[j]? = some true → M'[j]? = some true) → M[a]? = some false → M'[a]? = some true → M'.count false < M.count false
  | [], _, a, _, _, h, _ => by simp at h
  | _ :: _, [], _, h, _, _, _ => by simp at h
  | x :: M, y :: M', 0, h, hm, h1, h2 => by
    have ih := cnt_le M M' (by simpa using h) (fun j hj => by simpa using hm (j + 1) (by simpa using hj))
    simp at h1 h2
    subst h1; subst h2
    simp; omega
  | x :: M, y :: M', a + 1, h, hm, h1, h2 => by
    have ih := cnt_lt M M' a (by simpa using h) (fun j hj => by simpa using hm (j + 1) (by simpa using hj)) (by simpa using h1) (by simpa using h2)
    have h0 := hm 0
    cases x <;> cases y <;> simp at h0 ⊢ <;> omega
/-- A place beyond all numbers is none, wrapped or not. -/
theorem Come.wrap {p : List In} {M M' : List Bool} {z t : Int} (h : Come p M M' z) (e : z = t ∨ z < 0 ∧ (p.length : Int) ≤ t) : Come p M M' t := by
  rcases e with rfl | ⟨h0, h1⟩
  · exact h
  · exact ⟨h.len, h.mono, fun a e hl => by omega, fun j q1 q2 => by obtain ⟨a, ha, _⟩ := h.reach j q1 q2; omega, h.closed⟩
end Go.Proofs.Ytjpbndpfbdfhjaa.Seek
