/-
  Layer 10, the mathematics of the program's way: of each instruction the least start of a run that is there.
-/
import Derived.Test.YtjpbndpfbdfhjaaMSeekAs
namespace Go.Proofs.Ytjpbndpfbdfhjaa.Seek
open Go.Proofs.Ytjpbndpfbdfhjaa.Nfa (In has)
set_option linter.unusedVariables false
set_option linter.unusedSimpArgs false

/-- Which instructions have a run. -/
def live (n : Nat) (S : List Int) : List Bool := (S.take n).map (fun x => !(x == -1))
theorem live_len {n : Nat} {S : List Int} (h : n ≤ S.length) : (live n S).length = n := by unfold live; rw [List.length_map, List.length_take]; omega
theorem live_at {n : Nat} {S : List Int} {j : Nat} : (live n S)[j]? = some true ↔ j < n ∧ ∃ x, S[j]? = some x ∧ x ≠ -1 := by
  unfold live
  rw [List.getElem?_map, List.getElem?_take]
  by_cases h : j < n
  · rw [if_pos h]
    cases hx : S[j]? with
    | none => simp
    | some x => simp [h]
  · rw [if_neg h]; simp [h]
theorem live_no {n : Nat} {S : List Int} {j : Nat} (hn : n ≤ S.length) (hj : j < n) (h : (live n S)[j]? ≠ some true) : S[j]? = some (-1) := by
  have hl : j < S.length := by omega
  rw [List.getElem?_eq_getElem hl]
  by_cases e : S[j] = -1
  · rw [e]
  · exact absurd (live_at.2 ⟨hj, S[j], List.getElem?_eq_getElem hl, e⟩) h
theorem live_set {n : Nat} {S : List Int} {a : Nat} {x : Int} (hx : x ≠ -1) : live n (S.set a x) = (live n S).set a true := by
  unfold live
  rw [List.take_set, List.map_set]
  have : (!(x == -1)) = true := by simp [hx]
  rw [this]
/-- What entering adds: runs of one start. -/
structure Grow (n : Nat) (S S' : List Int) (ol ol' : List Nat) (t : Int) : Prop where
  len : S'.length = S.length
  old : ∀ j : Nat, (live n S)[j]? = some true → S'[j]? = S[j]?
  new : ∀ j : Nat, (live n S')[j]? = some true → (live n S)[j]? ≠ some true → S'[j]? = some t
  app : ∃ l, ol' = ol ++ l ∧ ∀ j : Nat, j ∈ l ↔ (live n S')[j]? = some true ∧ (live n S)[j]? ≠ some true
  cnt : ol'.length + (live n S').count false ≤ ol.length + (live n S).count false
section
variable {n : Nat} {S S1 S2 : List Int} {ol ol1 ol2 : List Nat} {t : Int}
theorem Grow.mono (h : Grow n S S1 ol ol1 t) {j : Nat} (hj : (live n S)[j]? = some true) : (live n S1)[j]? = some true := by
  obtain ⟨h1, x, h2, h3⟩ := live_at.1 hj
  exact live_at.2 ⟨h1, x, by rw [h.old j hj, h2], h3⟩
theorem Grow.refl (n : Nat) (S : List Int) (ol : List Nat) (t : Int) : Grow n S S ol ol t :=
  ⟨rfl, fun _ _ => rfl, fun j h1 h2 => absurd h1 h2, ⟨[], by simp, by intro j; simp⟩, Nat.le_refl _⟩
theorem Grow.trans (h : Grow n S S1 ol ol1 t) (h2 : Grow n S1 S2 ol1 ol2 t) : Grow n S S2 ol ol2 t := by
  obtain ⟨l1, e1, m1⟩ := h.app
  obtain ⟨l2, e2, m2⟩ := h2.app
  refine ⟨h2.len.trans h.len, fun j hj => (h2.old j (h.mono hj)).trans (h.old j hj), fun j hj hn => ?_, ⟨l1 ++ l2, by rw [e2, e1, List.append_assoc], fun j => ?_⟩, Nat.le_trans h2.cnt h.cnt⟩
  · by_cases q : (live n S1)[j]? = some true
    · rw [h2.old j q]; exact h.new j q hn
    · exact h2.new j hj q
  · rw [List.mem_append, m1, m2]
    constructor
    · rintro (⟨q1, q2⟩ | ⟨q1, q2⟩)
      · exact ⟨h2.mono q1, q2⟩
      · exact ⟨q1, fun q => q2 (h.mono q)⟩
    · rintro ⟨q1, q2⟩
      by_cases q : (live n S1)[j]? = some true
      · exact .inl ⟨q, q2⟩
      · exact .inr ⟨q1, q⟩
theorem Grow.one {a : Nat} (hn : n ≤ S.length) (ha : a < n) (hm : (live n S)[a]? = some false) (ht : t ≠ -1) : Grow n S (S.set a t) ol (ol ++ [a]) t := by
  have hl : a < (live n S).length := by rw [live_len hn]; exact ha
  refine ⟨by simp, fun j hj => ?_, fun j hj hq => ?_, ⟨[a], rfl, fun j => ?_⟩, ?_⟩
  · by_cases e : a = j
    · subst e; rw [hm] at hj; cases hj
    · rw [List.getElem?_set_ne e]
  · rw [live_set ht] at hj
    rcases (set_true hl).1 hj with rfl | h
    · rw [List.getElem?_set_self (by omega)]
    · exact absurd h hq
  · rw [live_set ht, set_true hl, List.mem_singleton]
    constructor
    · rintro rfl; exact ⟨.inl rfl, by rw [hm]; simp⟩
    · rintro ⟨q | q, q2⟩
      · exact q
      · exact absurd q q2
  · have := cnt_lt (live n S) ((live n S).set a true) a (by simp) (fun j hj => (set_true hl).2 (.inr hj)) hm ((set_true hl).2 (.inl rfl))
    rw [live_set ht, List.length_append]
    simp only [List.length_cons, List.length_nil]
    omega
end

/-- The starts S, in the order ol, are the least ones of Q. -/
structure Ld (p : List In) (S : List Int) (ol : List Nat) (Q : Nat → Nat → Prop) : Prop where
  at_ : ∀ (j : Nat) (z : Int), j < p.length → S[j]? = some z → (z = -1 ∧ ∀ s, ¬ Q s j) ∨ ∃ s : Nat, z = (s : Int) ∧ Q s j ∧ ∀ s', Q s' j → s ≤ s'
  far : ∀ s j, Q s j → j < p.length
  mem : ∀ j : Nat, j ∈ ol ↔ (live p.length S)[j]? = some true
  sort : ol.Pairwise (fun i j => S.getD i 0 ≤ S.getD j 0)
  closed : ∀ s j k, Q s j → Eps p j k → Q s k
  slen : p.length ≤ S.length
section
variable {p : List In} {S S' : List Int} {ol ol' : List Nat} {Q Q' : Nat → Nat → Prop}
theorem Ld.nil_ {S : List Int} (hl : p.length ≤ S.length) (h : ∀ (j : Nat) (z : Int), j < p.length → S[j]? = some z → z = -1) : Ld p S [] (fun _ _ => False) := by
  refine ⟨fun j z hj hz => .inl ⟨h j z hj hz, fun _ q => q⟩, fun _ _ q => q.elim, fun j => ?_, List.Pairwise.nil, fun _ _ _ q => q.elim, hl⟩
  constructor
  · intro q; cases q
  · intro q
    obtain ⟨h1, x, h2, h3⟩ := live_at.1 q
    exact absurd (h j x h1 h2) h3
theorem Ld.marked (h : Ld p S ol Q) {j : Nat} : (live p.length S)[j]? = some true ↔ ∃ s, Q s j := by
  constructor
  · intro q
    obtain ⟨h1, x, h2, h3⟩ := live_at.1 q
    rcases h.at_ j x h1 h2 with ⟨h4, _⟩ | ⟨s, _, h4, _⟩
    · exact absurd h4 h3
    · exact ⟨s, h4⟩
  · rintro ⟨s, q⟩
    have hj := h.far s j q
    have hl : j < S.length := Nat.lt_of_lt_of_le hj h.slen
    rcases h.at_ j S[j] hj (List.getElem?_eq_getElem hl) with ⟨_, h4⟩ | ⟨s', h4, _⟩
    · exact absurd q (h4 s)
    · exact live_at.2 ⟨hj, S[j], List.getElem?_eq_getElem hl, by omega⟩
theorem Ld.start (h : Ld p S ol Q) {j : Nat} (hj : j ∈ ol) : ∃ s : Nat, S[j]? = some (s : Int) ∧ Q s j ∧ (∀ s', Q s' j → s ≤ s') ∧ j < p.length := by
  obtain ⟨h1, x, h2, h3⟩ := live_at.1 ((h.mem j).1 hj)
  rcases h.at_ j x h1 h2 with ⟨h4, _⟩ | ⟨s, rfl, h4, h5⟩
  · exact absurd h4 h3
  · exact ⟨s, h2, h4, h5, h1⟩
theorem Ld.marks (h : Ld p S ol Q) : Marks p (live p.length S) (fun j => ∃ s, Q s j) := ⟨live_len h.slen, fun j => h.marked, fun j k ⟨s, q⟩ e => ⟨s, h.closed s j k q e⟩⟩
theorem Ld.enter (h : Ld p S ol Q) {a t : Nat} (hc : Come p (live p.length S) (live p.length S') (a : Int)) (hg : Grow p.length S S' ol ol' (t : Int)) (ht : ∀ s j, Q s j → s ≤ t) : Ld p S' ol' (fun s j => Q s j ∨ s = t ∧ Rch p a j) := by
  have hm := h.marks.come hc
  have hsl : p.length ≤ S'.length := by rw [hg.len]; exact h.slen
  have hold : ∀ i, i ∈ ol → S'.getD i 0 = S.getD i 0 := fun i hi => by
    rw [List.getD_eq_getElem?_getD, List.getD_eq_getElem?_getD, hg.old i ((h.mem i).1 hi)]
  obtain ⟨l, rfl, hl⟩ := hg.app
  have hnew : ∀ i, i ∈ l → S'.getD i 0 = (t : Int) := fun i hi => by
    obtain ⟨q1, q2⟩ := (hl i).1 hi
    rw [List.getD_eq_getElem?_getD, hg.new i q1 q2]; rfl
  refine ⟨fun j z hj hz => ?_, fun s j q => ?_, fun j => ?_, ?_, fun s j k q e => ?_, hsl⟩
  · by_cases q : (live p.length S)[j]? = some true
    · rw [hg.old j q] at hz
      rcases h.at_ j z hj hz with ⟨h1, h2⟩ | ⟨s, h1, h2, h3⟩
      · obtain ⟨s, hs⟩ := h.marked.1 q
        exact absurd hs (h2 s)
      · refine .inr ⟨s, h1, .inl h2, fun s' q' => ?_⟩
        rcases q' with q' | ⟨rfl, _⟩
        · exact h3 s' q'
        · exact ht s j h2
    · have hnq : ∀ s, ¬ Q s j := fun s hs => q (h.marked.2 ⟨s, hs⟩)
      by_cases q' : (live p.length S')[j]? = some true
      · have e := hg.new j q' q
        rw [hz] at e
        injection e with e
        have hr : Rch p a j := by
          rcases (hm.iff j).1 q' with ⟨s, hs⟩ | hr
          · exact absurd hs (hnq s)
          · exact hr
        refine .inr ⟨t, e, .inr ⟨rfl, hr⟩, fun s' q'' => ?_⟩
        rcases q'' with q'' | ⟨rfl, _⟩
        · exact absurd q'' (hnq s')
        · exact Nat.le_refl _
      · have e := live_no hsl hj q'
        rw [hz] at e
        injection e with e
        refine .inl ⟨e, fun s hs => ?_⟩
        rcases hs with hs | ⟨_, hr⟩
        · exact hnq s hs
        · exact q' ((hm.iff j).2 (.inr hr))
  · rcases q with q | ⟨_, q⟩
    · exact h.far s j q
    · exact q.lt
  · rw [List.mem_append, h.mem, hl]
    constructor
    · rintro (q | ⟨q, _⟩)
      · exact hg.mono q
      · exact q
    · intro q
      by_cases q' : (live p.length S)[j]? = some true
      · exact .inl q'
      · exact .inr ⟨q, q'⟩
  · rw [List.pairwise_append]
    refine ⟨h.sort.imp_of_mem (fun {i j} hi hj e => by rw [hold i hi, hold j hj]; exact e), ?_, fun i hi j hj => ?_⟩
    · exact List.pairwise_iff_forall_sublist.2 (fun {i j} hs => by
        have hi : i ∈ l := hs.subset (by simp)
        have hj : j ∈ l := hs.subset (by simp)
        rw [hnew i hi, hnew j hj]; exact Int.le_refl _)
    · rw [hold i hi, hnew j hj]
      obtain ⟨s, h1, h2, _⟩ := h.start hi
      have := ht s i h2
      rw [List.getD_eq_getElem?_getD, h1]
      show (s : Int) ≤ t
      omega
  · rcases q with q | ⟨h1, q⟩
    · exact .inl (h.closed s j k q e)
    · exact .inr ⟨h1, .step q e⟩
theorem Ld.least (h : Ld p S ol Q) (h1 : ∀ s j, Q s j → Q' s j) (h2 : ∀ s j, Q' s j → ∃ s', s' ≤ s ∧ Q s' j) (hc : ∀ s j k, Q' s j → Eps p j k → Q' s k) : Ld p S ol Q' := by
  refine ⟨fun j z hj hz => ?_, fun s j q => ?_, h.mem, h.sort, hc, h.slen⟩
  · rcases h.at_ j z hj hz with ⟨q1, q2⟩ | ⟨s, q1, q2, q3⟩
    · exact .inl ⟨q1, fun s hs => by obtain ⟨s', _, hq⟩ := h2 s j hs; exact q2 s' hq⟩
    · exact .inr ⟨s, q1, h1 s j q2, fun s' hs' => by obtain ⟨s'', hle, hq⟩ := h2 s' j hs'; exact Nat.le_trans (q3 s'' hq) hle⟩
  · obtain ⟨s', _, hq⟩ := h2 s j q
    exact h.far s' j hq
theorem Ld.same (h : Ld p S ol Q) (h1 : ∀ s j, Q s j ↔ Q' s j) : Ld p S ol Q' := h.least (fun s j => (h1 s j).1) (fun s j q => ⟨s, Nat.le_refl _, (h1 s j).2 q⟩) (fun s j k q e => (h1 s k).1 (h.closed s j k ((h1 s j).2 q) e))
/-- Does an instruction take a byte? -/
def Tak (p : List In) (c : BitVec 8) (i : Nat) : Prop := ∃ x, p[i]? = some x ∧ x.kind = 1 ∧ has x c = true
/-- What has become of the first runs, in their order, when a byte came. -/
def Fol (p : List In) (S : List Int) (ol : List Nat) (c : BitVec 8) (k s j : Nat) : Prop := ∃ i, i ∈ ol.take k ∧ S[i]? = some (s : Int) ∧ Tak p c i ∧ Rch p (i + 1) j
theorem fol_zero (c : BitVec 8) (s j : Nat) : Fol p S ol c 0 s j ↔ False := ⟨fun ⟨i, h, _⟩ => by simp at h, False.elim⟩
theorem fol_mem {k i : Nat} (hk : ol[k]? = some i) (x : Nat) : x ∈ ol.take (k + 1) ↔ x ∈ ol.take k ∨ x = i := by
  rw [List.take_add_one, hk, List.mem_append]; simp
theorem fol_no {c : BitVec 8} {k i : Nat} (hk : ol[k]? = some i) (hn : ¬ Tak p c i) (s j : Nat) : Fol p S ol c k s j ↔ Fol p S ol c (k + 1) s j := by
  constructor
  · rintro ⟨x, h, q⟩; exact ⟨x, (fol_mem hk x).2 (.inl h), q⟩
  · rintro ⟨x, h, q⟩
    rcases (fol_mem hk x).1 h with h | rfl
    · exact ⟨x, h, q⟩
    · exact absurd q.2.1 hn
theorem fol_yes {c : BitVec 8} {k i t : Nat} (hk : ol[k]? = some i) (ht : S[i]? = some (t : Int)) (hy : Tak p c i) (s j : Nat) : (Fol p S ol c k s j ∨ s = t ∧ Rch p (i + 1) j) ↔ Fol p S ol c (k + 1) s j := by
  constructor
  · rintro (⟨x, h, q⟩ | ⟨rfl, h⟩)
    · exact ⟨x, (fol_mem hk x).2 (.inl h), q⟩
    · exact ⟨i, (fol_mem hk i).2 (.inr rfl), ht, hy, h⟩
  · rintro ⟨x, h, q⟩
    rcases (fol_mem hk x).1 h with h | rfl
    · exact .inl ⟨x, h, q⟩
    · rw [ht] at q
      obtain ⟨q1, _, q3⟩ := q
      injection q1 with q1
      exact .inr ⟨by omega, q3⟩
theorem fol_le (h : Ld p S ol Q) {c : BitVec 8} {k i t : Nat} (hk : ol[k]? = some i) (ht : S[i]? = some (t : Int)) {s j : Nat} (q : Fol p S ol c k s j) : s ≤ t := by
  obtain ⟨x, hx, hs, _⟩ := q
  obtain ⟨m, hm, he⟩ := List.mem_iff_getElem.1 hx
  rw [List.length_take] at hm
  rw [List.getElem_take] at he
  obtain ⟨hkl, hke⟩ := List.getElem?_eq_some_iff.1 hk
  have := List.pairwise_iff_getElem.1 h.sort m k (by omega) hkl (by omega)
  rw [he, hke, List.getD_eq_getElem?_getD, List.getD_eq_getElem?_getD, hs, ht] at this
  have : (s : Int) ≤ t := this
  omega
/-- .. all of them. -/
theorem Ld.followed (h : Ld p S ol Q) {c : BitVec 8} (h' : Ld p S' ol' (Fol p S ol c ol.length)) : Ld p S' ol' (fun s j => Take p (Q s) c j) := by
  refine h'.least (fun s j q => ?_) (fun s j q => ?_) (fun s j k q e => closed_take j k q e)
  · obtain ⟨i, hi, hs, ⟨x, hx, hk, hh⟩, hr⟩ := q
    obtain ⟨s', e, hq, _⟩ := h.start (List.mem_of_mem_take hi)
    rw [hs] at e
    injection e with e
    obtain rfl : s = s' := by omega
    exact ⟨i, x, hq, hx, hk, hh, hr⟩
  · obtain ⟨i, x, hq, hx, hk, hh, hr⟩ := q
    have hi : i ∈ ol := (h.mem i).2 (h.marked.2 ⟨s, hq⟩)
    obtain ⟨s', e, _, hle, _⟩ := h.start hi
    exact ⟨s', hle s hq, i, by rw [List.take_of_length_le (Nat.le_refl _)]; exact hi, e, ⟨x, hx, hk, hh⟩, hr⟩
/-- Runs that have come to the position t. -/
def Rq (p : List In) (b : List (BitVec 8)) (t s j : Nat) : Prop := s ≤ t ∧ On p (cut b s t) j
theorem rq_zero (b : List (BitVec 8)) (s j : Nat) : (False ∨ s = 0 ∧ Rch p 0 j) ↔ Rq p b 0 s j := by
  constructor
  · rintro (h | ⟨rfl, h⟩)
    · exact h.elim
    · exact ⟨Nat.le_refl _, by rw [cut_self, On.nil]; exact h⟩
  · rintro ⟨h, q⟩
    obtain rfl : s = 0 := by omega
    rw [cut_self, On.nil] at q
    exact .inr ⟨rfl, q⟩
theorem rq_step {b : List (BitVec 8)} {t : Nat} {c : BitVec 8} (hc : b[t]? = some c) (s j : Nat) : (Take p (Rq p b t s) c j ∨ s = t + 1 ∧ Rch p 0 j) ↔ Rq p b (t + 1) s j := by
  constructor
  · rintro (⟨i, x, ⟨hs, hq⟩, h⟩ | ⟨rfl, h⟩)
    · refine ⟨by omega, ?_⟩
      rw [cut_snoc hs hc, On.snoc]
      exact ⟨i, x, hq, h⟩
    · exact ⟨Nat.le_refl _, by rw [cut_self, On.nil]; exact h⟩
  · rintro ⟨h, q⟩
    by_cases e : s = t + 1
    · subst e
      rw [cut_self, On.nil] at q
      exact .inr ⟨rfl, q⟩
    · have hs : s ≤ t := by omega
      rw [cut_snoc hs hc, On.snoc] at q
      obtain ⟨i, x, hq, h⟩ := q
      exact .inl ⟨i, x, ⟨hs, hq⟩, h⟩
theorem rq_take_le {b : List (BitVec 8)} {t : Nat} {c : BitVec 8} {s j : Nat} (h : Take p (Rq p b t s) c j) : s ≤ t + 1 := by
  obtain ⟨i, x, ⟨hs, _⟩, _⟩ := h
  omega
/-- What done tells. -/
def DnTells (p : List In) (Q : Nat → Nat → Prop) (s : Int) (ok : Bool) : Prop :=
  (ok = false ∧ s = 0 ∧ ∀ s' i x, Q s' i → p[i]? = some x → x.kind ≠ 4) ∨ ∃ t : Nat, ok = true ∧ s = (t : Int) ∧ (∃ i x, Q t i ∧ p[i]? = some x ∧ x.kind = 4) ∧ ∀ s' i x, Q s' i → p[i]? = some x → x.kind = 4 → t ≤ s'
theorem Ld.done_no (h : Ld p S ol Q) (hn : ∀ (k i : Nat) x, ol[k]? = some i → p[i]? = some x → x.kind ≠ 4) : DnTells p Q 0 false :=
  .inl ⟨rfl, rfl, fun s' i x hq hx => by
    obtain ⟨k, hk⟩ := List.mem_iff_getElem?.1 ((h.mem i).2 (h.marked.2 ⟨s', hq⟩))
    exact hn k i x hk hx⟩
theorem Ld.done_yes (h : Ld p S ol Q) {k i : Nat} {x : In} {z : Int} (hk : ol[k]? = some i) (hx : p[i]? = some x) (h4 : x.kind = 4) (hz : S[i]? = some z) (hn : ∀ (m i : Nat) x, m < k → ol[m]? = some i → p[i]? = some x → x.kind ≠ 4) : DnTells p Q z true := by
  obtain ⟨s, hs, hq, _, _⟩ := h.start (List.mem_iff_getElem?.2 ⟨k, hk⟩)
  rw [hz] at hs
  injection hs with hs
  refine .inr ⟨s, rfl, hs, ⟨i, x, hq, hx, h4⟩, fun s' i' x' hq' hx' h4' => ?_⟩
  obtain ⟨m, hm⟩ := List.mem_iff_getElem?.1 ((h.mem i').2 (h.marked.2 ⟨s', hq'⟩))
  obtain ⟨s2, hs2, _, hle, _⟩ := h.start (List.mem_iff_getElem?.2 ⟨m, hm⟩)
  have h2 := hle s' hq'
  rcases Nat.lt_trichotomy m k with q | q | q
  · exact absurd h4' (hn m i' x' q hm hx')
  · subst q
    rw [hk] at hm
    cases hm
    rw [hz] at hs2
    injection hs2 with hs2
    omega
  · obtain ⟨hkl, hke⟩ := List.getElem?_eq_some_iff.1 hk
    obtain ⟨hml, hme⟩ := List.getElem?_eq_some_iff.1 hm
    have := List.pairwise_iff_getElem.1 h.sort k m hkl hml q
    rw [hke, hme, List.getD_eq_getElem?_getD, List.getD_eq_getElem?_getD, hz, hs2] at this
    have : z ≤ (s2 : Int) := this
    omega
/-- What firstMatch tells. -/
def FmTells (p : List In) (b : List (BitVec 8)) (f t : Int) (ok : Bool) : Prop :=
  (ok = false ∧ ∀ s e, s ≤ e → e ≤ b.length → ¬ Hits p (cut b s e)) ∨ ∃ g e : Nat, ok = true ∧ f = (g : Int) ∧ t = (e : Int) ∧ g ≤ e ∧ e ≤ b.length ∧ Hits p (cut b g e) ∧ ∀ s e', s ≤ e' → e' ≤ b.length → Hits p (cut b s e') → e < e' ∨ e = e' ∧ g ≤ s
theorem rq_hits {b : List (BitVec 8)} {t s : Nat} : (∃ i x, Rq p b t s i ∧ p[i]? = some x ∧ x.kind = 4) ↔ s ≤ t ∧ Hits p (cut b s t) := by
  constructor
  · rintro ⟨i, x, ⟨h, q⟩, hx, h4⟩; exact ⟨h, i, x, q, hx, h4⟩
  · rintro ⟨h, i, x, q, hx, h4⟩; exact ⟨i, x, ⟨h, q⟩, hx, h4⟩
theorem fm_hit {b : List (BitVec 8)} {t : Nat} {s : Int} (hd : DnTells p (Rq p b t) s true) (ht : t ≤ b.length) (hno : ∀ s e, s ≤ e → e < t → ¬ Hits p (cut b s e)) : FmTells p b s t true := by
  rcases hd with ⟨h, _⟩ | ⟨g, _, hs, hi, hl⟩
  · cases h
  · obtain ⟨h1, h2⟩ := rq_hits.1 hi
    refine .inr ⟨g, t, rfl, hs, rfl, h1, ht, h2, fun s' e' hse he hh => ?_⟩
    rcases Nat.lt_trichotomy t e' with q | q | q
    · exact .inl q
    · subst q
      obtain ⟨i, x, q1, q2, q3⟩ := rq_hits.2 ⟨hse, hh⟩
      exact .inr ⟨rfl, hl s' i x q1 q2 q3⟩
    · exact absurd hh (hno s' e' hse q)
theorem fm_miss {b : List (BitVec 8)} {t : Nat} {s : Int} (hd : DnTells p (Rq p b t) s false) (hno : ∀ s e, s ≤ e → e < t → ¬ Hits p (cut b s e)) : ∀ s e, s ≤ e → e < t + 1 → ¬ Hits p (cut b s e) := by
  rcases hd with ⟨_, _, h⟩ | ⟨_, h, _⟩
  · intro s' e hse he hh
    rcases Nat.lt_or_ge e t with q | q
    · exact hno s' e hse q hh
    · obtain rfl : e = t := by omega
      obtain ⟨i, x, q1, q2, q3⟩ := rq_hits.2 ⟨hse, hh⟩
      exact h s' i x q1 q2 q3
  · cases h
theorem fm_end {b : List (BitVec 8)} {s : Int} {ok : Bool} (hd : DnTells p (Rq p b b.length) s ok) (hno : ∀ s e, s ≤ e → e < b.length → ¬ Hits p (cut b s e)) : FmTells p b s b.length ok := by
  cases ok
  · exact .inl ⟨rfl, fun s' e h1 h2 => fm_miss hd hno s' e h1 (by omega)⟩
  · exact fm_hit hd (Nat.le_refl _) hno
end
end Go.Proofs.Ytjpbndpfbdfhjaa.Seek
