/-
  Layer 10: whether instructions match bytes, computed; what is found, computed (for the document's examples).
-/
import Derived.Test.YtjpbndpfbdfhjaaMSeekPure
namespace Go.Proofs.Ytjpbndpfbdfhjaa.Seek
open Go.Proofs.Ytjpbndpfbdfhjaa.Nfa (In has)
set_option linter.unusedVariables false
set_option linter.unusedSimpArgs false

def comeF (p : List In) : Nat → List Bool → Int → List Bool
  | 0, M, _ => M
  | k + 1, M, pl => if pl < 0 then M else match p[pl.toNat]? with
    | none => M
    | some x => if M[pl.toNat]? = some true then M
      else if x.kind = 2 then comeF p k (comeF p k (M.set pl.toNat true) (pl + x.x)) (pl + x.y)
      else if x.kind = 3 then comeF p k (M.set pl.toNat true) (pl + x.x)
      else M.set pl.toNat true
theorem comeF_come {p : List In} : ∀ (k : Nat) (M : List Bool) (pl : Int), M.length = p.length → M.count false < k → Come p M (comeF p k M pl) pl
  | 0, _, _, _, h => absurd h (Nat.not_lt_zero _)
  | k + 1, M, pl, hl, h => by
    unfold comeF
    by_cases h0 : pl < 0
    · rw [if_pos h0]; exact Come.out (.inl h0)
    rw [if_neg h0]
    obtain ⟨a, rfl⟩ : ∃ a : Nat, pl = (a : Int) := ⟨pl.toNat, by omega⟩
    rw [Int.toNat_natCast]
    split
    · rename_i e
      exact Come.out (.inr (by have := List.getElem?_eq_none_iff.1 e; omega))
    · rename_i x e
      have ha := (List.getElem?_eq_some_iff.1 e).1
      split
      · rename_i hm; exact Come.met hm
      · rename_i hm
        have ham : a < M.length := by omega
        have hmf : M[a]? = some false := by
          rw [List.getElem?_eq_getElem ham] at hm ⊢
          cases hb : M[a]
          · rfl
          · rw [hb] at hm; exact absurd rfl hm
        have hc : (M.set a true).count false < M.count false := cnt_lt _ _ a (by simp) (fun j hj => (set_true ham).2 (.inr hj)) hmf ((set_true ham).2 (.inl rfl))
        split
        · rename_i h2
          have c1 := comeF_come (p := p) k (M.set a true) ((a : Int) + x.x) (by simp [hl]) (by omega)
          have hle := cnt_le _ _ c1.len c1.mono
          exact Come.two hl e h2 c1 (comeF_come k (comeF p k (M.set a true) ((a : Int) + x.x)) ((a : Int) + x.y) (by rw [c1.len]; simp [hl]) (by omega))
        · split
          · rename_i h3
            exact Come.go hl e h3 (comeF_come k (M.set a true) ((a : Int) + x.x) (by simp [hl]) (by omega))
          · rename_i h2 h3
            exact Come.one hl e h2 h3
def tkF (p : List In) (M : List Bool) (c : BitVec 8) : Nat → List Bool
  | 0 => List.replicate p.length false
  | k + 1 => match p[k]? with
    | none => tkF p M c k
    | some x => if M[k]? = some true ∧ x.kind = 1 ∧ has x c = true then comeF p (p.length + 1) (tkF p M c k) ((k + 1 : Nat) : Int) else tkF p M c k
theorem tkF_marks {p : List In} {M : List Bool} {S : Nat → Prop} {c : BitVec 8} (h : Marks p M S) : ∀ k, Marks p (tkF p M c k) (TakeTo p S c k)
  | 0 => (Marks.none p).congr fun j => (takeTo_zero p S c j).symm
  | k + 1 => by
    have ih := tkF_marks h (c := c) k
    unfold tkF
    split
    · rename_i e
      exact ih.congr fun j => (takeTo_no (fun x _ q _ _ => by rw [e] at q; cases q) j).symm
    · rename_i x e
      split
      · rename_i q
        have hc := comeF_come (p := p) (p.length + 1) (tkF p M c k) ((k + 1 : Nat) : Int) ih.len (by have := List.count_le_length (a := false) (l := tkF p M c k); rw [ih.len] at this; omega)
        exact (ih.come hc).congr fun j => (takeTo_yes ((h.iff k).1 q.1) e q.2.1 q.2.2 j).symm
      · rename_i q
        exact ih.congr fun j => (takeTo_no (fun y q1 q2 q3 q4 => by rw [e] at q2; cases q2; exact q ⟨(h.iff k).2 q1, q3, q4⟩) j).symm
def onF (p : List In) : List (BitVec 8) → List Bool → List Bool
  | [], M => M
  | c :: bs, M => onF p bs (tkF p M c p.length)
theorem onF_marks {p : List In} : ∀ (bs : List (BitVec 8)) (M : List Bool) (S : Nat → Prop), Marks p M S → Marks p (onF p bs M) (OnFrom p S bs)
  | [], _, _, h => h
  | c :: bs, M, S, h => onF_marks bs _ _ ((tkF_marks h p.length).congr fun j => takeTo_all p S c j)
def hitsF (p : List In) (bs : List (BitVec 8)) : Bool :=
  (List.range p.length).any fun i => (onF p bs (comeF p (p.length + 1) (List.replicate p.length false) 0))[i]? == some true && (match p[i]? with | none => false | some x => decide (x.kind = 4))
theorem hitsF_iff (p : List In) (bs : List (BitVec 8)) : hitsF p bs = true ↔ Hits p bs := by
  have h0 : Marks p (comeF p (p.length + 1) (List.replicate p.length false) 0) (Rch p 0) := by
    have hc := comeF_come (p := p) (p.length + 1) (List.replicate p.length false) 0 (by simp) (by simp)
    exact ((Marks.none p).come (a := 0) hc).congr fun j => by simp
  have hm := onF_marks bs _ _ h0
  unfold hitsF
  rw [List.any_eq_true]
  constructor
  · rintro ⟨i, _, h⟩
    rw [Bool.and_eq_true] at h
    obtain ⟨h1, h2⟩ := h
    split at h2
    · cases h2
    · rename_i x e
      exact ⟨i, x, (hm.iff i).1 (by simpa using h1), e, by simpa using h2⟩
  · rintro ⟨i, x, h1, h2, h3⟩
    refine ⟨i, List.mem_range.2 (List.getElem?_eq_some_iff.1 h2).1, ?_⟩
    rw [Bool.and_eq_true, h2]
    exact ⟨by simpa using (hm.iff i).2 h1, by simpa using h3⟩
/-- All places at which an arm is met, checked against what is found. -/
def bestF (ps : List (List In)) (b : List (BitVec 8)) (i f t : Nat) : Bool :=
  (match ps[i]? with | none => false | some p => hitsF p (cut b f t)) && decide (f ≤ t) && decide (t ≤ b.length) &&
  (List.range ps.length).all fun i' => (List.range (b.length + 1)).all fun t' => (List.range (t' + 1)).all fun f' => !(match ps[i']? with | none => false | some p => hitsF p (cut b f' t')) || decide (t < t' ∨ t = t' ∧ (i < i' ∨ i = i' ∧ f ≤ f'))
theorem bestF_best {ps : List (List In)} {b : List (BitVec 8)} {i f t : Nat} (h : bestF ps b i f t = true) : Best ps b i f t := by
  unfold bestF at h
  simp only [Bool.and_eq_true, decide_eq_true_eq] at h
  obtain ⟨⟨⟨h1, h2⟩, h3⟩, h4⟩ := h
  split at h1
  · cases h1
  · rename_i p e
    refine ⟨⟨p, e, h2, h3, (hitsF_iff _ _).1 h1⟩, fun i' f' t' ⟨q, hq, q1, q2, q3⟩ => ?_⟩
    have := List.all_eq_true.1 (List.all_eq_true.1 (List.all_eq_true.1 h4 i' (List.mem_range.2 (List.getElem?_eq_some_iff.1 hq).1)) t' (List.mem_range.2 (by omega))) f' (List.mem_range.2 (by omega))
    rw [hq] at this
    dsimp only at this
    rw [(hitsF_iff _ _).2 q3] at this
    simpa using this
def noneF (ps : List (List In)) (b : List (BitVec 8)) : Bool :=
  (List.range ps.length).all fun i' => (List.range (b.length + 1)).all fun t' => (List.range (t' + 1)).all fun f' => !(match ps[i']? with | none => false | some p => hitsF p (cut b f' t'))
theorem noneF_none {ps : List (List In)} {b : List (BitVec 8)} (h : noneF ps b = true) : None_ ps b := by
  rintro i' f' t' ⟨q, hq, q1, q2, q3⟩
  have := List.all_eq_true.1 (List.all_eq_true.1 (List.all_eq_true.1 h i' (List.mem_range.2 (List.getElem?_eq_some_iff.1 hq).1)) t' (List.mem_range.2 (by omega))) f' (List.mem_range.2 (by omega))
  rw [hq] at this
  dsimp only at this
  rw [(hitsF_iff _ _).2 q3] at this
  simp at this
end Go.Proofs.Ytjpbndpfbdfhjaa.Seek
