/-
  What is read of a pattern (layer 8): few ops, of few spans, of the seven kinds.
-/
import Derived.Test.YtjpbndpfbdfhjaaMRegParse
namespace Go.Proofs.Ytjpbndpfbdfhjaa.Reg
set_option linter.unusedVariables false
set_option linter.unusedSimpArgs false

theorem escS_len (c : BitVec 8) : (escS c).length ≤ 4 := by
  unfold escS
  split
  · split <;> simp
  · unfold classOf
    repeat' split
    all_goals simp
theorem atomL_sp {s : List (BitVec 8)} {k : Nat} {c : BitVec 8} {o : Rop} {j : Nat} (h : atomL s k c = .ok (o, j)) (hc : s[k]? = some c) (hs : s.length ≤ 80) : o.sp.length ≤ 1000 := by
  have hk := get_lt hc
  unfold atomL at h
  split at h
  · cases h
  · split at h
    · have := setR_ok h hk
      omega
    · split at h
      · unfold escape at h
        split at h
        · cases h
        · rename_i c' hc'
          have := escS_len c'
          rcases e : escS c' with _ | ⟨x, t⟩ <;> rw [e] at h
          · cases h
          · injection h with h; injection h with e1 e2; subst e1
            rw [e] at this
            exact Nat.le_trans this (by omega)
      · split at h <;> (injection h with h; injection h with e1 e2; subst e1; show 1 ≤ 1000; omega)
theorem one_sp (k : Int) : (one k).sp.length ≤ 1000 := Nat.zero_le _
theorem piece_sp {s : List (BitVec 8)} {x : St} (h : ∀ o ∈ x.ops, o.sp.length ≤ 1000) : ∀ o ∈ (pieceEnd s x).ops, o.sp.length ≤ 1000 := by
  intro o ho
  unfold pieceEnd at ho
  simp only [List.mem_append] at ho
  rcases ho with (ho | ho) | ho
  · exact h o ho
  · split at ho
    · simp at ho
    · rw [List.mem_singleton.1 ho]; exact one_sp _
  · split at ho
    · rw [List.mem_singleton.1 ho]; exact one_sp _
    · simp at ho
theorem branch_sp {x : St} (h : ∀ o ∈ x.ops, o.sp.length ≤ 1000) : ∀ o ∈ (branchEnd x).ops, o.sp.length ≤ 1000 := by
  intro o ho
  unfold branchEnd at ho
  simp only [List.mem_append] at ho
  rcases ho with (ho | ho) | ho
  · exact h o ho
  · split at ho
    · simp at ho
    · rw [List.mem_singleton.1 ho]; exact one_sp _
  · split at ho
    · rw [List.mem_singleton.1 ho]; exact one_sp _
    · simp at ho
theorem step_sp {s : List (BitVec 8)} {x y : St} {c : BitVec 8} (h : step s x c = .ok y) (hc : s[x.at_]? = some c) (hs : s.length ≤ 80) (hx : ∀ o ∈ x.ops, o.sp.length ≤ 1000) : ∀ o ∈ y.ops, o.sp.length ≤ 1000 := by
  unfold step at h
  split at h
  · split at h
    · cases h
    · injection h with h; subst h; exact hx
  · split at h
    · split at h
      · cases h
      · injection h with h; subst h; exact piece_sp (branch_sp hx)
    · split at h
      · injection h with h; subst h; exact branch_sp hx
      · split at h
        · cases h
        · rename_i o j e
          injection h with h; subst h
          refine piece_sp fun o' ho => ?_
          rcases List.mem_append.1 ho with ho | ho
          · exact hx o' ho
          · rw [List.mem_singleton.1 ho]; exact atomL_sp e hc hs
theorem runF_sp {s : List (BitVec 8)} (hs : s.length ≤ 80) : ∀ (n : Nat) (x : St) (l : List Rop), (∀ o ∈ x.ops, o.sp.length ≤ 1000) → runF s n x = .ok l → ∀ o ∈ l, o.sp.length ≤ 1000 := by
  intro n
  induction n with
  | zero => intro x l _ h; cases h
  | succ n ih =>
    intro x l hx h
    unfold runF at h
    split at h
    · split at h
      · cases h
      · injection h with h; subst h; exact branch_sp hx
    · rename_i c hc
      split at h
      · cases h
      · rename_i y hy
        exact ih y l (step_sp hy hc hs hx) h
theorem parse_sp {s : List (BitVec 8)} {l : List Rop} (h : parse s = .ok l) : ∀ o ∈ l, o.sp.length ≤ 1000 := by
  unfold parse at h
  split at h
  · cases h
  · exact runF_sp (by omega) _ _ _ (by simp [St0]) h
theorem piled_kinds : ∀ (l : List Rop) (n m : Nat), piled n l = some m → ∀ o ∈ l, 1 ≤ o.kind ∧ o.kind ≤ 7
  | [], _, _, _ => by simp
  | o :: l, n, m, h => by
    unfold piled at h
    split at h
    · cases h
    · rename_i k e
      have h2 := piled_kinds l k m h
      intro x hx
      rcases List.mem_cons.1 hx with rfl | hx
      · unfold does at e
        split at e
        · cases e
        · rename_i t ht
          unfold takes at ht
          split at ht
          · omega
          · split at ht
            · omega
            · split at ht
              · omega
              · cases ht
      · exact h2 x hx
theorem piled_len : ∀ (l : List Rop) (n m : Nat), piled n l = some m → m + heavy l ≤ n + l.length * 3
  | [], n, m, h => by cases h; simp [heavy]
  | o :: l, n, m, h => by
    unfold piled at h
    split at h
    · cases h
    · rename_i k e
      have h2 := piled_len l k m h
      have h3 : k ≤ n + 1 := by
        unfold does at e
        split at e
        · cases e
        · split at e
          · cases e
          · injection e with e; omega
      have h4 : weight o.kind ≤ 2 := by 
        unfold weight
        split
        · decide
        · split <;> decide
      have h5 : heavy (o :: l) = weight o.kind + heavy l := by simp [heavy]
      simp only [List.length_cons]; omega
theorem runF_len {s : List (BitVec 8)} : ∀ (n : Nat) (x : St) (l : List Rop), runF s n x = .ok l → l.length ≤ x.ops.length + 4 * n := by
  intro n
  induction n with
  | zero => intro x l h; cases h
  | succ n ih =>
    intro x l h
    unfold runF at h
    split at h
    · split at h
      · cases h
      · injection h with h
        subst h
        unfold branchEnd
        simp only [List.length_append]
        split <;> split <;> simp <;> omega
    · rename_i c hc
      split at h
      · cases h
      · rename_i y hy
        have h1 := (step_few hy).1
        have h2 := ih y l h
        omega
theorem parse_len {s : List (BitVec 8)} {l : List Rop} (h : parse s = .ok l) : l.length ≤ 1000 := by
  have h80 := (parse_good h).1
  unfold parse at h
  split at h
  · cases h
  · have := runF_len _ _ _ h
    simp [St0] at this
    omega
end Go.Proofs.Ytjpbndpfbdfhjaa.Reg
