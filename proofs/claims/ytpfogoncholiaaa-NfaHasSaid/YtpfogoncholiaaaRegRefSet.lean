/-
  The document's parser of patterns (layer 8): the bytes of a set's items; the classes.
-/
import Derived.Test.YtpfogoncholiaaaRegRef
namespace Go.Proofs.Ytpfogoncholiaaa.Reg
open Go.RowKit
set_option linter.unusedVariables false
set_option linter.unusedSimpArgs false

theorem setByte_esc {s : List (BitVec 8)} {k : Nat} (h : s[k]? = some 92#8) : setByte s k 0#8 = escd s (k + 1) := by
  unfold setByte escd
  rw [if_pos h]
  rcases s[k + 1]? with _ | c
  · rfl
  · dsimp only
    rcases escB c with _ | y
    · rfl
    · dsimp only
      rw [if_neg (by simp)]
/-- An item's second byte: the byte alone, and that it is not less than the first one. -/
theorem setByte_least (s : List (BitVec 8)) (k : Nat) (a : BitVec 8) : setByte s k a = match setByte s k 0#8 with
    | .error e => .error e
    | .ok (b, j) => if b.toNat < a.toNat then .error (j - 1) else .ok (b, j) := by
  by_cases h92 : s[k]? = some 92#8
  · rcases h1 : s[k + 1]? with _ | y
    · rw [setByte_e1 h92 h1, setByte_e1 h92 h1]
    · rcases h2 : escB y with _ | z
      · rw [setByte_e2 h92 h1 h2, setByte_e2 h92 h1 h2]
      · rw [setByte_o3 (least := 0#8) h92 h1 h2 (by simp)]
        dsimp only
        by_cases h3 : z.toNat < a.toNat
        · rw [setByte_e3 h92 h1 h2 h3, if_pos h3]; rfl
        · rw [setByte_o3 h92 h1 h2 h3, if_neg h3]
  · rcases h1 : s[k]? with _ | y
    · rw [setByte_e4 h1, setByte_e4 h1]
    · have h9 : y ≠ 92#8 := fun e => h92 (by rw [h1, e])
      by_cases h2 : y = 93#8 ∨ y = 45#8 ∨ y = 94#8
      · have h3 : ∀ l : BitVec 8, y = 93#8 ∨ y = 45#8 ∨ y = 94#8 ∨ y.toNat < l.toNat := fun l => by
          rcases h2 with q | q | q
          · exact .inl q
          · exact .inr (.inl q)
          · exact .inr (.inr (.inl q))
        rw [setByte_e5 h1 h9 (h3 a), setByte_e5 h1 h9 (h3 0#8)]
      · rw [setByte_o5 (least := 0#8) h1 h9 (fun q => by
          rcases q with q | q | q | q
          · exact h2 (.inl q)
          · exact h2 (.inr (.inl q))
          · exact h2 (.inr (.inr q))
          · simp at q)]
        dsimp only
        by_cases h3 : y.toNat < a.toNat
        · rw [setByte_e5 h1 h9 (.inr (.inr (.inr h3))), if_pos h3]; rfl
        · rw [setByte_o5 h1 h9 (fun q => by
            rcases q with q | q | q | q
            · exact h2 (.inl q)
            · exact h2 (.inr (.inl q))
            · exact h2 (.inr (.inr q))
            · exact h3 q), if_neg h3]

/-- A slice of the document's spans. -/
def RSpn (w : World) (A : Option Addr) (l : List Sp) : Prop := Ry 63 w A (sflat l)
theorem rinfoSpan : (Try.prog.info? 63).map (fun i => (i.zero, i.size, i.bytes)) = some (some (.agg #[.int .u8 0, .int .u8 0]), 2, 2) := by kernel_rfl
theorem rrowSpan : ElemRow Try.prog 41 63 2 2 := ElemRow.mk' Try.underlying41 rinfoSpan rfl (by decide)

end Go.Proofs.Ytpfogoncholiaaa.Reg
