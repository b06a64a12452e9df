/-
  What the examples of layer 9's statements ask (knows): a pattern, its instructions.
-/
import Derived.Test.YtjpbndpfbdfhjaaMRegFew
import Derived.Test.YtjpbndpfbdfhjaaMNfaBuild
import Derived.Test.YtjpbndpfbdfhjaaMNfaPhas
import Derived.Lib.SlBytesConst
namespace Go.Proofs.Ytjpbndpfbdfhjaa.Nfa
open Go.RowKit Go.Proofs.Ytjpbndpfbdfhjaa.Ord
open Go.Proofs.Ytjpbndpfbdfhjaa.Reg (Ov oflat Sp sflat sflat_length Rop Spn Ows parse parse_top parse_good parse_sp piled_kinds ParseSays)
set_option linter.unusedVariables false
set_option linter.unusedSimpArgs false

theorem Pr8.of_ows {w : World} {B n c : Nat} {A : Option Addr} {l : List Rop} (h : Ows w B (.slice A n c) l) (hn : l.length = n) : ∃ us : List Ov, us.map (·.o) = l ∧ us.length = n ∧ Pr8 w A us := by
  obtain ⟨us, ho, hm, hs⟩ := h.row
  rw [hn] at ho
  exact ⟨us, hm, by rw [← hn, ← hm, List.length_map], ⟨cz_ry (Ry.of_own ho (by decide)), fun u hu => cz_ry (hs u hu)⟩⟩
theorem parse_ab : parse [97#8, 124#8, 98#8] = .ok [⟨1, false, [⟨97#8, 97#8⟩]⟩, ⟨1, false, [⟨98#8, 98#8⟩]⟩, ⟨4, false, []⟩] := by rfl
theorem build_ab : build [⟨1, false, [⟨97#8, 97#8⟩]⟩, ⟨1, false, [⟨98#8, 98#8⟩]⟩, ⟨4, false, []⟩] = .ok [⟨2, 1, 3, false, []⟩, ⟨1, 0, 0, false, [⟨97#8, 97#8⟩]⟩, ⟨3, 2, 0, false, []⟩, ⟨1, 0, 0, false, [⟨98#8, 98#8⟩]⟩, ⟨4, 0, 0, false, []⟩] := by rfl
theorem five_of {vs : List Iv} {a b c d e : In} (h : vs.map (·.i) = [a, b, c, d, e]) : ∃ v0 v1 v2 v3 v4 : Iv, vs = [v0, v1, v2, v3, v4] ∧ v0.i = a ∧ v1.i = b ∧ v2.i = c ∧ v3.i = d ∧ v4.i = e := by
  rcases vs with _ | ⟨v0, _ | ⟨v1, _ | ⟨v2, _ | ⟨v3, _ | ⟨v4, _ | ⟨v5, r⟩⟩⟩⟩⟩⟩ <;> simp at h
  exact ⟨v0, v1, v2, v3, v4, rfl, h⟩
end Go.Proofs.Ytjpbndpfbdfhjaa.Nfa
