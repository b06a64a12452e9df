/-
  The program's cutter (layer 11): its tests of bytes.
-/
import Derived.Test.YtadfoilbcipdjaaLexMach
import Derived.Test.YtadfoilbcipdjaaLexRef
import Derived.Lib.Bytealg
import Derived.Laws.Externs
namespace Go.Proofs.Ytadfoilbcipdjaa.Lex
open Go.RowKit
set_option linter.unusedVariables false
set_option linter.unusedSimpArgs false

theorem u8_of_bv (x : BitVec 8) : (x.toNat : Int).toNat.toUInt8 = (⟨x⟩ : UInt8) := by
  show _ = UInt8.ofBitVec x
  rw [Int.toNat_natCast]
  apply UInt8.toNat_inj.1
  rw [UInt8.toNat_ofNat', UInt8.toNat_ofBitVec]
  exact Nat.mod_eq_of_lt x.isLt
theorem pindex (s : ByteArray) (x : BitVec 8) (w : World) :
    Calls Try.prog 42 #[.string s, v8 x] w fun e w' => e = .returned (.int .i64 (Lib.indexByte s.data.toList (⟨x⟩ : UInt8))) ∧ w' = w := by
  have inner : Calls Try.prog 61 #[.string s, v8 x] w fun e w' => e = .returned (.int .i64 (Lib.indexByte s.data.toList (⟨x⟩ : UInt8))) ∧ w' = w := by
    go_enter Try.func61, Try.ntmps61
    go_wp2
    rw [run_callFunc_extern Try.func69 (by kernel_rfl) (by kernel_rfl) (by kernel_rfl) (e := Extern.BytealgIndexByte.indexByte) (by kernel_rfl), Lib.run_indexByteString, u8_of_bv]
    simp only [Result.andThen]
    rw [Oper.upon_value]
    go_wp2
    go_ret
    exact ⟨rfl, rfl⟩
  go_enter Try.func42, Try.ntmps42
  go_wp2_with fail
  refine inner.mono ?_
  rintro e w' ⟨rfl, rfl⟩
  go_wp2_with fail
  go_ret
  exact ⟨rfl, rfl⟩
theorem index_mem : ∀ (l : List UInt8) (c : UInt8), decide (0 ≤ Lib.indexByte l c) = l.contains c
  | [], c => by simp [Lib.indexByte]
  | b :: l, c => by
    have ih := index_mem l c
    have hge := Lib.indexByte_ge l c
    unfold Lib.indexByte
    rw [List.contains_cons]
    by_cases hb : b = c
    · subst hb; simp
    · have h1 : (b == c) = false := by simpa using hb
      have h2 : (c == b) = false := by simpa using fun e => hb e.symm
      rw [h1, h2, Bool.false_or, ← ih]
      by_cases hm : Lib.indexByte l c = -1
      · simp [hm]
      · have h3 : (Lib.indexByte l c == -1) = false := by simpa using hm
        rw [h3]
        have h4 : 0 ≤ Lib.indexByte l c := by omega
        simp only [Bool.false_eq_true, if_false]
        rw [decide_eq_true h4, decide_eq_true (by omega)]
def amongB (s : ByteArray) (x : BitVec 8) : Bool := s.data.toList.contains (⟨x⟩ : UInt8)
theorem among_blank : ∀ x : BitVec 8, amongB ⟨#[9, 10, 13, 32]⟩ x = blank x := by decide +kernel
theorem among_hash : ∀ x : BitVec 8, amongB ⟨#[35]⟩ x = decide (x = 35#8) := by decide +kernel
theorem among_quote : ∀ x : BitVec 8, amongB ⟨#[34]⟩ x = decide (x = 34#8) := by decide +kernel
theorem among_low : ∀ x : BitVec 8, amongB ⟨#[95]⟩ x = decide (x = 95#8) := by decide +kernel
theorem pamong (w : World) (g : Nat) (s : ByteArray) (x : BitVec 8) (h : w.cell? ⟨g, 0, none⟩ = some (.string s)) :
    Calls Try.prog 41 #[v8 x, .pointer (some ⟨g, 0, none⟩)] w fun e w' => e = .returned (.bool (amongB s x)) ∧ w' = w := by
  have con := pindex s x w
  have hi := index_mem s.data.toList (⟨x⟩ : UInt8)
  have HI := Lib.hid (show decide (0 ≤ Lib.indexByte s.data.toList (⟨x⟩ : UInt8)) = amongB s x from hi)
  clear hi
  generalize Lib.indexByte s.data.toList (⟨x⟩ : UInt8) = z at *
  go_enter Try.func41, Try.ntmps41
  go_wp2_with fail
  refine con.mono ?_
  rintro e w' ⟨rfl, rfl⟩
  go_wp2_with fail
  go_ret
  exact ⟨by rw [← HI.out]; rfl, rfl⟩
theorem pletter (w : World) (x : BitVec 8) : Calls Try.prog 43 #[v8 x] w fun e w' => e = .returned (.bool (letter x)) ∧ w' = w := by
  have HL := Lib.hid (show letter x = (decide (97 ≤ x.toNat) && decide (x.toNat ≤ 122)) from rfl)
  by_cases h1 : 97 ≤ x.toNat
  · by_cases h2 : x.toNat ≤ 122
    · go_enter Try.func43, Try.ntmps43
      go_wp2_with fail
      go_ret
      exact ⟨by rw [HL.out]; simp [h1, h2]; try omega, rfl⟩
    · go_enter Try.func43, Try.ntmps43
      go_wp2_with fail
      go_ret
      exact ⟨by rw [HL.out]; simp [h1, h2]; try omega, rfl⟩
  · go_enter Try.func43, Try.ntmps43
    go_wp2_with fail
    go_ret
    exact ⟨by rw [HL.out]; simp [h1], rfl⟩
theorem pdigit (w : World) (x : BitVec 8) : Calls Try.prog 47 #[v8 x] w fun e w' => e = .returned (.bool (digit x)) ∧ w' = w := by
  have HL := Lib.hid (show digit x = (decide (48 ≤ x.toNat) && decide (x.toNat ≤ 57)) from rfl)
  by_cases h1 : 48 ≤ x.toNat
  · by_cases h2 : x.toNat ≤ 57
    · go_enter Try.func47, Try.ntmps47
      go_wp2_with fail
      go_ret
      exact ⟨by rw [HL.out]; simp [h1, h2]; try omega, rfl⟩
    · go_enter Try.func47, Try.ntmps47
      go_wp2_with fail
      go_ret
      exact ⟨by rw [HL.out]; simp [h1, h2]; try omega, rfl⟩
  · go_enter Try.func47, Try.ntmps47
    go_wp2_with fail
    go_ret
    exact ⟨by rw [HL.out]; simp [h1], rfl⟩
end Go.Proofs.Ytadfoilbcipdjaa.Lex
