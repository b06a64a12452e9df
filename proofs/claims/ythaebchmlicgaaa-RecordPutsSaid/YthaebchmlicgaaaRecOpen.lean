/-
  What came in, of layer 15: the bytes, the texts, the record.
-/
import Derived.Test.YthaebchmlicgaaaRecMay
import Derived.Test.YthaebchmlicgaaaOpen
namespace Go.Proofs.Ythaebchmlicgaaa.Rec
open Go.RowKit
open Go.Proofs.Ythaebchmlicgaaa.Lex (Tx)
set_option linter.unusedVariables false
set_option linter.unusedSimpArgs false

theorem u8_of {x : Int} (h : (Lit.int .u8 x).wf = true) : ∃ b : BitVec 8, x = (b.toNat : Int) := by
  simp [Lit.wf, IntKind.min, IntKind.max, IntKind.bits, IntKind.signed] at h
  refine ⟨BitVec.ofNat 8 x.toNat, ?_⟩
  rw [BitVec.toNat_ofNat, Nat.mod_eq_of_lt (by omega)]
  omega
theorem pick {α : Type} (P : Nat → α → Prop) : ∀ n, (∀ i, i < n → ∃ x, P i x) → ∃ l : List α, l.length = n ∧ ∀ i x, l[i]? = some x → P i x
  | 0, _ => ⟨[], rfl, by simp⟩
  | n + 1, h => by
    obtain ⟨l, hl, hp⟩ := pick P n (fun i hi => h i (by omega))
    obtain ⟨x, hx⟩ := h n (by omega)
    refine ⟨l ++ [x], by simp [hl], fun i y hy => ?_⟩
    rcases Nat.lt_or_ge i l.length with hi | hi
    · rw [List.getElem?_append_left hi] at hy
      exact hp i y hy
    · have hi2 : i = n := by have := (List.getElem?_eq_some_iff.1 hy).1; simp at this; omega
      subst hi2
      rw [List.getElem?_append_right hi, show i - l.length = 0 by omega] at hy
      simp at hy
      subst hy
      exact hx
/-- Bytes that came in. -/
theorem bytes_of_isv {w : World} {A : Option Addr} {l c : Nat} (h : IsV w (.slice (.int .u8)) (.slice A l c)) : ∃ bs : List (BitVec 8), bs.length = l ∧ l ≤ c ∧ l ≤ maxLen ∧ Bs w w.heap.size A l bs := by
  cases h with
  | nil => exact ⟨[], rfl, Nat.le_refl _, Nat.zero_le _, Bs.nil_⟩
  | slice U hl hc hcell hU =>
    rename_i x
    obtain ⟨bs, hbl, hp⟩ := pick (fun i (b : BitVec 8) => U i = v8 b) l (fun i hi => by
      have u0 := hU i hi
      generalize U i = a0 at *
      cases u0 with | int h0 =>
      obtain ⟨b, rfl⟩ := u8_of h0
      exact ⟨b, rfl⟩)
    refine ⟨bs, hbl, hl, by omega, hbl, fun hn => ⟨x, rfl, ?_, fun j hj => ?_⟩⟩
    · have := cell_lt (hcell 0 hn)
      rwa [add_block] at this
    · have hj2 : j < bs.length := by omega
      rw [hcell j hj, hp j _ (List.getElem?_eq_getElem hj2), List.getD_eq_getElem?_getD, List.getElem?_eq_getElem hj2]
      rfl
/-- Texts that came in. -/
theorem texts_of_isv {w : World} {A : Option Addr} {l c : Nat} (h : IsV w (.slice (.slice (.int .u8))) (.slice A l c)) : ∃ vs : List Vt, vs.length = l ∧ l ≤ maxLen ∧ Tvs w w.heap.size A vs := by
  cases h with
  | nil => exact ⟨[], rfl, Nat.zero_le _, ⟨by simp, by simp⟩⟩
  | slice U hl hc hcell hU =>
    rename_i x
    obtain ⟨vs, hvl, hp⟩ := pick (fun i (v : Vt) => U i = v.cell ∧ Tx w w.heap.size v.A v.t ∧ v.t.length ≤ maxLen) l (fun i hi => by
      have u0 := hU i hi
      generalize U i = a0 at *
      obtain ⟨kA, kl, kc, rfl⟩ : ∃ A l c, a0 = .slice A l c := by cases u0 <;> exact ⟨_, _, _, rfl⟩
      obtain ⟨bs, rfl, hpc, hpm, hbs⟩ := bytes_of_isv u0
      exact ⟨⟨kA, kc, bs⟩, rfl, .inl hbs, hpm⟩)
    refine ⟨vs, hvl, by omega, ⟨fun i v hi => ⟨x, rfl, ?_⟩, fun v hv => ?_⟩⟩
    · have hil : i < l := by have := (List.getElem?_eq_some_iff.1 hi).1; omega
      rw [hcell i hil, (hp i v hi).1]
    · obtain ⟨i, hi⟩ := List.mem_iff_getElem?.1 hv
      exact (hp i v hi).2
/-- A record that came in. -/
theorem rec_of_isv {w : World} (k s1 s2 s3 s4 vi st tr dst of va : Int) {AL AV : Option Addr} {lL cL lV cV : Nat} (h1 : IsV w (.slice (.slice (.int .u8))) (.slice AL lL cL)) (h2 : IsV w (.slice (.int .u8)) (.slice AV lV cV)) :
    ∃ v : Rv, v.cells = [.int .i64 k, .int .i64 s1, .int .i64 s2, .int .i64 s3, .int .i64 s4, .slice AL lL cL, .int .i64 vi, .int .i64 st, .int .i64 tr, .int .i64 dst, .int .i64 of, .int .i64 va, .slice AV lV cV] ∧ Rok w w.heap.size v := by
  obtain ⟨vs, rfl, hm, hv⟩ := texts_of_isv h1
  obtain ⟨bs, rfl, _, hbm, hb⟩ := bytes_of_isv h2
  exact ⟨⟨⟨k, ⟨s1, s2, s3, s4, txt vs⟩, vi, st, tr, dst, of, va, bs⟩, AL, cL, vs, AV, cV⟩, rfl, ⟨rfl, hv, hm, .inl hb, hbm⟩⟩
end Go.Proofs.Ythaebchmlicgaaa.Rec
