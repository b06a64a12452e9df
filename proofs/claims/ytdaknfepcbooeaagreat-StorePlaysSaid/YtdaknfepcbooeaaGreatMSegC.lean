/-
  A slice of bools that came in.
  The laws' deeds, as they came in; bytes in a block of bytes.
-/
import Derived.Test.YtdaknfepcbooeaaGreatMOpen
import Derived.Test.YtdaknfepcbooeaaGreatMBase
import Derived.Test.YtdaknfepcbooeaaGreatMDiskA
section
namespace Go.Proofs.YtdaknfepcbooeaaGreat.Disk
open Go.RowKit Go.Maps
set_option linter.unusedVariables false
set_option linter.unusedSimpArgs false

def fit64 (x : Int) : Prop := -9223372036854775808 ≤ x ∧ x < 9223372036854775808
theorem fit_wf {x : Int} (h : (Lit.int .i64 x).wf = true) : fit64 x := by
  simp [Lit.wf, IntKind.min, IntKind.max, IntKind.bits, IntKind.signed] at h
  unfold fit64; omega
theorem u8_of {x : Int} (h : (Lit.int .u8 x).wf = true) : ∃ b : BitVec 8, x = (b.toNat : Int) := by
  simp [Lit.wf, IntKind.min, IntKind.max, IntKind.bits, IntKind.signed] at h
  refine ⟨BitVec.ofNat 8 x.toNat, ?_⟩
  rw [BitVec.toNat_ofNat, Nat.mod_eq_of_lt (by omega)]
  omega
theorem Bo.of_isv {w : World} {A : Option Addr} {l c : Nat} (h : IsV w (.slice .bool) (.slice A l c)) : ∃ ks : List Bool, ks.length = l ∧ l ≤ maxLen ∧ Bo w w.heap.size (.slice A l c) ks := by
  cases h with
  | nil => exact ⟨[], rfl, by unfold maxLen; omega, Bo.nil_ _ _⟩
  | slice U hl hc hcell hU =>
    rename_i x
    let ks : List Bool := (List.range l).map fun i => match U i with | .bool b => b | _ => false
    have hk : ks.length = l := by simp [ks]
    refine ⟨ks, hk, by omega, some x, c, by rw [hk], by omega, fun h0 => ⟨x, rfl, ?_, fun j k hj => ?_⟩⟩
    · have h1 := hcell 0 (by omega)
      have hb := World.block_lt_of_cell? w _ h1
      rw [add_block] at hb
      exact ⟨_, Array.getElem?_eq_getElem hb, .inl hb⟩
    · have hjl : j < l := by have := (List.getElem?_eq_some_iff.1 hj).1; omega
      rw [hcell j hjl]
      have h2 := hU j hjl
      have h3 : ks[j]? = some (match U j with | .bool b => b | _ => false) := by simp [ks, hjl]
      rw [h3] at hj
      generalize U j = u at *
      cases h2 with
      | bool b => cases hj; rfl
end Go.Proofs.YtdaknfepcbooeaaGreat.Disk
end

section
namespace Go.Proofs.YtdaknfepcbooeaaGreat.Segm
open Go.RowKit
open Go.Proofs.YtdaknfepcbooeaaGreat.Disk (Bo fit64 fit_wf)
set_option linter.unusedVariables false
set_option linter.unusedSimpArgs false

theorem kept {w V : World} (hb : Below w.heap.size w V) {a : Addr} {x : Value} (h : w.cell? a = some x) : V.cell? a = some x := (hb.cell (World.block_lt_of_cell? w a h)).trans h
theorem cel_by {w : World} {g n : Nat} {bs : List (BitVec 8)} (h : Cel w g 5 (bs.map v8)) (hn : bs.length = n) : By w (some ⟨g, 0, none⟩) n bs :=
  ⟨hn, fun h0 => ⟨_, rfl, ⟨_, _, h⟩, fun j hj => by
    rw [add_row, h.cell j, List.getElem?_map, List.getElem?_eq_getElem (by rw [hn]; exact hj), List.getD_eq_getElem?_getD, List.getElem?_eq_getElem (by rw [hn]; exact hj)]
    rfl⟩⟩

structure Dd where
  what : Int
  n : Int
  b : BitVec 8
  A : Option Addr
  c : Nat
  ks : List Bool
def Dd.cells (D : Dd) : List Value := [.int .i64 D.what, .int .i64 D.n, v8 D.b, .slice D.A D.ks.length D.c]
structure IsDd (w : World) (x : Addr) (i : Nat) (D : Dd) : Prop where
  cell : ∀ j v, D.cells[j]? = some v → w.cell? (x.add (i * 4 + j)) = some v
  keep : Bo w w.heap.size (.slice D.A D.ks.length D.c) D.ks
  fits : fit64 D.what ∧ fit64 D.n
  len : D.ks.length ≤ maxLen
theorem IsDd.of_isv {w : World} {A : Option Addr} {l c : Nat} (h : IsV w (.recs [.int .i64, .int .i64, .int .u8, .slice .bool]) (.slice A l c)) :
    l ≤ maxLen ∧ (0 < l → ∃ x, A = some x ∧ ∀ i, i < l → ∃ D, IsDd w x i D) := by
  cases h with
  | rnil => exact ⟨by unfold maxLen; omega, fun h => absurd h (by omega)⟩
  | recs U hl hc hcell hU =>
    rename_i x
    refine ⟨by omega, fun _ => ⟨x, rfl, fun i hi => ?_⟩⟩
    have c0 := hcell i 0 hi (by decide)
    have c1 := hcell i 1 hi (by decide)
    have c3 := hcell i 2 hi (by decide)
    have c4 := hcell i 3 hi (by decide)
    have u0 := hU i 0 _ hi rfl
    have u1 := hU i 1 _ hi rfl
    have u3 := hU i 2 _ hi rfl
    have u4 := hU i 3 _ hi rfl
    generalize U i 0 = a0 at *
    generalize U i 1 = a1 at *
    generalize U i 2 = a3 at *
    generalize U i 3 = a4 at *
    cases u0 with | int h0 =>
    cases u1 with | int h1 =>
    cases u3 with | int h3 =>
    obtain ⟨b, rfl⟩ := Disk.u8_of h3
    obtain ⟨kA, kl, kc, rfl⟩ : ∃ A l c, a4 = .slice A l c := by cases u4 <;> exact ⟨_, _, _, rfl⟩
    obtain ⟨ks, rfl, hkl, hbo⟩ := Disk.Bo.of_isv u4
    refine ⟨⟨_, _, b, kA, kc, ks⟩, fun j v hv => ?_, hbo, ⟨fit_wf h0, fit_wf h1⟩, hkl⟩
    match j, hv with
    | 0, hv => cases hv; exact c0
    | 1, hv => cases hv; exact c1
    | 2, hv => cases hv; exact c3
    | 3, hv => cases hv; exact c4
    | j + 4, hv => simp [Dd.cells] at hv
theorem add_off (a : Addr) {j : Nat} (hj : 0 < j) : (⟨a.block, a.off + j, none⟩ : Addr) = a.add j := by
  unfold Addr.add; rw [if_neg (by omega)]
theorem IsDd.at_ {w : World} {x : Addr} {i : Nat} {D : Dd} (h : IsDd w x i D) {V : World} (hb : Below w.heap.size w V) : V.cell? (x.add (i * 4)) = some (.int .i64 D.what) ∧ V.cell? ⟨(x.add (i * 4)).block, (x.add (i * 4)).off + 1, none⟩ = some (.int .i64 D.n) ∧
    V.cell? ⟨(x.add (i * 4)).block, (x.add (i * 4)).off + 2, none⟩ = some (v8 D.b) ∧ V.cell? ⟨(x.add (i * 4)).block, (x.add (i * 4)).off + 3, none⟩ = some (.slice D.A D.ks.length D.c) := by
  have hk : ∀ j v, 0 < j → D.cells[j]? = some v → V.cell? ⟨(x.add (i * 4)).block, (x.add (i * 4)).off + j, none⟩ = some v := fun j v h0 hj => by
    rw [add_off _ h0, add_add]; exact kept hb (h.cell j v hj)
  have h0 := h.cell 0 _ rfl
  rw [Nat.add_zero] at h0
  exact ⟨kept hb h0, hk 1 _ (by decide) rfl, hk 2 _ (by decide) rfl, hk 3 _ (by decide) rfl⟩
theorem IsDd.keepAt {w : World} {x : Addr} {i : Nat} {D : Dd} (h : IsDd w x i D) {V : World} (hb : Below w.heap.size w V) : Bo V w.heap.size (.slice D.A D.ks.length D.c) D.ks := h.keep.below hb

end Go.Proofs.YtdaknfepcbooeaaGreat.Segm
end
