/-
The program's records (layer 15): the small tests; a record's fields, one after the other, for any pass. (Written by gen_receach.py.)
-/
import Derived.Test.YtfmkkklcgiaacaaFR0
import Derived.Test.YtfmkkklcgiaacaaFR1
import Derived.Test.YtfmkkklcgiaacaaFR9
set_option linter.unusedVariables false
set_option linter.unusedSimpArgs false
set_option maxRecDepth 100000
set_option maxHeartbeats 4000000
namespace Go.Proofs.Ytfmkkklcgiaacaa.Rec
open Go.RowKit Go.Proofs.Ytfmkkklcgiaacaa.Ord
section
variable (w : World) (k x1 x2 x3 x4 : Int) (AL : Option Addr) (n cL : Nat) (x6 x7 x8 x9 x10 x11 : Int) (AV : Option Addr) (m cV : Nat)
def raw : List Value := [.int .i64 k, .int .i64 x1, .int .i64 x2, .int .i64 x3, .int .i64 x4, .slice AL n cL, .int .i64 x6, .int .i64 x7, .int .i64 x8, .int .i64 x9, .int .i64 x10, .int .i64 x11, .slice AV m cV]
theorem stray_ : Calls Try.prog 35 #[.agg (raw k x1 x2 x3 x4 AL n cL x6 x7 x8 x9 x10 x11 AV m cV).toArray] w fun e w' => e = .returned (.bool (decide (k = 3) && decide (x11 = -1) && decide (0 < m))) ∧ Below w.heap.size w w' := by
 unfold raw
 obtain ⟨W1, hW1⟩ : ∃ w1, w1 = w.alloc (.cells ([.int .i64 k, .int .i64 x1, .int .i64 x2, .int .i64 x3, .int .i64 x4, .slice AL n cL, .int .i64 x6, .int .i64 x7, .int .i64 x8, .int .i64 x9, .int .i64 x10, .int .i64 x11, .slice AV m cV] : List Value).toArray 42) := ⟨_, rfl⟩
 have HB : Hid (Below w.heap.size w W1) := Lib.hid (by rw [hW1]; exact (Below.refl _ _).alloc (Nat.le_refl _) _)
 have HC : Hid (Cel W1 w.heap.size 42 [.int .i64 k, .int .i64 x1, .int .i64 x2, .int .i64 x3, .int .i64 x4, .slice AL n cL, .int .i64 x6, .int .i64 x7, .int .i64 x8, .int .i64 x9, .int .i64 x10, .int .i64 x11, .slice AV m cV]) := Lib.hid (by rw [hW1]; exact Cel.new w _ _)
 have c0 := HC.out.cell 0
 have c11 := HC.out.cell 11
 have c12 := HC.out.cell 12
 go_enter Try.func35, Try.ntmps35
 go_upto_region 1 with fail
 rw [← hW1]
 clear hW1
 by_cases t1 : k = 3
 ·by_cases t2 : x11 = -1
  ·subst t1
   subst t2
   by_cases t3 : 0 < m
   ·have d : decide ((0 : Int) < (m : Int)) = true := by simp; omega
    go_wp2_with fail
    go_ret
    exact ⟨rfl, HB.out⟩
   ·have d : decide ((0 : Int) < (m : Int)) = false := by simp; omega
    go_wp2_with fail
    go_ret
    exact ⟨rfl, HB.out⟩
  ·subst t1
   have d : (x11 == -1) = false := by simp [t2]
   have T := Lib.hid (decide_eq_false t2)
   clear t2
   go_wp2_with fail
   go_ret
   exact ⟨by rw [T.out]; rfl, HB.out⟩
 ·have d : (k == 3) = false := by simp [t1]
  have T := Lib.hid (decide_eq_false t1)
  clear t1
  go_wp2_with fail
  go_ret
  exact ⟨by rw [T.out]; rfl, HB.out⟩
def bareOf : Bool := decide (x1 = 0) && decide (x2 = 0) && decide (x3 = 0) && decide (x4 = 0) && decide (x6 = 0) && decide (x7 = 0) && decide (x8 = 0) && decide (x9 = 0) && decide (x10 = 0) && decide (x11 = 0) && decide (n = 0) && decide (m = 0)
theorem bare_ : Calls Try.prog 36 #[.agg (raw k x1 x2 x3 x4 AL n cL x6 x7 x8 x9 x10 x11 AV m cV).toArray] w fun e w' => e = .returned (.bool (bareOf x1 x2 x3 x4 n x6 x7 x8 x9 x10 x11 m)) ∧ Below w.heap.size w w' := by
 unfold raw
 obtain ⟨W1, hW1⟩ : ∃ w1, w1 = w.alloc (.cells ([.int .i64 k, .int .i64 x1, .int .i64 x2, .int .i64 x3, .int .i64 x4, .slice AL n cL, .int .i64 x6, .int .i64 x7, .int .i64 x8, .int .i64 x9, .int .i64 x10, .int .i64 x11, .slice AV m cV] : List Value).toArray 42) := ⟨_, rfl⟩
 have HB : Hid (Below w.heap.size w W1) := Lib.hid (by rw [hW1]; exact (Below.refl _ _).alloc (Nat.le_refl _) _)
 have HC : Hid (Cel W1 w.heap.size 42 [.int .i64 k, .int .i64 x1, .int .i64 x2, .int .i64 x3, .int .i64 x4, .slice AL n cL, .int .i64 x6, .int .i64 x7, .int .i64 x8, .int .i64 x9, .int .i64 x10, .int .i64 x11, .slice AV m cV]) := Lib.hid (by rw [hW1]; exact Cel.new w _ _)
 obtain ⟨E, hE⟩ : ∃ E, E = bareOf x1 x2 x3 x4 n x6 x7 x8 x9 x10 x11 m := ⟨_, rfl⟩
 rw [← hE]
 have HE := Lib.hid hE
 clear hE
 have c1 := HC.out.cell 1
 have c2 := HC.out.cell 2
 have c3 := HC.out.cell 3
 have c4 := HC.out.cell 4
 have c5 := HC.out.cell 5
 have c6 := HC.out.cell 6
 have c7 := HC.out.cell 7
 have c8 := HC.out.cell 8
 have c9 := HC.out.cell 9
 have c10 := HC.out.cell 10
 have c11 := HC.out.cell 11
 have c12 := HC.out.cell 12
 go_enter Try.func36, Try.ntmps36
 go_upto_region 1 with fail
 rw [← hW1]
 clear hW1
 go_upto_region 2 with fail
 obtain ⟨W2, hW2⟩ : ∃ w2, w2 = W1.alloc (.cells ([.int .i64 x1, .int .i64 x2, .int .i64 x3, .int .i64 x4, .int .i64 x6, .int .i64 x7, .int .i64 x8, .int .i64 x9, .int .i64 x10, .int .i64 x11] : List Value).toArray 107) := ⟨_, rfl⟩
 have HB2 : Hid (Below w.heap.size w W2) := Lib.hid (by rw [hW2]; exact HB.out.alloc HB.out.size _)
 have HC2 : Hid (Cel W2 W1.heap.size 107 [.int .i64 x1, .int .i64 x2, .int .i64 x3, .int .i64 x4, .int .i64 x6, .int .i64 x7, .int .i64 x8, .int .i64 x9, .int .i64 x10, .int .i64 x11]) := Lib.hid (by rw [hW2]; exact Cel.new W1 _ _)
 have HCW : Hid (Cel W2 w.heap.size 42 [.int .i64 k, .int .i64 x1, .int .i64 x2, .int .i64 x3, .int .i64 x4, .slice AL n cL, .int .i64 x6, .int .i64 x7, .int .i64 x8, .int .i64 x9, .int .i64 x10, .int .i64 x11, .slice AV m cV]) := Lib.hid (by rw [hW2]; exact HC.out.alloc _)
 rw [← hW2]
 clear hW2 c1 c2 c3 c4 c5 c6 c7 c8 c9 c10 c11 c12
 have e0 := HC2.out.cell 0
 have e1 := HC2.out.cell 1
 have e2 := HC2.out.cell 2
 have e3 := HC2.out.cell 3
 have e4 := HC2.out.cell 4
 have e5 := HC2.out.cell 5
 have e6 := HC2.out.cell 6
 have e7 := HC2.out.cell 7
 have e8 := HC2.out.cell 8
 have e9 := HC2.out.cell 9
 go_upto_region 3 with fail
 have HD : Hid (∀ x ∈ [x1, x2, x3, x4, x6, x7, x8, x9, x10, x11], x ≠ 0 → E = false) := Lib.hid (by
  intro x hx hn
  rw [HE.out]
  unfold bareOf
  simp only [List.mem_cons, List.not_mem_nil, or_false] at hx
  rcases hx with rfl | rfl | rfl | rfl | rfl | rfl | rfl | rfl | rfl | rfl <;> (rw [decide_eq_false hn]; simp))
 have HA : Hid ((∀ x ∈ [x1, x2, x3, x4, x6, x7, x8, x9, x10, x11], x = 0) → E = (decide (n = 0) && decide (m = 0))) := Lib.hid (by
  intro h
  rw [HE.out]
  unfold bareOf
  simp only [List.mem_cons, List.not_mem_nil, or_false, forall_eq_or_imp, forall_eq] at h
  obtain ⟨h0, h1, h2, h3, h4, h5, h6, h7, h8, h9⟩ := h
  rw [h0, h1, h2, h3, h4, h5, h6, h7, h8, h9]
  simp)
 clear HE
 obtain ⟨AG, hAG⟩ : ∃ AG, AG = Value.agg #[.int .i64 x1, .int .i64 x2, .int .i64 x3, .int .i64 x4, .int .i64 x6, .int .i64 x7, .int .i64 x8, .int .i64 x9, .int .i64 x10, .int .i64 x11] := ⟨_, rfl⟩
 have HG := Lib.hid hAG
 rw [← hAG]
 clear hAG
 go_loopw [32] (fun v32 wr => ∃ (i : Nat), i ≤ 10 ∧ v32 = .int .i64 (i : Int) ∧ W2 = wr ∧ Hid (∀ x ∈ [x1, x2, x3, x4, x6, x7, x8, x9, x10, x11].take i, x = 0)) (fun v32 _ => 10 - (intOf v32).toNat)
 case atStart => exact ⟨0, Nat.zero_le _, rfl, rfl, Lib.hid (by simp)⟩
 case round =>
  obtain ⟨i, hi, rfl, rfl, HI⟩ := hrel
  have hc : i = 0 ∨ i = 1 ∨ i = 2 ∨ i = 3 ∨ i = 4 ∨ i = 5 ∨ i = 6 ∨ i = 7 ∨ i = 8 ∨ i = 9 ∨ i = 10 := by omega
  rcases hc with rfl | rfl | rfl | rfl | rfl | rfl | rfl | rfl | rfl | rfl | rfl
  ·by_cases z : x1 = 0
   ·have d : (x1 == 0) = true := by simp [z]
    have HI2 := Lib.hid (show ∀ x ∈ [x1, x2, x3, x4, x6, x7, x8, x9, x10, x11].take 1, x = 0 from by
     intro x hx
     have h := HI.out
     simp only [List.take_succ_cons, List.take_zero, List.mem_cons, List.not_mem_nil, or_false] at h hx
     subst hx; exact z)
    have gx : (Instr.index 107 AG (.int .i64 0)).run Try.prog W2 = .ok (.int .i64 x1) W2 := by rw [HG.out]; kernel_rfl
    clear z
    go_wp2_with fail
    exact ⟨⟨1, by omega, rfl, trivial, HI2⟩, by simp [intOf]⟩
   ·have d : (x1 == 0) = false := by simp [z]
    have HX := Lib.hid (HD.out x1 (by simp) z)
    have gx : (Instr.index 107 AG (.int .i64 0)).run Try.prog W2 = .ok (.int .i64 x1) W2 := by rw [HG.out]; kernel_rfl
    clear z
    go_wp2_with fail
    go_ret
    exact ⟨by rw [HX.out]; rfl, HB2.out⟩
  ·by_cases z : x2 = 0
   ·have d : (x2 == 0) = true := by simp [z]
    have HI2 := Lib.hid (show ∀ x ∈ [x1, x2, x3, x4, x6, x7, x8, x9, x10, x11].take 2, x = 0 from by
     intro x hx
     have h := HI.out
     simp only [List.take_succ_cons, List.take_zero, List.mem_cons, List.not_mem_nil, or_false] at h hx
     by_cases hxx : x = x2
     ·rw [hxx]; exact z
     ·exact h x (by simp only [hxx, or_false] at hx; exact hx))
    have gx : (Instr.index 107 AG (.int .i64 1)).run Try.prog W2 = .ok (.int .i64 x2) W2 := by rw [HG.out]; kernel_rfl
    clear z
    go_wp2_with fail
    exact ⟨⟨2, by omega, rfl, trivial, HI2⟩, by simp [intOf]⟩
   ·have d : (x2 == 0) = false := by simp [z]
    have HX := Lib.hid (HD.out x2 (by simp) z)
    have gx : (Instr.index 107 AG (.int .i64 1)).run Try.prog W2 = .ok (.int .i64 x2) W2 := by rw [HG.out]; kernel_rfl
    clear z
    go_wp2_with fail
    go_ret
    exact ⟨by rw [HX.out]; rfl, HB2.out⟩
  ·by_cases z : x3 = 0
   ·have d : (x3 == 0) = true := by simp [z]
    have HI2 := Lib.hid (show ∀ x ∈ [x1, x2, x3, x4, x6, x7, x8, x9, x10, x11].take 3, x = 0 from by
     intro x hx
     have h := HI.out
     simp only [List.take_succ_cons, List.take_zero, List.mem_cons, List.not_mem_nil, or_false] at h hx
     by_cases hxx : x = x3
     ·rw [hxx]; exact z
     ·exact h x (by simp only [hxx, or_false] at hx; exact hx))
    have gx : (Instr.index 107 AG (.int .i64 2)).run Try.prog W2 = .ok (.int .i64 x3) W2 := by rw [HG.out]; kernel_rfl
    clear z
    go_wp2_with fail
    exact ⟨⟨3, by omega, rfl, trivial, HI2⟩, by simp [intOf]⟩
   ·have d : (x3 == 0) = false := by simp [z]
    have HX := Lib.hid (HD.out x3 (by simp) z)
    have gx : (Instr.index 107 AG (.int .i64 2)).run Try.prog W2 = .ok (.int .i64 x3) W2 := by rw [HG.out]; kernel_rfl
    clear z
    go_wp2_with fail
    go_ret
    exact ⟨by rw [HX.out]; rfl, HB2.out⟩
  ·by_cases z : x4 = 0
   ·have d : (x4 == 0) = true := by simp [z]
    have HI2 := Lib.hid (show ∀ x ∈ [x1, x2, x3, x4, x6, x7, x8, x9, x10, x11].take 4, x = 0 from by
     intro x hx
     have h := HI.out
     simp only [List.take_succ_cons, List.take_zero, List.mem_cons, List.not_mem_nil, or_false] at h hx
     by_cases hxx : x = x4
     ·rw [hxx]; exact z
     ·exact h x (by simp only [hxx, or_false] at hx; exact hx))
    have gx : (Instr.index 107 AG (.int .i64 3)).run Try.prog W2 = .ok (.int .i64 x4) W2 := by rw [HG.out]; kernel_rfl
    clear z
    go_wp2_with fail
    exact ⟨⟨4, by omega, rfl, trivial, HI2⟩, by simp [intOf]⟩
   ·have d : (x4 == 0) = false := by simp [z]
    have HX := Lib.hid (HD.out x4 (by simp) z)
    have gx : (Instr.index 107 AG (.int .i64 3)).run Try.prog W2 = .ok (.int .i64 x4) W2 := by rw [HG.out]; kernel_rfl
    clear z
    go_wp2_with fail
    go_ret
    exact ⟨by rw [HX.out]; rfl, HB2.out⟩
  ·by_cases z : x6 = 0
   ·have d : (x6 == 0) = true := by simp [z]
    have HI2 := Lib.hid (show ∀ x ∈ [x1, x2, x3, x4, x6, x7, x8, x9, x10, x11].take 5, x = 0 from by
     intro x hx
     have h := HI.out
     simp only [List.take_succ_cons, List.take_zero, List.mem_cons, List.not_mem_nil, or_false] at h hx
     by_cases hxx : x = x6
     ·rw [hxx]; exact z
     ·exact h x (by simp only [hxx, or_false] at hx; exact hx))
    have gx : (Instr.index 107 AG (.int .i64 4)).run Try.prog W2 = .ok (.int .i64 x6) W2 := by rw [HG.out]; kernel_rfl
    clear z
    go_wp2_with fail
    exact ⟨⟨5, by omega, rfl, trivial, HI2⟩, by simp [intOf]⟩
   ·have d : (x6 == 0) = false := by simp [z]
    have HX := Lib.hid (HD.out x6 (by simp) z)
    have gx : (Instr.index 107 AG (.int .i64 4)).run Try.prog W2 = .ok (.int .i64 x6) W2 := by rw [HG.out]; kernel_rfl
    clear z
    go_wp2_with fail
    go_ret
    exact ⟨by rw [HX.out]; rfl, HB2.out⟩
  ·by_cases z : x7 = 0
   ·have d : (x7 == 0) = true := by simp [z]
    have HI2 := Lib.hid (show ∀ x ∈ [x1, x2, x3, x4, x6, x7, x8, x9, x10, x11].take 6, x = 0 from by
     intro x hx
     have h := HI.out
     simp only [List.take_succ_cons, List.take_zero, List.mem_cons, List.not_mem_nil, or_false] at h hx
     by_cases hxx : x = x7
     ·rw [hxx]; exact z
     ·exact h x (by simp only [hxx, or_false] at hx; exact hx))
    have gx : (Instr.index 107 AG (.int .i64 5)).run Try.prog W2 = .ok (.int .i64 x7) W2 := by rw [HG.out]; kernel_rfl
    clear z
    go_wp2_with fail
    exact ⟨⟨6, by omega, rfl, trivial, HI2⟩, by simp [intOf]⟩
   ·have d : (x7 == 0) = false := by simp [z]
    have HX := Lib.hid (HD.out x7 (by simp) z)
    have gx : (Instr.index 107 AG (.int .i64 5)).run Try.prog W2 = .ok (.int .i64 x7) W2 := by rw [HG.out]; kernel_rfl
    clear z
    go_wp2_with fail
    go_ret
    exact ⟨by rw [HX.out]; rfl, HB2.out⟩
  ·by_cases z : x8 = 0
   ·have d : (x8 == 0) = true := by simp [z]
    have HI2 := Lib.hid (show ∀ x ∈ [x1, x2, x3, x4, x6, x7, x8, x9, x10, x11].take 7, x = 0 from by
     intro x hx
     have h := HI.out
     simp only [List.take_succ_cons, List.take_zero, List.mem_cons, List.not_mem_nil, or_false] at h hx
     by_cases hxx : x = x8
     ·rw [hxx]; exact z
     ·exact h x (by simp only [hxx, or_false] at hx; exact hx))
    have gx : (Instr.index 107 AG (.int .i64 6)).run Try.prog W2 = .ok (.int .i64 x8) W2 := by rw [HG.out]; kernel_rfl
    clear z
    go_wp2_with fail
    exact ⟨⟨7, by omega, rfl, trivial, HI2⟩, by simp [intOf]⟩
   ·have d : (x8 == 0) = false := by simp [z]
    have HX := Lib.hid (HD.out x8 (by simp) z)
    have gx : (Instr.index 107 AG (.int .i64 6)).run Try.prog W2 = .ok (.int .i64 x8) W2 := by rw [HG.out]; kernel_rfl
    clear z
    go_wp2_with fail
    go_ret
    exact ⟨by rw [HX.out]; rfl, HB2.out⟩
  ·by_cases z : x9 = 0
   ·have d : (x9 == 0) = true := by simp [z]
    have HI2 := Lib.hid (show ∀ x ∈ [x1, x2, x3, x4, x6, x7, x8, x9, x10, x11].take 8, x = 0 from by
     intro x hx
     have h := HI.out
     simp only [List.take_succ_cons, List.take_zero, List.mem_cons, List.not_mem_nil, or_false] at h hx
     by_cases hxx : x = x9
     ·rw [hxx]; exact z
     ·exact h x (by simp only [hxx, or_false] at hx; exact hx))
    have gx : (Instr.index 107 AG (.int .i64 7)).run Try.prog W2 = .ok (.int .i64 x9) W2 := by rw [HG.out]; kernel_rfl
    clear z
    go_wp2_with fail
    exact ⟨⟨8, by omega, rfl, trivial, HI2⟩, by simp [intOf]⟩
   ·have d : (x9 == 0) = false := by simp [z]
    have HX := Lib.hid (HD.out x9 (by simp) z)
    have gx : (Instr.index 107 AG (.int .i64 7)).run Try.prog W2 = .ok (.int .i64 x9) W2 := by rw [HG.out]; kernel_rfl
    clear z
    go_wp2_with fail
    go_ret
    exact ⟨by rw [HX.out]; rfl, HB2.out⟩
  ·by_cases z : x10 = 0
   ·have d : (x10 == 0) = true := by simp [z]
    have HI2 := Lib.hid (show ∀ x ∈ [x1, x2, x3, x4, x6, x7, x8, x9, x10, x11].take 9, x = 0 from by
     intro x hx
     have h := HI.out
     simp only [List.take_succ_cons, List.take_zero, List.mem_cons, List.not_mem_nil, or_false] at h hx
     by_cases hxx : x = x10
     ·rw [hxx]; exact z
     ·exact h x (by simp only [hxx, or_false] at hx; exact hx))
    have gx : (Instr.index 107 AG (.int .i64 8)).run Try.prog W2 = .ok (.int .i64 x10) W2 := by rw [HG.out]; kernel_rfl
    clear z
    go_wp2_with fail
    exact ⟨⟨9, by omega, rfl, trivial, HI2⟩, by simp [intOf]⟩
   ·have d : (x10 == 0) = false := by simp [z]
    have HX := Lib.hid (HD.out x10 (by simp) z)
    have gx : (Instr.index 107 AG (.int .i64 8)).run Try.prog W2 = .ok (.int .i64 x10) W2 := by rw [HG.out]; kernel_rfl
    clear z
    go_wp2_with fail
    go_ret
    exact ⟨by rw [HX.out]; rfl, HB2.out⟩
  ·by_cases z : x11 = 0
   ·have d : (x11 == 0) = true := by simp [z]
    have HI2 := Lib.hid (show ∀ x ∈ [x1, x2, x3, x4, x6, x7, x8, x9, x10, x11].take 10, x = 0 from by
     intro x hx
     have h := HI.out
     simp only [List.take_succ_cons, List.take_zero, List.mem_cons, List.not_mem_nil, or_false] at h hx
     by_cases hxx : x = x11
     ·rw [hxx]; exact z
     ·exact h x (by simp only [hxx, or_false] at hx; exact hx))
    have gx : (Instr.index 107 AG (.int .i64 9)).run Try.prog W2 = .ok (.int .i64 x11) W2 := by rw [HG.out]; kernel_rfl
    clear z
    go_wp2_with fail
    exact ⟨⟨10, by omega, rfl, trivial, HI2⟩, by simp [intOf]⟩
   ·have d : (x11 == 0) = false := by simp [z]
    have HX := Lib.hid (HD.out x11 (by simp) z)
    have gx : (Instr.index 107 AG (.int .i64 9)).run Try.prog W2 = .ok (.int .i64 x11) W2 := by rw [HG.out]; kernel_rfl
    clear z
    go_wp2_with fail
    go_ret
    exact ⟨by rw [HX.out]; rfl, HB2.out⟩
  ·have HX := Lib.hid (HA.out (fun x hx => HI.out x (by simpa using hx)))
   have c5 := HCW.out.cell 5
   have c12 := HCW.out.cell 12
   by_cases t1 : n = 0
   ·by_cases t2 : m = 0
    ·have d1 : ((n : Int) == 0) = true := by simp [t1]
     have d2 : ((m : Int) == 0) = true := by simp [t2]
     have HX2 := Lib.hid (show E = true by rw [HX.out, decide_eq_true t1, decide_eq_true t2]; rfl)
     clear t1 t2
     go_wp2_with fail
     go_ret
     exact ⟨by rw [HX2.out]; rfl, HB2.out⟩
    ·have d1 : ((n : Int) == 0) = true := by simp [t1]
     have d2 : ((m : Int) == 0) = false := by simp [t2]
     have HX2 := Lib.hid (show E = false by rw [HX.out, decide_eq_false t2, Bool.and_false])
     clear t1 t2
     go_wp2_with fail
     go_ret
     exact ⟨by rw [HX2.out]; rfl, HB2.out⟩
   ·have d1 : ((n : Int) == 0) = false := by simp [t1]
    have HX2 := Lib.hid (show E = false by rw [HX.out, decide_eq_false t1, Bool.false_and])
    clear t1
    go_wp2_with fail
    go_ret
    exact ⟨by rw [HX2.out]; rfl, HB2.out⟩
end
def fns (kd : Int) : List Nat := if kd = 1 then [49, 50, 51, 52, 53]
 else if kd = 2 then [54, 55, 56]
 else if kd = 3 then [54, 57, 58, 59, 60] else []
def Ent (k : Nat) : Prop := ∀ args W, (callFunc k args).run Try.prog W = .ok (.enter k args) W
theorem fns_ent {kd : Int} {k : Nat} (h : k ∈ fns kd) : Ent k := by
 unfold fns at h
 split at h
 ·simp only [List.mem_cons, List.not_mem_nil, or_false] at h
  rcases h with rfl | rfl | rfl | rfl | rfl <;> exact fun args W => by kernel_rfl
 ·split at h
  ·simp only [List.mem_cons, List.not_mem_nil, or_false] at h
   rcases h with rfl | rfl | rfl <;> exact fun args W => by kernel_rfl
  ·split at h
   ·simp only [List.mem_cons, List.not_mem_nil, or_false] at h
    rcases h with rfl | rfl | rfl | rfl | rfl <;> exact fun args W => by kernel_rfl
   ·cases h
theorem fns_len (kd : Int) : (fns kd).length ≤ 5 := by
 unfold fns
 split
 ·simp
 ·split
  ·simp
  ·split <;> simp
def mvf (F k : Nat) : Value := .func (.func k) #[pp F 0] #[]
def Fns (w : World) (F : Nat) (kd : Int) (A : Option Addr) (B : Nat) : Prop := ∀ (i kf : Nat), (fns kd)[i]? = some kf → ∃ rb, A = some ⟨rb, 0, none⟩ ∧ B ≤ rb ∧ Cel w rb 1 ((fns kd).map (mvf F))
theorem row_ (w : World) {F R J T : Nat} {cs : List Value} {kd : Int} (hF : Fld w F R J T) (hR : Cel w R 42 cs) (hk : cs[0]? = some (.int .i64 kd)) :
  Calls Try.prog 42 #[pp F 0] w fun e w' => ∃ A c, e = .returned (.slice A (fns kd).length c) ∧ Fns w' F kd A w.heap.size ∧ Below w.heap.size w w' := by
 unfold Fld at hF
 have k0 := hF.cell 0
 have k1 := (hR.cell 0).trans hk
 clear hF hR hk
 by_cases t1 : kd = 1
 ·subst t1
  have HN : Hid (∀ W : World, Cel W w.heap.size 1 ((fns 1).map (mvf F)) → Fns W F 1 (some ⟨w.heap.size, 0, none⟩) w.heap.size) := Lib.hid fun W h i kf _ => ⟨_, rfl, Nat.le_refl _, h⟩
  go_enter Try.func42, Try.ntmps42
  go_wp2_with fail
  go_ret
  exact ⟨_, _, rfl, HN.out _ (Cel.new w 1 ((fns 1).map (mvf F))), (Below.refl _ _).alloc (Nat.le_refl _) _⟩
 ·have d1 : (kd == 1) = false := by simp [t1]
  by_cases t2 : kd = 2
  ·subst t2
   have HN : Hid (∀ W : World, Cel W w.heap.size 1 ((fns 2).map (mvf F)) → Fns W F 2 (some ⟨w.heap.size, 0, none⟩) w.heap.size) := Lib.hid fun W h i kf _ => ⟨_, rfl, Nat.le_refl _, h⟩
   go_enter Try.func42, Try.ntmps42
   go_wp2_with fail
   go_ret
   exact ⟨_, _, rfl, HN.out _ (Cel.new w 1 ((fns 2).map (mvf F))), (Below.refl _ _).alloc (Nat.le_refl _) _⟩
  ·have d2 : (kd == 2) = false := by simp [t2]
   by_cases t3 : kd = 3
   ·subst t3
    have HN : Hid (∀ W : World, Cel W w.heap.size 1 ((fns 3).map (mvf F)) → Fns W F 3 (some ⟨w.heap.size, 0, none⟩) w.heap.size) := Lib.hid fun W h i kf _ => ⟨_, rfl, Nat.le_refl _, h⟩
    clear t1 t2
    go_enter Try.func42, Try.ntmps42
    go_wp2_with fail
    go_ret
    exact ⟨_, _, rfl, HN.out _ (Cel.new w 1 ((fns 3).map (mvf F))), (Below.refl _ _).alloc (Nat.le_refl _) _⟩
   ·have d3 : (kd == 3) = false := by simp [t3]
    have he : fns kd = [] := by unfold fns; rw [if_neg t1, if_neg t2, if_neg t3]
    have HN := Lib.hid (show ∃ A c, Ending.returned (.slice none 0 0) = .returned (.slice A (fns kd).length c) ∧ Fns w F kd A w.heap.size ∧ Below w.heap.size w w from ⟨none, 0, by rw [he]; rfl, fun i kf h => by (rw [he] at h; cases h), Below.refl _ _⟩)
    clear t1 t2 t3 he
    go_enter Try.func42, Try.ntmps42
    go_wp2_with fail
    go_ret
    exact HN.out
theorem each_ (w : World) {R J T : Nat} {cs : List Value} {kd : Int} (hR : Cel w R 42 cs) (hk : cs[0]? = some (.int .i64 kd)) (I : Nat → World → Prop) (h0 : ∀ W, Below w.heap.size w W → I 0 W)
  (hs : ∀ F rb W i kf, w.heap.size ≤ F → w.heap.size ≤ rb → (fns kd)[i]? = some kf → Fld W F R J T → Cel W rb 1 ((fns kd).map (mvf F)) → I i W → Calls Try.prog kf #[pp F 0] W fun e W' => e = .returned (.tuple #[]) ∧ I (i + 1) W' ∧ W'.heap[F]? = W.heap[F]? ∧ W'.heap[rb]? = W.heap[rb]?) :
  Calls Try.prog 25 #[pp R 0, .iface T (pp J 0)] w fun e W => e = .returned (.tuple #[]) ∧ I (fns kd).length W := by
 obtain ⟨W1, hW1⟩ : ∃ w1, w1 = w.alloc (.cells #[pp R 0, .iface T (pp J 0)] 102) := ⟨_, rfl⟩
 have hb1 : Below w.heap.size w W1 := by rw [hW1]; exact (Below.refl _ _).alloc (Nat.le_refl _) _
 have hf1 : Fld W1 w.heap.size R J T := by rw [hW1]; exact Cel.new w 102 [pp R 0, .iface T (pp J 0)]
 have hr1 : Cel W1 R 42 cs := hR.below hb1 hR.lt
 have con := row_ W1 hf1 hr1 hk
 obtain ⟨n, hn⟩ : ∃ n, n = (fns kd).length := ⟨_, rfl⟩
 rw [← hn] at con ⊢
 have hn5 : n ≤ 5 := by rw [hn]; exact fns_len kd
 have HN := Lib.hid hn
 have HB := Lib.hid hb1
 have HF := Lib.hid hf1
 have H0 := Lib.hid h0
 have HS := Lib.hid hs
 clear hb1 hf1 hr1 hR hk h0 hs hn
 unfold pp at hW1
 go_enter Try.func25, Try.ntmps25
 go_upto_region 1 with fail
 rw [← hW1]
 clear hW1
 go_wp2_with fail
 refine con.mono ?_
 clear con
 rintro e W2 ⟨A, c, rfl, hA, hb2⟩
 have HA : Hid (Fns W2 w.heap.size kd A w.heap.size) := Lib.hid fun i kf h => by
  obtain ⟨rb, h1, h2, h3⟩ := hA i kf h
  exact ⟨rb, h1, Nat.le_trans HB.out.size h2, h3⟩
 have HF2 := Lib.hid (show Fld W2 w.heap.size R J T from Cel.below HF.out hb2 (Cel.lt HF.out))
 have HI2 := Lib.hid (H0.out W2 (HB.out.trans (hb2.mono HB.out.size)))
 clear hA hb2 HF H0 HB
 go_wp2_with fail
 go_loopw [14] (fun v14 wr => ∃ (i : Nat), i ≤ n ∧ v14 = .int .i64 (i : Int) ∧ Hid (I i wr) ∧ Hid (Fld wr w.heap.size R J T) ∧ Hid (Fns wr w.heap.size kd A w.heap.size)) (fun v14 _ => n - (intOf v14).toNat)
 case atStart => exact ⟨0, Nat.zero_le _, rfl, HI2, HF2, HA⟩
 case round =>
  obtain ⟨i, hi, rfl, HI, HFW, HAW⟩ := hrel
  obtain ⟨W3, rfl⟩ : ∃ W, W = wr := ⟨_, rfl⟩
  rcases Nat.lt_or_ge i n with hlt | hge
  ·obtain ⟨kf, hkf⟩ : ∃ kf, (fns kd)[i]? = some kf := ⟨_, List.getElem?_eq_getElem (by rw [← HN.out]; exact hlt)⟩
   obtain ⟨rb, rfl, hB, hc⟩ := HAW.out i kf hkf
   have hE := fns_ent (List.mem_of_getElem? hkf)
   unfold Ent at hE
   have k0 : W3.cell? ⟨rb, i, none⟩ = some (.func (.func kf) #[.pointer (some ⟨w.heap.size, 0, none⟩)] #[]) := by
    rw [hc.cell i, List.getElem?_map, hkf]
    rfl
   have con := HS.out w.heap.size rb W3 i kf (Nat.le_refl _) hB hkf HFW.out hc HI.out
   have HC := Lib.hid hc
   clear hkf hc
   go_wp2_with fail
   refine con.mono ?_
   clear con k0
   rintro e W4 ⟨rfl, hi4, hF4, hr4⟩
   have HI4 := Lib.hid hi4
   have HF4 := Lib.hid (show Fld W4 w.heap.size R J T from hF4.trans HFW.out)
   have HA4 : Hid (Fns W4 w.heap.size kd (some ⟨rb, 0, none⟩) w.heap.size) := Lib.hid fun j k2 h => ⟨rb, rfl, hB, hr4.trans HC.out⟩
   clear hi4 hF4 hr4
   go_wp2_with fail
   exact ⟨⟨i + 1, by omega, by rw [show ((i + 1 : Nat) : Int) = (i : Int) + 1 by omega], HI4, HF4, HA4⟩, by simp [intOf]; omega⟩
  ·obtain rfl : i = n := by omega
   go_wp2_with fail
   go_end0
   exact ⟨rfl, HI.out⟩
end Go.Proofs.Ytfmkkklcgiaacaa.Rec
