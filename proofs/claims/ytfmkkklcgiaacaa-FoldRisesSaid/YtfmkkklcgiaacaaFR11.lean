/-
The program's records (layer 15): the judge. (Written by gen_recjudge.py.)
-/
import Derived.Test.YtfmkkklcgiaacaaFR0
import Derived.Test.YtfmkkklcgiaacaaFR1
import Derived.Test.YtfmkkklcgiaacaaFR9
set_option linter.unusedVariables false
set_option linter.unusedSimpArgs false
set_option maxRecDepth 100000
set_option maxHeartbeats 4000000
namespace Go.Proofs.Ytfmkkklcgiaacaa.Rec
open Go.RowKit Go.Proofs.Ytfmkkklcgiaacaa.Ord
open Lex (Tx)
theorem jm_number (J : Nat) : Meth 86 J "davit/record.number" 100 := ⟨fun m W => by kernel_rfl, fun _ _ => by kernel_rfl⟩
theorem jm_text (J : Nat) : Meth 86 J "davit/record.text" 101 := ⟨fun m W => by kernel_rfl, fun _ _ => by kernel_rfl⟩
theorem jm_texts (J : Nat) : Meth 86 J "davit/record.texts" 102 := ⟨fun m W => by kernel_rfl, fun _ _ => by kernel_rfl⟩
def JgSays (J R : Nat) (t : TypeId) (cs : List Value) (bad : Bool) (w : World) (e : Ending) (w' : World) : Prop := e = .returned (.tuple #[]) ∧ Cel w' J 88 [.bool bad] ∧ Cel w' R t cs ∧ Frm [J, R] w w'
theorem j_number (w : World) {J R k : Nat} {bad : Bool} {t : TypeId} {cs : List Value} {x a b c d : Int} (hJ : Cel w J 88 [.bool bad]) (hR : Cel w R t cs) (hk : cs[k]? = some (.int .i64 x)) (hne : R ≠ J) :
  Calls Try.prog 100 #[pp J 0, pp R k, spn a b c d] w (JgSays J R t (cs.set k (.int .i64 0)) (bad || !inR x a b) w) := by
 obtain ⟨E, hE⟩ : ∃ E, E = (bad || !inR x a b) := ⟨_, rfl⟩
 rw [← hE]
 obtain ⟨w1, hw1⟩ : ∃ w1, w1 = w.alloc (.cells #[.int .i64 a, .int .i64 b, .int .i64 c, .int .i64 d] 115) := ⟨_, rfl⟩
 obtain ⟨G, hG⟩ : ∃ G, G = w.heap.size := ⟨_, rfl⟩
 have hc1 : Cel w1 G 115 [.int .i64 a, .int .i64 b, .int .i64 c, .int .i64 d] := by rw [hw1, hG]; exact Cel.new w 115 [.int .i64 a, .int .i64 b, .int .i64 c, .int .i64 d]
 have hf1 : Frm [J, R] w w1 := by rw [hw1]; exact (Frm.refl _ _).alloc _
 have hf0 : Frm [] w w1 := by rw [hw1]; exact (Frm.refl _ _).alloc _
 have HJ1 := Lib.hid (show Cel w1 J 88 [.bool bad] from hJ.frm hf0 (by simp))
 have HR1 := Lib.hid (show Cel w1 R t cs from hR.frm hf0 (by simp))
 have HG1 := Lib.hid hc1
 have HF1 := Lib.hid hf1
 have HK := Lib.hid hk
 obtain ⟨W1, hW1⟩ : ∃ W, W = w1 := ⟨_, rfl⟩
 have HW := Lib.hid (show w.alloc (.cells #[.int .i64 a, .int .i64 b, .int .i64 c, .int .i64 d] 115) = W1 by rw [hW1, hw1])
 rw [← hW1] at HJ1 HR1 HG1 HF1
 clear hJ hR hk hc1 hf1 hf0 hw1 hW1
 have HEND : Hid (∀ V, Cel V J 88 [.bool E] → Cel V R t (cs.set k (.int .i64 0)) → Frm [J, R] W1 V → JgSays J R t (cs.set k (.int .i64 0)) E w (.returned (.tuple #[])) V) := Lib.hid fun V h1 h2 h3 => ⟨rfl, h1, h2, HF1.out.trans h3⟩
 unfold spn pp
 go_enter Try.func100, Try.ntmps100
 go_upto_region 1 with fail
 rw [HW.out, ← hG]
 clear HW hG
 have hH : W1.drew.cell? ⟨J, 0, none⟩ = some (.bool bad) ∧ W1.drew.cell? ⟨R, k, none⟩ = some (.int .i64 x) ∧ W1.drew.cell? ⟨G, 0, none⟩ = some (.int .i64 a) ∧ W1.drew.cell? ⟨G, 1, none⟩ = some (.int .i64 b) := ⟨HJ1.out.cell 0, (HR1.out.cell k).trans HK.out, HG1.out.cell 0, HG1.out.cell 1⟩
 refine Ord.wp_region_N [23] (fun V => V.cell? ⟨J, 0, none⟩ = some (.bool bad) ∧ V.cell? ⟨R, k, none⟩ = some (.int .i64 x) ∧ V.cell? ⟨G, 0, none⟩ = some (.int .i64 a) ∧ V.cell? ⟨G, 1, none⟩ = some (.int .i64 b)) (by kernel_rfl) ?_
 cases bad
 case true =>
  have e1 : E = true := hE
  clear hE
  subst e1
  refine tk_ 0 (.pointer (some ⟨J, 0, none⟩)) [23] rfl hH ?_ ?_
  ·intro V hV; go_simp
  try simp only [Act.put, lay_]
  refine tk_ 1 (.pointer (some ⟨J, 0, none⟩)) [23] rfl hH ?_ ?_
  ·intro V hV; go_simp
  try simp only [Act.put, lay_]
  refine tk_ 2 (.pointer (some ⟨J, 0, none⟩)) [23] rfl hH ?_ ?_
  ·intro V hV; go_simp
  try simp only [Act.put, lay_]
  refine tk_ 3 (.pointer (some ⟨J, 0, none⟩)) [23] rfl hH ?_ ?_
  ·intro V hV; go_simp
  try simp only [Act.put, lay_]
  refine tk_ 4 (.bool true) [23] rfl hH ?_ ?_
  ·intro V hV; obtain ⟨q0, q1, q2, q3⟩ := hV; go_simp
  try simp only [Act.put, lay_]
  refine tk_ 5 (.bool true) [23] rfl hH ?_ ?_
  ·intro V hV; go_simp
  try simp only [Act.put, lay_]
  refine wpAnyN_take (i := 6) (v := undef) [23] (by kernel_rfl) rfl (by kernel_rfl) (by kernel_rfl) (by kernel_rfl) (fun _ _ _ h => h) (Or.inr ⟨by rfl, rfl⟩) hH ?_
  try simp only [Act.put, lay_]
  refine wpAnyN_take (i := 7) (v := undef) [23] (by kernel_rfl) rfl (by kernel_rfl) (by kernel_rfl) (by kernel_rfl) (fun _ _ _ h => h) (Or.inr ⟨by rfl, rfl⟩) hH ?_
  try simp only [Act.put, lay_]
  refine wpAnyN_take (i := 8) (v := undef) [23] (by kernel_rfl) rfl (by kernel_rfl) (by kernel_rfl) (by kernel_rfl) (fun _ _ _ h => h) (Or.inr ⟨by rfl, rfl⟩) hH ?_
  try simp only [Act.put, lay_]
  refine wpAnyN_take (i := 9) (v := undef) [23] (by kernel_rfl) rfl (by kernel_rfl) (by kernel_rfl) (by kernel_rfl) (fun _ _ _ h => h) (Or.inr ⟨by rfl, rfl⟩) hH ?_
  try simp only [Act.put, lay_]
  refine wpAnyN_take (i := 10) (v := undef) [23] (by kernel_rfl) rfl (by kernel_rfl) (by kernel_rfl) (by kernel_rfl) (fun _ _ _ h => h) (Or.inr ⟨by rfl, rfl⟩) hH ?_
  try simp only [Act.put, lay_]
  refine wpAnyN_take (i := 11) (v := undef) [23] (by kernel_rfl) rfl (by kernel_rfl) (by kernel_rfl) (by kernel_rfl) (fun _ _ _ h => h) (Or.inr ⟨by rfl, rfl⟩) hH ?_
  try simp only [Act.put, lay_]
  refine tk_ 12 (.bool true) [23] rfl hH ?_ ?_
  ·intro V hV; go_simp
  try simp only [Act.put, lay_]
  refine tk_ 13 (.bool true) [23] rfl hH ?_ ?_
  ·intro V hV; go_simp
  try simp only [Act.put, lay_]
  refine wpAnyN_take (i := 14) (v := undef) [23] (by kernel_rfl) rfl (by kernel_rfl) (by kernel_rfl) (by kernel_rfl) (fun _ _ _ h => h) (Or.inr ⟨by rfl, rfl⟩) hH ?_
  try simp only [Act.put, lay_]
  refine wpAnyN_take (i := 15) (v := undef) [23] (by kernel_rfl) rfl (by kernel_rfl) (by kernel_rfl) (by kernel_rfl) (fun _ _ _ h => h) (Or.inr ⟨by rfl, rfl⟩) hH ?_
  try simp only [Act.put, lay_]
  refine wpAnyN_take (i := 16) (v := undef) [23] (by kernel_rfl) rfl (by kernel_rfl) (by kernel_rfl) (by kernel_rfl) (fun _ _ _ h => h) (Or.inr ⟨by rfl, rfl⟩) hH ?_
  try simp only [Act.put, lay_]
  refine wpAnyN_take (i := 17) (v := undef) [23] (by kernel_rfl) rfl (by kernel_rfl) (by kernel_rfl) (by kernel_rfl) (fun _ _ _ h => h) (Or.inr ⟨by rfl, rfl⟩) hH ?_
  try simp only [Act.put, lay_]
  refine wpAnyN_take (i := 18) (v := undef) [23] (by kernel_rfl) rfl (by kernel_rfl) (by kernel_rfl) (by kernel_rfl) (fun _ _ _ h => h) (Or.inr ⟨by rfl, rfl⟩) hH ?_
  try simp only [Act.put, lay_]
  refine wpAnyN_take (i := 19) (v := undef) [23] (by kernel_rfl) rfl (by kernel_rfl) (by kernel_rfl) (by kernel_rfl) (fun _ _ _ h => h) (Or.inr ⟨by rfl, rfl⟩) hH ?_
  try simp only [Act.put, lay_]
  refine tk_ 20 (.bool true) [23] rfl hH ?_ ?_
  ·intro V hV; go_simp
  try simp only [Act.put, lay_]
  refine tk_ 21 (.pointer (some ⟨J, 0, none⟩)) [22, 23] rfl hH ?_ ?_
  ·intro V hV; go_simp
  try simp only [Act.put, lay_]
  refine tk_ 22 (.pointer (some ⟨J, 0, none⟩)) [23] rfl hH ?_ ?_
  ·intro V hV; go_simp
  try simp only [Act.put, lay_]
  have f0 := HJ1.out.free 0
  have k0 := HJ1.out.cell 0
  refine wpAnyN_one (i := 23) (by kernel_rfl) rfl (fun K hK => ?_)
  go_simp
  refine hK.out _ _ (.inl (by decide)) ?_
  clear hK K f0 k0
  try simp only [Act.put, lay_]
  refine wpAnyN_done (by kernel_rfl) ?_ _
  obtain ⟨W2, hW2⟩ : ∃ W2, W2 = (W1.setCell ⟨J, 0, none⟩ (.bool true)).drew := ⟨_, rfl⟩
  rw [← hW2]
  have hf2 : Frm [J] W1 W2 := by rw [hW2]; exact ((Frm.refl _ _).set (by simp) _).drew
  have HJ2 := Lib.hid (show Cel W2 J 88 [.bool true] from by rw [hW2]; exact (HJ1.out.set 0 _).drew)
  have HR2 := Lib.hid (show Cel W2 R t cs from HR1.out.frm hf2 (by simp; exact hne))
  have HF2 := Lib.hid (hf2.mono (l' := [J, R]) (by simp))
  clear hW2 hf2 hH HJ1
  have k0 := (HR2.out.cell k).trans HK.out
  have f0 := HR2.out.free k
  go_wp2_with fail
  go_end0
  exact HEND.out _ (HJ2.out.far (fun e => hne e.symm) _) (HR2.out.set k _) (HF2.out.set (by simp) _)
 case false =>
  by_cases t1 : x < a
  ·have d1 : decide (x < a) = true := decide_eq_true t1
   have e1 : E = true := by rw [hE]; unfold inR; rw [decide_eq_false (show ¬ a ≤ x by omega)]; rfl
   clear hE t1
   subst e1
   refine tk_ 0 (.pointer (some ⟨J, 0, none⟩)) [23] rfl hH ?_ ?_
   ·intro V hV; go_simp
   try simp only [Act.put, lay_]
   refine tk_ 1 (.pointer (some ⟨J, 0, none⟩)) [23] rfl hH ?_ ?_
   ·intro V hV; go_simp
   try simp only [Act.put, lay_]
   refine tk_ 2 (.pointer (some ⟨J, 0, none⟩)) [23] rfl hH ?_ ?_
   ·intro V hV; go_simp
   try simp only [Act.put, lay_]
   refine tk_ 3 (.pointer (some ⟨J, 0, none⟩)) [23] rfl hH ?_ ?_
   ·intro V hV; go_simp
   try simp only [Act.put, lay_]
   refine tk_ 4 (.bool false) [23] rfl hH ?_ ?_
   ·intro V hV; obtain ⟨q0, q1, q2, q3⟩ := hV; go_simp
   try simp only [Act.put, lay_]
   refine tk_ 5 (.bool false) [23] rfl hH ?_ ?_
   ·intro V hV; go_simp
   try simp only [Act.put, lay_]
   refine tk_ 6 (.pointer (some ⟨R, k, none⟩)) [23] rfl hH ?_ ?_
   ·intro V hV; go_simp
   try simp only [Act.put, lay_]
   refine tk_ 7 (.pointer (some ⟨R, k, none⟩)) [23] rfl hH ?_ ?_
   ·intro V hV; go_simp
   try simp only [Act.put, lay_]
   refine tk_ 8 (.int .i64 x) [23] rfl hH ?_ ?_
   ·intro V hV; obtain ⟨q0, q1, q2, q3⟩ := hV; go_simp
   try simp only [Act.put, lay_]
   refine tk_ 9 (.pointer (some ⟨G, 0, none⟩)) [23] rfl hH ?_ ?_
   ·intro V hV; go_simp
   try simp only [Act.put, lay_]
   refine tk_ 10 (.int .i64 a) [23] rfl hH ?_ ?_
   ·intro V hV; obtain ⟨q0, q1, q2, q3⟩ := hV; go_simp
   try simp only [Act.put, lay_]
   refine tk_ 11 (.bool true) [23] rfl hH ?_ ?_
   ·intro V hV; go_simp
   try simp only [Act.put, lay_]
   refine tk_ 12 (.bool true) [23] rfl hH ?_ ?_
   ·intro V hV; go_simp
   try simp only [Act.put, lay_]
   refine tk_ 13 (.bool true) [23] rfl hH ?_ ?_
   ·intro V hV; go_simp
   try simp only [Act.put, lay_]
   refine wpAnyN_take (i := 14) (v := undef) [23] (by kernel_rfl) rfl (by kernel_rfl) (by kernel_rfl) (by kernel_rfl) (fun _ _ _ h => h) (Or.inr ⟨by rfl, rfl⟩) hH ?_
   try simp only [Act.put, lay_]
   refine wpAnyN_take (i := 15) (v := undef) [23] (by kernel_rfl) rfl (by kernel_rfl) (by kernel_rfl) (by kernel_rfl) (fun _ _ _ h => h) (Or.inr ⟨by rfl, rfl⟩) hH ?_
   try simp only [Act.put, lay_]
   refine wpAnyN_take (i := 16) (v := undef) [23] (by kernel_rfl) rfl (by kernel_rfl) (by kernel_rfl) (by kernel_rfl) (fun _ _ _ h => h) (Or.inr ⟨by rfl, rfl⟩) hH ?_
   try simp only [Act.put, lay_]
   refine wpAnyN_take (i := 17) (v := undef) [23] (by kernel_rfl) rfl (by kernel_rfl) (by kernel_rfl) (by kernel_rfl) (fun _ _ _ h => h) (Or.inr ⟨by rfl, rfl⟩) hH ?_
   try simp only [Act.put, lay_]
   refine wpAnyN_take (i := 18) (v := undef) [23] (by kernel_rfl) rfl (by kernel_rfl) (by kernel_rfl) (by kernel_rfl) (fun _ _ _ h => h) (Or.inr ⟨by rfl, rfl⟩) hH ?_
   try simp only [Act.put, lay_]
   refine wpAnyN_take (i := 19) (v := undef) [23] (by kernel_rfl) rfl (by kernel_rfl) (by kernel_rfl) (by kernel_rfl) (fun _ _ _ h => h) (Or.inr ⟨by rfl, rfl⟩) hH ?_
   try simp only [Act.put, lay_]
   refine tk_ 20 (.bool true) [23] rfl hH ?_ ?_
   ·intro V hV; go_simp
   try simp only [Act.put, lay_]
   refine tk_ 21 (.pointer (some ⟨J, 0, none⟩)) [22, 23] rfl hH ?_ ?_
   ·intro V hV; go_simp
   try simp only [Act.put, lay_]
   refine tk_ 22 (.pointer (some ⟨J, 0, none⟩)) [23] rfl hH ?_ ?_
   ·intro V hV; go_simp
   try simp only [Act.put, lay_]
   have f0 := HJ1.out.free 0
   have k0 := HJ1.out.cell 0
   refine wpAnyN_one (i := 23) (by kernel_rfl) rfl (fun K hK => ?_)
   go_simp
   refine hK.out _ _ (.inl (by decide)) ?_
   clear hK K f0 k0
   try simp only [Act.put, lay_]
   refine wpAnyN_done (by kernel_rfl) ?_ _
   obtain ⟨W2, hW2⟩ : ∃ W2, W2 = (W1.setCell ⟨J, 0, none⟩ (.bool true)).drew := ⟨_, rfl⟩
   rw [← hW2]
   have hf2 : Frm [J] W1 W2 := by rw [hW2]; exact ((Frm.refl _ _).set (by simp) _).drew
   have HJ2 := Lib.hid (show Cel W2 J 88 [.bool true] from by rw [hW2]; exact (HJ1.out.set 0 _).drew)
   have HR2 := Lib.hid (show Cel W2 R t cs from HR1.out.frm hf2 (by simp; exact hne))
   have HF2 := Lib.hid (hf2.mono (l' := [J, R]) (by simp))
   clear hW2 hf2 hH HJ1
   have k0 := (HR2.out.cell k).trans HK.out
   have f0 := HR2.out.free k
   go_wp2_with fail
   go_end0
   exact HEND.out _ (HJ2.out.far (fun e => hne e.symm) _) (HR2.out.set k _) (HF2.out.set (by simp) _)
  ·have d1 : decide (x < a) = false := decide_eq_false t1
   by_cases t2 : b < x
   ·have d2 : decide (b < x) = true := decide_eq_true t2
    have e1 : E = true := by rw [hE]; unfold inR; rw [decide_eq_false (show ¬ x ≤ b by omega), Bool.and_false]; rfl
    clear hE t1 t2
    subst e1
    refine tk_ 0 (.pointer (some ⟨J, 0, none⟩)) [23] rfl hH ?_ ?_
    ·intro V hV; go_simp
    try simp only [Act.put, lay_]
    refine tk_ 1 (.pointer (some ⟨J, 0, none⟩)) [23] rfl hH ?_ ?_
    ·intro V hV; go_simp
    try simp only [Act.put, lay_]
    refine tk_ 2 (.pointer (some ⟨J, 0, none⟩)) [23] rfl hH ?_ ?_
    ·intro V hV; go_simp
    try simp only [Act.put, lay_]
    refine tk_ 3 (.pointer (some ⟨J, 0, none⟩)) [23] rfl hH ?_ ?_
    ·intro V hV; go_simp
    try simp only [Act.put, lay_]
    refine tk_ 4 (.bool false) [23] rfl hH ?_ ?_
    ·intro V hV; obtain ⟨q0, q1, q2, q3⟩ := hV; go_simp
    try simp only [Act.put, lay_]
    refine tk_ 5 (.bool false) [23] rfl hH ?_ ?_
    ·intro V hV; go_simp
    try simp only [Act.put, lay_]
    refine tk_ 6 (.pointer (some ⟨R, k, none⟩)) [23] rfl hH ?_ ?_
    ·intro V hV; go_simp
    try simp only [Act.put, lay_]
    refine tk_ 7 (.pointer (some ⟨R, k, none⟩)) [23] rfl hH ?_ ?_
    ·intro V hV; go_simp
    try simp only [Act.put, lay_]
    refine tk_ 8 (.int .i64 x) [23] rfl hH ?_ ?_
    ·intro V hV; obtain ⟨q0, q1, q2, q3⟩ := hV; go_simp
    try simp only [Act.put, lay_]
    refine tk_ 9 (.pointer (some ⟨G, 0, none⟩)) [23] rfl hH ?_ ?_
    ·intro V hV; go_simp
    try simp only [Act.put, lay_]
    refine tk_ 10 (.int .i64 a) [23] rfl hH ?_ ?_
    ·intro V hV; obtain ⟨q0, q1, q2, q3⟩ := hV; go_simp
    try simp only [Act.put, lay_]
    refine tk_ 11 (.bool false) [23] rfl hH ?_ ?_
    ·intro V hV; go_simp
    try simp only [Act.put, lay_]
    refine tk_ 12 (.bool false) [23] rfl hH ?_ ?_
    ·intro V hV; go_simp
    try simp only [Act.put, lay_]
    refine tk_ 13 (.bool false) [23] rfl hH ?_ ?_
    ·intro V hV; go_simp
    try simp only [Act.put, lay_]
    refine tk_ 14 (.pointer (some ⟨R, k, none⟩)) [23] rfl hH ?_ ?_
    ·intro V hV; go_simp
    try simp only [Act.put, lay_]
    refine tk_ 15 (.pointer (some ⟨R, k, none⟩)) [23] rfl hH ?_ ?_
    ·intro V hV; go_simp
    try simp only [Act.put, lay_]
    refine tk_ 16 (.int .i64 x) [23] rfl hH ?_ ?_
    ·intro V hV; obtain ⟨q0, q1, q2, q3⟩ := hV; go_simp
    try simp only [Act.put, lay_]
    refine tk_ 17 (.pointer (some ⟨G, 1, none⟩)) [23] rfl hH ?_ ?_
    ·intro V hV; go_simp
    try simp only [Act.put, lay_]
    refine tk_ 18 (.int .i64 b) [23] rfl hH ?_ ?_
    ·intro V hV; obtain ⟨q0, q1, q2, q3⟩ := hV; go_simp
    try simp only [Act.put, lay_]
    refine tk_ 19 (.bool true) [23] rfl hH ?_ ?_
    ·intro V hV; go_simp
    try simp only [Act.put, lay_]
    refine tk_ 20 (.bool true) [23] rfl hH ?_ ?_
    ·intro V hV; go_simp
    try simp only [Act.put, lay_]
    refine tk_ 21 (.pointer (some ⟨J, 0, none⟩)) [22, 23] rfl hH ?_ ?_
    ·intro V hV; go_simp
    try simp only [Act.put, lay_]
    refine tk_ 22 (.pointer (some ⟨J, 0, none⟩)) [23] rfl hH ?_ ?_
    ·intro V hV; go_simp
    try simp only [Act.put, lay_]
    have f0 := HJ1.out.free 0
    have k0 := HJ1.out.cell 0
    refine wpAnyN_one (i := 23) (by kernel_rfl) rfl (fun K hK => ?_)
    go_simp
    refine hK.out _ _ (.inl (by decide)) ?_
    clear hK K f0 k0
    try simp only [Act.put, lay_]
    refine wpAnyN_done (by kernel_rfl) ?_ _
    obtain ⟨W2, hW2⟩ : ∃ W2, W2 = (W1.setCell ⟨J, 0, none⟩ (.bool true)).drew := ⟨_, rfl⟩
    rw [← hW2]
    have hf2 : Frm [J] W1 W2 := by rw [hW2]; exact ((Frm.refl _ _).set (by simp) _).drew
    have HJ2 := Lib.hid (show Cel W2 J 88 [.bool true] from by rw [hW2]; exact (HJ1.out.set 0 _).drew)
    have HR2 := Lib.hid (show Cel W2 R t cs from HR1.out.frm hf2 (by simp; exact hne))
    have HF2 := Lib.hid (hf2.mono (l' := [J, R]) (by simp))
    clear hW2 hf2 hH HJ1
    have k0 := (HR2.out.cell k).trans HK.out
    have f0 := HR2.out.free k
    go_wp2_with fail
    go_end0
    exact HEND.out _ (HJ2.out.far (fun e => hne e.symm) _) (HR2.out.set k _) (HF2.out.set (by simp) _)
   ·have d2 : decide (b < x) = false := decide_eq_false t2
    have e1 : E = false := by rw [hE]; unfold inR; rw [decide_eq_true (show a ≤ x by omega), decide_eq_true (show x ≤ b by omega)]; rfl
    clear hE t1 t2
    subst e1
    refine tk_ 0 (.pointer (some ⟨J, 0, none⟩)) [23] rfl hH ?_ ?_
    ·intro V hV; go_simp
    try simp only [Act.put, lay_]
    refine tk_ 1 (.pointer (some ⟨J, 0, none⟩)) [23] rfl hH ?_ ?_
    ·intro V hV; go_simp
    try simp only [Act.put, lay_]
    refine tk_ 2 (.pointer (some ⟨J, 0, none⟩)) [23] rfl hH ?_ ?_
    ·intro V hV; go_simp
    try simp only [Act.put, lay_]
    refine tk_ 3 (.pointer (some ⟨J, 0, none⟩)) [23] rfl hH ?_ ?_
    ·intro V hV; go_simp
    try simp only [Act.put, lay_]
    refine tk_ 4 (.bool false) [23] rfl hH ?_ ?_
    ·intro V hV; obtain ⟨q0, q1, q2, q3⟩ := hV; go_simp
    try simp only [Act.put, lay_]
    refine tk_ 5 (.bool false) [23] rfl hH ?_ ?_
    ·intro V hV; go_simp
    try simp only [Act.put, lay_]
    refine tk_ 6 (.pointer (some ⟨R, k, none⟩)) [23] rfl hH ?_ ?_
    ·intro V hV; go_simp
    try simp only [Act.put, lay_]
    refine tk_ 7 (.pointer (some ⟨R, k, none⟩)) [23] rfl hH ?_ ?_
    ·intro V hV; go_simp
    try simp only [Act.put, lay_]
    refine tk_ 8 (.int .i64 x) [23] rfl hH ?_ ?_
    ·intro V hV; obtain ⟨q0, q1, q2, q3⟩ := hV; go_simp
    try simp only [Act.put, lay_]
    refine tk_ 9 (.pointer (some ⟨G, 0, none⟩)) [23] rfl hH ?_ ?_
    ·intro V hV; go_simp
    try simp only [Act.put, lay_]
    refine tk_ 10 (.int .i64 a) [23] rfl hH ?_ ?_
    ·intro V hV; obtain ⟨q0, q1, q2, q3⟩ := hV; go_simp
    try simp only [Act.put, lay_]
    refine tk_ 11 (.bool false) [23] rfl hH ?_ ?_
    ·intro V hV; go_simp
    try simp only [Act.put, lay_]
    refine tk_ 12 (.bool false) [23] rfl hH ?_ ?_
    ·intro V hV; go_simp
    try simp only [Act.put, lay_]
    refine tk_ 13 (.bool false) [23] rfl hH ?_ ?_
    ·intro V hV; go_simp
    try simp only [Act.put, lay_]
    refine tk_ 14 (.pointer (some ⟨R, k, none⟩)) [23] rfl hH ?_ ?_
    ·intro V hV; go_simp
    try simp only [Act.put, lay_]
    refine tk_ 15 (.pointer (some ⟨R, k, none⟩)) [23] rfl hH ?_ ?_
    ·intro V hV; go_simp
    try simp only [Act.put, lay_]
    refine tk_ 16 (.int .i64 x) [23] rfl hH ?_ ?_
    ·intro V hV; obtain ⟨q0, q1, q2, q3⟩ := hV; go_simp
    try simp only [Act.put, lay_]
    refine tk_ 17 (.pointer (some ⟨G, 1, none⟩)) [23] rfl hH ?_ ?_
    ·intro V hV; go_simp
    try simp only [Act.put, lay_]
    refine tk_ 18 (.int .i64 b) [23] rfl hH ?_ ?_
    ·intro V hV; obtain ⟨q0, q1, q2, q3⟩ := hV; go_simp
    try simp only [Act.put, lay_]
    refine tk_ 19 (.bool false) [23] rfl hH ?_ ?_
    ·intro V hV; go_simp
    try simp only [Act.put, lay_]
    refine tk_ 20 (.bool false) [23] rfl hH ?_ ?_
    ·intro V hV; go_simp
    try simp only [Act.put, lay_]
    refine tk_ 21 (.pointer (some ⟨J, 0, none⟩)) [22, 23] rfl hH ?_ ?_
    ·intro V hV; go_simp
    try simp only [Act.put, lay_]
    refine tk_ 22 (.pointer (some ⟨J, 0, none⟩)) [23] rfl hH ?_ ?_
    ·intro V hV; go_simp
    try simp only [Act.put, lay_]
    have f0 := HJ1.out.free 0
    have k0 := HJ1.out.cell 0
    refine wpAnyN_one (i := 23) (by kernel_rfl) rfl (fun K hK => ?_)
    go_simp
    refine hK.out _ _ (.inl (by decide)) ?_
    clear hK K f0 k0
    try simp only [Act.put, lay_]
    refine wpAnyN_done (by kernel_rfl) ?_ _
    obtain ⟨W2, hW2⟩ : ∃ W2, W2 = (W1.setCell ⟨J, 0, none⟩ (.bool false)).drew := ⟨_, rfl⟩
    rw [← hW2]
    have hf2 : Frm [J] W1 W2 := by rw [hW2]; exact ((Frm.refl _ _).set (by simp) _).drew
    have HJ2 := Lib.hid (show Cel W2 J 88 [.bool false] from by rw [hW2]; exact (HJ1.out.set 0 _).drew)
    have HR2 := Lib.hid (show Cel W2 R t cs from HR1.out.frm hf2 (by simp; exact hne))
    have HF2 := Lib.hid (hf2.mono (l' := [J, R]) (by simp))
    clear hW2 hf2 hH HJ1
    have k0 := (HR2.out.cell k).trans HK.out
    have f0 := HR2.out.free k
    go_wp2_with fail
    go_end0
    exact HEND.out _ (HJ2.out.far (fun e => hne e.symm) _) (HR2.out.set k _) (HF2.out.set (by simp) _)
theorem j_text (w : World) {J G k : Nat} {bad : Bool} {t : TypeId} {cs : List Value} {A : Option Addr} {n c : Nat} (hJ : Cel w J 88 [.bool bad]) (hG : Cel w G t cs) (hk : cs[k]? = some (.slice A n c)) (hne : G ≠ J) :
  Calls Try.prog 101 #[pp J 0, pp G k] w (JgSays J G t (cs.set k (.slice none 0 0)) (bad || decide (100 < n)) w) := by
 obtain ⟨E, hE⟩ : ∃ E, E = (bad || decide (100 < n)) := ⟨_, rfl⟩
 rw [← hE]
 have HE := Lib.hid hE
 have HJ := Lib.hid hJ
 have HG := Lib.hid hG
 have HK := Lib.hid hk
 have k0 := hJ.cell 0
 have f0 := hJ.free 0
 have k1 := (hG.cell k).trans hk
 have HEND : Hid (∀ x, x = E → JgSays J G t (cs.set k (.slice none 0 0)) E w (.returned (.tuple #[])) ((w.setCell ⟨J, 0, none⟩ (.bool x)).setCell ⟨G, k, none⟩ (.slice none 0 0))) := Lib.hid fun x hx => by
  subst hx
  exact ⟨rfl, (HJ.out.set 0 _).far (fun e => hne e.symm) _, ((HG.out.far hne _).set k _), ((Frm.refl _ _).set (by simp) _).set (by simp) _⟩
 have HN := Lib.hid (show ∀ x, Cel (w.setCell ⟨J, 0, none⟩ x) G t cs from fun x => HG.out.far hne _)
 clear hE hJ hG hk hne
 unfold pp
 go_enter Try.func101, Try.ntmps101
 cases bad
 ·by_cases t1 : 100 < n
  ·have d1 : decide ((100 : Int) < (n : Int)) = true := by simp; omega
   have E1 := Lib.hid (show true = E by rw [HE.out, decide_eq_true t1]; rfl)
   go_upto_region 1 with fail
   have k1 := ((HN.out (.bool true)).cell k).trans HK.out
   have f1 := (HN.out (.bool true)).free k
   clear k0 f0
   go_wp2_with fail
   go_end0
   exact HEND.out _ E1.out
  ·have d1 : decide ((100 : Int) < (n : Int)) = false := by simp; omega
   have E1 := Lib.hid (show false = E by rw [HE.out, decide_eq_false t1]; rfl)
   go_upto_region 1 with fail
   have k1 := ((HN.out (.bool false)).cell k).trans HK.out
   have f1 := (HN.out (.bool false)).free k
   clear k0 f0
   go_wp2_with fail
   go_end0
   exact HEND.out _ E1.out
 ·have E1 := Lib.hid (show true = E by rw [HE.out]; rfl)
  go_upto_region 1 with fail
  have k1 := ((HN.out (.bool true)).cell k).trans HK.out
  have f1 := (HN.out (.bool true)).free k
  clear k0 f0
  go_wp2_with fail
  go_end0
  exact HEND.out _ E1.out
def longs (vs : List Vt) : Bool := vs.any fun v => decide (100 < v.t.length)
theorem longs_take {vs : List Vt} {i : Nat} {v : Vt} (h : vs[i]? = some v) : longs (vs.take (i + 1)) = (longs (vs.take i) || decide (100 < v.t.length)) := by
 unfold longs
 rw [List.take_add_one, h, List.any_append]
 simp
theorem texts_bad {vs : List Vt} {n : Nat} (hl : vs.length = n) : (decide (8 < n) || longs vs) = !textsOk (txt vs) := by
 subst hl
 unfold textsOk longs txt
 rw [Bool.not_and, Bool.or_comm, List.all_map, List.length_map]
 congr 1
 ·induction vs with
  | nil => rfl
  | cons v l ih =>
   rw [List.any_cons, List.all_cons, Bool.not_and, ih]
   congr 1
   simp only [Function.comp]
   by_cases h : 100 < v.t.length
   ·rw [decide_eq_true h, decide_eq_false (by omega)]; rfl
   ·rw [decide_eq_false h, decide_eq_true (by omega)]; rfl
 ·by_cases h : 8 < vs.length
  ·rw [decide_eq_true h, decide_eq_false (by omega)]; rfl
  ·rw [decide_eq_false h, decide_eq_true (by omega)]; rfl
theorem j_texts (w : World) {J G k K : Nat} {bad : Bool} {cs : List Value} {A : Option Addr} {n c : Nat} {vs : List Vt} (hJ : Cel w J 88 [.bool bad]) (hG : Cel w G 42 cs) (hk : cs[k]? = some (.slice A n c)) (hT : Tvs w K A vs) (hR : Trow w K A vs) (hKJ : K ≤ J) (hl : vs.length = n) (hn : n ≤ maxLen) :
  Calls Try.prog 102 #[pp J 0, pp G k] w (JgSays J G 42 (cs.set k (.slice none 0 0)) (bad || !textsOk (txt vs)) w) := by
 unfold maxLen at hn
 have hne : G ≠ J := hG.ne hJ (by decide)
 have HJ := Lib.hid hJ
 have HG := Lib.hid hG
 have HK := Lib.hid hk
 have HT := Lib.hid hT
 have HR := Lib.hid hR
 have HL := Lib.hid hl
 have k0 := hJ.cell 0
 have f0 := hJ.free 0
 have k1 := (hG.cell k).trans hk
 obtain ⟨E, hE⟩ : ∃ E, E = (bad || !textsOk (txt vs)) := ⟨_, rfl⟩
 obtain ⟨b0, hb0⟩ : ∃ b, b = (bad || decide (8 < n)) := ⟨_, rfl⟩
 have HE := Lib.hid (show E = (b0 || longs vs) by rw [hE, hb0, Bool.or_assoc, texts_bad hl])
 rw [← hE]
 obtain ⟨W1, hW1⟩ : ∃ W, W = w.setCell ⟨J, 0, none⟩ (.bool b0) := ⟨_, rfl⟩
 have HW1 := Lib.hid hW1
 have HF1 : Hid (Frm [J] w W1) := Lib.hid (by rw [hW1]; exact (Frm.refl _ _).set (by simp) _)
 have HJ1 : Hid (Cel W1 J 88 [.bool b0]) := Lib.hid (by rw [hW1]; exact HJ.out.set 0 _)
 have HEND : Hid (∀ V, Cel V J 88 [.bool E] → Frm [J] w V → JgSays J G 42 (cs.set k (.slice none 0 0)) E w (.returned (.tuple #[])) (V.setCell ⟨G, k, none⟩ (.slice none 0 0))) := Lib.hid fun V h1 h2 => ⟨rfl, h1.far (fun e => hne e.symm) _, (HG.out.frm h2 (by simp; exact hne)).set k _, (h2.mono (by simp)).set (by simp) _⟩
 have HGF : Hid (∀ V, Frm [J] w V → Cel V G 42 cs) := Lib.hid fun V h2 => HG.out.frm h2 (by simp; exact hne)
 have HTF : Hid (∀ V, Frm [J] w V → Tvs V K A vs) := Lib.hid fun V h2 => (HT.out.frm HR.out h2 (fun q hq => by simp at hq; subst hq; exact ⟨hKJ, HJ.out.not_ty (by decide), HJ.out.not_ty (by decide)⟩)).1
 clear hE hJ hG hk hl hT hR hne HT HR hW1
 have HB0 := Lib.hid hb0
 clear hb0
 unfold pp
 go_enter Try.func102, Try.ntmps102
 have key : ∀ x : Bool, x = b0 → w.setCell ⟨J, 0, none⟩ (.bool x) = W1 := fun x hx => by rw [hx]; exact HW1.out.symm
 have hsp : bad = true ∨ (bad = false ∧ 8 < n) ∨ (bad = false ∧ ¬ 8 < n) := by
  cases bad
  ·by_cases t : 8 < n
   ·exact .inr (.inl ⟨rfl, t⟩)
   ·exact .inr (.inr ⟨rfl, t⟩)
  ·exact .inl rfl
 rcases hsp with rfl | ⟨rfl, t1⟩ | ⟨rfl, t1⟩
 case' inl =>
  have E1 := Lib.hid (show true = b0 by rw [HB0.out]; rfl)
  go_upto_region 1 with fail
  rw [key _ E1.out]
 case' inr.inl =>
  have d1 : decide ((8 : Int) < (n : Int)) = true := by simp; omega
  have E1 := Lib.hid (show true = b0 by rw [HB0.out, decide_eq_true t1]; rfl)
  go_upto_region 1 with fail
  rw [key _ E1.out]
  clear d1 t1
 case' inr.inr =>
  have d1 : decide ((8 : Int) < (n : Int)) = false := by simp; omega
  have E1 := Lib.hid (show false = b0 by rw [HB0.out, decide_eq_false t1]; rfl)
  go_upto_region 1 with fail
  rw [key _ E1.out]
  clear d1 t1
 all_goals
  clear key E1 k0 f0 k1
  have k1 := ((HGF.out _ HF1.out).cell k).trans HK.out
  go_wp2_with fail
  clear k1
  go_loopw [24] (fun v24 wr => ∃ (i : Nat), i ≤ n ∧ v24 = .int .i64 (i : Int) ∧ Hid (Cel wr J 88 [.bool (b0 || longs (vs.take i))]) ∧ Hid (Frm [J] w wr)) (fun v24 _ => n - (intOf v24).toNat)
  case atStart => exact ⟨0, Nat.zero_le _, rfl, Lib.hid (by rw [List.take_zero, show longs [] = false from rfl, Bool.or_false]; exact HJ1.out), HF1⟩
  case round =>
   obtain ⟨i, hi, rfl, HJW, HFW⟩ := hrel
   obtain ⟨W3, rfl⟩ : ∃ W, W = wr := ⟨_, rfl⟩
   rcases Nat.lt_or_ge i n with hlt | hge
   ·obtain ⟨v, hv⟩ : ∃ v, vs[i]? = some v := ⟨_, List.getElem?_eq_getElem (by rw [HL.out]; exact hlt)⟩
    obtain ⟨ad, rfl, k2⟩ := (HTF.out _ HFW.out).cr i v hv
    have HNX := Lib.hid (longs_take hv)
    clear hv
    obtain ⟨vA, vc, vt⟩ := v
    change _ = some (Value.slice vA vt.length vc) at k2
    dsimp only at HNX
    generalize vt.length = tl at k2 HNX
    obtain ⟨W4, hW4⟩ : ∃ W, W = W3.alloc (.cells #[.slice vA tl vc] 29) := ⟨_, rfl⟩
    have hc4 : Cel W4 W3.heap.size 29 [.slice vA tl vc] := by rw [hW4]; exact Cel.new W3 29 [.slice vA tl vc]
    have hf4 : Frm [] W3 W4 := by rw [hW4]; exact (Frm.refl _ _).alloc _
    have hj4 := HJW.out.frm hf4 (by simp)
    have con := j_text W4 (k := 0) hj4 hc4 rfl (Nat.ne_of_gt HJW.out.lt)
    have HFN : Hid (∀ V, Frm [J, W3.heap.size] W4 V → Frm [J] w V) := Lib.hid fun V h => HFW.out.trans ((hf4.mono (l' := [J]) (by simp)).then_ h (by intro q hq hl; simp at hq; rcases hq with rfl | rfl; exact .head _; omega))
    clear hc4 hf4 hj4
    go_upto_region 4 with fail
    rw [← hW4]
    clear hW4
    go_wp2_with fail
    refine con.mono ?_
    rintro e W5 ⟨rfl, hj5, _, hf5⟩
    have HJ5 := Lib.hid hj5
    have HF5 := Lib.hid (HFN.out _ hf5)
    clear con hj5 hf5 HFN
    go_wp2_with fail
    exact ⟨⟨i + 1, by omega, by rw [show ((i + 1 : Nat) : Int) = (i : Int) + 1 by omega], Lib.hid (by rw [HNX.out, ← Bool.or_assoc]; exact HJ5.out), HF5⟩, by simp [intOf]; omega⟩
   ·obtain rfl : i = n := by omega
    have HX := Lib.hid (HJW.out)
    have HJE := Lib.hid (show Cel W3 J 88 [.bool E] by rw [HE.out]; have h := HJW.out; rw [← HL.out, List.take_length] at h; exact h)
    have k1 := ((HGF.out _ HFW.out).cell k).trans HK.out
    have f1 := (HGF.out _ HFW.out).free k
    go_wp2_with fail
    go_end0
    exact HEND.out _ HJE.out HFW.out
end Go.Proofs.Ytfmkkklcgiaacaa.Rec
