/-
The program's fold (layer 16): whether an outcome is possible. (Written by gen_foldpposs.py.)
-/
import Derived.Test.YtfmkkklcgiaacaaFR0
import Derived.Test.YtfmkkklcgiaacaaFR1
import Derived.Test.YtfmkkklcgiaacaaFR3
set_option linter.unusedVariables false
set_option linter.unusedSimpArgs false
set_option maxRecDepth 100000
set_option maxHeartbeats 4000000
namespace Go.Proofs.Ytfmkkklcgiaacaa.Fold
open Go.RowKit Go.Proofs.Ytfmkkklcgiaacaa.Ord
open Lex (Tx)
open Rec (Stt Rc Rv Rok Vt Tvs Trow txt)
def metB (f : Fs) (s4 : Int) (v : Rv) : Bool := decide (s4 ≤ v.r.off) && armR f.m v.r.to v.r.var
def lateB (f : Fs) (s4 : Int) (v : Rv) : Bool := (v.r.off == s4) && (v.r.var == -1) && ((v.r.to == f.els) || (v.r.to == -2))
def possB (f : Fs) (n nv : Nat) (s4 : Int) (v : Rv) : Bool := tgtB n v.r.to && varB nv v.r.var && (metB f s4 v || lateB f s4 v)
section
variable (w : World) (g : Nat) (A : Option Addr) (n c : Nat) (A1 : Option Addr) (nv c1 : Nat) (most : Int) (bg : Bool) (j : Nat) (s2 s3 s4 : Int) (AL : Option Addr) (m cL : Nat)
theorem ofArm_ (hc : Cel w g 54 (rcells A n c A1 nv c1 most bg (j : Int) s2 s3 s4 AL m cL)) (vs : List Fs) (hf : Fbk w A vs) (hl : vs.length = n) (f : Fs) (hj : vs[j]? = some f) (hx : ∀ v ∈ vs, v.arms.length ≤ 10) (v : Rv) :
  Calls Try.prog 76 #[pp g 0, .agg v.cells.toArray] w fun e w' => e = .returned (.bool (metB f s4 v)) ∧ Below w.heap.size w w' := by
 obtain ⟨T, hT⟩ : ∃ T, T = metB f s4 v := ⟨_, rfl⟩
 rw [← hT]
 unfold metB at hT
 obtain ⟨W1, hW1⟩ : ∃ W, W = w.alloc (.cells v.cells.toArray 42) := ⟨_, rfl⟩
 have hb1 : Below w.heap.size w W1 := by rw [hW1]; exact (Below.refl _ _).alloc (Nat.le_refl _) _
 have hv1 : Cel W1 w.heap.size 42 v.cells := by rw [hW1]; exact Cel.new w _ _
 obtain ⟨W, hW⟩ : ∃ W, W = W1.drew := ⟨_, rfl⟩
 have hbw : Below w.heap.size w W := by rw [hW]; exact hb1.drew
 have HBW := Lib.hid hbw
 have HC := Lib.hid (hc.below hbw hc.lt)
 have HV := Lib.hid (show Cel W w.heap.size 42 v.cells by rw [hW]; exact hv1.drew)
 have HF := Lib.hid (show ∀ V, Below W.heap.size W V → Fbk V A vs from fun V h => (hf.below hbw).below h)
 have HL := Lib.hid hl
 have HJ := Lib.hid hj
 have HX := Lib.hid (show f.arms.length ≤ 10 from hx f (List.mem_of_getElem? hj))
 obtain ⟨b1, hb_1⟩ : ∃ b, b = armR f.m v.r.to v.r.var := ⟨_, rfl⟩
 rw [← hb_1] at hT
 have E1 := Lib.hid hb_1
 clear hb_1
 have HT := Lib.hid hT
 clear hc hf hl hj hb1 hv1 hbw hT hx
 go_enter Try.func76, Try.ntmps76
 go_upto_region 2 with fail
 rw [← hW1]
 refine wp_region_N [] (fun V => Below W.heap.size W V) (by kernel_rfl) ?_
 rw [← hW]
 have hH : Below W.heap.size W W := Below.refl _ _
 clear hW hW1
 refine tk_ 0 (.pointer (some ⟨w.heap.size, 10, none⟩)) [] rfl hH ?_ ?_
 ·intro V hV; go_simp
 try simp only [Act.put, lay_]
 refine tk_ 1 (.int .i64 v.r.off) [] rfl hH ?_ ?_
 ·intro V hV; have hc := HV.out.below hV HV.out.lt; have k0 : V.cell? ⟨w.heap.size, 10, none⟩ = some (.int .i64 v.r.off) := hc.cell 10; clear hc; go_simp
 try simp only [Act.put, lay_]
 refine tk_ 2 (.pointer (some ⟨g, 0, none⟩)) [] rfl hH ?_ ?_
 ·intro V hV; go_simp
 try simp only [Act.put, lay_]
 refine tk_ 3 (.pointer (some ⟨g, 0, none⟩)) [] rfl hH ?_ ?_
 ·intro V hV; go_simp
 try simp only [Act.put, lay_]
 refine tk_ 4 (.pointer (some ⟨g, 4, none⟩)) [] rfl hH ?_ ?_
 ·intro V hV; go_simp
 try simp only [Act.put, lay_]
 refine tk_ 5 (.pointer (some ⟨g, 7, none⟩)) [] rfl hH ?_ ?_
 ·intro V hV; go_simp
 try simp only [Act.put, lay_]
 refine tk_ 6 (.int .i64 s4) [] rfl hH ?_ ?_
 ·intro V hV; have hc := HC.out.below hV HC.out.lt; have k0 : V.cell? ⟨g, 7, none⟩ = some (.int .i64 s4) := hc.cell 7; clear hc; go_simp
 try simp only [Act.put, lay_]
 cases hz7 : (decide (s4 ≤ v.r.off)) with
 | true =>
  refine tk_ 7 (.bool true) [] rfl hH ?_ ?_
  ·intro V hV; go_simp
  try simp only [Act.put, lay_]
  refine tk_ 8 (.bool true) [] rfl hH ?_ ?_
  ·intro V hV; go_simp
  try simp only [Act.put, lay_]
  refine tk_ 9 (.pointer (some ⟨g, 0, none⟩)) [] rfl hH ?_ ?_
  ·intro V hV; go_simp
  try simp only [Act.put, lay_]
  refine tk_ 12 (.func (.func 78) #[] #[pp w.heap.size 0]) [] rfl hH ?_ ?_
  ·intro V hV; go_simp
  try simp only [Act.put, lay_]
  refine wpAnyN_one (i := 10) (by kernel_rfl) rfl (fun Kq hKq => ?_)
  go_simp
  refine (pstep_ _ g A n c A1 nv c1 most bg j s2 s3 s4 AL m cL (HC.out.below hH HC.out.lt) vs (HF.out _ hH) HL.out f HJ.out).mono ?_
  rintro e V1 ⟨rfl, hb⟩
  replace hH := hH.trans (hb.mono hH.size)
  clear hb
  go_wp2_with fail
  refine hKq.out _ _ (.inr hH) ?_
  clear hKq Kq
  try simp only [Act.put, lay_]
  refine tk_ 11 (.slice f.A3 f.arms.length f.c3) [] rfl hH ?_ ?_
  ·intro V hV; have fl := fld_arms; go_simp
  try simp only [Act.put, lay_]
  refine wpAnyN_one (i := 13) (by kernel_rfl) rfl (fun Kq hKq => ?_)
  go_simp
  refine ((show Calls Try.prog 79 #[.slice f.A3 f.arms.length f.c3, .func (.func 78) #[] #[pp w.heap.size 0]] _ (fun e w' => e = .returned (.bool b1) ∧ Below _ _ w') by rw [E1.out]; exact contains_ _ _ v (HV.out.below hH HV.out.lt) f ((HF.out _ hH).ar f (List.mem_of_getElem? HJ.out)) (by have := HX.out; omega))).mono ?_
  rintro e V2 ⟨rfl, hb⟩
  replace hH := hH.trans (hb.mono hH.size)
  clear hb
  go_wp2_with fail
  refine hKq.out _ _ (.inr hH) ?_
  clear hKq Kq
  try simp only [Act.put, lay_]
  refine tk_ 14 (.bool b1) [] rfl hH ?_ ?_
  ·intro V hV; go_simp
  try simp only [Act.put, lay_]
  refine tk_ 15 (.bool b1) [] rfl hH ?_ ?_
  ·intro V hV; go_simp
  try simp only [Act.put, lay_]
  refine wpAnyN_done (by kernel_rfl) ?_ _
  go_wp2_with fail
  go_ret
  rw [show T = b1 by rw [HT.out, hz7]; rfl]
  exact ⟨rfl, HBW.out.trans (hH.mono HBW.out.size)⟩
 | false =>
  refine tk_ 7 (.bool false) [] rfl hH ?_ ?_
  ·intro V hV; go_simp
  try simp only [Act.put, lay_]
  refine tk_ 8 (.bool false) [] rfl hH ?_ ?_
  ·intro V hV; go_simp
  try simp only [Act.put, lay_]
  refine wpAnyN_take (i := 9) (v := undef) [] (by kernel_rfl) rfl (by kernel_rfl) (by kernel_rfl) (by kernel_rfl) (fun _ _ _ h => h) (Or.inr ⟨by rfl, rfl⟩) hH ?_
  try simp only [Act.put, lay_]
  refine wpAnyN_take (i := 10) (v := undef) [] (by kernel_rfl) rfl (by kernel_rfl) (by kernel_rfl) (by kernel_rfl) (fun _ _ _ h => h) (Or.inr ⟨by rfl, rfl⟩) hH ?_
  try simp only [Act.put, lay_]
  refine wpAnyN_take (i := 11) (v := undef) [] (by kernel_rfl) rfl (by kernel_rfl) (by kernel_rfl) (by kernel_rfl) (fun _ _ _ h => h) (Or.inr ⟨by rfl, rfl⟩) hH ?_
  try simp only [Act.put, lay_]
  refine wpAnyN_take (i := 12) (v := undef) [] (by kernel_rfl) rfl (by kernel_rfl) (by kernel_rfl) (by kernel_rfl) (fun _ _ _ h => h) (Or.inr ⟨by rfl, rfl⟩) hH ?_
  try simp only [Act.put, lay_]
  refine wpAnyN_take (i := 13) (v := undef) [] (by kernel_rfl) rfl (by kernel_rfl) (by kernel_rfl) (by kernel_rfl) (fun _ _ _ h => h) (Or.inr ⟨by rfl, rfl⟩) hH ?_
  try simp only [Act.put, lay_]
  refine tk_ 14 (.bool false) [] rfl hH ?_ ?_
  ·intro V hV; go_simp
  try simp only [Act.put, lay_]
  refine tk_ 15 (.bool false) [] rfl hH ?_ ?_
  ·intro V hV; go_simp
  try simp only [Act.put, lay_]
  refine wpAnyN_done (by kernel_rfl) ?_ _
  go_wp2_with fail
  go_ret
  rw [show T = false by rw [HT.out, hz7]; rfl]
  exact ⟨rfl, HBW.out.trans (hH.mono HBW.out.size)⟩
theorem without_ (hc : Cel w g 54 (rcells A n c A1 nv c1 most bg (j : Int) s2 s3 s4 AL m cL)) (vs : List Fs) (hf : Fbk w A vs) (hl : vs.length = n) (f : Fs) (hj : vs[j]? = some f) (hx : ∀ v ∈ vs, v.arms.length ≤ 10) (v : Rv) :
  Calls Try.prog 77 #[pp g 0, .agg v.cells.toArray] w fun e w' => e = .returned (.bool (lateB f s4 v)) ∧ Below w.heap.size w w' := by
 obtain ⟨T, hT⟩ : ∃ T, T = lateB f s4 v := ⟨_, rfl⟩
 rw [← hT]
 unfold lateB at hT
 obtain ⟨W1, hW1⟩ : ∃ W, W = w.alloc (.cells v.cells.toArray 42) := ⟨_, rfl⟩
 have hb1 : Below w.heap.size w W1 := by rw [hW1]; exact (Below.refl _ _).alloc (Nat.le_refl _) _
 have hv1 : Cel W1 w.heap.size 42 v.cells := by rw [hW1]; exact Cel.new w _ _
 obtain ⟨W, hW⟩ : ∃ W, W = W1.drew := ⟨_, rfl⟩
 have hbw : Below w.heap.size w W := by rw [hW]; exact hb1.drew
 have HBW := Lib.hid hbw
 have HC := Lib.hid (hc.below hbw hc.lt)
 have HV := Lib.hid (show Cel W w.heap.size 42 v.cells by rw [hW]; exact hv1.drew)
 have HF := Lib.hid (show ∀ V, Below W.heap.size W V → Fbk V A vs from fun V h => (hf.below hbw).below h)
 have HL := Lib.hid hl
 have HJ := Lib.hid hj
 have HX := Lib.hid (show f.arms.length ≤ 10 from hx f (List.mem_of_getElem? hj))
 have HT := Lib.hid hT
 clear hc hf hl hj hb1 hv1 hbw hT hx
 go_enter Try.func77, Try.ntmps77
 go_upto_region 1 with fail
 rw [← hW1]
 refine wp_region_N [] (fun V => Below W.heap.size W V) (by kernel_rfl) ?_
 rw [← hW]
 have hH : Below W.heap.size W W := Below.refl _ _
 clear hW hW1
 refine tk_ 0 (.pointer (some ⟨w.heap.size, 10, none⟩)) [] rfl hH ?_ ?_
 ·intro V hV; go_simp
 try simp only [Act.put, lay_]
 refine tk_ 1 (.int .i64 v.r.off) [] rfl hH ?_ ?_
 ·intro V hV; have hc := HV.out.below hV HV.out.lt; have k0 : V.cell? ⟨w.heap.size, 10, none⟩ = some (.int .i64 v.r.off) := hc.cell 10; clear hc; go_simp
 try simp only [Act.put, lay_]
 refine tk_ 2 (.pointer (some ⟨g, 0, none⟩)) [] rfl hH ?_ ?_
 ·intro V hV; go_simp
 try simp only [Act.put, lay_]
 refine tk_ 3 (.pointer (some ⟨g, 0, none⟩)) [] rfl hH ?_ ?_
 ·intro V hV; go_simp
 try simp only [Act.put, lay_]
 refine tk_ 4 (.pointer (some ⟨g, 4, none⟩)) [] rfl hH ?_ ?_
 ·intro V hV; go_simp
 try simp only [Act.put, lay_]
 refine tk_ 5 (.pointer (some ⟨g, 7, none⟩)) [] rfl hH ?_ ?_
 ·intro V hV; go_simp
 try simp only [Act.put, lay_]
 refine tk_ 6 (.int .i64 s4) [] rfl hH ?_ ?_
 ·intro V hV; have hc := HC.out.below hV HC.out.lt; have k0 : V.cell? ⟨g, 7, none⟩ = some (.int .i64 s4) := hc.cell 7; clear hc; go_simp
 try simp only [Act.put, lay_]
 cases hz7 : (v.r.off == s4) with
 | true =>
  refine tk_ 7 (.bool true) [] rfl hH ?_ ?_
  ·intro V hV; go_simp
  try simp only [Act.put, lay_]
  refine tk_ 8 (.bool true) [] rfl hH ?_ ?_
  ·intro V hV; go_simp
  try simp only [Act.put, lay_]
  refine tk_ 9 (.pointer (some ⟨w.heap.size, 11, none⟩)) [] rfl hH ?_ ?_
  ·intro V hV; go_simp
  try simp only [Act.put, lay_]
  refine tk_ 10 (.int .i64 v.r.var) [] rfl hH ?_ ?_
  ·intro V hV; have hc := HV.out.below hV HV.out.lt; have k0 : V.cell? ⟨w.heap.size, 11, none⟩ = some (.int .i64 v.r.var) := hc.cell 11; clear hc; go_simp
  try simp only [Act.put, lay_]
  cases hz11 : (v.r.var == -1) with
  | true =>
   refine tk_ 11 (.bool true) [] rfl hH ?_ ?_
   ·intro V hV; go_simp
   try simp only [Act.put, lay_]
   refine tk_ 12 (.bool true) [] rfl hH ?_ ?_
   ·intro V hV; go_simp
   try simp only [Act.put, lay_]
   refine tk_ 13 (.bool true) [] rfl hH ?_ ?_
   ·intro V hV; go_simp
   try simp only [Act.put, lay_]
   refine tk_ 14 (.pointer (some ⟨w.heap.size, 9, none⟩)) [] rfl hH ?_ ?_
   ·intro V hV; go_simp
   try simp only [Act.put, lay_]
   refine tk_ 15 (.int .i64 v.r.to) [] rfl hH ?_ ?_
   ·intro V hV; have hc := HV.out.below hV HV.out.lt; have k0 : V.cell? ⟨w.heap.size, 9, none⟩ = some (.int .i64 v.r.to) := hc.cell 9; clear hc; go_simp
   try simp only [Act.put, lay_]
   refine tk_ 16 (.pointer (some ⟨g, 0, none⟩)) [] rfl hH ?_ ?_
   ·intro V hV; go_simp
   try simp only [Act.put, lay_]
   refine wpAnyN_one (i := 17) (by kernel_rfl) rfl (fun Kq hKq => ?_)
   go_simp
   refine (pstep_ _ g A n c A1 nv c1 most bg j s2 s3 s4 AL m cL (HC.out.below hH HC.out.lt) vs (HF.out _ hH) HL.out f HJ.out).mono ?_
   rintro e V1 ⟨rfl, hb⟩
   replace hH := hH.trans (hb.mono hH.size)
   clear hb
   go_wp2_with fail
   refine hKq.out _ _ (.inr hH) ?_
   clear hKq Kq
   try simp only [Act.put, lay_]
   refine tk_ 18 (.int .i64 f.els) [] rfl hH ?_ ?_
   ·intro V hV; have fl := fld_els; go_simp
   try simp only [Act.put, lay_]
   cases hz19 : (v.r.to == f.els) with
   | true =>
    refine tk_ 19 (.bool true) [] rfl hH ?_ ?_
    ·intro V hV; go_simp
    try simp only [Act.put, lay_]
    refine tk_ 20 (.bool true) [] rfl hH ?_ ?_
    ·intro V hV; go_simp
    try simp only [Act.put, lay_]
    refine wpAnyN_take (i := 21) (v := undef) [] (by kernel_rfl) rfl (by kernel_rfl) (by kernel_rfl) (by kernel_rfl) (fun _ _ _ h => h) (Or.inr ⟨by rfl, rfl⟩) hH ?_
    try simp only [Act.put, lay_]
    refine wpAnyN_take (i := 22) (v := undef) [] (by kernel_rfl) rfl (by kernel_rfl) (by kernel_rfl) (by kernel_rfl) (fun _ _ _ h => h) (Or.inr ⟨by rfl, rfl⟩) hH ?_
    try simp only [Act.put, lay_]
    refine wpAnyN_take (i := 23) (v := undef) [] (by kernel_rfl) rfl (by kernel_rfl) (by kernel_rfl) (by kernel_rfl) (fun _ _ _ h => h) (Or.inr ⟨by rfl, rfl⟩) hH ?_
    try simp only [Act.put, lay_]
    refine tk_ 24 (.bool true) [] rfl hH ?_ ?_
    ·intro V hV; go_simp
    try simp only [Act.put, lay_]
    refine tk_ 25 (.bool true) [] rfl hH ?_ ?_
    ·intro V hV; go_simp
    try simp only [Act.put, lay_]
    refine tk_ 26 (.bool true) [] rfl hH ?_ ?_
    ·intro V hV; go_simp
    try simp only [Act.put, lay_]
    refine wpAnyN_done (by kernel_rfl) ?_ _
    go_wp2_with fail
    go_ret
    rw [show T = true by rw [HT.out, hz7, hz11, hz19]; rfl]
    exact ⟨rfl, HBW.out.trans (hH.mono HBW.out.size)⟩
   | false =>
    refine tk_ 19 (.bool false) [] rfl hH ?_ ?_
    ·intro V hV; go_simp
    try simp only [Act.put, lay_]
    refine tk_ 20 (.bool false) [] rfl hH ?_ ?_
    ·intro V hV; go_simp
    try simp only [Act.put, lay_]
    refine tk_ 21 (.pointer (some ⟨w.heap.size, 9, none⟩)) [] rfl hH ?_ ?_
    ·intro V hV; go_simp
    try simp only [Act.put, lay_]
    refine tk_ 22 (.int .i64 v.r.to) [] rfl hH ?_ ?_
    ·intro V hV; have hc := HV.out.below hV HV.out.lt; have k0 : V.cell? ⟨w.heap.size, 9, none⟩ = some (.int .i64 v.r.to) := hc.cell 9; clear hc; go_simp
    try simp only [Act.put, lay_]
    cases hz23 : (v.r.to == -2) with
    | true =>
     refine tk_ 23 (.bool true) [] rfl hH ?_ ?_
     ·intro V hV; go_simp
     try simp only [Act.put, lay_]
     refine tk_ 24 (.bool true) [] rfl hH ?_ ?_
     ·intro V hV; go_simp
     try simp only [Act.put, lay_]
     refine tk_ 25 (.bool true) [] rfl hH ?_ ?_
     ·intro V hV; go_simp
     try simp only [Act.put, lay_]
     refine tk_ 26 (.bool true) [] rfl hH ?_ ?_
     ·intro V hV; go_simp
     try simp only [Act.put, lay_]
     refine wpAnyN_done (by kernel_rfl) ?_ _
     go_wp2_with fail
     go_ret
     rw [show T = true by rw [HT.out, hz7, hz11, hz19, hz23]; rfl]
     exact ⟨rfl, HBW.out.trans (hH.mono HBW.out.size)⟩
    | false =>
     refine tk_ 23 (.bool false) [] rfl hH ?_ ?_
     ·intro V hV; go_simp
     try simp only [Act.put, lay_]
     refine tk_ 24 (.bool false) [] rfl hH ?_ ?_
     ·intro V hV; go_simp
     try simp only [Act.put, lay_]
     refine tk_ 25 (.bool false) [] rfl hH ?_ ?_
     ·intro V hV; go_simp
     try simp only [Act.put, lay_]
     refine tk_ 26 (.bool false) [] rfl hH ?_ ?_
     ·intro V hV; go_simp
     try simp only [Act.put, lay_]
     refine wpAnyN_done (by kernel_rfl) ?_ _
     go_wp2_with fail
     go_ret
     rw [show T = false by rw [HT.out, hz7, hz11, hz19, hz23]; rfl]
     exact ⟨rfl, HBW.out.trans (hH.mono HBW.out.size)⟩
  | false =>
   refine tk_ 11 (.bool false) [] rfl hH ?_ ?_
   ·intro V hV; go_simp
   try simp only [Act.put, lay_]
   refine tk_ 12 (.bool false) [] rfl hH ?_ ?_
   ·intro V hV; go_simp
   try simp only [Act.put, lay_]
   refine tk_ 13 (.bool false) [] rfl hH ?_ ?_
   ·intro V hV; go_simp
   try simp only [Act.put, lay_]
   refine wpAnyN_take (i := 14) (v := undef) [] (by kernel_rfl) rfl (by kernel_rfl) (by kernel_rfl) (by kernel_rfl) (fun _ _ _ h => h) (Or.inr ⟨by rfl, rfl⟩) hH ?_
   try simp only [Act.put, lay_]
   refine wpAnyN_take (i := 15) (v := undef) [] (by kernel_rfl) rfl (by kernel_rfl) (by kernel_rfl) (by kernel_rfl) (fun _ _ _ h => h) (Or.inr ⟨by rfl, rfl⟩) hH ?_
   try simp only [Act.put, lay_]
   refine wpAnyN_take (i := 16) (v := undef) [] (by kernel_rfl) rfl (by kernel_rfl) (by kernel_rfl) (by kernel_rfl) (fun _ _ _ h => h) (Or.inr ⟨by rfl, rfl⟩) hH ?_
   try simp only [Act.put, lay_]
   refine wpAnyN_take (i := 17) (v := undef) [] (by kernel_rfl) rfl (by kernel_rfl) (by kernel_rfl) (by kernel_rfl) (fun _ _ _ h => h) (Or.inr ⟨by rfl, rfl⟩) hH ?_
   try simp only [Act.put, lay_]
   refine wpAnyN_take (i := 18) (v := undef) [] (by kernel_rfl) rfl (by kernel_rfl) (by kernel_rfl) (by kernel_rfl) (fun _ _ _ h => h) (Or.inr ⟨by rfl, rfl⟩) hH ?_
   try simp only [Act.put, lay_]
   refine wpAnyN_take (i := 19) (v := undef) [] (by kernel_rfl) rfl (by kernel_rfl) (by kernel_rfl) (by kernel_rfl) (fun _ _ _ h => h) (Or.inr ⟨by rfl, rfl⟩) hH ?_
   try simp only [Act.put, lay_]
   refine wpAnyN_take (i := 20) (v := undef) [] (by kernel_rfl) rfl (by kernel_rfl) (by kernel_rfl) (by kernel_rfl) (fun _ _ _ h => h) (Or.inr ⟨by rfl, rfl⟩) hH ?_
   try simp only [Act.put, lay_]
   refine wpAnyN_take (i := 21) (v := undef) [] (by kernel_rfl) rfl (by kernel_rfl) (by kernel_rfl) (by kernel_rfl) (fun _ _ _ h => h) (Or.inr ⟨by rfl, rfl⟩) hH ?_
   try simp only [Act.put, lay_]
   refine wpAnyN_take (i := 22) (v := undef) [] (by kernel_rfl) rfl (by kernel_rfl) (by kernel_rfl) (by kernel_rfl) (fun _ _ _ h => h) (Or.inr ⟨by rfl, rfl⟩) hH ?_
   try simp only [Act.put, lay_]
   refine wpAnyN_take (i := 23) (v := undef) [] (by kernel_rfl) rfl (by kernel_rfl) (by kernel_rfl) (by kernel_rfl) (fun _ _ _ h => h) (Or.inr ⟨by rfl, rfl⟩) hH ?_
   try simp only [Act.put, lay_]
   refine wpAnyN_take (i := 24) (v := undef) [] (by kernel_rfl) rfl (by kernel_rfl) (by kernel_rfl) (by kernel_rfl) (fun _ _ _ h => h) (Or.inr ⟨by rfl, rfl⟩) hH ?_
   try simp only [Act.put, lay_]
   refine tk_ 25 (.bool false) [] rfl hH ?_ ?_
   ·intro V hV; go_simp
   try simp only [Act.put, lay_]
   refine tk_ 26 (.bool false) [] rfl hH ?_ ?_
   ·intro V hV; go_simp
   try simp only [Act.put, lay_]
   refine wpAnyN_done (by kernel_rfl) ?_ _
   go_wp2_with fail
   go_ret
   rw [show T = false by rw [HT.out, hz7, hz11]; rfl]
   exact ⟨rfl, HBW.out.trans (hH.mono HBW.out.size)⟩
 | false =>
  refine tk_ 7 (.bool false) [] rfl hH ?_ ?_
  ·intro V hV; go_simp
  try simp only [Act.put, lay_]
  refine tk_ 8 (.bool false) [] rfl hH ?_ ?_
  ·intro V hV; go_simp
  try simp only [Act.put, lay_]
  refine wpAnyN_take (i := 9) (v := undef) [] (by kernel_rfl) rfl (by kernel_rfl) (by kernel_rfl) (by kernel_rfl) (fun _ _ _ h => h) (Or.inr ⟨by rfl, rfl⟩) hH ?_
  try simp only [Act.put, lay_]
  refine wpAnyN_take (i := 10) (v := undef) [] (by kernel_rfl) rfl (by kernel_rfl) (by kernel_rfl) (by kernel_rfl) (fun _ _ _ h => h) (Or.inr ⟨by rfl, rfl⟩) hH ?_
  try simp only [Act.put, lay_]
  refine wpAnyN_take (i := 11) (v := undef) [] (by kernel_rfl) rfl (by kernel_rfl) (by kernel_rfl) (by kernel_rfl) (fun _ _ _ h => h) (Or.inr ⟨by rfl, rfl⟩) hH ?_
  try simp only [Act.put, lay_]
  refine tk_ 12 (.bool false) [] rfl hH ?_ ?_
  ·intro V hV; go_simp
  try simp only [Act.put, lay_]
  refine tk_ 13 (.bool false) [] rfl hH ?_ ?_
  ·intro V hV; go_simp
  try simp only [Act.put, lay_]
  refine wpAnyN_take (i := 14) (v := undef) [] (by kernel_rfl) rfl (by kernel_rfl) (by kernel_rfl) (by kernel_rfl) (fun _ _ _ h => h) (Or.inr ⟨by rfl, rfl⟩) hH ?_
  try simp only [Act.put, lay_]
  refine wpAnyN_take (i := 15) (v := undef) [] (by kernel_rfl) rfl (by kernel_rfl) (by kernel_rfl) (by kernel_rfl) (fun _ _ _ h => h) (Or.inr ⟨by rfl, rfl⟩) hH ?_
  try simp only [Act.put, lay_]
  refine wpAnyN_take (i := 16) (v := undef) [] (by kernel_rfl) rfl (by kernel_rfl) (by kernel_rfl) (by kernel_rfl) (fun _ _ _ h => h) (Or.inr ⟨by rfl, rfl⟩) hH ?_
  try simp only [Act.put, lay_]
  refine wpAnyN_take (i := 17) (v := undef) [] (by kernel_rfl) rfl (by kernel_rfl) (by kernel_rfl) (by kernel_rfl) (fun _ _ _ h => h) (Or.inr ⟨by rfl, rfl⟩) hH ?_
  try simp only [Act.put, lay_]
  refine wpAnyN_take (i := 18) (v := undef) [] (by kernel_rfl) rfl (by kernel_rfl) (by kernel_rfl) (by kernel_rfl) (fun _ _ _ h => h) (Or.inr ⟨by rfl, rfl⟩) hH ?_
  try simp only [Act.put, lay_]
  refine wpAnyN_take (i := 19) (v := undef) [] (by kernel_rfl) rfl (by kernel_rfl) (by kernel_rfl) (by kernel_rfl) (fun _ _ _ h => h) (Or.inr ⟨by rfl, rfl⟩) hH ?_
  try simp only [Act.put, lay_]
  refine wpAnyN_take (i := 20) (v := undef) [] (by kernel_rfl) rfl (by kernel_rfl) (by kernel_rfl) (by kernel_rfl) (fun _ _ _ h => h) (Or.inr ⟨by rfl, rfl⟩) hH ?_
  try simp only [Act.put, lay_]
  refine wpAnyN_take (i := 21) (v := undef) [] (by kernel_rfl) rfl (by kernel_rfl) (by kernel_rfl) (by kernel_rfl) (fun _ _ _ h => h) (Or.inr ⟨by rfl, rfl⟩) hH ?_
  try simp only [Act.put, lay_]
  refine wpAnyN_take (i := 22) (v := undef) [] (by kernel_rfl) rfl (by kernel_rfl) (by kernel_rfl) (by kernel_rfl) (fun _ _ _ h => h) (Or.inr ⟨by rfl, rfl⟩) hH ?_
  try simp only [Act.put, lay_]
  refine wpAnyN_take (i := 23) (v := undef) [] (by kernel_rfl) rfl (by kernel_rfl) (by kernel_rfl) (by kernel_rfl) (fun _ _ _ h => h) (Or.inr ⟨by rfl, rfl⟩) hH ?_
  try simp only [Act.put, lay_]
  refine wpAnyN_take (i := 24) (v := undef) [] (by kernel_rfl) rfl (by kernel_rfl) (by kernel_rfl) (by kernel_rfl) (fun _ _ _ h => h) (Or.inr ⟨by rfl, rfl⟩) hH ?_
  try simp only [Act.put, lay_]
  refine tk_ 25 (.bool false) [] rfl hH ?_ ?_
  ·intro V hV; go_simp
  try simp only [Act.put, lay_]
  refine tk_ 26 (.bool false) [] rfl hH ?_ ?_
  ·intro V hV; go_simp
  try simp only [Act.put, lay_]
  refine wpAnyN_done (by kernel_rfl) ?_ _
  go_wp2_with fail
  go_ret
  rw [show T = false by rw [HT.out, hz7]; rfl]
  exact ⟨rfl, HBW.out.trans (hH.mono HBW.out.size)⟩
theorem possible_ (hc : Cel w g 54 (rcells A n c A1 nv c1 most bg (j : Int) s2 s3 s4 AL m cL)) (vs : List Fs) (hf : Fbk w A vs) (hl : vs.length = n) (f : Fs) (hj : vs[j]? = some f) (hx : ∀ v ∈ vs, v.arms.length ≤ 10) (v : Rv) :
  Calls Try.prog 64 #[pp g 0, .agg v.cells.toArray] w fun e w' => e = .returned (.bool (possB f n nv s4 v)) ∧ Below w.heap.size w w' := by
 obtain ⟨T, hT⟩ : ∃ T, T = possB f n nv s4 v := ⟨_, rfl⟩
 rw [← hT]
 unfold possB at hT
 obtain ⟨W1, hW1⟩ : ∃ W, W = w.alloc (.cells v.cells.toArray 42) := ⟨_, rfl⟩
 have hb1 : Below w.heap.size w W1 := by rw [hW1]; exact (Below.refl _ _).alloc (Nat.le_refl _) _
 have hv1 : Cel W1 w.heap.size 42 v.cells := by rw [hW1]; exact Cel.new w _ _
 obtain ⟨W, hW⟩ : ∃ W, W = W1.drew := ⟨_, rfl⟩
 have hbw : Below w.heap.size w W := by rw [hW]; exact hb1.drew
 have HBW := Lib.hid hbw
 have HC := Lib.hid (hc.below hbw hc.lt)
 have HV := Lib.hid (show Cel W w.heap.size 42 v.cells by rw [hW]; exact hv1.drew)
 have HF := Lib.hid (show ∀ V, Below W.heap.size W V → Fbk V A vs from fun V h => (hf.below hbw).below h)
 have HL := Lib.hid hl
 have HJ := Lib.hid hj
 have HX := Lib.hid (show f.arms.length ≤ 10 from hx f (List.mem_of_getElem? hj))
 obtain ⟨b1, hb_1⟩ : ∃ b, b = tgtB n v.r.to := ⟨_, rfl⟩
 obtain ⟨b2, hb_2⟩ : ∃ b, b = varB nv v.r.var := ⟨_, rfl⟩
 obtain ⟨b3, hb_3⟩ : ∃ b, b = metB f s4 v := ⟨_, rfl⟩
 obtain ⟨b4, hb_4⟩ : ∃ b, b = lateB f s4 v := ⟨_, rfl⟩
 rw [← hb_1, ← hb_2, ← hb_3, ← hb_4] at hT
 have E1 := Lib.hid hb_1
 have E2 := Lib.hid hb_2
 have E3 := Lib.hid hb_3
 have E4 := Lib.hid hb_4
 have HXX := Lib.hid hx
 clear hb_1 hb_2 hb_3 hb_4
 have HT := Lib.hid hT
 clear hc hf hl hj hb1 hv1 hbw hT hx
 go_enter Try.func64, Try.ntmps64
 go_upto_region 1 with fail
 rw [← hW1]
 refine wp_region_N [] (fun V => Below W.heap.size W V) (by kernel_rfl) ?_
 rw [← hW]
 have hH : Below W.heap.size W W := Below.refl _ _
 clear hW hW1
 refine tk_ 0 (.pointer (some ⟨g, 0, none⟩)) [] rfl hH ?_ ?_
 ·intro V hV; go_simp
 try simp only [Act.put, lay_]
 refine tk_ 1 (.pointer (some ⟨g, 0, none⟩)) [] rfl hH ?_ ?_
 ·intro V hV; go_simp
 try simp only [Act.put, lay_]
 refine tk_ 2 (.pointer (some ⟨g, 0, none⟩)) [] rfl hH ?_ ?_
 ·intro V hV; go_simp
 try simp only [Act.put, lay_]
 refine tk_ 3 (.agg #[.slice A n c, .slice A1 nv c1, .int .i64 most]) [] rfl hH ?_ ?_
 ·intro V hV; have hc := HC.out.below hV HC.out.lt; have k0 : V.cell? ⟨g, 0, none⟩ = some (.slice A n c) := hc.cell 0; have k1 : V.cell? ⟨g, 1, none⟩ = some (.slice A1 nv c1) := hc.cell 1; have k2 : V.cell? ⟨g, 2, none⟩ = some (.int .i64 most) := hc.cell 2; clear hc; go_simp
 try simp only [Act.put, lay_]
 refine tk_ 4 (.pointer (some ⟨w.heap.size, 9, none⟩)) [] rfl hH ?_ ?_
 ·intro V hV; go_simp
 try simp only [Act.put, lay_]
 refine tk_ 5 (.int .i64 v.r.to) [] rfl hH ?_ ?_
 ·intro V hV; have hc := HV.out.below hV HV.out.lt; have k0 : V.cell? ⟨w.heap.size, 9, none⟩ = some (.int .i64 v.r.to) := hc.cell 9; clear hc; go_simp
 try simp only [Act.put, lay_]
 refine wpAnyN_one (i := 6) (by kernel_rfl) rfl (fun Kq hKq => ?_)
 go_simp
 refine ((show Calls Try.prog 69 #[.agg #[.slice A n c, .slice A1 nv c1, .int .i64 most], .int .i64 v.r.to] _ (fun e w' => e = .returned (.bool b1) ∧ Below _ _ w') by rw [E1.out]; exact target_ _ A n c A1 nv c1 most v.r.to)).mono ?_
 rintro e V1 ⟨rfl, hb⟩
 replace hH := hH.trans (hb.mono hH.size)
 clear hb
 go_wp2_with fail
 refine hKq.out _ _ (.inr hH) ?_
 clear hKq Kq
 try simp only [Act.put, lay_]
 cases b1 with
 | true =>
  refine tk_ 7 (.bool true) [] rfl hH ?_ ?_
  ·intro V hV; go_simp
  try simp only [Act.put, lay_]
  refine tk_ 8 (.pointer (some ⟨g, 0, none⟩)) [] rfl hH ?_ ?_
  ·intro V hV; go_simp
  try simp only [Act.put, lay_]
  refine tk_ 9 (.pointer (some ⟨g, 0, none⟩)) [] rfl hH ?_ ?_
  ·intro V hV; go_simp
  try simp only [Act.put, lay_]
  refine tk_ 10 (.pointer (some ⟨g, 0, none⟩)) [] rfl hH ?_ ?_
  ·intro V hV; go_simp
  try simp only [Act.put, lay_]
  refine tk_ 11 (.agg #[.slice A n c, .slice A1 nv c1, .int .i64 most]) [] rfl hH ?_ ?_
  ·intro V hV; have hc := HC.out.below hV HC.out.lt; have k0 : V.cell? ⟨g, 0, none⟩ = some (.slice A n c) := hc.cell 0; have k1 : V.cell? ⟨g, 1, none⟩ = some (.slice A1 nv c1) := hc.cell 1; have k2 : V.cell? ⟨g, 2, none⟩ = some (.int .i64 most) := hc.cell 2; clear hc; go_simp
  try simp only [Act.put, lay_]
  refine tk_ 12 (.pointer (some ⟨w.heap.size, 11, none⟩)) [] rfl hH ?_ ?_
  ·intro V hV; go_simp
  try simp only [Act.put, lay_]
  refine tk_ 13 (.int .i64 v.r.var) [] rfl hH ?_ ?_
  ·intro V hV; have hc := HV.out.below hV HV.out.lt; have k0 : V.cell? ⟨w.heap.size, 11, none⟩ = some (.int .i64 v.r.var) := hc.cell 11; clear hc; go_simp
  try simp only [Act.put, lay_]
  refine wpAnyN_one (i := 14) (by kernel_rfl) rfl (fun Kq hKq => ?_)
  go_simp
  refine ((show Calls Try.prog 75 #[.agg #[.slice A n c, .slice A1 nv c1, .int .i64 most], .int .i64 v.r.var] _ (fun e w' => e = .returned (.bool b2) ∧ Below _ _ w') by rw [E2.out]; exact variable_ _ A n c A1 nv c1 most v.r.var)).mono ?_
  rintro e V2 ⟨rfl, hb⟩
  replace hH := hH.trans (hb.mono hH.size)
  clear hb
  go_wp2_with fail
  refine hKq.out _ _ (.inr hH) ?_
  clear hKq Kq
  try simp only [Act.put, lay_]
  cases b2 with
  | true =>
   refine tk_ 15 (.bool true) [] rfl hH ?_ ?_
   ·intro V hV; go_simp
   try simp only [Act.put, lay_]
   refine tk_ 16 (.bool true) [] rfl hH ?_ ?_
   ·intro V hV; go_simp
   try simp only [Act.put, lay_]
   refine tk_ 17 (.pointer (some ⟨g, 0, none⟩)) [] rfl hH ?_ ?_
   ·intro V hV; go_simp
   try simp only [Act.put, lay_]
   refine tk_ 18 (.agg #[.int .i64 v.r.kind, .int .i64 v.r.s.step, .int .i64 v.r.s.visit, .int .i64 v.r.s.tries, .int .i64 v.r.s.off, .slice v.AL v.vs.length v.cL, .int .i64 v.r.visit, .int .i64 v.r.step, .int .i64 v.r.try_, .int .i64 v.r.to, .int .i64 v.r.off, .int .i64 v.r.var, .slice v.AV v.r.value.length v.cV]) [] rfl hH ?_ ?_
   ·intro V hV; have hc := HV.out.below hV HV.out.lt; have k0 : V.cell? ⟨w.heap.size, 0, none⟩ = some (.int .i64 v.r.kind) := hc.cell 0; have k1 : V.cell? ⟨w.heap.size, 1, none⟩ = some (.int .i64 v.r.s.step) := hc.cell 1; have k2 : V.cell? ⟨w.heap.size, 2, none⟩ = some (.int .i64 v.r.s.visit) := hc.cell 2; have k3 : V.cell? ⟨w.heap.size, 3, none⟩ = some (.int .i64 v.r.s.tries) := hc.cell 3; have k4 : V.cell? ⟨w.heap.size, 4, none⟩ = some (.int .i64 v.r.s.off) := hc.cell 4; have k5 : V.cell? ⟨w.heap.size, 5, none⟩ = some (.slice v.AL v.vs.length v.cL) := hc.cell 5; have k6 : V.cell? ⟨w.heap.size, 6, none⟩ = some (.int .i64 v.r.visit) := hc.cell 6; have k7 : V.cell? ⟨w.heap.size, 7, none⟩ = some (.int .i64 v.r.step) := hc.cell 7; have k8 : V.cell? ⟨w.heap.size, 8, none⟩ = some (.int .i64 v.r.try_) := hc.cell 8; have k9 : V.cell? ⟨w.heap.size, 9, none⟩ = some (.int .i64 v.r.to) := hc.cell 9; have k10 : V.cell? ⟨w.heap.size, 10, none⟩ = some (.int .i64 v.r.off) := hc.cell 10; have k11 : V.cell? ⟨w.heap.size, 11, none⟩ = some (.int .i64 v.r.var) := hc.cell 11; have k12 : V.cell? ⟨w.heap.size, 12, none⟩ = some (.slice v.AV v.r.value.length v.cV) := hc.cell 12; clear hc; go_simp
   try simp only [Act.put, lay_]
   refine wpAnyN_one (i := 19) (by kernel_rfl) rfl (fun Kq hKq => ?_)
   go_simp
   refine ((show Calls Try.prog 76 #[pp g 0, .agg v.cells.toArray] _ (fun e w' => e = .returned (.bool b3) ∧ Below _ _ w') by rw [E3.out]; exact ofArm_ _ g A n c A1 nv c1 most bg j s2 s3 s4 AL m cL (HC.out.below hH HC.out.lt) vs (HF.out _ hH) HL.out f HJ.out HXX.out v)).mono ?_
   rintro e V3 ⟨rfl, hb⟩
   replace hH := hH.trans (hb.mono hH.size)
   clear hb
   go_wp2_with fail
   refine hKq.out _ _ (.inr hH) ?_
   clear hKq Kq
   try simp only [Act.put, lay_]
   cases b3 with
   | true =>
    refine tk_ 20 (.bool true) [] rfl hH ?_ ?_
    ·intro V hV; go_simp
    try simp only [Act.put, lay_]
    refine wpAnyN_take (i := 21) (v := undef) [] (by kernel_rfl) rfl (by kernel_rfl) (by kernel_rfl) (by kernel_rfl) (fun _ _ _ h => h) (Or.inr ⟨by rfl, rfl⟩) hH ?_
    try simp only [Act.put, lay_]
    refine wpAnyN_take (i := 22) (v := undef) [] (by kernel_rfl) rfl (by kernel_rfl) (by kernel_rfl) (by kernel_rfl) (fun _ _ _ h => h) (Or.inr ⟨by rfl, rfl⟩) hH ?_
    try simp only [Act.put, lay_]
    refine wpAnyN_take (i := 23) (v := undef) [] (by kernel_rfl) rfl (by kernel_rfl) (by kernel_rfl) (by kernel_rfl) (fun _ _ _ h => h) (Or.inr ⟨by rfl, rfl⟩) hH ?_
    try simp only [Act.put, lay_]
    refine tk_ 24 (.bool true) [] rfl hH ?_ ?_
    ·intro V hV; go_simp
    try simp only [Act.put, lay_]
    refine tk_ 25 (.bool true) [] rfl hH ?_ ?_
    ·intro V hV; go_simp
    try simp only [Act.put, lay_]
    refine tk_ 26 (.bool true) [] rfl hH ?_ ?_
    ·intro V hV; go_simp
    try simp only [Act.put, lay_]
    refine wpAnyN_done (by kernel_rfl) ?_ _
    go_wp2_with fail
    go_ret
    rw [show T = true from HT.out]
    exact ⟨rfl, HBW.out.trans (hH.mono HBW.out.size)⟩
   | false =>
    refine tk_ 20 (.bool false) [] rfl hH ?_ ?_
    ·intro V hV; go_simp
    try simp only [Act.put, lay_]
    refine tk_ 21 (.pointer (some ⟨g, 0, none⟩)) [] rfl hH ?_ ?_
    ·intro V hV; go_simp
    try simp only [Act.put, lay_]
    refine tk_ 22 (.agg #[.int .i64 v.r.kind, .int .i64 v.r.s.step, .int .i64 v.r.s.visit, .int .i64 v.r.s.tries, .int .i64 v.r.s.off, .slice v.AL v.vs.length v.cL, .int .i64 v.r.visit, .int .i64 v.r.step, .int .i64 v.r.try_, .int .i64 v.r.to, .int .i64 v.r.off, .int .i64 v.r.var, .slice v.AV v.r.value.length v.cV]) [] rfl hH ?_ ?_
    ·intro V hV; have hc := HV.out.below hV HV.out.lt; have k0 : V.cell? ⟨w.heap.size, 0, none⟩ = some (.int .i64 v.r.kind) := hc.cell 0; have k1 : V.cell? ⟨w.heap.size, 1, none⟩ = some (.int .i64 v.r.s.step) := hc.cell 1; have k2 : V.cell? ⟨w.heap.size, 2, none⟩ = some (.int .i64 v.r.s.visit) := hc.cell 2; have k3 : V.cell? ⟨w.heap.size, 3, none⟩ = some (.int .i64 v.r.s.tries) := hc.cell 3; have k4 : V.cell? ⟨w.heap.size, 4, none⟩ = some (.int .i64 v.r.s.off) := hc.cell 4; have k5 : V.cell? ⟨w.heap.size, 5, none⟩ = some (.slice v.AL v.vs.length v.cL) := hc.cell 5; have k6 : V.cell? ⟨w.heap.size, 6, none⟩ = some (.int .i64 v.r.visit) := hc.cell 6; have k7 : V.cell? ⟨w.heap.size, 7, none⟩ = some (.int .i64 v.r.step) := hc.cell 7; have k8 : V.cell? ⟨w.heap.size, 8, none⟩ = some (.int .i64 v.r.try_) := hc.cell 8; have k9 : V.cell? ⟨w.heap.size, 9, none⟩ = some (.int .i64 v.r.to) := hc.cell 9; have k10 : V.cell? ⟨w.heap.size, 10, none⟩ = some (.int .i64 v.r.off) := hc.cell 10; have k11 : V.cell? ⟨w.heap.size, 11, none⟩ = some (.int .i64 v.r.var) := hc.cell 11; have k12 : V.cell? ⟨w.heap.size, 12, none⟩ = some (.slice v.AV v.r.value.length v.cV) := hc.cell 12; clear hc; go_simp
    try simp only [Act.put, lay_]
    refine wpAnyN_one (i := 23) (by kernel_rfl) rfl (fun Kq hKq => ?_)
    go_simp
    refine ((show Calls Try.prog 77 #[pp g 0, .agg v.cells.toArray] _ (fun e w' => e = .returned (.bool b4) ∧ Below _ _ w') by rw [E4.out]; exact without_ _ g A n c A1 nv c1 most bg j s2 s3 s4 AL m cL (HC.out.below hH HC.out.lt) vs (HF.out _ hH) HL.out f HJ.out HXX.out v)).mono ?_
    rintro e V4 ⟨rfl, hb⟩
    replace hH := hH.trans (hb.mono hH.size)
    clear hb
    go_wp2_with fail
    refine hKq.out _ _ (.inr hH) ?_
    clear hKq Kq
    try simp only [Act.put, lay_]
    refine tk_ 24 (.bool b4) [] rfl hH ?_ ?_
    ·intro V hV; go_simp
    try simp only [Act.put, lay_]
    refine tk_ 25 (.bool b4) [] rfl hH ?_ ?_
    ·intro V hV; go_simp
    try simp only [Act.put, lay_]
    refine tk_ 26 (.bool b4) [] rfl hH ?_ ?_
    ·intro V hV; go_simp
    try simp only [Act.put, lay_]
    refine wpAnyN_done (by kernel_rfl) ?_ _
    go_wp2_with fail
    go_ret
    rw [show T = b4 from HT.out]
    exact ⟨rfl, HBW.out.trans (hH.mono HBW.out.size)⟩
  | false =>
   refine tk_ 15 (.bool false) [] rfl hH ?_ ?_
   ·intro V hV; go_simp
   try simp only [Act.put, lay_]
   refine tk_ 16 (.bool false) [] rfl hH ?_ ?_
   ·intro V hV; go_simp
   try simp only [Act.put, lay_]
   refine wpAnyN_take (i := 17) (v := undef) [] (by kernel_rfl) rfl (by kernel_rfl) (by kernel_rfl) (by kernel_rfl) (fun _ _ _ h => h) (Or.inr ⟨by rfl, rfl⟩) hH ?_
   try simp only [Act.put, lay_]
   refine wpAnyN_take (i := 18) (v := undef) [] (by kernel_rfl) rfl (by kernel_rfl) (by kernel_rfl) (by kernel_rfl) (fun _ _ _ h => h) (Or.inr ⟨by rfl, rfl⟩) hH ?_
   try simp only [Act.put, lay_]
   refine wpAnyN_take (i := 19) (v := undef) [] (by kernel_rfl) rfl (by kernel_rfl) (by kernel_rfl) (by kernel_rfl) (fun _ _ _ h => h) (Or.inr ⟨by rfl, rfl⟩) hH ?_
   try simp only [Act.put, lay_]
   refine wpAnyN_take (i := 20) (v := undef) [] (by kernel_rfl) rfl (by kernel_rfl) (by kernel_rfl) (by kernel_rfl) (fun _ _ _ h => h) (Or.inr ⟨by rfl, rfl⟩) hH ?_
   try simp only [Act.put, lay_]
   refine wpAnyN_take (i := 21) (v := undef) [] (by kernel_rfl) rfl (by kernel_rfl) (by kernel_rfl) (by kernel_rfl) (fun _ _ _ h => h) (Or.inr ⟨by rfl, rfl⟩) hH ?_
   try simp only [Act.put, lay_]
   refine wpAnyN_take (i := 22) (v := undef) [] (by kernel_rfl) rfl (by kernel_rfl) (by kernel_rfl) (by kernel_rfl) (fun _ _ _ h => h) (Or.inr ⟨by rfl, rfl⟩) hH ?_
   try simp only [Act.put, lay_]
   refine wpAnyN_take (i := 23) (v := undef) [] (by kernel_rfl) rfl (by kernel_rfl) (by kernel_rfl) (by kernel_rfl) (fun _ _ _ h => h) (Or.inr ⟨by rfl, rfl⟩) hH ?_
   try simp only [Act.put, lay_]
   refine wpAnyN_take (i := 24) (v := undef) [] (by kernel_rfl) rfl (by kernel_rfl) (by kernel_rfl) (by kernel_rfl) (fun _ _ _ h => h) (Or.inr ⟨by rfl, rfl⟩) hH ?_
   try simp only [Act.put, lay_]
   refine tk_ 25 (.bool false) [] rfl hH ?_ ?_
   ·intro V hV; go_simp
   try simp only [Act.put, lay_]
   refine tk_ 26 (.bool false) [] rfl hH ?_ ?_
   ·intro V hV; go_simp
   try simp only [Act.put, lay_]
   refine wpAnyN_done (by kernel_rfl) ?_ _
   go_wp2_with fail
   go_ret
   rw [show T = false from HT.out]
   exact ⟨rfl, HBW.out.trans (hH.mono HBW.out.size)⟩
 | false =>
  refine tk_ 7 (.bool false) [] rfl hH ?_ ?_
  ·intro V hV; go_simp
  try simp only [Act.put, lay_]
  refine wpAnyN_take (i := 8) (v := undef) [] (by kernel_rfl) rfl (by kernel_rfl) (by kernel_rfl) (by kernel_rfl) (fun _ _ _ h => h) (Or.inr ⟨by rfl, rfl⟩) hH ?_
  try simp only [Act.put, lay_]
  refine wpAnyN_take (i := 9) (v := undef) [] (by kernel_rfl) rfl (by kernel_rfl) (by kernel_rfl) (by kernel_rfl) (fun _ _ _ h => h) (Or.inr ⟨by rfl, rfl⟩) hH ?_
  try simp only [Act.put, lay_]
  refine wpAnyN_take (i := 10) (v := undef) [] (by kernel_rfl) rfl (by kernel_rfl) (by kernel_rfl) (by kernel_rfl) (fun _ _ _ h => h) (Or.inr ⟨by rfl, rfl⟩) hH ?_
  try simp only [Act.put, lay_]
  refine wpAnyN_take (i := 11) (v := undef) [] (by kernel_rfl) rfl (by kernel_rfl) (by kernel_rfl) (by kernel_rfl) (fun _ _ _ h => h) (Or.inr ⟨by rfl, rfl⟩) hH ?_
  try simp only [Act.put, lay_]
  refine wpAnyN_take (i := 12) (v := undef) [] (by kernel_rfl) rfl (by kernel_rfl) (by kernel_rfl) (by kernel_rfl) (fun _ _ _ h => h) (Or.inr ⟨by rfl, rfl⟩) hH ?_
  try simp only [Act.put, lay_]
  refine wpAnyN_take (i := 13) (v := undef) [] (by kernel_rfl) rfl (by kernel_rfl) (by kernel_rfl) (by kernel_rfl) (fun _ _ _ h => h) (Or.inr ⟨by rfl, rfl⟩) hH ?_
  try simp only [Act.put, lay_]
  refine wpAnyN_take (i := 14) (v := undef) [] (by kernel_rfl) rfl (by kernel_rfl) (by kernel_rfl) (by kernel_rfl) (fun _ _ _ h => h) (Or.inr ⟨by rfl, rfl⟩) hH ?_
  try simp only [Act.put, lay_]
  refine tk_ 15 (.bool false) [] rfl hH ?_ ?_
  ·intro V hV; go_simp
  try simp only [Act.put, lay_]
  refine tk_ 16 (.bool false) [] rfl hH ?_ ?_
  ·intro V hV; go_simp
  try simp only [Act.put, lay_]
  refine wpAnyN_take (i := 17) (v := undef) [] (by kernel_rfl) rfl (by kernel_rfl) (by kernel_rfl) (by kernel_rfl) (fun _ _ _ h => h) (Or.inr ⟨by rfl, rfl⟩) hH ?_
  try simp only [Act.put, lay_]
  refine wpAnyN_take (i := 18) (v := undef) [] (by kernel_rfl) rfl (by kernel_rfl) (by kernel_rfl) (by kernel_rfl) (fun _ _ _ h => h) (Or.inr ⟨by rfl, rfl⟩) hH ?_
  try simp only [Act.put, lay_]
  refine wpAnyN_take (i := 19) (v := undef) [] (by kernel_rfl) rfl (by kernel_rfl) (by kernel_rfl) (by kernel_rfl) (fun _ _ _ h => h) (Or.inr ⟨by rfl, rfl⟩) hH ?_
  try simp only [Act.put, lay_]
  refine wpAnyN_take (i := 20) (v := undef) [] (by kernel_rfl) rfl (by kernel_rfl) (by kernel_rfl) (by kernel_rfl) (fun _ _ _ h => h) (Or.inr ⟨by rfl, rfl⟩) hH ?_
  try simp only [Act.put, lay_]
  refine wpAnyN_take (i := 21) (v := undef) [] (by kernel_rfl) rfl (by kernel_rfl) (by kernel_rfl) (by kernel_rfl) (fun _ _ _ h => h) (Or.inr ⟨by rfl, rfl⟩) hH ?_
  try simp only [Act.put, lay_]
  refine wpAnyN_take (i := 22) (v := undef) [] (by kernel_rfl) rfl (by kernel_rfl) (by kernel_rfl) (by kernel_rfl) (fun _ _ _ h => h) (Or.inr ⟨by rfl, rfl⟩) hH ?_
  try simp only [Act.put, lay_]
  refine wpAnyN_take (i := 23) (v := undef) [] (by kernel_rfl) rfl (by kernel_rfl) (by kernel_rfl) (by kernel_rfl) (fun _ _ _ h => h) (Or.inr ⟨by rfl, rfl⟩) hH ?_
  try simp only [Act.put, lay_]
  refine wpAnyN_take (i := 24) (v := undef) [] (by kernel_rfl) rfl (by kernel_rfl) (by kernel_rfl) (by kernel_rfl) (fun _ _ _ h => h) (Or.inr ⟨by rfl, rfl⟩) hH ?_
  try simp only [Act.put, lay_]
  refine tk_ 25 (.bool false) [] rfl hH ?_ ?_
  ·intro V hV; go_simp
  try simp only [Act.put, lay_]
  refine tk_ 26 (.bool false) [] rfl hH ?_ ?_
  ·intro V hV; go_simp
  try simp only [Act.put, lay_]
  refine wpAnyN_done (by kernel_rfl) ?_ _
  go_wp2_with fail
  go_ret
  rw [show T = false from HT.out]
  exact ⟨rfl, HBW.out.trans (hH.mono HBW.out.size)⟩
end
end Go.Proofs.Ytfmkkklcgiaacaa.Fold
