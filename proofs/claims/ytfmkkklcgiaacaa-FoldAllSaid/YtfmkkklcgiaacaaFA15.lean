/-
The program's fold (layer 16): an Intent, an Outcome, a Point is met. (Written by gen_foldpmeet.py.)
-/
import Derived.Test.YtfmkkklcgiaacaaFA0
import Derived.Test.YtfmkkklcgiaacaaFA1
import Derived.Test.YtfmkkklcgiaacaaFA2
import Derived.Test.YtfmkkklcgiaacaaFA3
import Derived.Test.YtfmkkklcgiaacaaFA4
import Derived.Test.YtfmkkklcgiaacaaFA10
import Derived.Test.YtfmkkklcgiaacaaFA11
import Derived.Test.YtfmkkklcgiaacaaFA12
import Derived.Test.YtfmkkklcgiaacaaFA13
import Derived.Test.YtfmkkklcgiaacaaFA14
set_option linter.unusedVariables false
set_option linter.unusedSimpArgs false
set_option maxRecDepth 100000
set_option maxHeartbeats 4000000
namespace Go.Proofs.Ytfmkkklcgiaacaa.Fold
open Go.RowKit Go.Proofs.Ytfmkkklcgiaacaa.Ord
open Lex (Tx)
open Rec (Stt Rc Rv Rok Vt Tvs Trow txt may may3)
def RunIs (w : World) (B g : Nat) (A : Option Addr) (n c : Nat) (A1 : Option Addr) (nv c1 : Nat) (most : Int) (t : Stt) : Prop := ∃ h cL us, B ≤ h ∧ Cel w g 54 (rcells A n c A1 nv c1 most true t.step t.visit t.tries t.off (some ⟨h, 0, none⟩) us.length cL) ∧ Rrow w h us ∧ txt us = t.vars
theorem RunIs.below {w w' : World} {B g : Nat} {A : Option Addr} {n c : Nat} {A1 : Option Addr} {nv c1 : Nat} {most : Int} {t : Stt} (h : RunIs w B g A n c A1 nv c1 most t) (hb : Below w.heap.size w w') : RunIs w' B g A n c A1 nv c1 most t := by
 obtain ⟨q, cL, us, h1, h2, h3, h4⟩ := h
 exact ⟨q, cL, us, h1, h2.below hb h2.lt, h3.below hb, h4⟩
def MtSays (w : World) (B g : Nat) (A : Option Addr) (n c : Nat) (A1 : Option Addr) (nv c1 : Nat) (most : Int) (R : Option Stt) (e : Ending) (w' : World) : Prop :=
 ∃ b, e = .returned (.bool b) ∧ Below B w w' ∧ (b = false → R = none ∧ Below w.heap.size w w') ∧ (b = true → ∃ t, R = some t ∧ RunIs w' B g A n c A1 nv c1 most t)
section
variable (w : World) (B g : Nat) (A : Option Addr) (n c : Nat) (A1 : Option Addr) (nv c1 : Nat) (most : Int)
theorem mt_no {w w' : World} {B g : Nat} {A : Option Addr} {n c : Nat} {A1 : Option Addr} {nv c1 : Nat} {most : Int} {R : Option Stt} (hR : R = none) (hB : B ≤ w.heap.size) (hb : Below w.heap.size w w') : MtSays w B g A n c A1 nv c1 most R (.returned (.bool false)) w' := ⟨false, rfl, hb.mono hB, fun _ => ⟨hR, hb⟩, fun q => by cases q⟩
theorem mt_yes {w w' : World} {B g : Nat} {A : Option Addr} {n c : Nat} {A1 : Option Addr} {nv c1 : Nat} {most : Int} {R : Option Stt} {t : Stt} (hR : R = some t) (hb : Below B w w') (ht : RunIs w' B g A n c A1 nv c1 most t) : MtSays w B g A n c A1 nv c1 most R (.returned (.bool true)) w' := ⟨true, rfl, hb, fun q => (by cases q), fun _ => ⟨t, hR, ht⟩⟩
theorem intent_off (K : Nat) (bg : Bool) (s1 s2 s3 s4 : Int) (AL : Option Addr) (m cL : Nat) (hc : Cel w g 54 (rcells A n c A1 nv c1 most bg s1 s2 s3 s4 AL m cL)) (vs : List Fs) (us : List Vt) (hr : Rfit w K A n nv most vs s2 s3 AL m us) (hg : onB bg (bok vs nv most) ⟨s1, s2, s3, s4, txt us⟩ = false) (v : Rv) :
  Calls Try.prog 45 #[pp g 0, .agg v.cells.toArray] w fun e w' => e = .returned (.bool false) ∧ Below w.heap.size w w' := by
 obtain ⟨W1, hW1⟩ : ∃ W, W = w.alloc (.cells v.cells.toArray 42) := ⟨_, rfl⟩
 have hb1 : Below w.heap.size w W1 := by rw [hW1]; exact (Below.refl _ _).alloc (Nat.le_refl _) _
 have hv1 : Cel W1 w.heap.size 42 v.cells := by rw [hW1]; exact Cel.new w _ _
 obtain ⟨W, hW⟩ : ∃ W, W = W1.drew := ⟨_, rfl⟩
 have hbw : Below w.heap.size w W := by rw [hW]; exact hb1.drew
 have HBW := Lib.hid hbw
 have HC := Lib.hid (hc.below hbw hc.lt)
 have HV := Lib.hid (show Cel W w.heap.size 42 v.cells by rw [hW]; exact hv1.drew)
 have HR := Lib.hid (show ∀ V, Below W.heap.size W V → Rfit V K A n nv most vs s2 s3 AL m us from fun V h => (hr.below hbw).below h)
 have HG := Lib.hid hg
 clear hc hr hb1 hv1 hbw hg
 go_enter Try.func45, Try.ntmps45
 go_upto_region 1 with fail
 rw [← hW1]
 clear hW1
 go_upto_region 2 with fail
 refine wp_region_N [] (fun V => Below W.heap.size W V) (by kernel_rfl) ?_
 rw [← hW]
 have hH : Below W.heap.size W W := Below.refl _ _
 clear hW
 refine tk_ 0 (.pointer (some ⟨g, 0, none⟩)) [] rfl hH ?_ ?_
 ·intro V hV; go_simp
 try simp only [Act.put, lay_]
 refine wpAnyN_one (i := 1) (by kernel_rfl) rfl (fun Kq hKq => ?_)
 go_simp
 refine ((show Calls Try.prog 62 #[pp g 0] _ (fun e w' => e = .returned (.bool false) ∧ Below _ _ w') by have q := goesOn_ _ g K A n c A1 nv c1 most bg s1 s2 s3 s4 AL m cL (HC.out.below hH HC.out.lt) vs us (HR.out _ hH); rw [HG.out] at q; exact q)).mono ?_
 rintro e V1 ⟨rfl, hb⟩
 replace hH := hH.trans (hb.mono hH.size)
 clear hb
 go_wp2_with fail
 refine hKq.out _ _ (.inr hH) ?_
 clear hKq Kq
 try simp only [Act.put, lay_]
 refine tk_ 2 (.bool true) [] rfl hH ?_ ?_
 ·intro V hV; go_simp
 try simp only [Act.put, lay_]
 refine tk_ 3 (.bool true) [] rfl hH ?_ ?_
 ·intro V hV; go_simp
 try simp only [Act.put, lay_]
 refine wpAnyN_take (i := 4) (v := undef) [] (by kernel_rfl) rfl (by kernel_rfl) (by kernel_rfl) (by kernel_rfl) (fun _ _ _ h => h) (Or.inr ⟨by rfl, rfl⟩) hH ?_
 try simp only [Act.put, lay_]
 refine wpAnyN_take (i := 5) (v := undef) [] (by kernel_rfl) rfl (by kernel_rfl) (by kernel_rfl) (by kernel_rfl) (fun _ _ _ h => h) (Or.inr ⟨by rfl, rfl⟩) hH ?_
 try simp only [Act.put, lay_]
 refine wpAnyN_take (i := 6) (v := undef) [] (by kernel_rfl) rfl (by kernel_rfl) (by kernel_rfl) (by kernel_rfl) (fun _ _ _ h => h) (Or.inr ⟨by rfl, rfl⟩) hH ?_
 try simp only [Act.put, lay_]
 refine wpAnyN_take (i := 7) (v := undef) [] (by kernel_rfl) rfl (by kernel_rfl) (by kernel_rfl) (by kernel_rfl) (fun _ _ _ h => h) (Or.inr ⟨by rfl, rfl⟩) hH ?_
 try simp only [Act.put, lay_]
 refine wpAnyN_take (i := 8) (v := undef) [] (by kernel_rfl) rfl (by kernel_rfl) (by kernel_rfl) (by kernel_rfl) (fun _ _ _ h => h) (Or.inr ⟨by rfl, rfl⟩) hH ?_
 try simp only [Act.put, lay_]
 refine wpAnyN_take (i := 9) (v := undef) [] (by kernel_rfl) rfl (by kernel_rfl) (by kernel_rfl) (by kernel_rfl) (fun _ _ _ h => h) (Or.inr ⟨by rfl, rfl⟩) hH ?_
 try simp only [Act.put, lay_]
 refine wpAnyN_take (i := 10) (v := undef) [] (by kernel_rfl) rfl (by kernel_rfl) (by kernel_rfl) (by kernel_rfl) (fun _ _ _ h => h) (Or.inr ⟨by rfl, rfl⟩) hH ?_
 try simp only [Act.put, lay_]
 refine tk_ 11 (.bool true) [] rfl hH ?_ ?_
 ·intro V hV; go_simp
 try simp only [Act.put, lay_]
 refine tk_ 12 (.bool true) [] rfl hH ?_ ?_
 ·intro V hV; go_simp
 try simp only [Act.put, lay_]
 refine wpAnyN_take (i := 13) (v := undef) [] (by kernel_rfl) rfl (by kernel_rfl) (by kernel_rfl) (by kernel_rfl) (fun _ _ _ h => h) (Or.inr ⟨by rfl, rfl⟩) hH ?_
 try simp only [Act.put, lay_]
 refine wpAnyN_take (i := 14) (v := undef) [] (by kernel_rfl) rfl (by kernel_rfl) (by kernel_rfl) (by kernel_rfl) (fun _ _ _ h => h) (Or.inr ⟨by rfl, rfl⟩) hH ?_
 try simp only [Act.put, lay_]
 refine wpAnyN_take (i := 15) (v := undef) [] (by kernel_rfl) rfl (by kernel_rfl) (by kernel_rfl) (by kernel_rfl) (fun _ _ _ h => h) (Or.inr ⟨by rfl, rfl⟩) hH ?_
 try simp only [Act.put, lay_]
 refine wpAnyN_take (i := 16) (v := undef) [] (by kernel_rfl) rfl (by kernel_rfl) (by kernel_rfl) (by kernel_rfl) (fun _ _ _ h => h) (Or.inr ⟨by rfl, rfl⟩) hH ?_
 try simp only [Act.put, lay_]
 refine wpAnyN_take (i := 17) (v := undef) [] (by kernel_rfl) rfl (by kernel_rfl) (by kernel_rfl) (by kernel_rfl) (fun _ _ _ h => h) (Or.inr ⟨by rfl, rfl⟩) hH ?_
 try simp only [Act.put, lay_]
 refine wpAnyN_take (i := 18) (v := undef) [] (by kernel_rfl) rfl (by kernel_rfl) (by kernel_rfl) (by kernel_rfl) (fun _ _ _ h => h) (Or.inr ⟨by rfl, rfl⟩) hH ?_
 try simp only [Act.put, lay_]
 refine wpAnyN_take (i := 19) (v := undef) [] (by kernel_rfl) rfl (by kernel_rfl) (by kernel_rfl) (by kernel_rfl) (fun _ _ _ h => h) (Or.inr ⟨by rfl, rfl⟩) hH ?_
 try simp only [Act.put, lay_]
 refine tk_ 20 (.bool true) [] rfl hH ?_ ?_
 ·intro V hV; go_simp
 try simp only [Act.put, lay_]
 refine tk_ 21 (.bool true) [] rfl hH ?_ ?_
 ·intro V hV; go_simp
 try simp only [Act.put, lay_]
 refine wpAnyN_take (i := 22) (v := undef) [] (by kernel_rfl) rfl (by kernel_rfl) (by kernel_rfl) (by kernel_rfl) (fun _ _ _ h => h) (Or.inr ⟨by rfl, rfl⟩) hH ?_
 try simp only [Act.put, lay_]
 refine wpAnyN_take (i := 23) (v := undef) [] (by kernel_rfl) rfl (by kernel_rfl) (by kernel_rfl) (by kernel_rfl) (fun _ _ _ h => h) (Or.inr ⟨by rfl, rfl⟩) hH ?_
 try simp only [Act.put, lay_]
 refine wpAnyN_take (i := 24) (v := undef) [] (by kernel_rfl) rfl (by kernel_rfl) (by kernel_rfl) (by kernel_rfl) (fun _ _ _ h => h) (Or.inr ⟨by rfl, rfl⟩) hH ?_
 try simp only [Act.put, lay_]
 refine wpAnyN_take (i := 25) (v := undef) [] (by kernel_rfl) rfl (by kernel_rfl) (by kernel_rfl) (by kernel_rfl) (fun _ _ _ h => h) (Or.inr ⟨by rfl, rfl⟩) hH ?_
 try simp only [Act.put, lay_]
 refine wpAnyN_take (i := 26) (v := undef) [] (by kernel_rfl) rfl (by kernel_rfl) (by kernel_rfl) (by kernel_rfl) (fun _ _ _ h => h) (Or.inr ⟨by rfl, rfl⟩) hH ?_
 try simp only [Act.put, lay_]
 refine wpAnyN_take (i := 27) (v := undef) [] (by kernel_rfl) rfl (by kernel_rfl) (by kernel_rfl) (by kernel_rfl) (fun _ _ _ h => h) (Or.inr ⟨by rfl, rfl⟩) hH ?_
 try simp only [Act.put, lay_]
 refine wpAnyN_take (i := 28) (v := undef) [] (by kernel_rfl) rfl (by kernel_rfl) (by kernel_rfl) (by kernel_rfl) (fun _ _ _ h => h) (Or.inr ⟨by rfl, rfl⟩) hH ?_
 try simp only [Act.put, lay_]
 refine tk_ 29 (.bool true) [] rfl hH ?_ ?_
 ·intro V hV; go_simp
 try simp only [Act.put, lay_]
 refine tk_ 30 (.bool true) [] rfl hH ?_ ?_
 ·intro V hV; go_simp
 try simp only [Act.put, lay_]
 refine wpAnyN_take (i := 31) (v := undef) [] (by kernel_rfl) rfl (by kernel_rfl) (by kernel_rfl) (by kernel_rfl) (fun _ _ _ h => h) (Or.inr ⟨by rfl, rfl⟩) hH ?_
 try simp only [Act.put, lay_]
 refine wpAnyN_take (i := 32) (v := undef) [] (by kernel_rfl) rfl (by kernel_rfl) (by kernel_rfl) (by kernel_rfl) (fun _ _ _ h => h) (Or.inr ⟨by rfl, rfl⟩) hH ?_
 try simp only [Act.put, lay_]
 refine wpAnyN_take (i := 33) (v := undef) [] (by kernel_rfl) rfl (by kernel_rfl) (by kernel_rfl) (by kernel_rfl) (fun _ _ _ h => h) (Or.inr ⟨by rfl, rfl⟩) hH ?_
 try simp only [Act.put, lay_]
 refine wpAnyN_take (i := 34) (v := undef) [] (by kernel_rfl) rfl (by kernel_rfl) (by kernel_rfl) (by kernel_rfl) (fun _ _ _ h => h) (Or.inr ⟨by rfl, rfl⟩) hH ?_
 try simp only [Act.put, lay_]
 refine wpAnyN_take (i := 35) (v := undef) [] (by kernel_rfl) rfl (by kernel_rfl) (by kernel_rfl) (by kernel_rfl) (fun _ _ _ h => h) (Or.inr ⟨by rfl, rfl⟩) hH ?_
 try simp only [Act.put, lay_]
 refine wpAnyN_take (i := 36) (v := undef) [] (by kernel_rfl) rfl (by kernel_rfl) (by kernel_rfl) (by kernel_rfl) (fun _ _ _ h => h) (Or.inr ⟨by rfl, rfl⟩) hH ?_
 try simp only [Act.put, lay_]
 refine wpAnyN_take (i := 37) (v := undef) [] (by kernel_rfl) rfl (by kernel_rfl) (by kernel_rfl) (by kernel_rfl) (fun _ _ _ h => h) (Or.inr ⟨by rfl, rfl⟩) hH ?_
 try simp only [Act.put, lay_]
 refine wpAnyN_take (i := 38) (v := undef) [] (by kernel_rfl) rfl (by kernel_rfl) (by kernel_rfl) (by kernel_rfl) (fun _ _ _ h => h) (Or.inr ⟨by rfl, rfl⟩) hH ?_
 try simp only [Act.put, lay_]
 refine tk_ 39 (.bool true) [] rfl hH ?_ ?_
 ·intro V hV; go_simp
 try simp only [Act.put, lay_]
 refine wpAnyN_done (by kernel_rfl) ?_ _
 go_wp2_with fail
 go_ret
 exact ⟨rfl, HBW.out.trans (hH.mono HBW.out.size)⟩
theorem outcome_off (K : Nat) (bg : Bool) (s1 s2 s3 s4 : Int) (AL : Option Addr) (m cL : Nat) (hc : Cel w g 54 (rcells A n c A1 nv c1 most bg s1 s2 s3 s4 AL m cL)) (vs : List Fs) (us : List Vt) (hr : Rfit w K A n nv most vs s2 s3 AL m us) (hg : onB bg (bok vs nv most) ⟨s1, s2, s3, s4, txt us⟩ = false) (v : Rv) :
  Calls Try.prog 46 #[pp g 0, .agg v.cells.toArray] w fun e w' => e = .returned (.bool false) ∧ Below w.heap.size w w' := by
 obtain ⟨W1, hW1⟩ : ∃ W, W = w.alloc (.cells v.cells.toArray 42) := ⟨_, rfl⟩
 have hb1 : Below w.heap.size w W1 := by rw [hW1]; exact (Below.refl _ _).alloc (Nat.le_refl _) _
 have hv1 : Cel W1 w.heap.size 42 v.cells := by rw [hW1]; exact Cel.new w _ _
 obtain ⟨W, hW⟩ : ∃ W, W = W1.drew := ⟨_, rfl⟩
 have hbw : Below w.heap.size w W := by rw [hW]; exact hb1.drew
 have HBW := Lib.hid hbw
 have HC := Lib.hid (hc.below hbw hc.lt)
 have HV := Lib.hid (show Cel W w.heap.size 42 v.cells by rw [hW]; exact hv1.drew)
 have HR := Lib.hid (show ∀ V, Below W.heap.size W V → Rfit V K A n nv most vs s2 s3 AL m us from fun V h => (hr.below hbw).below h)
 have HG := Lib.hid hg
 clear hc hr hb1 hv1 hbw hg
 go_enter Try.func46, Try.ntmps46
 go_upto_region 1 with fail
 rw [← hW1]
 clear hW1
 go_upto_region 1 with fail
 refine wp_region_N [] (fun V => Below W.heap.size W V) (by kernel_rfl) ?_
 rw [← hW]
 have hH : Below W.heap.size W W := Below.refl _ _
 clear hW
 refine tk_ 0 (.pointer (some ⟨g, 0, none⟩)) [] rfl hH ?_ ?_
 ·intro V hV; go_simp
 try simp only [Act.put, lay_]
 refine wpAnyN_one (i := 1) (by kernel_rfl) rfl (fun Kq hKq => ?_)
 go_simp
 refine ((show Calls Try.prog 62 #[pp g 0] _ (fun e w' => e = .returned (.bool false) ∧ Below _ _ w') by have q := goesOn_ _ g K A n c A1 nv c1 most bg s1 s2 s3 s4 AL m cL (HC.out.below hH HC.out.lt) vs us (HR.out _ hH); rw [HG.out] at q; exact q)).mono ?_
 rintro e V1 ⟨rfl, hb⟩
 replace hH := hH.trans (hb.mono hH.size)
 clear hb
 go_wp2_with fail
 refine hKq.out _ _ (.inr hH) ?_
 clear hKq Kq
 try simp only [Act.put, lay_]
 refine tk_ 2 (.bool true) [] rfl hH ?_ ?_
 ·intro V hV; go_simp
 try simp only [Act.put, lay_]
 refine tk_ 3 (.bool true) [] rfl hH ?_ ?_
 ·intro V hV; go_simp
 try simp only [Act.put, lay_]
 refine wpAnyN_take (i := 4) (v := undef) [] (by kernel_rfl) rfl (by kernel_rfl) (by kernel_rfl) (by kernel_rfl) (fun _ _ _ h => h) (Or.inr ⟨by rfl, rfl⟩) hH ?_
 try simp only [Act.put, lay_]
 refine wpAnyN_take (i := 5) (v := undef) [] (by kernel_rfl) rfl (by kernel_rfl) (by kernel_rfl) (by kernel_rfl) (fun _ _ _ h => h) (Or.inr ⟨by rfl, rfl⟩) hH ?_
 try simp only [Act.put, lay_]
 refine wpAnyN_take (i := 6) (v := undef) [] (by kernel_rfl) rfl (by kernel_rfl) (by kernel_rfl) (by kernel_rfl) (fun _ _ _ h => h) (Or.inr ⟨by rfl, rfl⟩) hH ?_
 try simp only [Act.put, lay_]
 refine wpAnyN_take (i := 7) (v := undef) [] (by kernel_rfl) rfl (by kernel_rfl) (by kernel_rfl) (by kernel_rfl) (fun _ _ _ h => h) (Or.inr ⟨by rfl, rfl⟩) hH ?_
 try simp only [Act.put, lay_]
 refine wpAnyN_take (i := 8) (v := undef) [] (by kernel_rfl) rfl (by kernel_rfl) (by kernel_rfl) (by kernel_rfl) (fun _ _ _ h => h) (Or.inr ⟨by rfl, rfl⟩) hH ?_
 try simp only [Act.put, lay_]
 refine wpAnyN_take (i := 9) (v := undef) [] (by kernel_rfl) rfl (by kernel_rfl) (by kernel_rfl) (by kernel_rfl) (fun _ _ _ h => h) (Or.inr ⟨by rfl, rfl⟩) hH ?_
 try simp only [Act.put, lay_]
 refine wpAnyN_take (i := 10) (v := undef) [] (by kernel_rfl) rfl (by kernel_rfl) (by kernel_rfl) (by kernel_rfl) (fun _ _ _ h => h) (Or.inr ⟨by rfl, rfl⟩) hH ?_
 try simp only [Act.put, lay_]
 refine wpAnyN_take (i := 11) (v := undef) [] (by kernel_rfl) rfl (by kernel_rfl) (by kernel_rfl) (by kernel_rfl) (fun _ _ _ h => h) (Or.inr ⟨by rfl, rfl⟩) hH ?_
 try simp only [Act.put, lay_]
 refine tk_ 12 (.bool true) [] rfl hH ?_ ?_
 ·intro V hV; go_simp
 try simp only [Act.put, lay_]
 refine tk_ 13 (.bool true) [] rfl hH ?_ ?_
 ·intro V hV; go_simp
 try simp only [Act.put, lay_]
 refine wpAnyN_take (i := 14) (v := undef) [] (by kernel_rfl) rfl (by kernel_rfl) (by kernel_rfl) (by kernel_rfl) (fun _ _ _ h => h) (Or.inr ⟨by rfl, rfl⟩) hH ?_
 try simp only [Act.put, lay_]
 refine wpAnyN_take (i := 15) (v := undef) [] (by kernel_rfl) rfl (by kernel_rfl) (by kernel_rfl) (by kernel_rfl) (fun _ _ _ h => h) (Or.inr ⟨by rfl, rfl⟩) hH ?_
 try simp only [Act.put, lay_]
 refine wpAnyN_take (i := 16) (v := undef) [] (by kernel_rfl) rfl (by kernel_rfl) (by kernel_rfl) (by kernel_rfl) (fun _ _ _ h => h) (Or.inr ⟨by rfl, rfl⟩) hH ?_
 try simp only [Act.put, lay_]
 refine wpAnyN_take (i := 17) (v := undef) [] (by kernel_rfl) rfl (by kernel_rfl) (by kernel_rfl) (by kernel_rfl) (fun _ _ _ h => h) (Or.inr ⟨by rfl, rfl⟩) hH ?_
 try simp only [Act.put, lay_]
 refine wpAnyN_take (i := 18) (v := undef) [] (by kernel_rfl) rfl (by kernel_rfl) (by kernel_rfl) (by kernel_rfl) (fun _ _ _ h => h) (Or.inr ⟨by rfl, rfl⟩) hH ?_
 try simp only [Act.put, lay_]
 refine wpAnyN_take (i := 19) (v := undef) [] (by kernel_rfl) rfl (by kernel_rfl) (by kernel_rfl) (by kernel_rfl) (fun _ _ _ h => h) (Or.inr ⟨by rfl, rfl⟩) hH ?_
 try simp only [Act.put, lay_]
 refine tk_ 20 (.bool true) [] rfl hH ?_ ?_
 ·intro V hV; go_simp
 try simp only [Act.put, lay_]
 refine tk_ 21 (.bool true) [] rfl hH ?_ ?_
 ·intro V hV; go_simp
 try simp only [Act.put, lay_]
 refine wpAnyN_take (i := 22) (v := undef) [] (by kernel_rfl) rfl (by kernel_rfl) (by kernel_rfl) (by kernel_rfl) (fun _ _ _ h => h) (Or.inr ⟨by rfl, rfl⟩) hH ?_
 try simp only [Act.put, lay_]
 refine wpAnyN_take (i := 23) (v := undef) [] (by kernel_rfl) rfl (by kernel_rfl) (by kernel_rfl) (by kernel_rfl) (fun _ _ _ h => h) (Or.inr ⟨by rfl, rfl⟩) hH ?_
 try simp only [Act.put, lay_]
 refine wpAnyN_take (i := 24) (v := undef) [] (by kernel_rfl) rfl (by kernel_rfl) (by kernel_rfl) (by kernel_rfl) (fun _ _ _ h => h) (Or.inr ⟨by rfl, rfl⟩) hH ?_
 try simp only [Act.put, lay_]
 refine wpAnyN_take (i := 25) (v := undef) [] (by kernel_rfl) rfl (by kernel_rfl) (by kernel_rfl) (by kernel_rfl) (fun _ _ _ h => h) (Or.inr ⟨by rfl, rfl⟩) hH ?_
 try simp only [Act.put, lay_]
 refine tk_ 26 (.bool true) [] rfl hH ?_ ?_
 ·intro V hV; go_simp
 try simp only [Act.put, lay_]
 refine wpAnyN_done (by kernel_rfl) ?_ _
 go_wp2_with fail
 go_ret
 exact ⟨rfl, HBW.out.trans (hH.mono HBW.out.size)⟩
def intB (f : Fs) (j : Nat) (s2 s3 : Int) (v : Rv) : Bool := (v.r.visit == s2) && (v.r.step == (j : Int)) && (v.r.try_ == s3) && !decide (f.try_ < s3)
theorem intent_on (K h : Nat) (bg : Bool) (j : Nat) (s2 s3 s4 : Int) (m cL : Nat) (hc : Cel w g 54 (rcells A n c A1 nv c1 most bg (j : Int) s2 s3 s4 (some ⟨h, 0, none⟩) m cL)) (vs : List Fs) (us : List Vt) (hr : Rfit w K A n nv most vs s2 s3 (some ⟨h, 0, none⟩) m us) (hg : onB bg (bok vs nv most) ⟨(j : Int), s2, s3, s4, txt us⟩ = true) (f : Fs) (hj : vs[j]? = some f) (v : Rv) (hs3 : -1 ≤ s3 ∧ s3 ≤ 100000000) :
  Calls Try.prog 45 #[pp g 0, .agg v.cells.toArray] w fun e w' => ∃ b, b = intB f j s2 s3 v ∧ e = .returned (.bool b) ∧ Frm [g] w w' ∧ (b = false → Below w.heap.size w w') ∧ (b = true → Cel w' g 54 (rcells A n c A1 nv c1 most bg (j : Int) s2 (s3 + 1) s4 (some ⟨h, 0, none⟩) m cL)) := by
 obtain ⟨AL, hAL⟩ : ∃ AL : Option Addr, AL = some ⟨h, 0, none⟩ := ⟨_, rfl⟩
 rw [← hAL] at hc hr ⊢
 clear hAL
 obtain ⟨T, hT⟩ : ∃ T, T = intB f j s2 s3 v := ⟨_, rfl⟩
 rw [← hT]
 unfold intB at hT
 have HT := Lib.hid hT
 have w3 : wrap64 (s3 + 1) = s3 + 1 := by unfold wrap64; omega
 have w4 : IntKind.i64.wrap (s3 + 1) = s3 + 1 := by rw [IntKind.wrap_i64]; omega
 obtain ⟨W1, hW1⟩ : ∃ W, W = w.alloc (.cells v.cells.toArray 42) := ⟨_, rfl⟩
 have hb1 : Below w.heap.size w W1 := by rw [hW1]; exact (Below.refl _ _).alloc (Nat.le_refl _) _
 have hv1 : Cel W1 w.heap.size 42 v.cells := by rw [hW1]; exact Cel.new w _ _
 obtain ⟨W, hW⟩ : ∃ W, W = W1.drew := ⟨_, rfl⟩
 have hbw : Below w.heap.size w W := by rw [hW]; exact hb1.drew
 have HBW := Lib.hid hbw
 have HC := Lib.hid (hc.below hbw hc.lt)
 have HV := Lib.hid (show Cel W w.heap.size 42 v.cells by rw [hW]; exact hv1.drew)
 have HR := Lib.hid (show ∀ V, Below W.heap.size W V → Rfit V K A n nv most vs s2 s3 AL m us from fun V h => (hr.below hbw).below h)
 have HG := Lib.hid hg
 have HJ := Lib.hid hj
 clear hc hr hb1 hv1 hbw hg hj hs3 hT
 go_enter Try.func45, Try.ntmps45
 go_upto_region 1 with fail
 rw [← hW1]
 clear hW1
 go_upto_region 2 with fail
 refine wp_region_N [] (fun V => Below W.heap.size W V) (by kernel_rfl) ?_
 rw [← hW]
 have hH : Below W.heap.size W W := Below.refl _ _
 clear hW
 refine tk_ 0 (.pointer (some ⟨g, 0, none⟩)) [] rfl hH ?_ ?_
 ·intro V hV; go_simp
 try simp only [Act.put, lay_]
 refine wpAnyN_one (i := 1) (by kernel_rfl) rfl (fun Kq hKq => ?_)
 go_simp
 refine ((show Calls Try.prog 62 #[pp g 0] _ (fun e w' => e = .returned (.bool true) ∧ Below _ _ w') by have q := goesOn_ _ g K A n c A1 nv c1 most bg (j : Int) s2 s3 s4 AL m cL (HC.out.below hH HC.out.lt) vs us (HR.out _ hH); rw [HG.out] at q; exact q)).mono ?_
 rintro e V1 ⟨rfl, hb⟩
 replace hH := hH.trans (hb.mono hH.size)
 clear hb
 go_wp2_with fail
 refine hKq.out _ _ (.inr hH) ?_
 clear hKq Kq
 try simp only [Act.put, lay_]
 refine tk_ 2 (.bool false) [] rfl hH ?_ ?_
 ·intro V hV; go_simp
 try simp only [Act.put, lay_]
 refine tk_ 3 (.bool false) [] rfl hH ?_ ?_
 ·intro V hV; go_simp
 try simp only [Act.put, lay_]
 refine tk_ 4 (.pointer (some ⟨w.heap.size, 6, none⟩)) [] rfl hH ?_ ?_
 ·intro V hV; go_simp
 try simp only [Act.put, lay_]
 refine tk_ 5 (.int .i64 v.r.visit) [] rfl hH ?_ ?_
 ·intro V hV; have hc := HV.out.below hV HV.out.lt; have k0 : V.cell? ⟨w.heap.size, 6, none⟩ = some (.int .i64 v.r.visit) := hc.cell 6; clear hc; go_simp
 try simp only [Act.put, lay_]
 refine tk_ 6 (.pointer (some ⟨g, 4, none⟩)) [] rfl hH ?_ ?_
 ·intro V hV; go_simp
 try simp only [Act.put, lay_]
 refine tk_ 7 (.pointer (some ⟨g, 4, none⟩)) [] rfl hH ?_ ?_
 ·intro V hV; go_simp
 try simp only [Act.put, lay_]
 refine tk_ 8 (.pointer (some ⟨g, 5, none⟩)) [] rfl hH ?_ ?_
 ·intro V hV; go_simp
 try simp only [Act.put, lay_]
 refine tk_ 9 (.int .i64 s2) [] rfl hH ?_ ?_
 ·intro V hV; have hc := HC.out.below hV HC.out.lt; have k0 : V.cell? ⟨g, 5, none⟩ = some (.int .i64 s2) := hc.cell 5; clear hc; go_simp
 try simp only [Act.put, lay_]
 cases hz10 : (v.r.visit == s2) with
 | true =>
  refine tk_ 10 (.bool false) [] rfl hH ?_ ?_
  ·intro V hV; have hzn : (v.r.visit != s2) = false := (by simpa using hz10); go_simp
  try simp only [Act.put, lay_]
  refine tk_ 11 (.bool false) [] rfl hH ?_ ?_
  ·intro V hV; go_simp
  try simp only [Act.put, lay_]
  refine tk_ 12 (.bool false) [] rfl hH ?_ ?_
  ·intro V hV; go_simp
  try simp only [Act.put, lay_]
  refine tk_ 13 (.pointer (some ⟨w.heap.size, 7, none⟩)) [] rfl hH ?_ ?_
  ·intro V hV; go_simp
  try simp only [Act.put, lay_]
  refine tk_ 14 (.int .i64 v.r.step) [] rfl hH ?_ ?_
  ·intro V hV; have hc := HV.out.below hV HV.out.lt; have k0 : V.cell? ⟨w.heap.size, 7, none⟩ = some (.int .i64 v.r.step) := hc.cell 7; clear hc; go_simp
  try simp only [Act.put, lay_]
  refine tk_ 15 (.pointer (some ⟨g, 4, none⟩)) [] rfl hH ?_ ?_
  ·intro V hV; go_simp
  try simp only [Act.put, lay_]
  refine tk_ 16 (.pointer (some ⟨g, 4, none⟩)) [] rfl hH ?_ ?_
  ·intro V hV; go_simp
  try simp only [Act.put, lay_]
  refine tk_ 17 (.pointer (some ⟨g, 4, none⟩)) [] rfl hH ?_ ?_
  ·intro V hV; go_simp
  try simp only [Act.put, lay_]
  refine tk_ 18 (.int .i64 (j : Int)) [] rfl hH ?_ ?_
  ·intro V hV; have hc := HC.out.below hV HC.out.lt; have k0 : V.cell? ⟨g, 4, none⟩ = some (.int .i64 (j : Int)) := hc.cell 4; clear hc; go_simp
  try simp only [Act.put, lay_]
  cases hz19 : (v.r.step == (j : Int)) with
  | true =>
   refine tk_ 19 (.bool false) [] rfl hH ?_ ?_
   ·intro V hV; have hzn : (v.r.step != (j : Int)) = false := (by simpa using hz19); go_simp
   try simp only [Act.put, lay_]
   refine tk_ 20 (.bool false) [] rfl hH ?_ ?_
   ·intro V hV; go_simp
   try simp only [Act.put, lay_]
   refine tk_ 21 (.bool false) [] rfl hH ?_ ?_
   ·intro V hV; go_simp
   try simp only [Act.put, lay_]
   refine tk_ 22 (.pointer (some ⟨w.heap.size, 8, none⟩)) [] rfl hH ?_ ?_
   ·intro V hV; go_simp
   try simp only [Act.put, lay_]
   refine tk_ 23 (.int .i64 v.r.try_) [] rfl hH ?_ ?_
   ·intro V hV; have hc := HV.out.below hV HV.out.lt; have k0 : V.cell? ⟨w.heap.size, 8, none⟩ = some (.int .i64 v.r.try_) := hc.cell 8; clear hc; go_simp
   try simp only [Act.put, lay_]
   refine tk_ 24 (.pointer (some ⟨g, 4, none⟩)) [] rfl hH ?_ ?_
   ·intro V hV; go_simp
   try simp only [Act.put, lay_]
   refine tk_ 25 (.pointer (some ⟨g, 4, none⟩)) [] rfl hH ?_ ?_
   ·intro V hV; go_simp
   try simp only [Act.put, lay_]
   refine tk_ 26 (.pointer (some ⟨g, 6, none⟩)) [] rfl hH ?_ ?_
   ·intro V hV; go_simp
   try simp only [Act.put, lay_]
   refine tk_ 27 (.int .i64 s3) [] rfl hH ?_ ?_
   ·intro V hV; have hc := HC.out.below hV HC.out.lt; have k0 : V.cell? ⟨g, 6, none⟩ = some (.int .i64 s3) := hc.cell 6; clear hc; go_simp
   try simp only [Act.put, lay_]
   cases hz28 : (v.r.try_ == s3) with
   | true =>
    refine tk_ 28 (.bool false) [] rfl hH ?_ ?_
    ·intro V hV; have hzn : (v.r.try_ != s3) = false := (by simpa using hz28); go_simp
    try simp only [Act.put, lay_]
    refine tk_ 29 (.bool false) [] rfl hH ?_ ?_
    ·intro V hV; go_simp
    try simp only [Act.put, lay_]
    refine tk_ 30 (.bool false) [] rfl hH ?_ ?_
    ·intro V hV; go_simp
    try simp only [Act.put, lay_]
    refine tk_ 31 (.pointer (some ⟨g, 4, none⟩)) [] rfl hH ?_ ?_
    ·intro V hV; go_simp
    try simp only [Act.put, lay_]
    refine tk_ 32 (.pointer (some ⟨g, 4, none⟩)) [] rfl hH ?_ ?_
    ·intro V hV; go_simp
    try simp only [Act.put, lay_]
    refine tk_ 33 (.pointer (some ⟨g, 6, none⟩)) [] rfl hH ?_ ?_
    ·intro V hV; go_simp
    try simp only [Act.put, lay_]
    refine tk_ 34 (.int .i64 s3) [] rfl hH ?_ ?_
    ·intro V hV; have hc := HC.out.below hV HC.out.lt; have k0 : V.cell? ⟨g, 6, none⟩ = some (.int .i64 s3) := hc.cell 6; clear hc; go_simp
    try simp only [Act.put, lay_]
    refine tk_ 35 (.pointer (some ⟨g, 0, none⟩)) [] rfl hH ?_ ?_
    ·intro V hV; go_simp
    try simp only [Act.put, lay_]
    refine wpAnyN_one (i := 36) (by kernel_rfl) rfl (fun Kq hKq => ?_)
    go_simp
    refine (pstep_ _ g A n c A1 nv c1 most bg j s2 s3 s4 AL m cL (HC.out.below hH HC.out.lt) vs (HR.out _ hH).bk (HR.out _ hH).fit.len f HJ.out).mono ?_
    rintro e V2 ⟨rfl, hb⟩
    replace hH := hH.trans (hb.mono hH.size)
    clear hb
    go_wp2_with fail
    refine hKq.out _ _ (.inr hH) ?_
    clear hKq Kq
    try simp only [Act.put, lay_]
    refine tk_ 37 (.int .i64 f.try_) [] rfl hH ?_ ?_
    ·intro V hV; have fl := fld_try; go_simp
    try simp only [Act.put, lay_]
    cases hz38 : (decide (f.try_ < s3)) with
    | true =>
     refine tk_ 38 (.bool true) [] rfl hH ?_ ?_
     ·intro V hV; go_simp
     try simp only [Act.put, lay_]
     refine tk_ 39 (.bool true) [] rfl hH ?_ ?_
     ·intro V hV; go_simp
     try simp only [Act.put, lay_]
     refine wpAnyN_done (by kernel_rfl) ?_ _
     go_wp2_with fail
     go_ret
     exact ⟨false, by rw [HT.out, hz10, hz19, hz28, hz38]; first | rfl | simp, rfl, (Frm.of_below HBW.out).trans (Frm.of_below hH), fun _ => HBW.out.trans (hH.mono HBW.out.size), fun q => (by cases q)⟩
    | false =>
     refine tk_ 38 (.bool false) [] rfl hH ?_ ?_
     ·intro V hV; go_simp
     try simp only [Act.put, lay_]
     refine tk_ 39 (.bool false) [] rfl hH ?_ ?_
     ·intro V hV; go_simp
     try simp only [Act.put, lay_]
     refine wpAnyN_done (by kernel_rfl) ?_ _
     have kc := HC.out.below hH HC.out.lt
     have k6 := kc.cell 6
     have f6 := kc.free 6
     have HKC := Lib.hid (show Cel (V2.setCell ⟨g, 6, none⟩ (.int .i64 (s3 + 1))) g 54 (rcells A n c A1 nv c1 most bg (j : Int) s2 (s3 + 1) s4 AL m cL) from kc.set 6 _)
     have HFR := Lib.hid (show Frm [g] V2 (V2.setCell ⟨g, 6, none⟩ (.int .i64 (s3 + 1))) from (Frm.refl _ _).set (by simp) _)
     clear kc
     go_wp2_with fail
     go_ret
     exact ⟨true, by rw [HT.out, hz10, hz19, hz28, hz38]; rfl, rfl, ((Frm.of_below HBW.out).trans (Frm.of_below hH)).trans HFR.out, fun q => (by cases q), fun _ => HKC.out⟩
   | false =>
    refine tk_ 28 (.bool true) [] rfl hH ?_ ?_
    ·intro V hV; have hzn : (v.r.try_ != s3) = true := (by simpa using hz28); go_simp
    try simp only [Act.put, lay_]
    refine tk_ 29 (.bool true) [] rfl hH ?_ ?_
    ·intro V hV; go_simp
    try simp only [Act.put, lay_]
    refine tk_ 30 (.bool true) [] rfl hH ?_ ?_
    ·intro V hV; go_simp
    try simp only [Act.put, lay_]
    refine wpAnyN_take (i := 31) (v := undef) [] (by kernel_rfl) rfl (by kernel_rfl) (by kernel_rfl) (by kernel_rfl) (fun _ _ _ h => h) (Or.inr ⟨by rfl, rfl⟩) hH ?_
    try simp only [Act.put, lay_]
    refine wpAnyN_take (i := 32) (v := undef) [] (by kernel_rfl) rfl (by kernel_rfl) (by kernel_rfl) (by kernel_rfl) (fun _ _ _ h => h) (Or.inr ⟨by rfl, rfl⟩) hH ?_
    try simp only [Act.put, lay_]
    refine wpAnyN_take (i := 33) (v := undef) [] (by kernel_rfl) rfl (by kernel_rfl) (by kernel_rfl) (by kernel_rfl) (fun _ _ _ h => h) (Or.inr ⟨by rfl, rfl⟩) hH ?_
    try simp only [Act.put, lay_]
    refine wpAnyN_take (i := 34) (v := undef) [] (by kernel_rfl) rfl (by kernel_rfl) (by kernel_rfl) (by kernel_rfl) (fun _ _ _ h => h) (Or.inr ⟨by rfl, rfl⟩) hH ?_
    try simp only [Act.put, lay_]
    refine wpAnyN_take (i := 35) (v := undef) [] (by kernel_rfl) rfl (by kernel_rfl) (by kernel_rfl) (by kernel_rfl) (fun _ _ _ h => h) (Or.inr ⟨by rfl, rfl⟩) hH ?_
    try simp only [Act.put, lay_]
    refine wpAnyN_take (i := 36) (v := undef) [] (by kernel_rfl) rfl (by kernel_rfl) (by kernel_rfl) (by kernel_rfl) (fun _ _ _ h => h) (Or.inr ⟨by rfl, rfl⟩) hH ?_
    try simp only [Act.put, lay_]
    refine wpAnyN_take (i := 37) (v := undef) [] (by kernel_rfl) rfl (by kernel_rfl) (by kernel_rfl) (by kernel_rfl) (fun _ _ _ h => h) (Or.inr ⟨by rfl, rfl⟩) hH ?_
    try simp only [Act.put, lay_]
    refine wpAnyN_take (i := 38) (v := undef) [] (by kernel_rfl) rfl (by kernel_rfl) (by kernel_rfl) (by kernel_rfl) (fun _ _ _ h => h) (Or.inr ⟨by rfl, rfl⟩) hH ?_
    try simp only [Act.put, lay_]
    refine tk_ 39 (.bool true) [] rfl hH ?_ ?_
    ·intro V hV; go_simp
    try simp only [Act.put, lay_]
    refine wpAnyN_done (by kernel_rfl) ?_ _
    go_wp2_with fail
    go_ret
    exact ⟨false, by rw [HT.out, hz10, hz19, hz28]; first | rfl | simp, rfl, (Frm.of_below HBW.out).trans (Frm.of_below hH), fun _ => HBW.out.trans (hH.mono HBW.out.size), fun q => (by cases q)⟩
  | false =>
   refine tk_ 19 (.bool true) [] rfl hH ?_ ?_
   ·intro V hV; have hzn : (v.r.step != (j : Int)) = true := (by simpa using hz19); go_simp
   try simp only [Act.put, lay_]
   refine tk_ 20 (.bool true) [] rfl hH ?_ ?_
   ·intro V hV; go_simp
   try simp only [Act.put, lay_]
   refine tk_ 21 (.bool true) [] rfl hH ?_ ?_
   ·intro V hV; go_simp
   try simp only [Act.put, lay_]
   refine wpAnyN_take (i := 22) (v := undef) [] (by kernel_rfl) rfl (by kernel_rfl) (by kernel_rfl) (by kernel_rfl) (fun _ _ _ h => h) (Or.inr ⟨by rfl, rfl⟩) hH ?_
   try simp only [Act.put, lay_]
   refine wpAnyN_take (i := 23) (v := undef) [] (by kernel_rfl) rfl (by kernel_rfl) (by kernel_rfl) (by kernel_rfl) (fun _ _ _ h => h) (Or.inr ⟨by rfl, rfl⟩) hH ?_
   try simp only [Act.put, lay_]
   refine wpAnyN_take (i := 24) (v := undef) [] (by kernel_rfl) rfl (by kernel_rfl) (by kernel_rfl) (by kernel_rfl) (fun _ _ _ h => h) (Or.inr ⟨by rfl, rfl⟩) hH ?_
   try simp only [Act.put, lay_]
   refine wpAnyN_take (i := 25) (v := undef) [] (by kernel_rfl) rfl (by kernel_rfl) (by kernel_rfl) (by kernel_rfl) (fun _ _ _ h => h) (Or.inr ⟨by rfl, rfl⟩) hH ?_
   try simp only [Act.put, lay_]
   refine wpAnyN_take (i := 26) (v := undef) [] (by kernel_rfl) rfl (by kernel_rfl) (by kernel_rfl) (by kernel_rfl) (fun _ _ _ h => h) (Or.inr ⟨by rfl, rfl⟩) hH ?_
   try simp only [Act.put, lay_]
   refine wpAnyN_take (i := 27) (v := undef) [] (by kernel_rfl) rfl (by kernel_rfl) (by kernel_rfl) (by kernel_rfl) (fun _ _ _ h => h) (Or.inr ⟨by rfl, rfl⟩) hH ?_
   try simp only [Act.put, lay_]
   refine wpAnyN_take (i := 28) (v := undef) [] (by kernel_rfl) rfl (by kernel_rfl) (by kernel_rfl) (by kernel_rfl) (fun _ _ _ h => h) (Or.inr ⟨by rfl, rfl⟩) hH ?_
   try simp only [Act.put, lay_]
   refine tk_ 29 (.bool true) [] rfl hH ?_ ?_
   ·intro V hV; go_simp
   try simp only [Act.put, lay_]
   refine tk_ 30 (.bool true) [] rfl hH ?_ ?_
   ·intro V hV; go_simp
   try simp only [Act.put, lay_]
   refine wpAnyN_take (i := 31) (v := undef) [] (by kernel_rfl) rfl (by kernel_rfl) (by kernel_rfl) (by kernel_rfl) (fun _ _ _ h => h) (Or.inr ⟨by rfl, rfl⟩) hH ?_
   try simp only [Act.put, lay_]
   refine wpAnyN_take (i := 32) (v := undef) [] (by kernel_rfl) rfl (by kernel_rfl) (by kernel_rfl) (by kernel_rfl) (fun _ _ _ h => h) (Or.inr ⟨by rfl, rfl⟩) hH ?_
   try simp only [Act.put, lay_]
   refine wpAnyN_take (i := 33) (v := undef) [] (by kernel_rfl) rfl (by kernel_rfl) (by kernel_rfl) (by kernel_rfl) (fun _ _ _ h => h) (Or.inr ⟨by rfl, rfl⟩) hH ?_
   try simp only [Act.put, lay_]
   refine wpAnyN_take (i := 34) (v := undef) [] (by kernel_rfl) rfl (by kernel_rfl) (by kernel_rfl) (by kernel_rfl) (fun _ _ _ h => h) (Or.inr ⟨by rfl, rfl⟩) hH ?_
   try simp only [Act.put, lay_]
   refine wpAnyN_take (i := 35) (v := undef) [] (by kernel_rfl) rfl (by kernel_rfl) (by kernel_rfl) (by kernel_rfl) (fun _ _ _ h => h) (Or.inr ⟨by rfl, rfl⟩) hH ?_
   try simp only [Act.put, lay_]
   refine wpAnyN_take (i := 36) (v := undef) [] (by kernel_rfl) rfl (by kernel_rfl) (by kernel_rfl) (by kernel_rfl) (fun _ _ _ h => h) (Or.inr ⟨by rfl, rfl⟩) hH ?_
   try simp only [Act.put, lay_]
   refine wpAnyN_take (i := 37) (v := undef) [] (by kernel_rfl) rfl (by kernel_rfl) (by kernel_rfl) (by kernel_rfl) (fun _ _ _ h => h) (Or.inr ⟨by rfl, rfl⟩) hH ?_
   try simp only [Act.put, lay_]
   refine wpAnyN_take (i := 38) (v := undef) [] (by kernel_rfl) rfl (by kernel_rfl) (by kernel_rfl) (by kernel_rfl) (fun _ _ _ h => h) (Or.inr ⟨by rfl, rfl⟩) hH ?_
   try simp only [Act.put, lay_]
   refine tk_ 39 (.bool true) [] rfl hH ?_ ?_
   ·intro V hV; go_simp
   try simp only [Act.put, lay_]
   refine wpAnyN_done (by kernel_rfl) ?_ _
   go_wp2_with fail
   go_ret
   exact ⟨false, by rw [HT.out, hz10, hz19]; first | rfl | simp, rfl, (Frm.of_below HBW.out).trans (Frm.of_below hH), fun _ => HBW.out.trans (hH.mono HBW.out.size), fun q => (by cases q)⟩
 | false =>
  refine tk_ 10 (.bool true) [] rfl hH ?_ ?_
  ·intro V hV; have hzn : (v.r.visit != s2) = true := (by simpa using hz10); go_simp
  try simp only [Act.put, lay_]
  refine tk_ 11 (.bool true) [] rfl hH ?_ ?_
  ·intro V hV; go_simp
  try simp only [Act.put, lay_]
  refine tk_ 12 (.bool true) [] rfl hH ?_ ?_
  ·intro V hV; go_simp
  try simp only [Act.put, lay_]
  refine wpAnyN_take (i := 13) (v := undef) [] (by kernel_rfl) rfl (by kernel_rfl) (by kernel_rfl) (by kernel_rfl) (fun _ _ _ h => h) (Or.inr ⟨by rfl, rfl⟩) hH ?_
  try simp only [Act.put, lay_]
  refine wpAnyN_take (i := 14) (v := undef) [] (by kernel_rfl) rfl (by kernel_rfl) (by kernel_rfl) (by kernel_rfl) (fun _ _ _ h => h) (Or.inr ⟨by rfl, rfl⟩) hH ?_
  try simp only [Act.put, lay_]
  refine wpAnyN_take (i := 15) (v := undef) [] (by kernel_rfl) rfl (by kernel_rfl) (by kernel_rfl) (by kernel_rfl) (fun _ _ _ h => h) (Or.inr ⟨by rfl, rfl⟩) hH ?_
  try simp only [Act.put, lay_]
  refine wpAnyN_take (i := 16) (v := undef) [] (by kernel_rfl) rfl (by kernel_rfl) (by kernel_rfl) (by kernel_rfl) (fun _ _ _ h => h) (Or.inr ⟨by rfl, rfl⟩) hH ?_
  try simp only [Act.put, lay_]
  refine wpAnyN_take (i := 17) (v := undef) [] (by kernel_rfl) rfl (by kernel_rfl) (by kernel_rfl) (by kernel_rfl) (fun _ _ _ h => h) (Or.inr ⟨by rfl, rfl⟩) hH ?_
  try simp only [Act.put, lay_]
  refine wpAnyN_take (i := 18) (v := undef) [] (by kernel_rfl) rfl (by kernel_rfl) (by kernel_rfl) (by kernel_rfl) (fun _ _ _ h => h) (Or.inr ⟨by rfl, rfl⟩) hH ?_
  try simp only [Act.put, lay_]
  refine wpAnyN_take (i := 19) (v := undef) [] (by kernel_rfl) rfl (by kernel_rfl) (by kernel_rfl) (by kernel_rfl) (fun _ _ _ h => h) (Or.inr ⟨by rfl, rfl⟩) hH ?_
  try simp only [Act.put, lay_]
  refine tk_ 20 (.bool true) [] rfl hH ?_ ?_
  ·intro V hV; go_simp
  try simp only [Act.put, lay_]
  refine tk_ 21 (.bool true) [] rfl hH ?_ ?_
  ·intro V hV; go_simp
  try simp only [Act.put, lay_]
  refine wpAnyN_take (i := 22) (v := undef) [] (by kernel_rfl) rfl (by kernel_rfl) (by kernel_rfl) (by kernel_rfl) (fun _ _ _ h => h) (Or.inr ⟨by rfl, rfl⟩) hH ?_
  try simp only [Act.put, lay_]
  refine wpAnyN_take (i := 23) (v := undef) [] (by kernel_rfl) rfl (by kernel_rfl) (by kernel_rfl) (by kernel_rfl) (fun _ _ _ h => h) (Or.inr ⟨by rfl, rfl⟩) hH ?_
  try simp only [Act.put, lay_]
  refine wpAnyN_take (i := 24) (v := undef) [] (by kernel_rfl) rfl (by kernel_rfl) (by kernel_rfl) (by kernel_rfl) (fun _ _ _ h => h) (Or.inr ⟨by rfl, rfl⟩) hH ?_
  try simp only [Act.put, lay_]
  refine wpAnyN_take (i := 25) (v := undef) [] (by kernel_rfl) rfl (by kernel_rfl) (by kernel_rfl) (by kernel_rfl) (fun _ _ _ h => h) (Or.inr ⟨by rfl, rfl⟩) hH ?_
  try simp only [Act.put, lay_]
  refine wpAnyN_take (i := 26) (v := undef) [] (by kernel_rfl) rfl (by kernel_rfl) (by kernel_rfl) (by kernel_rfl) (fun _ _ _ h => h) (Or.inr ⟨by rfl, rfl⟩) hH ?_
  try simp only [Act.put, lay_]
  refine wpAnyN_take (i := 27) (v := undef) [] (by kernel_rfl) rfl (by kernel_rfl) (by kernel_rfl) (by kernel_rfl) (fun _ _ _ h => h) (Or.inr ⟨by rfl, rfl⟩) hH ?_
  try simp only [Act.put, lay_]
  refine wpAnyN_take (i := 28) (v := undef) [] (by kernel_rfl) rfl (by kernel_rfl) (by kernel_rfl) (by kernel_rfl) (fun _ _ _ h => h) (Or.inr ⟨by rfl, rfl⟩) hH ?_
  try simp only [Act.put, lay_]
  refine tk_ 29 (.bool true) [] rfl hH ?_ ?_
  ·intro V hV; go_simp
  try simp only [Act.put, lay_]
  refine tk_ 30 (.bool true) [] rfl hH ?_ ?_
  ·intro V hV; go_simp
  try simp only [Act.put, lay_]
  refine wpAnyN_take (i := 31) (v := undef) [] (by kernel_rfl) rfl (by kernel_rfl) (by kernel_rfl) (by kernel_rfl) (fun _ _ _ h => h) (Or.inr ⟨by rfl, rfl⟩) hH ?_
  try simp only [Act.put, lay_]
  refine wpAnyN_take (i := 32) (v := undef) [] (by kernel_rfl) rfl (by kernel_rfl) (by kernel_rfl) (by kernel_rfl) (fun _ _ _ h => h) (Or.inr ⟨by rfl, rfl⟩) hH ?_
  try simp only [Act.put, lay_]
  refine wpAnyN_take (i := 33) (v := undef) [] (by kernel_rfl) rfl (by kernel_rfl) (by kernel_rfl) (by kernel_rfl) (fun _ _ _ h => h) (Or.inr ⟨by rfl, rfl⟩) hH ?_
  try simp only [Act.put, lay_]
  refine wpAnyN_take (i := 34) (v := undef) [] (by kernel_rfl) rfl (by kernel_rfl) (by kernel_rfl) (by kernel_rfl) (fun _ _ _ h => h) (Or.inr ⟨by rfl, rfl⟩) hH ?_
  try simp only [Act.put, lay_]
  refine wpAnyN_take (i := 35) (v := undef) [] (by kernel_rfl) rfl (by kernel_rfl) (by kernel_rfl) (by kernel_rfl) (fun _ _ _ h => h) (Or.inr ⟨by rfl, rfl⟩) hH ?_
  try simp only [Act.put, lay_]
  refine wpAnyN_take (i := 36) (v := undef) [] (by kernel_rfl) rfl (by kernel_rfl) (by kernel_rfl) (by kernel_rfl) (fun _ _ _ h => h) (Or.inr ⟨by rfl, rfl⟩) hH ?_
  try simp only [Act.put, lay_]
  refine wpAnyN_take (i := 37) (v := undef) [] (by kernel_rfl) rfl (by kernel_rfl) (by kernel_rfl) (by kernel_rfl) (fun _ _ _ h => h) (Or.inr ⟨by rfl, rfl⟩) hH ?_
  try simp only [Act.put, lay_]
  refine wpAnyN_take (i := 38) (v := undef) [] (by kernel_rfl) rfl (by kernel_rfl) (by kernel_rfl) (by kernel_rfl) (fun _ _ _ h => h) (Or.inr ⟨by rfl, rfl⟩) hH ?_
  try simp only [Act.put, lay_]
  refine tk_ 39 (.bool true) [] rfl hH ?_ ?_
  ·intro V hV; go_simp
  try simp only [Act.put, lay_]
  refine wpAnyN_done (by kernel_rfl) ?_ _
  go_wp2_with fail
  go_ret
  exact ⟨false, by rw [HT.out, hz10]; first | rfl | simp, rfl, (Frm.of_below HBW.out).trans (Frm.of_below hH), fun _ => HBW.out.trans (hH.mono HBW.out.size), fun q => (by cases q)⟩
def outB (f : Fs) (n nv : Nat) (s2 s3 s4 : Int) (v : Rv) : Bool := (v.r.visit == s2) && !(s3 == 0) && possB f n nv s4 v
theorem outcome_on (K h : Nat) (bg : Bool) (j : Nat) (s2 s3 s4 : Int) (m cL : Nat) (hc : Cel w g 54 (rcells A n c A1 nv c1 most bg (j : Int) s2 s3 s4 (some ⟨h, 0, none⟩) m cL)) (vs : List Fs) (us : List Vt) (hr : Rfit w K A n nv most vs s2 s3 (some ⟨h, 0, none⟩) m us) (hg : onB bg (bok vs nv most) ⟨(j : Int), s2, s3, s4, txt us⟩ = true) (f : Fs) (hj : vs[j]? = some f) (v : Rv) (hrow : Rrow w h us) (hs2 : 1 ≤ s2 ∧ s2 ≤ 1000000) (hm : m ≤ 100000) (hmn : m = nv) (hv : Tx w K v.AV v.r.value) (hvl : v.r.value.length ≤ 1000) (hK : K ≤ g ∧ K ≤ h) (hto : -3 ≤ v.r.to) (hva : -1 ≤ v.r.var) :
  Calls Try.prog 46 #[pp g 0, .agg v.cells.toArray] w fun e w' => ∃ b, b = outB f n nv s2 s3 s4 v ∧ e = .returned (.bool b) ∧ (b = false → Below w.heap.size w w') ∧ (b = true → Frm [g, h] w w' ∧ LvSays w' g h A n c A1 nv c1 most bg (goR (bok vs nv most) ⟨(j : Int), s2, s3, s4, txt us⟩ v.r.to v.r.off v.r.var v.r.value) m cL (.returned (.tuple #[])) w') := by
 obtain ⟨AL, hAL⟩ : ∃ AL : Option Addr, AL = some ⟨h, 0, none⟩ := ⟨_, rfl⟩
 have HAL := Lib.hid hAL
 rw [← hAL] at hc hr
 clear hAL
 obtain ⟨T, hT⟩ : ∃ T, T = outB f n nv s2 s3 s4 v := ⟨_, rfl⟩
 rw [← hT]
 unfold outB at hT
 obtain ⟨b2, hb_2⟩ : ∃ b, b = possB f n nv s4 v := ⟨_, rfl⟩
 rw [← hb_2] at hT
 have E2 := Lib.hid hb_2
 have HT := Lib.hid hT
 obtain ⟨W1, hW1⟩ : ∃ W, W = w.alloc (.cells v.cells.toArray 42) := ⟨_, rfl⟩
 have hb1 : Below w.heap.size w W1 := by rw [hW1]; exact (Below.refl _ _).alloc (Nat.le_refl _) _
 have hv1 : Cel W1 w.heap.size 42 v.cells := by rw [hW1]; exact Cel.new w _ _
 obtain ⟨W, hW⟩ : ∃ W, W = W1.drew := ⟨_, rfl⟩
 have hbw : Below w.heap.size w W := by rw [hW]; exact hb1.drew
 have HBW := Lib.hid hbw
 have HC := Lib.hid (hc.below hbw hc.lt)
 have HV := Lib.hid (show Cel W w.heap.size 42 v.cells by rw [hW]; exact hv1.drew)
 have HR := Lib.hid (show ∀ V, Below W.heap.size W V → Rfit V K A n nv most vs s2 s3 AL m us from fun V h => (hr.below hbw).below h)
 have HG := Lib.hid hg
 have HJ := Lib.hid hj
 have HRW := Lib.hid (show ∀ V, Below W.heap.size W V → Rrow V h us from fun V h => (hrow.below hbw).below h)
 have HX := Lib.hid (show ∀ V, Below W.heap.size W V → Tx V K v.AV v.r.value from fun V h => (hv.below hr.low hbw).below (Nat.le_trans hr.low hbw.size) h)
 have HS2 := Lib.hid hs2
 have HM := Lib.hid hm
 have HMN := Lib.hid hmn
 have HVL := Lib.hid hvl
 have HKK := Lib.hid hK
 have HTO := Lib.hid hto
 have HVA := Lib.hid hva
 clear hc hr hb1 hv1 hbw hg hj hs2 hm hmn hrow hv hvl hK hto hva hT hb_2
 go_enter Try.func46, Try.ntmps46
 go_upto_region 1 with fail
 rw [← hW1]
 clear hW1
 go_upto_region 1 with fail
 refine wp_region_N [] (fun V => Below W.heap.size W V) (by kernel_rfl) ?_
 rw [← hW]
 have hH : Below W.heap.size W W := Below.refl _ _
 clear hW
 refine tk_ 0 (.pointer (some ⟨g, 0, none⟩)) [] rfl hH ?_ ?_
 ·intro V hV; go_simp
 try simp only [Act.put, lay_]
 refine wpAnyN_one (i := 1) (by kernel_rfl) rfl (fun Kq hKq => ?_)
 go_simp
 refine ((show Calls Try.prog 62 #[pp g 0] _ (fun e w' => e = .returned (.bool true) ∧ Below _ _ w') by have q := goesOn_ _ g K A n c A1 nv c1 most bg (j : Int) s2 s3 s4 AL m cL (HC.out.below hH HC.out.lt) vs us (HR.out _ hH); rw [HG.out] at q; exact q)).mono ?_
 rintro e V1 ⟨rfl, hb⟩
 replace hH := hH.trans (hb.mono hH.size)
 clear hb
 go_wp2_with fail
 refine hKq.out _ _ (.inr hH) ?_
 clear hKq Kq
 try simp only [Act.put, lay_]
 refine tk_ 2 (.bool false) [] rfl hH ?_ ?_
 ·intro V hV; go_simp
 try simp only [Act.put, lay_]
 refine tk_ 3 (.bool false) [] rfl hH ?_ ?_
 ·intro V hV; go_simp
 try simp only [Act.put, lay_]
 refine tk_ 4 (.pointer (some ⟨w.heap.size, 6, none⟩)) [] rfl hH ?_ ?_
 ·intro V hV; go_simp
 try simp only [Act.put, lay_]
 refine tk_ 5 (.int .i64 v.r.visit) [] rfl hH ?_ ?_
 ·intro V hV; have hc := HV.out.below hV HV.out.lt; have k0 : V.cell? ⟨w.heap.size, 6, none⟩ = some (.int .i64 v.r.visit) := hc.cell 6; clear hc; go_simp
 try simp only [Act.put, lay_]
 refine tk_ 6 (.pointer (some ⟨g, 0, none⟩)) [] rfl hH ?_ ?_
 ·intro V hV; go_simp
 try simp only [Act.put, lay_]
 refine tk_ 7 (.pointer (some ⟨g, 0, none⟩)) [] rfl hH ?_ ?_
 ·intro V hV; go_simp
 try simp only [Act.put, lay_]
 refine tk_ 8 (.pointer (some ⟨g, 4, none⟩)) [] rfl hH ?_ ?_
 ·intro V hV; go_simp
 try simp only [Act.put, lay_]
 refine tk_ 9 (.pointer (some ⟨g, 5, none⟩)) [] rfl hH ?_ ?_
 ·intro V hV; go_simp
 try simp only [Act.put, lay_]
 refine tk_ 10 (.int .i64 s2) [] rfl hH ?_ ?_
 ·intro V hV; have hc := HC.out.below hV HC.out.lt; have k0 : V.cell? ⟨g, 5, none⟩ = some (.int .i64 s2) := hc.cell 5; clear hc; go_simp
 try simp only [Act.put, lay_]
 cases hz11 : (v.r.visit == s2) with
 | true =>
  refine tk_ 11 (.bool false) [] rfl hH ?_ ?_
  ·intro V hV; have hzn : (v.r.visit != s2) = false := (by simpa using hz11); go_simp
  try simp only [Act.put, lay_]
  refine tk_ 12 (.bool false) [] rfl hH ?_ ?_
  ·intro V hV; go_simp
  try simp only [Act.put, lay_]
  refine tk_ 13 (.bool false) [] rfl hH ?_ ?_
  ·intro V hV; go_simp
  try simp only [Act.put, lay_]
  refine tk_ 14 (.pointer (some ⟨g, 0, none⟩)) [] rfl hH ?_ ?_
  ·intro V hV; go_simp
  try simp only [Act.put, lay_]
  refine tk_ 15 (.pointer (some ⟨g, 0, none⟩)) [] rfl hH ?_ ?_
  ·intro V hV; go_simp
  try simp only [Act.put, lay_]
  refine tk_ 16 (.pointer (some ⟨g, 4, none⟩)) [] rfl hH ?_ ?_
  ·intro V hV; go_simp
  try simp only [Act.put, lay_]
  refine tk_ 17 (.pointer (some ⟨g, 6, none⟩)) [] rfl hH ?_ ?_
  ·intro V hV; go_simp
  try simp only [Act.put, lay_]
  refine tk_ 18 (.int .i64 s3) [] rfl hH ?_ ?_
  ·intro V hV; have hc := HC.out.below hV HC.out.lt; have k0 : V.cell? ⟨g, 6, none⟩ = some (.int .i64 s3) := hc.cell 6; clear hc; go_simp
  try simp only [Act.put, lay_]
  cases hz19 : (s3 == 0) with
  | true =>
   refine tk_ 19 (.bool true) [] rfl hH ?_ ?_
   ·intro V hV; go_simp
   try simp only [Act.put, lay_]
   refine tk_ 20 (.bool true) [] rfl hH ?_ ?_
   ·intro V hV; go_simp
   try simp only [Act.put, lay_]
   refine tk_ 21 (.bool true) [] rfl hH ?_ ?_
   ·intro V hV; go_simp
   try simp only [Act.put, lay_]
   refine wpAnyN_take (i := 22) (v := undef) [] (by kernel_rfl) rfl (by kernel_rfl) (by kernel_rfl) (by kernel_rfl) (fun _ _ _ h => h) (Or.inr ⟨by rfl, rfl⟩) hH ?_
   try simp only [Act.put, lay_]
   refine wpAnyN_take (i := 23) (v := undef) [] (by kernel_rfl) rfl (by kernel_rfl) (by kernel_rfl) (by kernel_rfl) (fun _ _ _ h => h) (Or.inr ⟨by rfl, rfl⟩) hH ?_
   try simp only [Act.put, lay_]
   refine wpAnyN_take (i := 24) (v := undef) [] (by kernel_rfl) rfl (by kernel_rfl) (by kernel_rfl) (by kernel_rfl) (fun _ _ _ h => h) (Or.inr ⟨by rfl, rfl⟩) hH ?_
   try simp only [Act.put, lay_]
   refine wpAnyN_take (i := 25) (v := undef) [] (by kernel_rfl) rfl (by kernel_rfl) (by kernel_rfl) (by kernel_rfl) (fun _ _ _ h => h) (Or.inr ⟨by rfl, rfl⟩) hH ?_
   try simp only [Act.put, lay_]
   refine tk_ 26 (.bool true) [] rfl hH ?_ ?_
   ·intro V hV; go_simp
   try simp only [Act.put, lay_]
   refine wpAnyN_done (by kernel_rfl) ?_ _
   go_wp2_with fail
   go_ret
   exact ⟨false, by rw [HT.out, hz11, hz19]; first | rfl | simp, rfl, fun _ => HBW.out.trans (hH.mono HBW.out.size), fun q => (by cases q)⟩
  | false =>
   refine tk_ 19 (.bool false) [] rfl hH ?_ ?_
   ·intro V hV; go_simp
   try simp only [Act.put, lay_]
   refine tk_ 20 (.bool false) [] rfl hH ?_ ?_
   ·intro V hV; go_simp
   try simp only [Act.put, lay_]
   refine tk_ 21 (.bool false) [] rfl hH ?_ ?_
   ·intro V hV; go_simp
   try simp only [Act.put, lay_]
   refine tk_ 22 (.pointer (some ⟨g, 0, none⟩)) [] rfl hH ?_ ?_
   ·intro V hV; go_simp
   try simp only [Act.put, lay_]
   refine tk_ 23 (.agg #[.int .i64 v.r.kind, .int .i64 v.r.s.step, .int .i64 v.r.s.visit, .int .i64 v.r.s.tries, .int .i64 v.r.s.off, .slice v.AL v.vs.length v.cL, .int .i64 v.r.visit, .int .i64 v.r.step, .int .i64 v.r.try_, .int .i64 v.r.to, .int .i64 v.r.off, .int .i64 v.r.var, .slice v.AV v.r.value.length v.cV]) [] rfl hH ?_ ?_
   ·intro V hV; have hc := HV.out.below hV HV.out.lt; have k0 : V.cell? ⟨w.heap.size, 0, none⟩ = some (.int .i64 v.r.kind) := hc.cell 0; have k1 : V.cell? ⟨w.heap.size, 1, none⟩ = some (.int .i64 v.r.s.step) := hc.cell 1; have k2 : V.cell? ⟨w.heap.size, 2, none⟩ = some (.int .i64 v.r.s.visit) := hc.cell 2; have k3 : V.cell? ⟨w.heap.size, 3, none⟩ = some (.int .i64 v.r.s.tries) := hc.cell 3; have k4 : V.cell? ⟨w.heap.size, 4, none⟩ = some (.int .i64 v.r.s.off) := hc.cell 4; have k5 : V.cell? ⟨w.heap.size, 5, none⟩ = some (.slice v.AL v.vs.length v.cL) := hc.cell 5; have k6 : V.cell? ⟨w.heap.size, 6, none⟩ = some (.int .i64 v.r.visit) := hc.cell 6; have k7 : V.cell? ⟨w.heap.size, 7, none⟩ = some (.int .i64 v.r.step) := hc.cell 7; have k8 : V.cell? ⟨w.heap.size, 8, none⟩ = some (.int .i64 v.r.try_) := hc.cell 8; have k9 : V.cell? ⟨w.heap.size, 9, none⟩ = some (.int .i64 v.r.to) := hc.cell 9; have k10 : V.cell? ⟨w.heap.size, 10, none⟩ = some (.int .i64 v.r.off) := hc.cell 10; have k11 : V.cell? ⟨w.heap.size, 11, none⟩ = some (.int .i64 v.r.var) := hc.cell 11; have k12 : V.cell? ⟨w.heap.size, 12, none⟩ = some (.slice v.AV v.r.value.length v.cV) := hc.cell 12; clear hc; go_simp
   try simp only [Act.put, lay_]
   refine wpAnyN_one (i := 24) (by kernel_rfl) rfl (fun Kq hKq => ?_)
   go_simp
   refine ((show Calls Try.prog 64 #[pp g 0, .agg v.cells.toArray] _ (fun e w' => e = .returned (.bool b2) ∧ Below _ _ w') by rw [E2.out]; exact possible_ _ g A n c A1 nv c1 most bg j s2 s3 s4 AL m cL (HC.out.below hH HC.out.lt) vs (HR.out _ hH).bk (HR.out _ hH).fit.len f HJ.out (HR.out _ hH).fit.arms v)).mono ?_
   rintro e V2 ⟨rfl, hb⟩
   replace hH := hH.trans (hb.mono hH.size)
   clear hb
   go_wp2_with fail
   refine hKq.out _ _ (.inr hH) ?_
   clear hKq Kq
   try simp only [Act.put, lay_]
   cases b2 with
   | true =>
    refine tk_ 25 (.bool false) [] rfl hH ?_ ?_
    ·intro V hV; go_simp
    try simp only [Act.put, lay_]
    refine tk_ 26 (.bool false) [] rfl hH ?_ ?_
    ·intro V hV; go_simp
    try simp only [Act.put, lay_]
    refine wpAnyN_done (by kernel_rfl) ?_ _
    have kv := HV.out.below hH HV.out.lt
    have r0 : V2.cell? ⟨w.heap.size, 0, none⟩ = some (.int .i64 v.r.kind) := kv.cell 0
    have r1 : V2.cell? ⟨w.heap.size, 1, none⟩ = some (.int .i64 v.r.s.step) := kv.cell 1
    have r2 : V2.cell? ⟨w.heap.size, 2, none⟩ = some (.int .i64 v.r.s.visit) := kv.cell 2
    have r3 : V2.cell? ⟨w.heap.size, 3, none⟩ = some (.int .i64 v.r.s.tries) := kv.cell 3
    have r4 : V2.cell? ⟨w.heap.size, 4, none⟩ = some (.int .i64 v.r.s.off) := kv.cell 4
    have r5 : V2.cell? ⟨w.heap.size, 5, none⟩ = some (.slice v.AL v.vs.length v.cL) := kv.cell 5
    have r6 : V2.cell? ⟨w.heap.size, 6, none⟩ = some (.int .i64 v.r.visit) := kv.cell 6
    have r7 : V2.cell? ⟨w.heap.size, 7, none⟩ = some (.int .i64 v.r.step) := kv.cell 7
    have r8 : V2.cell? ⟨w.heap.size, 8, none⟩ = some (.int .i64 v.r.try_) := kv.cell 8
    have r9 : V2.cell? ⟨w.heap.size, 9, none⟩ = some (.int .i64 v.r.to) := kv.cell 9
    have r10 : V2.cell? ⟨w.heap.size, 10, none⟩ = some (.int .i64 v.r.off) := kv.cell 10
    have r11 : V2.cell? ⟨w.heap.size, 11, none⟩ = some (.int .i64 v.r.var) := kv.cell 11
    have r12 : V2.cell? ⟨w.heap.size, 12, none⟩ = some (.slice v.AV v.r.value.length v.cV) := kv.cell 12
    have hpo : varB nv v.r.var = true := by
     have q := E2.out.symm
     unfold possB at q
     simp only [Bool.and_eq_true] at q
     exact q.1.2
    have hva2 := varB_iff.1 hpo
    have con := leave_ V2 g h K A n c A1 nv c1 most bg (j : Int) s2 s3 s4 m cL (by rw [← HAL.out]; exact HC.out.below hH HC.out.lt) us (HRW.out _ hH) (HR.out _ hH).len HM.out HS2.out v (HX.out _ hH) HVL.out HKK.out HTO.out ⟨HVA.out, by rw [HMN.out]; exact hva2.2⟩ (bok vs nv most) rfl
    clear kv hpo hva2
    go_wp2_with fail
    refine con.mono ?_
    clear con
    rintro e w3 ⟨rfl, hf3, hrest⟩
    have HL3 := Lib.hid hrest
    have HF3 := Lib.hid hf3
    clear hrest hf3
    go_wp2_with fail
    go_ret
    exact ⟨true, by rw [HT.out, hz11, hz19]; rfl, rfl, fun q => (by cases q), fun _ => ⟨((Frm.of_below HBW.out).trans (Frm.of_below hH)).trans HF3.out, rfl, Frm.refl _ _, HL3.out⟩⟩
   | false =>
    refine tk_ 25 (.bool true) [] rfl hH ?_ ?_
    ·intro V hV; go_simp
    try simp only [Act.put, lay_]
    refine tk_ 26 (.bool true) [] rfl hH ?_ ?_
    ·intro V hV; go_simp
    try simp only [Act.put, lay_]
    refine wpAnyN_done (by kernel_rfl) ?_ _
    go_wp2_with fail
    go_ret
    exact ⟨false, by rw [HT.out, hz11, hz19]; first | rfl | simp, rfl, fun _ => HBW.out.trans (hH.mono HBW.out.size), fun q => (by cases q)⟩
 | false =>
  refine tk_ 11 (.bool true) [] rfl hH ?_ ?_
  ·intro V hV; have hzn : (v.r.visit != s2) = true := (by simpa using hz11); go_simp
  try simp only [Act.put, lay_]
  refine tk_ 12 (.bool true) [] rfl hH ?_ ?_
  ·intro V hV; go_simp
  try simp only [Act.put, lay_]
  refine tk_ 13 (.bool true) [] rfl hH ?_ ?_
  ·intro V hV; go_simp
  try simp only [Act.put, lay_]
  refine wpAnyN_take (i := 14) (v := undef) [] (by kernel_rfl) rfl (by kernel_rfl) (by kernel_rfl) (by kernel_rfl) (fun _ _ _ h => h) (Or.inr ⟨by rfl, rfl⟩) hH ?_
  try simp only [Act.put, lay_]
  refine wpAnyN_take (i := 15) (v := undef) [] (by kernel_rfl) rfl (by kernel_rfl) (by kernel_rfl) (by kernel_rfl) (fun _ _ _ h => h) (Or.inr ⟨by rfl, rfl⟩) hH ?_
  try simp only [Act.put, lay_]
  refine wpAnyN_take (i := 16) (v := undef) [] (by kernel_rfl) rfl (by kernel_rfl) (by kernel_rfl) (by kernel_rfl) (fun _ _ _ h => h) (Or.inr ⟨by rfl, rfl⟩) hH ?_
  try simp only [Act.put, lay_]
  refine wpAnyN_take (i := 17) (v := undef) [] (by kernel_rfl) rfl (by kernel_rfl) (by kernel_rfl) (by kernel_rfl) (fun _ _ _ h => h) (Or.inr ⟨by rfl, rfl⟩) hH ?_
  try simp only [Act.put, lay_]
  refine wpAnyN_take (i := 18) (v := undef) [] (by kernel_rfl) rfl (by kernel_rfl) (by kernel_rfl) (by kernel_rfl) (fun _ _ _ h => h) (Or.inr ⟨by rfl, rfl⟩) hH ?_
  try simp only [Act.put, lay_]
  refine wpAnyN_take (i := 19) (v := undef) [] (by kernel_rfl) rfl (by kernel_rfl) (by kernel_rfl) (by kernel_rfl) (fun _ _ _ h => h) (Or.inr ⟨by rfl, rfl⟩) hH ?_
  try simp only [Act.put, lay_]
  refine tk_ 20 (.bool true) [] rfl hH ?_ ?_
  ·intro V hV; go_simp
  try simp only [Act.put, lay_]
  refine tk_ 21 (.bool true) [] rfl hH ?_ ?_
  ·intro V hV; go_simp
  try simp only [Act.put, lay_]
  refine wpAnyN_take (i := 22) (v := undef) [] (by kernel_rfl) rfl (by kernel_rfl) (by kernel_rfl) (by kernel_rfl) (fun _ _ _ h => h) (Or.inr ⟨by rfl, rfl⟩) hH ?_
  try simp only [Act.put, lay_]
  refine wpAnyN_take (i := 23) (v := undef) [] (by kernel_rfl) rfl (by kernel_rfl) (by kernel_rfl) (by kernel_rfl) (fun _ _ _ h => h) (Or.inr ⟨by rfl, rfl⟩) hH ?_
  try simp only [Act.put, lay_]
  refine wpAnyN_take (i := 24) (v := undef) [] (by kernel_rfl) rfl (by kernel_rfl) (by kernel_rfl) (by kernel_rfl) (fun _ _ _ h => h) (Or.inr ⟨by rfl, rfl⟩) hH ?_
  try simp only [Act.put, lay_]
  refine wpAnyN_take (i := 25) (v := undef) [] (by kernel_rfl) rfl (by kernel_rfl) (by kernel_rfl) (by kernel_rfl) (fun _ _ _ h => h) (Or.inr ⟨by rfl, rfl⟩) hH ?_
  try simp only [Act.put, lay_]
  refine tk_ 26 (.bool true) [] rfl hH ?_ ?_
  ·intro V hV; go_simp
  try simp only [Act.put, lay_]
  refine wpAnyN_done (by kernel_rfl) ?_ _
  go_wp2_with fail
  go_ret
  exact ⟨false, by rw [HT.out, hz11]; first | rfl | simp, rfl, fun _ => HBW.out.trans (hH.mono HBW.out.size), fun q => (by cases q)⟩
end
end Go.Proofs.Ytfmkkklcgiaacaa.Fold
