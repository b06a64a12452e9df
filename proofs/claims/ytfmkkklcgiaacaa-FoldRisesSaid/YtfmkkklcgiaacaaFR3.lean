/-
Texts: FoldPrun FoldPout
-/
import Derived.Test.YtfmkkklcgiaacaaFR0
import Derived.Test.YtfmkkklcgiaacaaFR1
import Derived.Test.YtfmkkklcgiaacaaFR2
import Derived.Deep.MidRow
set_option linter.unusedVariables false
set_option linter.unusedSimpArgs false
set_option maxRecDepth 100000
set_option maxHeartbeats 4000000
section
namespace Go.Proofs.Ytfmkkklcgiaacaa.Fold
open Go.RowKit Go.Proofs.Ytfmkkklcgiaacaa.Ord
open Lex (Tx)
open Rec (Stt Vt Tvs Trow txt)
theorem pright_ (w : World) (K : Nat) (hK : K ≤ w.heap.size) (A : Option Addr) (n c : Nat) (vs : List Fs) (hf : Fbk w A vs) (hl : vs.length = n) (A1 : Option Addr) (nv c1 : Nat) (most s1 s2 s3 s4 : Int) (h2 : s2 < 9223372036854775808) (h3 : s3 < 9223372036854775808) (AL : Option Addr) (m cL : Nat) (us : List Vt) (hu : Tvs w K AL us) (hul : us.length = m) (hm : m ≤ maxLen) :
  Calls Try.prog 61 #[bval A n c A1 nv c1 most, stval s1 s2 s3 s4 AL m cL] w fun e w' => e = .returned (.bool (right (bok vs nv most) ⟨s1, s2, s3, s4, txt us⟩)) ∧ Below w.heap.size w w' := by
 obtain ⟨W1, hW1, hb1, hc1, hc2⟩ := two_boxes w A n c A1 nv c1 most s1 s2 s3 s4 AL m cL
 have HB1 := Lib.hid hb1
 have HF := Lib.hid (show ∀ V, Below w.heap.size w V → Fbk V A vs from fun V h => hf.below h)
 have HU := Lib.hid (show ∀ V, Below w.heap.size w V → K ≤ V.heap.size ∧ Tvs V K AL us from fun V h => ⟨Nat.le_trans hK h.size, hu.below hK h⟩)
 have HL := Lib.hid hl
 have HUL := Lib.hid hul
 have H2 := Lib.hid h2
 have H3 := Lib.hid h3
 have HM := Lib.hid hm
 have k0 := hc1.cell 0
 have k1 := hc1.cell 1
 have k2 := hc1.cell 2
 have q0 := hc2.cell 0
 have q1 := hc2.cell 1
 have q2 := hc2.cell 2
 have q3 := hc2.cell 3
 have q4 := hc2.cell 4
 obtain ⟨T, hT⟩ : ∃ T, T = right (bok vs nv most) ⟨s1, s2, s3, s4, txt us⟩ := ⟨_, rfl⟩
 rw [← hT]
 unfold bok at hT
 rw [right_eq, List.length_map, hl] at hT
 have con := target_ W1 A n c A1 nv c1 most s1
 obtain ⟨b1, hb_1⟩ : ∃ b, b = tgtB n s1 := ⟨_, rfl⟩
 rw [← hb_1] at hT con
 obtain ⟨b2, hb_2⟩ : ∃ b, b = visB s1 s2 most := ⟨_, rfl⟩
 rw [← hb_2] at hT
 obtain ⟨b3, hb_3⟩ : ∃ b, b = triB (vs.map Fs.m) s1 s3 := ⟨_, rfl⟩
 rw [← hb_3] at hT
 obtain ⟨b4, hb_4⟩ : ∃ b, b = offB s4 := ⟨_, rfl⟩
 rw [← hb_4] at hT
 obtain ⟨b5, hb_5⟩ : ∃ b, b = vrsB (txt us) nv := ⟨_, rfl⟩
 rw [← hb_5] at hT
 have HT := Lib.hid hT
 have E1 := Lib.hid hb_1
 have E2 := Lib.hid hb_2
 have E3 := Lib.hid hb_3
 have E4 := Lib.hid hb_4
 have E5 := Lib.hid hb_5
 clear hT hb_1 hb_2 hb_3 hb_4 hb_5 hb1 hc1 hc2 hf hu hl hul h2 h3 hm hK
 unfold bval at con
 unfold bval stval
 go_enter Try.func61, Try.ntmps61
 go_upto_region 1 with fail
 rw [← hW1]
 clear hW1
 go_wp2_with fail
 refine con.mono ?_
 clear con
 rintro e w2 ⟨rfl, hb⟩
 have HB2 := Lib.hid (HB1.out.trans (hb.mono HB1.out.size))
 replace k0 := (hb.cell (cell_lt k0)).trans k0
 replace k1 := (hb.cell (cell_lt k1)).trans k1
 replace k2 := (hb.cell (cell_lt k2)).trans k2
 replace q0 := (hb.cell (cell_lt q0)).trans q0
 replace q1 := (hb.cell (cell_lt q1)).trans q1
 replace q2 := (hb.cell (cell_lt q2)).trans q2
 replace q3 := (hb.cell (cell_lt q3)).trans q3
 replace q4 := (hb.cell (cell_lt q4)).trans q4
 clear hb
 cases b1 with
 | false =>
  go_wp2_with fail
  go_ret
  rw [show T = false from HT.out]
  exact ⟨rfl, HB2.out⟩
 | true =>
  have con := visit_ w2 A n c A1 nv c1 most s1 s2 s3 s4 AL m cL H2.out
  rw [← E2.out] at con
  unfold bval stval at con
  go_wp2_with fail
  refine con.mono ?_
  clear con
  rintro e w3 ⟨rfl, hb⟩
  have HB3 := Lib.hid (HB2.out.trans (hb.mono HB2.out.size))
  replace k0 := (hb.cell (cell_lt k0)).trans k0
  replace k1 := (hb.cell (cell_lt k1)).trans k1
  replace k2 := (hb.cell (cell_lt k2)).trans k2
  replace q0 := (hb.cell (cell_lt q0)).trans q0
  replace q1 := (hb.cell (cell_lt q1)).trans q1
  replace q2 := (hb.cell (cell_lt q2)).trans q2
  replace q3 := (hb.cell (cell_lt q3)).trans q3
  replace q4 := (hb.cell (cell_lt q4)).trans q4
  clear hb
  cases b2 with
  | false =>
   go_wp2_with fail
   go_ret
   rw [show T = false from HT.out]
   exact ⟨rfl, HB3.out⟩
  | true =>
   have con := tries_ w3 A n c A1 nv c1 most s1 s2 s3 s4 AL m cL H3.out vs (HF.out _ HB3.out) HL.out E1.out.symm
   rw [← E3.out] at con
   unfold bval stval at con
   go_wp2_with fail
   refine con.mono ?_
   clear con
   rintro e w4 ⟨rfl, hb⟩
   have HB4 := Lib.hid (HB3.out.trans (hb.mono HB3.out.size))
   replace k0 := (hb.cell (cell_lt k0)).trans k0
   replace k1 := (hb.cell (cell_lt k1)).trans k1
   replace k2 := (hb.cell (cell_lt k2)).trans k2
   replace q0 := (hb.cell (cell_lt q0)).trans q0
   replace q1 := (hb.cell (cell_lt q1)).trans q1
   replace q2 := (hb.cell (cell_lt q2)).trans q2
   replace q3 := (hb.cell (cell_lt q3)).trans q3
   replace q4 := (hb.cell (cell_lt q4)).trans q4
   clear hb
   cases b3 with
   | false =>
    go_wp2_with fail
    go_ret
    rw [show T = false from HT.out]
    exact ⟨rfl, HB4.out⟩
   | true =>
    have con := offset_ w4 s1 s2 s3 s4 AL m cL
    rw [← E4.out] at con
    unfold stval at con
    go_wp2_with fail
    refine con.mono ?_
    clear con
    rintro e w5 ⟨rfl, hb⟩
    have HB5 := Lib.hid (HB4.out.trans (hb.mono HB4.out.size))
    replace k0 := (hb.cell (cell_lt k0)).trans k0
    replace k1 := (hb.cell (cell_lt k1)).trans k1
    replace k2 := (hb.cell (cell_lt k2)).trans k2
    replace q0 := (hb.cell (cell_lt q0)).trans q0
    replace q1 := (hb.cell (cell_lt q1)).trans q1
    replace q2 := (hb.cell (cell_lt q2)).trans q2
    replace q3 := (hb.cell (cell_lt q3)).trans q3
    replace q4 := (hb.cell (cell_lt q4)).trans q4
    clear hb
    cases b4 with
    | false =>
     go_wp2_with fail
     go_ret
     rw [show T = false from HT.out]
     exact ⟨rfl, HB5.out⟩
    | true =>
     have con := vars_ w5 K (HU.out _ HB5.out).1 A n c A1 nv c1 most s1 s2 s3 s4 AL m cL us (HU.out _ HB5.out).2 HUL.out HM.out
     rw [← E5.out] at con
     unfold bval stval at con
     go_wp2_with fail
     refine con.mono ?_
     clear con
     rintro e w6 ⟨rfl, hb⟩
     have HB6 := Lib.hid (HB5.out.trans (hb.mono HB5.out.size))
     replace k0 := (hb.cell (cell_lt k0)).trans k0
     replace k1 := (hb.cell (cell_lt k1)).trans k1
     replace k2 := (hb.cell (cell_lt k2)).trans k2
     replace q0 := (hb.cell (cell_lt q0)).trans q0
     replace q1 := (hb.cell (cell_lt q1)).trans q1
     replace q2 := (hb.cell (cell_lt q2)).trans q2
     replace q3 := (hb.cell (cell_lt q3)).trans q3
     replace q4 := (hb.cell (cell_lt q4)).trans q4
     clear hb
     go_wp2_with fail
     go_ret
     rw [HT.out]
     exact ⟨rfl, HB6.out⟩
abbrev rcells (A : Option Addr) (n c : Nat) (A1 : Option Addr) (nv c1 : Nat) (most : Int) (bg : Bool) (s1 s2 s3 s4 : Int) (AL : Option Addr) (m cL : Nat) : List Value := [.slice A n c, .slice A1 nv c1, .int .i64 most, .bool bg, .int .i64 s1, .int .i64 s2, .int .i64 s3, .int .i64 s4, .slice AL m cL]
structure Rfit (w : World) (K : Nat) (A : Option Addr) (n nv : Nat) (most : Int) (vs : List Fs) (s2 s3 : Int) (AL : Option Addr) (m : Nat) (us : List Vt) : Prop where
 bk : Fbk w A vs
 fit : Bfit vs n nv most
 s2 : s2 < 9223372036854775808
 s3 : s3 < 9223372036854775808
 low : K ≤ w.heap.size
 tv : Tvs w K AL us
 len : us.length = m
 max : m ≤ maxLen
theorem Rfit.below {w w' : World} {K : Nat} {A : Option Addr} {n nv : Nat} {most : Int} {vs : List Fs} {s2 s3 : Int} {AL : Option Addr} {m : Nat} {us : List Vt} (h : Rfit w K A n nv most vs s2 s3 AL m us) (hb : Below w.heap.size w w') : Rfit w' K A n nv most vs s2 s3 AL m us :=
 ⟨h.bk.below hb, h.fit, h.s2, h.s3, Nat.le_trans h.low hb.size, h.tv.below h.low hb, h.len, h.max⟩
abbrev pp (g k : Nat) : Value := .pointer (some ⟨g, k, none⟩)
def onB (bg : Bool) (b : Bok) (s : Stt) : Bool := bg && right b s && !endB s.step
section
variable (w : World) (g K : Nat) (A : Option Addr) (n c : Nat) (A1 : Option Addr) (nv c1 : Nat) (most : Int) (bg : Bool) (s1 s2 s3 s4 : Int) (AL : Option Addr) (m cL : Nat)
theorem goesOn_ (hc : Cel w g 54 (rcells A n c A1 nv c1 most bg s1 s2 s3 s4 AL m cL)) (vs : List Fs) (us : List Vt) (hr : Rfit w K A n nv most vs s2 s3 AL m us) :
  Calls Try.prog 62 #[pp g 0] w fun e w' => e = .returned (.bool (onB bg (bok vs nv most) ⟨s1, s2, s3, s4, txt us⟩)) ∧ Below w.heap.size w w' := by
 obtain ⟨T, hT⟩ : ∃ T, T = onB bg (bok vs nv most) ⟨s1, s2, s3, s4, txt us⟩ := ⟨_, rfl⟩
 rw [← hT]
 unfold onB at hT
 obtain ⟨b1, hb1⟩ : ∃ b, b = right (bok vs nv most) ⟨s1, s2, s3, s4, txt us⟩ := ⟨_, rfl⟩
 rw [← hb1] at hT
 dsimp only at hT
 obtain ⟨b2, hb2⟩ : ∃ b, b = endB s1 := ⟨_, rfl⟩
 rw [← hb2] at hT
 have HT := Lib.hid hT
 have E1 := Lib.hid hb1
 have E2 := Lib.hid hb2
 obtain ⟨W, hW⟩ : ∃ W, W = w.drew := ⟨_, rfl⟩
 have hbw : Below w.heap.size w W := by rw [hW]; exact (Below.refl _ _).drew
 have HBW := Lib.hid hbw
 have HC := Lib.hid (hc.below hbw hc.lt)
 have HR := Lib.hid (show ∀ V, Below W.heap.size W V → Rfit V K A n nv most vs s2 s3 AL m us from fun V h => (hr.below hbw).below h)
 clear hc hr hT hb1 hb2 hbw
 go_enter Try.func62, Try.ntmps62
 go_upto_region 1 with fail
 refine wp_region_N [] (fun V => Below W.heap.size W V) (by kernel_rfl) ?_
 rw [← hW]
 have hH : Below W.heap.size W W := Below.refl _ _
 clear hW
 cases bg with
 | true =>
  refine tk_ 0 (.pointer (some ⟨g, 0, none⟩)) [] rfl hH ?_ ?_
  ·intro V hV; go_simp
  try simp only [Act.put, lay_]
  refine tk_ 1 (.pointer (some ⟨g, 0, none⟩)) [] rfl hH ?_ ?_
  ·intro V hV; go_simp
  try simp only [Act.put, lay_]
  refine tk_ 2 (.pointer (some ⟨g, 3, none⟩)) [] rfl hH ?_ ?_
  ·intro V hV; go_simp
  try simp only [Act.put, lay_]
  refine tk_ 3 (.bool true) [] rfl hH ?_ ?_
  ·intro V hV; have hc := HC.out.below hV HC.out.lt; have k0 : V.cell? ⟨g, 3, none⟩ = some (.bool true) := hc.cell 3; clear hc; go_simp
  try simp only [Act.put, lay_]
  refine tk_ 4 (.bool true) [] rfl hH ?_ ?_
  ·intro V hV; go_simp
  try simp only [Act.put, lay_]
  refine tk_ 5 (.pointer (some ⟨g, 0, none⟩)) [] rfl hH ?_ ?_
  ·intro V hV; go_simp
  try simp only [Act.put, lay_]
  refine tk_ 6 (.pointer (some ⟨g, 0, none⟩)) [] rfl hH ?_ ?_
  ·intro V hV; go_simp
  try simp only [Act.put, lay_]
  refine tk_ 7 (.pointer (some ⟨g, 0, none⟩)) [] rfl hH ?_ ?_
  ·intro V hV; go_simp
  try simp only [Act.put, lay_]
  refine tk_ 8 (.agg #[.slice A n c, .slice A1 nv c1, .int .i64 most]) [] rfl hH ?_ ?_
  ·intro V hV; have hc := HC.out.below hV HC.out.lt; have k0 : V.cell? ⟨g, 0, none⟩ = some (.slice A n c) := hc.cell 0; have k1 : V.cell? ⟨g, 1, none⟩ = some (.slice A1 nv c1) := hc.cell 1; have k2 : V.cell? ⟨g, 2, none⟩ = some (.int .i64 most) := hc.cell 2; clear hc; go_simp
  try simp only [Act.put, lay_]
  refine tk_ 9 (.pointer (some ⟨g, 0, none⟩)) [] rfl hH ?_ ?_
  ·intro V hV; go_simp
  try simp only [Act.put, lay_]
  refine tk_ 10 (.pointer (some ⟨g, 0, none⟩)) [] rfl hH ?_ ?_
  ·intro V hV; go_simp
  try simp only [Act.put, lay_]
  refine tk_ 11 (.pointer (some ⟨g, 4, none⟩)) [] rfl hH ?_ ?_
  ·intro V hV; go_simp
  try simp only [Act.put, lay_]
  refine tk_ 12 (.agg #[.int .i64 s1, .int .i64 s2, .int .i64 s3, .int .i64 s4, .slice AL m cL]) [] rfl hH ?_ ?_
  ·intro V hV; have hc := HC.out.below hV HC.out.lt; have k0 : V.cell? ⟨g, 4, none⟩ = some (.int .i64 s1) := hc.cell 4; have k1 : V.cell? ⟨g, 5, none⟩ = some (.int .i64 s2) := hc.cell 5; have k2 : V.cell? ⟨g, 6, none⟩ = some (.int .i64 s3) := hc.cell 6; have k3 : V.cell? ⟨g, 7, none⟩ = some (.int .i64 s4) := hc.cell 7; have k4 : V.cell? ⟨g, 8, none⟩ = some (.slice AL m cL) := hc.cell 8; clear hc; go_simp
  try simp only [Act.put, lay_]
  refine wpAnyN_one (i := 13) (by kernel_rfl) rfl (fun Kq hKq => ?_)
  go_simp
  refine ((show Calls Try.prog 61 #[.agg #[.slice A n c, .slice A1 nv c1, .int .i64 most], .agg #[.int .i64 s1, .int .i64 s2, .int .i64 s3, .int .i64 s4, .slice AL m cL]] _ (fun e w' => e = .returned (.bool b1) ∧ Below _ _ w') by rw [E1.out]; have R := HR.out _ hH; exact pright_ _ K R.low A n c vs R.bk R.fit.len A1 nv c1 most s1 s2 s3 s4 R.s2 R.s3 AL m cL us R.tv R.len R.max)).mono ?_
  rintro e V1 ⟨rfl, hb⟩
  replace hH := hH.trans (hb.mono hH.size)
  clear hb
  go_wp2_with fail
  refine hKq.out _ _ (.inr hH) ?_
  clear hKq Kq
  try simp only [Act.put, lay_]
  cases b1 with
  | true =>
   refine tk_ 14 (.bool true) [] rfl hH ?_ ?_
   ·intro V hV; go_simp
   try simp only [Act.put, lay_]
   refine tk_ 15 (.bool true) [] rfl hH ?_ ?_
   ·intro V hV; go_simp
   try simp only [Act.put, lay_]
   refine tk_ 16 (.pointer (some ⟨g, 0, none⟩)) [] rfl hH ?_ ?_
   ·intro V hV; go_simp
   try simp only [Act.put, lay_]
   refine tk_ 17 (.pointer (some ⟨g, 0, none⟩)) [] rfl hH ?_ ?_
   ·intro V hV; go_simp
   try simp only [Act.put, lay_]
   refine tk_ 18 (.pointer (some ⟨g, 4, none⟩)) [] rfl hH ?_ ?_
   ·intro V hV; go_simp
   try simp only [Act.put, lay_]
   refine tk_ 19 (.pointer (some ⟨g, 4, none⟩)) [] rfl hH ?_ ?_
   ·intro V hV; go_simp
   try simp only [Act.put, lay_]
   refine tk_ 20 (.int .i64 s1) [] rfl hH ?_ ?_
   ·intro V hV; have hc := HC.out.below hV HC.out.lt; have k0 : V.cell? ⟨g, 4, none⟩ = some (.int .i64 s1) := hc.cell 4; clear hc; go_simp
   try simp only [Act.put, lay_]
   refine wpAnyN_one (i := 21) (by kernel_rfl) rfl (fun Kq hKq => ?_)
   go_simp
   refine ((show Calls Try.prog 74 #[.int .i64 s1] _ (fun e w' => e = .returned (.bool b2) ∧ _ = w') by rw [E2.out]; exact end_ _ s1)).mono ?_
   rintro e V2 ⟨rfl, rfl⟩
   go_wp2_with fail
   refine hKq.out _ _ (.inr hH) ?_
   clear hKq Kq
   try simp only [Act.put, lay_]
   refine tk_ 22 (.bool (!b2)) [] rfl hH ?_ ?_
   ·intro V hV; go_simp
   try simp only [Act.put, lay_]
   refine tk_ 23 (.bool (!b2)) [] rfl hH ?_ ?_
   ·intro V hV; go_simp
   try simp only [Act.put, lay_]
   refine tk_ 24 (.bool (!b2)) [] rfl hH ?_ ?_
   ·intro V hV; go_simp
   try simp only [Act.put, lay_]
   refine wpAnyN_done (by kernel_rfl) ?_ _
   go_wp2_with fail
   go_ret
   rw [show T = !b2 from HT.out]
   exact ⟨rfl, HBW.out.trans (hH.mono HBW.out.size)⟩
  | false =>
   refine tk_ 14 (.bool false) [] rfl hH ?_ ?_
   ·intro V hV; go_simp
   try simp only [Act.put, lay_]
   refine tk_ 15 (.bool false) [] rfl hH ?_ ?_
   ·intro V hV; go_simp
   try simp only [Act.put, lay_]
   refine wpAnyN_take (i := 16) (v := undef) [] (by kernel_rfl) rfl (by kernel_rfl) (by kernel_rfl) (by kernel_rfl) (fun _ _ _ h => h) (Or.inr ⟨by rfl, rfl⟩) hH ?_
   try simp only [Act.put, lay_]
   refine wpAnyN_take (i := 17) (v := undef) [] (by kernel_rfl) rfl (by kernel_rfl) (by kernel_rfl) (by kernel_rfl) (fun _ _ _ h => h) (Or.inr ⟨by rfl, rfl⟩) hH ?_
   try simp only [Act.put, lay_]
   refine wpAnyN_take (i := 18) (v := undef) [] (by kernel_rfl) rfl (by kernel_rfl) (by kernel_rfl) (by kernel_rfl) (fun _ _ _ h => h) (Or.inr ⟨by rfl, rfl⟩) hH ?_
   try simp only [Act.put, lay_]
   refine wpAnyN_take (i := 19) (v := undef) [] (by kernel_rfl) rfl (by kernel_rfl) (by kernel_rfl) (by kernel_rfl) (fun _ _ _ h => h) (Or.inr ⟨by rfl, rfl⟩) hH ?_
   try simp only [Act.put, lay_]
   refine wpAnyN_take (i := 20) (v := undef) [] (by kernel_rfl) rfl (by kernel_rfl) (by kernel_rfl) (by kernel_rfl) (fun _ _ _ h => h) (Or.inr ⟨by rfl, rfl⟩) hH ?_
   try simp only [Act.put, lay_]
   refine wpAnyN_take (i := 21) (v := undef) [] (by kernel_rfl) rfl (by kernel_rfl) (by kernel_rfl) (by kernel_rfl) (fun _ _ _ h => h) (Or.inr ⟨by rfl, rfl⟩) hH ?_
   try simp only [Act.put, lay_]
   refine wpAnyN_take (i := 22) (v := undef) [] (by kernel_rfl) rfl (by kernel_rfl) (by kernel_rfl) (by kernel_rfl) (fun _ _ _ h => h) (Or.inr ⟨by rfl, rfl⟩) hH ?_
   try simp only [Act.put, lay_]
   refine tk_ 23 (.bool false) [] rfl hH ?_ ?_
   ·intro V hV; go_simp
   try simp only [Act.put, lay_]
   refine tk_ 24 (.bool false) [] rfl hH ?_ ?_
   ·intro V hV; go_simp
   try simp only [Act.put, lay_]
   refine wpAnyN_done (by kernel_rfl) ?_ _
   go_wp2_with fail
   go_ret
   rw [show T = false from HT.out]
   exact ⟨rfl, HBW.out.trans (hH.mono HBW.out.size)⟩
 | false =>
  refine tk_ 0 (.pointer (some ⟨g, 0, none⟩)) [] rfl hH ?_ ?_
  ·intro V hV; go_simp
  try simp only [Act.put, lay_]
  refine tk_ 1 (.pointer (some ⟨g, 0, none⟩)) [] rfl hH ?_ ?_
  ·intro V hV; go_simp
  try simp only [Act.put, lay_]
  refine tk_ 2 (.pointer (some ⟨g, 3, none⟩)) [] rfl hH ?_ ?_
  ·intro V hV; go_simp
  try simp only [Act.put, lay_]
  refine tk_ 3 (.bool false) [] rfl hH ?_ ?_
  ·intro V hV; have hc := HC.out.below hV HC.out.lt; have k0 : V.cell? ⟨g, 3, none⟩ = some (.bool false) := hc.cell 3; clear hc; go_simp
  try simp only [Act.put, lay_]
  refine tk_ 4 (.bool false) [] rfl hH ?_ ?_
  ·intro V hV; go_simp
  try simp only [Act.put, lay_]
  refine wpAnyN_take (i := 5) (v := undef) [] (by kernel_rfl) rfl (by kernel_rfl) (by kernel_rfl) (by kernel_rfl) (fun _ _ _ h => h) (Or.inr ⟨by rfl, rfl⟩) hH ?_
  try simp only [Act.put, lay_]
  refine wpAnyN_take (i := 6) (v := undef) [] (by kernel_rfl) rfl (by kernel_rfl) (by kernel_rfl) (by kernel_rfl) (fun _ _ _ h => h) (Or.inr ⟨by rfl, rfl⟩) hH ?_
  try simp only [Act.put, lay_]
  refine wpAnyN_take (i := 7) (v := undef) [] (by kernel_rfl) rfl (by kernel_rfl) (by kernel_rfl) (by kernel_rfl) (fun _ _ _ h => h) (Or.inr ⟨by rfl, rfl⟩) hH ?_
  try simp only [Act.put, lay_]
  refine wpAnyN_take (i := 8) (v := undef) [] (by kernel_rfl) rfl (by kernel_rfl) (by kernel_rfl) (by kernel_rfl) (fun _ _ _ h => h) (Or.inr ⟨by rfl, rfl⟩) hH ?_
  try simp only [Act.put, lay_]
  refine wpAnyN_take (i := 9) (v := undef) [] (by kernel_rfl) rfl (by kernel_rfl) (by kernel_rfl) (by kernel_rfl) (fun _ _ _ h => h) (Or.inr ⟨by rfl, rfl⟩) hH ?_
  try simp only [Act.put, lay_]
  refine wpAnyN_take (i := 10) (v := undef) [] (by kernel_rfl) rfl (by kernel_rfl) (by kernel_rfl) (by kernel_rfl) (fun _ _ _ h => h) (Or.inr ⟨by rfl, rfl⟩) hH ?_
  try simp only [Act.put, lay_]
  refine wpAnyN_take (i := 11) (v := undef) [] (by kernel_rfl) rfl (by kernel_rfl) (by kernel_rfl) (by kernel_rfl) (fun _ _ _ h => h) (Or.inr ⟨by rfl, rfl⟩) hH ?_
  try simp only [Act.put, lay_]
  refine wpAnyN_take (i := 12) (v := undef) [] (by kernel_rfl) rfl (by kernel_rfl) (by kernel_rfl) (by kernel_rfl) (fun _ _ _ h => h) (Or.inr ⟨by rfl, rfl⟩) hH ?_
  try simp only [Act.put, lay_]
  refine wpAnyN_take (i := 13) (v := undef) [] (by kernel_rfl) rfl (by kernel_rfl) (by kernel_rfl) (by kernel_rfl) (fun _ _ _ h => h) (Or.inr ⟨by rfl, rfl⟩) hH ?_
  try simp only [Act.put, lay_]
  refine tk_ 14 (.bool false) [] rfl hH ?_ ?_
  ·intro V hV; go_simp
  try simp only [Act.put, lay_]
  refine tk_ 15 (.bool false) [] rfl hH ?_ ?_
  ·intro V hV; go_simp
  try simp only [Act.put, lay_]
  refine wpAnyN_take (i := 16) (v := undef) [] (by kernel_rfl) rfl (by kernel_rfl) (by kernel_rfl) (by kernel_rfl) (fun _ _ _ h => h) (Or.inr ⟨by rfl, rfl⟩) hH ?_
  try simp only [Act.put, lay_]
  refine wpAnyN_take (i := 17) (v := undef) [] (by kernel_rfl) rfl (by kernel_rfl) (by kernel_rfl) (by kernel_rfl) (fun _ _ _ h => h) (Or.inr ⟨by rfl, rfl⟩) hH ?_
  try simp only [Act.put, lay_]
  refine wpAnyN_take (i := 18) (v := undef) [] (by kernel_rfl) rfl (by kernel_rfl) (by kernel_rfl) (by kernel_rfl) (fun _ _ _ h => h) (Or.inr ⟨by rfl, rfl⟩) hH ?_
  try simp only [Act.put, lay_]
  refine wpAnyN_take (i := 19) (v := undef) [] (by kernel_rfl) rfl (by kernel_rfl) (by kernel_rfl) (by kernel_rfl) (fun _ _ _ h => h) (Or.inr ⟨by rfl, rfl⟩) hH ?_
  try simp only [Act.put, lay_]
  refine wpAnyN_take (i := 20) (v := undef) [] (by kernel_rfl) rfl (by kernel_rfl) (by kernel_rfl) (by kernel_rfl) (fun _ _ _ h => h) (Or.inr ⟨by rfl, rfl⟩) hH ?_
  try simp only [Act.put, lay_]
  refine wpAnyN_take (i := 21) (v := undef) [] (by kernel_rfl) rfl (by kernel_rfl) (by kernel_rfl) (by kernel_rfl) (fun _ _ _ h => h) (Or.inr ⟨by rfl, rfl⟩) hH ?_
  try simp only [Act.put, lay_]
  refine wpAnyN_take (i := 22) (v := undef) [] (by kernel_rfl) rfl (by kernel_rfl) (by kernel_rfl) (by kernel_rfl) (fun _ _ _ h => h) (Or.inr ⟨by rfl, rfl⟩) hH ?_
  try simp only [Act.put, lay_]
  refine tk_ 23 (.bool false) [] rfl hH ?_ ?_
  ·intro V hV; go_simp
  try simp only [Act.put, lay_]
  refine tk_ 24 (.bool false) [] rfl hH ?_ ?_
  ·intro V hV; go_simp
  try simp only [Act.put, lay_]
  refine wpAnyN_done (by kernel_rfl) ?_ _
  go_wp2_with fail
  go_ret
  rw [show T = false from HT.out]
  exact ⟨rfl, HBW.out.trans (hH.mono HBW.out.size)⟩
end
end Go.Proofs.Ytfmkkklcgiaacaa.Fold
end
section
namespace Go.Proofs.Ytfmkkklcgiaacaa.Fold
open Go.RowKit Go.Proofs.Ytfmkkklcgiaacaa.Ord
open Lex (Tx)
open Rec (Stt Rc Rv Rok Vt Tvs Trow txt)
def fw7 (w : World) (g : Nat) (a b c d e f k : Value) : World := ((((((w.setCell ⟨g, 0, none⟩ a).setCell ⟨g, 1, none⟩ b).setCell ⟨g, 2, none⟩ c).setCell ⟨g, 3, none⟩ d).setCell ⟨g, 4, none⟩ e).setCell ⟨g, 5, none⟩ f).setCell ⟨g, 6, none⟩ k
theorem fw7_cel {w : World} {g : Nat} {t : TypeId} {x0 x1 x2 x3 x4 x5 x6 a b c d e f k : Value} (h : Cel w g t [x0, x1, x2, x3, x4, x5, x6]) : Cel (fw7 w g a b c d e f k) g t [a, b, c, d, e, f, k] := ((((((h.set 0 a).set 1 b).set 2 c).set 3 d).set 4 e).set 5 f).set 6 k
theorem fw7_frm (w : World) (g : Nat) (a b c d e f k : Value) : Frm [g] w (fw7 w g a b c d e f k) := (((((((Frm.refl [g] w).set (p := ⟨g, 0, none⟩) (by simp) a).set (p := ⟨g, 1, none⟩) (by simp) b).set (p := ⟨g, 2, none⟩) (by simp) c).set (p := ⟨g, 3, none⟩) (by simp) d).set (p := ⟨g, 4, none⟩) (by simp) e).set (p := ⟨g, 5, none⟩) (by simp) f).set (p := ⟨g, 6, none⟩) (by simp) k
theorem load_step {w : World} {g : Nat} {x0 x1 x2 x3 x4 x5 x6 : Value} (h : Cel w g 47 [x0, x1, x2, x3, x4, x5, x6]) : (loadVar 47 ⟨g, 0, none⟩).run Try.prog w = .ok (.agg #[x0, x1, x2, x3, x4, x5, x6]) w :=
 run_loadVar_mid (P := Try.prog) w g 0 47 [x0, x1, x2, x3, x4, x5, x6] _ (fun j v hv => by rw [Nat.zero_add, h.cell j, hv]) Try.underlying47 rfl (by kernel_rfl)
theorem fld_arms (x0 x1 x2 x3 x4 x5 x6 : Value) (W : World) : (Instr.field 47 (.agg #[x0, x1, x2, x3, x4, x5, x6]) 3).run Try.prog W = .ok x3 W := by kernel_rfl
theorem fld_try (x0 x1 x2 x3 x4 x5 x6 : Value) (W : World) : (Instr.field 47 (.agg #[x0, x1, x2, x3, x4, x5, x6]) 5).run Try.prog W = .ok x5 W := by kernel_rfl
theorem fld_els (x0 x1 x2 x3 x4 x5 x6 : Value) (W : World) : (Instr.field 47 (.agg #[x0, x1, x2, x3, x4, x5, x6]) 6).run Try.prog W = .ok x6 W := by kernel_rfl
abbrev zero7 : List Value := [.string ⟨#[]⟩, .int .i64 0, .slice none 0 0, .slice none 0 0, .int .i64 0, .int .i64 0, .int .i64 0]
theorem fbk_some {w : World} {A : Option Addr} {vs : List Fs} (h : Fbk w A vs) {j : Nat} {f : Fs} (hj : vs[j]? = some f) : ∃ ad, A = some ad := by
 obtain ⟨ad, e, _⟩ := h.st j f hj
 exact ⟨ad, e⟩
section
variable (w : World) (g : Nat) (A : Option Addr) (n c : Nat) (A1 : Option Addr) (nv c1 : Nat) (most : Int) (bg : Bool) (j : Nat) (s2 s3 s4 : Int) (AL : Option Addr) (m cL : Nat)
theorem pstep_ (hc : Cel w g 54 (rcells A n c A1 nv c1 most bg (j : Int) s2 s3 s4 AL m cL)) (vs : List Fs) (hf : Fbk w A vs) (hl : vs.length = n) (f : Fs) (hj : vs[j]? = some f) :
  Calls Try.prog 63 #[pp g 0] w fun e w' => e = .returned (sval f) ∧ Below w.heap.size w w' := by
 have hjn : j < n := by rw [← hl]; exact (List.getElem?_eq_some_iff.1 hj).1
 obtain ⟨ad, rfl⟩ := fbk_some hf hj
 obtain ⟨W0, hW0⟩ : ∃ W, W = w.alloc (.cells zero7.toArray 47) := ⟨_, rfl⟩
 obtain ⟨W, hW⟩ : ∃ W, W = W0.drew := ⟨_, rfl⟩
 have hb0 : Below w.heap.size w W0 := by rw [hW0]; exact (Below.refl _ _).alloc (Nat.le_refl _) _
 have hbw : Below w.heap.size w W := by rw [hW]; exact hb0.drew
 have HBW := Lib.hid hbw
 have HC := Lib.hid (hc.below hbw hc.lt)
 have HZ := Lib.hid (show Cel W w.heap.size 47 zero7 by rw [hW, hW0]; exact (Cel.new w _ _).drew)
 have HF := Lib.hid (show ∀ V, Below W.heap.size W V → Fbk V (some ad) vs from fun V h => (hf.below hbw).below h)
 have HJ := Lib.hid hj
 clear hc hf hl hj hb0 hbw
 unfold zero7 at hW0
 go_enter Try.func63, Try.ntmps63
 go_upto_region 1 with fail
 rw [← hW0]
 refine wp_region_N [12] (fun V => Below W.heap.size W V) (by kernel_rfl) ?_
 rw [← hW]
 have hH : Below W.heap.size W W := Below.refl _ _
 clear hW hW0
 refine tk_ 0 (.pointer (some ⟨g, 0, none⟩)) [12] rfl hH ?_ ?_
 ·intro V hV; go_simp
 try simp only [Act.put, lay_]
 refine tk_ 1 (.pointer (some ⟨g, 0, none⟩)) [12] rfl hH ?_ ?_
 ·intro V hV; go_simp
 try simp only [Act.put, lay_]
 refine tk_ 2 (.pointer (some ⟨g, 0, none⟩)) [12] rfl hH ?_ ?_
 ·intro V hV; go_simp
 try simp only [Act.put, lay_]
 refine tk_ 3 (.pointer (some ⟨g, 0, none⟩)) [12] rfl hH ?_ ?_
 ·intro V hV; go_simp
 try simp only [Act.put, lay_]
 refine tk_ 4 (.slice (some ad) n c) [12] rfl hH ?_ ?_
 ·intro V hV; have hc := HC.out.below hV HC.out.lt; have k0 : V.cell? ⟨g, 0, none⟩ = some (.slice (some ad) n c) := hc.cell 0; clear hc; go_simp
 try simp only [Act.put, lay_]
 refine tk_ 5 (.pointer (some ⟨g, 0, none⟩)) [12] rfl hH ?_ ?_
 ·intro V hV; go_simp
 try simp only [Act.put, lay_]
 refine tk_ 6 (.pointer (some ⟨g, 0, none⟩)) [12] rfl hH ?_ ?_
 ·intro V hV; go_simp
 try simp only [Act.put, lay_]
 refine tk_ 7 (.pointer (some ⟨g, 4, none⟩)) [12] rfl hH ?_ ?_
 ·intro V hV; go_simp
 try simp only [Act.put, lay_]
 refine tk_ 8 (.pointer (some ⟨g, 4, none⟩)) [12] rfl hH ?_ ?_
 ·intro V hV; go_simp
 try simp only [Act.put, lay_]
 refine tk_ 9 (.int .i64 (j : Int)) [12] rfl hH ?_ ?_
 ·intro V hV; have hc := HC.out.below hV HC.out.lt; have k0 : V.cell? ⟨g, 4, none⟩ = some (.int .i64 (j : Int)) := hc.cell 4; clear hc; go_simp
 try simp only [Act.put, lay_]
 refine tk_ 10 (.pointer (some (ad.add (j * 7)))) [12] rfl hH ?_ ?_
 ·intro V hV; go_simp
 try simp only [Act.put, lay_]
 refine tk_ 11 (.agg #[.string f.nm, .int .i64 f.tag, .slice f.A2 f.n2 f.c2, .slice f.A3 f.arms.length f.c3, .int .i64 f.time, .int .i64 f.try_, .int .i64 f.els]) [12] rfl hH ?_ ?_
 ·intro V hV; obtain ⟨ad', e', k0, k1, k2, k3, k4, k5, k6⟩ := (HF.out V hV).at_ HJ.out; cases e'; go_simp
 try simp only [Act.put, lay_]
 have k0 := HZ.out.cell 0
 have k1 := HZ.out.cell 1
 have k2 := HZ.out.cell 2
 have k3 := HZ.out.cell 3
 have k4 := HZ.out.cell 4
 have k5 := HZ.out.cell 5
 have k6 := HZ.out.cell 6
 have f0 := HZ.out.free 0
 have f1 := HZ.out.free 1
 have f2 := HZ.out.free 2
 have f3 := HZ.out.free 3
 have f4 := HZ.out.free 4
 have f5 := HZ.out.free 5
 have f6 := HZ.out.free 6
 refine wpAnyN_one (i := 12) (by kernel_rfl) rfl (fun Kq hKq => ?_)
 go_simp
 refine hKq.out _ _ (.inl (by simp)) ?_
 clear hKq Kq
 refine wpAnyN_done (by kernel_rfl) ?_ _
 have hx := fw7_cel (a := .string f.nm) (b := .int .i64 f.tag) (c := .slice f.A2 f.n2 f.c2) (d := .slice f.A3 f.arms.length f.c3) (e := .int .i64 f.time) (f := .int .i64 f.try_) (k := .int .i64 f.els) HZ.out
 have hfx := fw7_frm W w.heap.size (.string f.nm) (.int .i64 f.tag) (.slice f.A2 f.n2 f.c2) (.slice f.A3 f.arms.length f.c3) (.int .i64 f.time) (.int .i64 f.try_) (.int .i64 f.els)
 clear k0 k1 k2 k3 k4 k5 k6 f0 f1 f2 f3 f4 f5 f6
 go_wp2_with fail
 exact bodyPost_ret (v := sval f) (Rec.results_cell_ 2 47 Try.results63 ⟨w.heap.size, 0, none⟩ rfl _ (load_step hx)) rfl ⟨rfl, HBW.out.trans (hfx.below HBW.out.size (by simp))⟩
end
/-! ### Whether one of the step's arms leads so. -/
def ledB (v : Rv) (a : Fa) : Bool := (a.to_ == v.r.to) && (a.var == v.r.var)
theorem led_any (v : Rv) (f : Fs) : f.arms.any (ledB v) = armR f.m v.r.to v.r.var := by
 unfold armR Fs.m
 rw [List.any_map]
 congr 1
theorem leads_ (w : World) (h : Nat) (v : Rv) (hc : Cel w h 42 v.cells) (a : Fa) :
  Calls Try.prog 78 #[.agg #[.slice a.A a.n a.c, .int .i64 a.var, .int .i64 a.to_], pp h 0] w fun e w' => e = .returned (.bool (ledB v a)) ∧ Below w.heap.size w w' := by
 obtain ⟨W1, hW1⟩ : ∃ w1, w1 = w.alloc (.cells #[.slice a.A a.n a.c, .int .i64 a.var, .int .i64 a.to_] 50) := ⟨_, rfl⟩
 have hb1 : Below w.heap.size w W1 := by rw [hW1]; exact (Below.refl _ _).alloc (Nat.le_refl _) _
 have hca : Cel W1 w.heap.size 50 [.slice a.A a.n a.c, .int .i64 a.var, .int .i64 a.to_] := by rw [hW1]; exact Cel.new w _ _
 have hcr := hc.below hb1 hc.lt
 have HB1 := Lib.hid hb1
 have k1 := hca.cell 1
 have k2 := hca.cell 2
 have r9 : W1.cell? ⟨h, 9, none⟩ = some (.int .i64 v.r.to) := hcr.cell 9
 have r11 : W1.cell? ⟨h, 11, none⟩ = some (.int .i64 v.r.var) := hcr.cell 11
 obtain ⟨T, hT⟩ : ∃ T, T = ledB v a := ⟨_, rfl⟩
 rw [← hT]
 unfold ledB at hT
 have HT := Lib.hid hT
 clear hT hb1 hca hcr hc
 generalize v.r.to = rt at *
 generalize v.r.var = rv at *
 generalize a.to_ = at_ at *
 generalize a.var = av at *
 cases h1 : (at_ == rt) with
 | false =>
  have HN := Lib.hid (show T = false by rw [HT.out, h1]; rfl)
  clear HT
  go_enter Try.func78, Try.ntmps78
  go_upto_region 1 with fail
  rw [← hW1]
  clear hW1
  go_wp2_with fail
  go_ret
  rw [HN.out]
  exact ⟨rfl, HB1.out⟩
 | true =>
  have HN := Lib.hid (show T = (av == rv) by rw [HT.out, h1]; rfl)
  obtain ⟨d, hd⟩ : ∃ d, d = (av == rv) := ⟨_, rfl⟩
  rw [← hd] at HN
  have HD := Lib.hid hd
  clear HT hd
  go_enter Try.func78, Try.ntmps78
  go_upto_region 1 with fail
  rw [← hW1]
  clear hW1
  go_wp2_with fail
  go_ret
  rw [HN.out, HD.out]
  exact ⟨rfl, HB1.out⟩
theorem index_ (w : World) (h : Nat) (v : Rv) (hc : Cel w h 42 v.cells) (f : Fs) (hf : Far w f) (hm : f.arms.length ≤ 1000) :
  Calls Try.prog 80 #[.slice f.A3 f.arms.length f.c3, .func (.func 78) #[] #[pp h 0]] w fun e w' => ∃ k : Int, e = .returned (.int .i64 k) ∧ (decide (0 ≤ k) = f.arms.any (ledB v)) ∧ Below w.heap.size w w' := by
 have HC := Lib.hid hc
 have HF := Lib.hid hf
 obtain ⟨n, hn⟩ : ∃ n, n = f.arms.length := ⟨_, rfl⟩
 rw [← hn] at hm ⊢
 have HN := Lib.hid hn
 clear hc hf hn
 go_enter Try.func80, Try.ntmps80
 go_wp2_with fail
 go_loopw [8] (fun v8 wr => ∃ (i : Nat), i ≤ n ∧ v8 = .int .i64 (i : Int) ∧ Below w.heap.size w wr ∧ Hid (f.arms.any (ledB v) = (f.arms.drop i).any (ledB v))) (fun v8 _ => n - (intOf v8).toNat)
 case atStart => exact ⟨0, Nat.zero_le _, rfl, Below.refl _ _, Lib.hid (by rw [List.drop_zero])⟩
 case round =>
  obtain ⟨i, hi, rfl, hb, HK⟩ := hrel
  obtain ⟨W, hW⟩ : ∃ W, W = wr := ⟨_, rfl⟩
  rw [← hW] at hb ⊢
  clear hW
  have HB := Lib.hid hb
  rcases Nat.lt_or_ge i n with hlt | hge
  ·obtain ⟨a, ha⟩ : ∃ a, f.arms[i]? = some a := ⟨_, List.getElem?_eq_getElem (by rw [← HN.out]; exact hlt)⟩
   have hda : f.arms.drop i = a :: f.arms.drop (i + 1) := by
    obtain ⟨hl, rfl⟩ := List.getElem?_eq_some_iff.1 ha
    exact List.drop_eq_getElem_cons hl
   obtain ⟨ad, hA3, a0, a1, a2⟩ := (HF.out.below hb).at_ ha
   rw [hA3]
   have con := leads_ W h v (HC.out.below hb HC.out.lt) a
   obtain ⟨b, hbb⟩ : ∃ b, b = ledB v a := ⟨_, rfl⟩
   rw [← hbb] at con
   have HL := Lib.hid (show f.arms.any (ledB v) = (b || (f.arms.drop (i + 1)).any (ledB v)) by rw [HK.out, hda, List.any_cons, hbb])
   clear HK hda hbb hb ha
   go_wp2_with fail
   refine con.mono ?_
   clear con
   rintro e w2 ⟨rfl, hb2⟩
   have HB2 := Lib.hid (HB.out.trans (hb2.mono HB.out.size))
   clear hb2
   cases b with
   | true =>
    go_wp2_with fail
    go_ret
    refine ⟨(i : Int), rfl, ?_, HB2.out⟩
    rw [HL.out]
    simp
   | false =>
    go_wp2_with fail
    exact ⟨⟨i + 1, by omega, by rw [show ((i + 1 : Nat) : Int) = (i : Int) + 1 by omega], HB2.out, Lib.hid (by rw [HL.out]; rfl)⟩, by simp [intOf]; omega⟩
  ·have HN := Lib.hid (show f.arms.any (ledB v) = false by rw [HK.out, List.drop_eq_nil_of_le (by rw [← HN.out]; exact hge)]; rfl)
   clear hb HK
   go_wp2_with fail
   go_ret
   exact ⟨-1, rfl, by rw [HN.out]; rfl, HB.out⟩
theorem contains_ (w : World) (h : Nat) (v : Rv) (hc : Cel w h 42 v.cells) (f : Fs) (hf : Far w f) (hm : f.arms.length ≤ 1000) :
  Calls Try.prog 79 #[.slice f.A3 f.arms.length f.c3, .func (.func 78) #[] #[pp h 0]] w fun e w' => e = .returned (.bool (armR f.m v.r.to v.r.var)) ∧ Below w.heap.size w w' := by
 have con := index_ w h v hc f hf hm
 rw [led_any] at con
 generalize armR f.m v.r.to v.r.var = b at *
 clear hc hf hm
 go_enter Try.func79, Try.ntmps79
 go_wp2_with fail
 refine con.mono ?_
 clear con
 rintro e w2 ⟨k, rfl, hk, hb2⟩
 have HB2 := Lib.hid hb2
 clear hb2
 go_wp2_with fail
 go_ret
 exact ⟨rfl, HB2.out⟩
end Go.Proofs.Ytfmkkklcgiaacaa.Fold
end
