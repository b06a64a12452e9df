/-
Layer 16: what davitlaw16.knows comes to: true. (Written by gen_foldknows.py.)
-/
import Derived.Test.YtfmkkklcgiaacaaFR0
import Derived.Test.YtfmkkklcgiaacaaFR1
import Derived.Test.YtfmkkklcgiaacaaFR2
import Derived.Test.YtfmkkklcgiaacaaFR13
import Derived.Test.YtfmkkklcgiaacaaFR14
set_option linter.unusedVariables false
set_option linter.unusedSimpArgs false
set_option maxRecDepth 100000
set_option maxHeartbeats 4000000
namespace Go.Proofs.Ytfmkkklcgiaacaa.Fold
open Go.RowKit Go.Proofs.Ytfmkkklcgiaacaa.Ord
open Lex (Tx)
open Rec (Stt Rc Rv Rok Vt Tvs Trow txt may rc0 stt0)
def f0 : Fs := ⟨⟨#[97]⟩, 0, none, 0, 0, none, 0, [], 1, 0, -2⟩
def bk0 : Bok := bok [f0] 0 5
theorem fit0 : Bfit [f0] 1 0 5 := ⟨rfl, by decide, by intro v hv; simp at hv; subst hv; decide, by intro v hv; simp at hv; subst hv; decide, by decide, by decide⟩
def r1 : Rc := { rc0 with kind := 2, visit := 1 }
def r2 : Rc := ⟨3, stt0, 1, 0, 0, -2, 0, -1, []⟩
def r3 : Rc := { rc0 with kind := 2, visit := 2 }
def t0 : Stt := ⟨0, 1, 0, 0, []⟩
def t1 : Stt := ⟨0, 1, 1, 0, []⟩
def t2 : Stt := ⟨-2, 2, 0, 0, []⟩
theorem st0 : startR bk0 = t0 := rfl
theorem nx1 : nextR bk0 t0 r1 = some t1 := by rfl
theorem nx2 : nextR bk0 t1 r2 = some t2 := by rfl
theorem nx3 : nextR bk0 t2 r3 = none := by rfl
theorem load_bk {w : World} {g : Nat} {x0 x1 x2 : Value} (h : Cel w g 25 [x0, x1, x2]) : (loadVar 25 ⟨g, 0, none⟩).run Try.prog w = .ok (.agg #[x0, x1, x2]) w :=
 run_loadVar_mid (P := Try.prog) w g 0 25 [x0, x1, x2] _ (fun j v hv => by rw [Nat.zero_add, h.cell j, hv]) Try.underlying25 rfl (by kernel_rfl)
theorem results_cell9 {P : Program} {fn : Func} {tmps : Array Value} {w : World} (a : Tmp) (t : TypeId) (hr : fn.results = #[.cell a t]) (ad : Addr) (ha : tmps.getD a undef = .pointer (some ad)) (v : Value) (hl : (loadVar t ad).run P w = .ok v w) :
  (results fn tmps).run P w = .ok v w := by
 unfold results
 rw [hr]
 simp only [List.mapM_toArray, List.mapM_cons, List.mapM_nil, ha, asAddr]
 simp [hl]
theorem plain_ (w : World) : Calls Try.prog 14 #[] w fun e w' => ∃ A, e = .returned (bval A 1 1 none 0 0 5) ∧ Fbk w' A [f0] ∧ Below w.heap.size w w' := by
 obtain ⟨W1, hW1⟩ : ∃ w1, w1 = w.alloc (.cells #[.slice none 0 0, .slice none 0 0, .int .i64 0] 25) := ⟨_, rfl⟩
 have hb1 : Below w.heap.size w W1 := by rw [hW1]; exact (Below.refl _ _).alloc (Nat.le_refl _) _
 have hc1 : Cel W1 w.heap.size 25 [.slice none 0 0, .slice none 0 0, .int .i64 0] := by rw [hW1]; exact Cel.new w _ _
 have HB1 := Lib.hid hb1
 have HC1 := Lib.hid hc1
 have k0 := hc1.cell 0
 have k1 := hc1.cell 1
 have k2 := hc1.cell 2
 have e0 := hc1.free 0
 have e1 := hc1.free 1
 have e2 := hc1.free 2
 have hgl := hc1.lt
 clear hb1 hc1
 go_enter Try.func14, Try.ntmps14
 go_upto_region 1 with fail
 rw [← hW1]
 clear hW1
 go_wp2_with fail
 obtain ⟨W3, hW3⟩ : ∃ W, W = ((W1.setCell ⟨w.heap.size, 0, none⟩ (.slice (some ⟨W1.heap.size, 0, none⟩) 1 1)).setCell ⟨w.heap.size, 1, none⟩ (.slice none 0 0)).setCell ⟨w.heap.size, 2, none⟩ (.int .i64 5) := ⟨_, rfl⟩
 have hc3 : Cel W3 w.heap.size 25 [.slice (some ⟨W1.heap.size, 0, none⟩) 1 1, .slice none 0 0, .int .i64 5] := by rw [hW3]; exact ((HC1.out.set 0 _).set 1 _).set 2 _
 have hf3 : Frm [w.heap.size] W1 W3 := by rw [hW3]; exact (((Frm.refl _ _).set (by simp) _).set (by simp) _).set (by simp) _
 have hs3 : W3.heap.size = W1.heap.size := by rw [hW3]; simp [World.setCell]
 rw [← hW3]
 have hd4 : Cel (W3.alloc (.cells #[.string ⟨#[97]⟩, .int .i64 0, .slice none 0 0, .slice none 0 0, .int .i64 1, .int .i64 0, .int .i64 (-2)] 47)) W1.heap.size 47 f0.cells := by rw [← hs3]; exact Cel.new W3 _ _
 refine bodyPost_ret (v := bval (some ⟨W1.heap.size, 0, none⟩) 1 1 none 0 0 5) (results_cell9 0 25 Try.results14 ⟨w.heap.size, 0, none⟩ rfl _ (load_bk (hc3.alloc _))) rfl ⟨_, rfl, ⟨fun i v hi => ?_, fun v hv => ?_⟩, ?_⟩
 ·cases i with
  | zero =>
   injection hi with hi
   subst hi
   refine ⟨_, rfl, fun k u hu => ?_⟩
   rw [Nat.zero_mul, Nat.zero_add]
   have := hd4.cell k
   rw [hu] at this
   cases k <;> simpa [Addr.add] using this
  | succ i => cases hi
 ·simp at hv
  subst hv
  intro j a hj
  cases hj
 ·exact (HB1.out.trans (hf3.below HB1.out.size (by simp))).trans (((Below.refl _ _).alloc (Nat.le_refl _) _).mono (by have := HB1.out.size; omega))
theorem nx_nil {w w' : World} {K : Nat} {t : Stt} {e : Ending} (h : PnSays w K (some t) e w') (ht : t.vars = []) : ∃ A c, e = .returned (.tuple #[.agg #[.int .i64 t.step, .int .i64 t.visit, .int .i64 t.tries, .int .i64 t.off, .slice A 0 c], .int .i64 0]) ∧ Below w.heap.size w w' := by
 obtain ⟨hb, hr⟩ := pn_split h
 rcases hr with ⟨h1, _⟩ | ⟨t', A, c, us, h1, rfl, _, _, h4⟩
 ·cases h1
 ·injection h1 with h1
  subst h1
  rw [ht] at h4
  have hu : us = [] := by
   unfold txt at h4
   simpa using h4
  subst hu
  exact ⟨A, c, rfl, hb⟩
theorem nx_t1 {w w' : World} {K : Nat} {e : Ending} (h : PnSays w K (some t1) e w') : ∃ A c, e = .returned (.tuple #[.agg #[.int .i64 0, .int .i64 1, .int .i64 1, .int .i64 0, .slice A 0 c], .int .i64 0]) ∧ Below w.heap.size w w' := nx_nil h rfl
theorem nx_t2 {w w' : World} {K : Nat} {e : Ending} (h : PnSays w K (some t2) e w') : ∃ A c, e = .returned (.tuple #[.agg #[.int .i64 (-2), .int .i64 2, .int .i64 0, .int .i64 0, .slice A 0 c], .int .i64 0]) ∧ Below w.heap.size w w' := nx_nil h rfl
theorem nx_bad {w w' : World} {K : Nat} {e : Ending} (h : PnSays w K none e w') : e = .returned (.tuple #[.agg #[.int .i64 0, .int .i64 0, .int .i64 0, .int .i64 0, .slice none 0 0], .int .i64 7]) ∧ Below w.heap.size w w' := by
 obtain ⟨hb, hr⟩ := pn_split h
 rcases hr with ⟨_, h1⟩ | ⟨t', A, c, us, h1, _⟩
 ·exact ⟨h1, hb⟩
 ·cases h1
theorem nx_call (HN : PNext) (w : World) (A : Option Addr) (h : Fbk w A [f0]) (s : Stt) (hs : s.vars = []) (hs2 : s.visit < 9223372036854775808) (hs3 : s.tries < 9223372036854775808) (AS : Option Addr) (cS : Nat) (r : Rc) (h1 : r.s.vars = []) (h2 : r.value = []) :
  Calls Try.prog 13 #[.agg #[.slice A 1 1, .slice none 0 0, .int .i64 5], .agg #[.int .i64 s.step, .int .i64 s.visit, .int .i64 s.tries, .int .i64 s.off, .slice AS 0 cS], .agg (Rv.mk r none 0 [] none 0).cells.toArray] w (PnSays w 0 (nextR bk0 s r)) := by
 have q := HN w 0 (Nat.zero_le _) A 1 1 [f0] h none 0 0 5 fit0 s.step s.visit s.tries s.off hs2 hs3 AS 0 cS [] ⟨by simp, by simp⟩ Rec.trow_nil rfl (by decide) (by simp) (Rv.mk r none 0 [] none 0) (Rec.rok_nil h1 h2) Rec.trow_nil (Nat.zero_le _) (by intro u hu; cases hu) (by show r.value.length ≤ 300; rw [h2]; decide)
 have e : (⟨s.step, s.visit, s.tries, s.off, txt []⟩ : Stt) = s := by
  obtain ⟨a, b, c, d, l⟩ := s
  simp only at hs
  subst hs
  rfl
 rw [e] at q
 exact q
theorem knows16 (HS : PStart) (HN : PNext) : Knows16 := by
 intro w
 go_enter Try.func7, Try.ntmps7
 go_wp2_with fail
 refine (plain_ w).mono ?_
 rintro e w1 ⟨A1, rfl, hf1, hb1⟩
 have HF1 := Lib.hid hf1
 have HB1 := Lib.hid hb1
 clear hf1 hb1
 unfold bval
 go_wp2_with fail
 refine (plain_ w1).mono ?_
 rintro e w2 ⟨A2, rfl, hf2, hb2⟩
 have HF2 := Lib.hid (HF1.out.below hb2)
 have HB2 := Lib.hid (HB1.out.trans (hb2.mono HB1.out.size))
 clear hf2 hb2
 unfold bval
 have con := HS w2 A2 1 1 none 0 0 5 [f0] 0 fit0
 unfold bval at con
 go_wp2_with fail
 refine con.mono ?_
 clear con
 rintro e w3 ⟨hb3, v, rfl, AS, cS, us, rfl, _, _, hux⟩
 have hu : us = [] := by
  rw [show startR (bok [f0] 0 5) = t0 from st0] at hux
  unfold txt at hux
  simpa [t0] using hux
 subst hu
 have HF3 := Lib.hid (HF2.out.below hb3)
 have HB3 := Lib.hid (HB2.out.trans (hb3.mono HB2.out.size))
 clear hux hb3
 have con := nx_call HN w3 A1 HF3.out t0 rfl (by decide) (by decide) AS cS r1 rfl rfl
 rw [nx1] at con
 go_wp2_with fail
 refine con.mono ?_
 clear con
 intro e w4 hpn
 obtain ⟨AX, cX, rfl, hb4⟩ := nx_t1 hpn
 clear hpn
 obtain ⟨W5, hW5⟩ : ∃ W, W = w4.alloc (.cells #[.int .i64 0, .int .i64 1, .int .i64 1, .int .i64 0, .slice AX 0 cX] 31) := ⟨_, rfl⟩
 have hb5 : Below w4.heap.size w4 W5 := by rw [hW5]; exact (Below.refl _ _).alloc (Nat.le_refl _) _
 have hb45 := HB3.out.trans (hb4.mono HB3.out.size)
 obtain ⟨W6, hW6⟩ : ∃ W, W = W5.drew := ⟨_, rfl⟩
 have HB6 := Lib.hid (show Below w.heap.size w W6 by rw [hW6]; exact (hb45.trans (hb5.mono hb45.size)).drew)
 have HP6 := Lib.hid (show Cel W6 w4.heap.size 31 [.int .i64 0, .int .i64 1, .int .i64 1, .int .i64 0, .slice AX 0 cX] by rw [hW6, hW5]; exact Cel.new w4 _ _)
 have NX := Lib.hid (show ∀ V A, Fbk V A [f0] → Calls Try.prog 13 #[.agg #[.slice A 1 1, .slice none 0 0, .int .i64 5], .agg #[.int .i64 0, .int .i64 1, .int .i64 1, .int .i64 0, .slice AX 0 cX], .agg #[.int .i64 3, .int .i64 0, .int .i64 0, .int .i64 0, .int .i64 0, .slice none 0 0, .int .i64 1, .int .i64 0, .int .i64 0, .int .i64 (-2), .int .i64 0, .int .i64 (-1), .slice none 0 0]] V (PnSays V 0 (some t2)) from fun V A h => by
  have q := nx_call HN V A h t1 rfl (by decide) (by decide) AX cX r2 rfl rfl
  rw [nx2] at q
  exact q)
 clear hb5 hb4 hb45
 go_upto_region 2 with fail
 rw [← hW5]
 clear hW5
 generalize w4.heap.size = g1 at *
 go_cut [3, 4] from 15 to 21 (fun s3 s4 wx => ∃ (g : Nat) (A : Option Addr) (c : Nat), s3 = .pointer (some ⟨g, 0, none⟩) ∧ s4 = .int .i64 0 ∧ Below W6.heap.size W6 wx ∧ Cel wx g 31 [.int .i64 (-2), .int .i64 2, .int .i64 0, .int .i64 0, .slice A 0 c])
 case first =>
  refine wp_region_N [] (Below W6.heap.size W6) (by kernel_rfl) ?_
  rw [← hW6]
  have hH : Below W6.heap.size W6 W6 := Below.refl _ _
  clear hW6
  refine tk_ 1 (.agg #[.int .i64 0, .int .i64 1, .int .i64 1, .int .i64 0, .slice AX 0 cX]) [] rfl hH ?_ ?_
  ·intro V hV; have hc := HP6.out.below hV HP6.out.lt; have k0 := hc.cell 0; have k1 := hc.cell 1; have k2 := hc.cell 2; have k3 := hc.cell 3; have k4 := hc.cell 4; clear hc; go_simp
  try simp only [Act.put, lay_]
  refine tk_ 2 (.agg #[.int .i64 3, .int .i64 0, .int .i64 0, .int .i64 0, .int .i64 0, .slice none 0 0, .int .i64 1, .int .i64 0, .int .i64 0, .int .i64 (-2), .int .i64 0, .int .i64 (-1), .slice none 0 0]) [] rfl hH ?_ ?_
  ·intro V hV; go_simp
  try simp only [Act.put, lay_]
  refine wpAnyN_two (i := 0) (j := 7) (by kernel_rfl) rfl rfl (fun K hK => ?_) (fun K hK => ?_)
  ·skip
   go_simp
   refine (plain_ W6).mono ?_
   rintro e V1 ⟨AP, rfl, hfb, hbp⟩
   have HFB := Lib.hid hfb
   have hHV1 := hH.trans (hbp.mono hH.size)
   clear hfb
   go_wp2_with fail
   refine hK.out _ _ (.inr hHV1) ?_
   clear hK K
   try simp only [Act.put, lay_]
   refine wpAnyN_two (i := 3) (j := 7) (by kernel_rfl) rfl rfl (fun K hK => ?_) (fun K hK => ?_)
   ·skip
    have con := NX.out V1 AP HFB.out
    go_simp
    refine con.mono ?_
    clear con
    intro e V2 hpn
    obtain ⟨AX', cX', rfl, hbn⟩ := nx_t2 hpn
    clear hpn
    have hHV2 := hHV1.trans (hbn.mono hHV1.size)
    go_wp2_with fail
    refine hK.out _ _ (.inr hHV2) ?_
    clear hK K
    have hH := hHV2
    try simp only [Act.put, lay_]
    refine tk_ 4 (.tuple #[.agg #[.int .i64 (-2), .int .i64 2, .int .i64 0, .int .i64 0, .slice AX' 0 cX'], .int .i64 0]) [] rfl hH ?_ ?_
    ·intro V hV; go_simp
    try simp only [Act.put, lay_]
    refine tk_ 5 (.agg #[.int .i64 (-2), .int .i64 2, .int .i64 0, .int .i64 0, .slice AX' 0 cX']) [] rfl hH ?_ ?_
    ·intro V hV; go_simp
    try simp only [Act.put, lay_]
    refine tk_ 6 (.int .i64 0) [] rfl hH ?_ ?_
    ·intro V hV; go_simp
    try simp only [Act.put, lay_]
    have hbz : Below V2.heap.size V2 (V2.alloc (.cells #[.int .i64 0, .int .i64 0, .int .i64 0, .int .i64 0, .slice none 0 0] 31)) := (Below.refl _ _).alloc (Nat.le_refl _) _
    have hbx : Below V2.heap.size V2 (V2.alloc (.cells #[.int .i64 (-2), .int .i64 2, .int .i64 0, .int .i64 0, .slice AX' 0 cX'] 31)) := (Below.refl _ _).alloc (Nat.le_refl _) _
    have hcx := Cel.new V2 31 [.int .i64 (-2), .int .i64 2, .int .i64 0, .int .i64 0, .slice AX' 0 cX']
    refine wpAnyN_one (i := 7) (by kernel_rfl) rfl (fun K hK => ?_)
    go_simp
    refine hK.out _ _ (.inr (hHV2.trans (hbz.mono hHV2.size))) ?_
    clear hK K
    try simp only [Act.put, lay_]
    refine wpAnyN_one (i := 8) (by kernel_rfl) rfl (fun K hK => ?_)
    go_simp
    refine hK.out _ _ (.inr (hHV2.trans (hbx.mono hHV2.size))) ?_
    clear hK K
    try simp only [Act.put, lay_]
    refine wpAnyN_one (i := 9) (by kernel_rfl) rfl (fun K hK => ?_)
    go_simp
    refine hK.out _ _ (.inr (hHV2.trans (hbx.mono hHV2.size))) ?_
    clear hK K
    try simp only [Act.put, lay_]
    refine wpAnyN_done (by kernel_rfl) ?_ _
    have HX := Lib.hid hcx
    have HBX := Lib.hid (hHV2.trans (hbx.mono hHV2.size))
    have HSX := Lib.hid hHV2.size
    clear hH hbz hbx hcx
    go_wp2_with fail
    go_meet
    case rel => exact ⟨V2.heap.size, AX', cX', rfl, rfl, HBX.out, HX.out⟩
   ·have hbz : Below V1.heap.size V1 (V1.alloc (.cells #[.int .i64 0, .int .i64 0, .int .i64 0, .int .i64 0, .slice none 0 0] 31)) := (Below.refl _ _).alloc (Nat.le_refl _) _
    have hcz : Cel (V1.alloc (.cells #[.int .i64 0, .int .i64 0, .int .i64 0, .int .i64 0, .slice none 0 0] 31)) V1.heap.size 31 [.int .i64 0, .int .i64 0, .int .i64 0, .int .i64 0, .slice none 0 0] := Cel.new V1 _ _
    have hHz := hHV1.trans (hbz.mono hHV1.size)
    go_simp
    refine hK.out _ _ (.inr hHz) ?_
    clear hK K
    try simp only [Act.put, lay_]
    refine wpAnyN_one (i := 3) (by kernel_rfl) rfl (fun K hK => ?_)
    have con := NX.out _ AP (HFB.out.below hbz)
    go_simp
    refine con.mono ?_
    clear con
    intro e V2 hpn
    obtain ⟨AX', cX', rfl, hbn⟩ := nx_t2 hpn
    clear hpn
    have hHV2 := hHz.trans (hbn.mono hHz.size)
    go_wp2_with fail
    refine hK.out _ _ (.inr hHV2) ?_
    clear hK K
    have hH := hHV2
    try simp only [Act.put, lay_]
    refine tk_ 4 (.tuple #[.agg #[.int .i64 (-2), .int .i64 2, .int .i64 0, .int .i64 0, .slice AX' 0 cX'], .int .i64 0]) [] rfl hH ?_ ?_
    ·intro V hV; go_simp
    try simp only [Act.put, lay_]
    refine tk_ 5 (.agg #[.int .i64 (-2), .int .i64 2, .int .i64 0, .int .i64 0, .slice AX' 0 cX']) [] rfl hH ?_ ?_
    ·intro V hV; go_simp
    try simp only [Act.put, lay_]
    refine tk_ 6 (.int .i64 0) [] rfl hH ?_ ?_
    ·intro V hV; go_simp
    try simp only [Act.put, lay_]
    have hcV := hcz.below hbn hcz.lt
    clear hbz hcz hHz hbn hbp
    have k0 := hcV.cell 0
    have f0 := hcV.free 0
    have k1 := hcV.cell 1
    have f1 := hcV.free 1
    have k2 := hcV.cell 2
    have f2 := hcV.free 2
    have k3 := hcV.cell 3
    have f3 := hcV.free 3
    have k4 := hcV.cell 4
    have f4 := hcV.free 4
    have hgW : W6.heap.size ≤ V1.heap.size := by first | exact Nat.le_refl _ | exact hHV1.size
    have hfx := fw5_frm V2 V1.heap.size (.int .i64 (-2)) (.int .i64 2) (.int .i64 0) (.int .i64 0) (.slice AX' 0 cX')
    have hbx : Below W6.heap.size W6 (fw5 V2 V1.heap.size (.int .i64 (-2)) (.int .i64 2) (.int .i64 0) (.int .i64 0) (.slice AX' 0 cX')) := hHV2.trans (hfx.below hHV2.size (by intro q hq; simp at hq; subst hq; exact hgW))
    have hcx := fw5_cel (a := .int .i64 (-2)) (b := .int .i64 2) (c := .int .i64 0) (d := .int .i64 0) (e := .slice AX' 0 cX') hcV
    unfold fw5 at hbx hcx
    refine wpAnyN_one (i := 8) (by kernel_rfl) rfl (fun K hK => ?_)
    go_simp
    refine hK.out _ _ (.inr hbx) ?_
    clear hK K
    try simp only [Act.put, lay_]
    refine wpAnyN_one (i := 9) (by kernel_rfl) rfl (fun K hK => ?_)
    go_simp
    refine hK.out _ _ (.inr hbx) ?_
    clear hK K
    try simp only [Act.put, lay_]
    refine wpAnyN_done (by kernel_rfl) ?_ _
    have HX := Lib.hid hcx
    have HBX := Lib.hid hbx
    have HSX := Lib.hid hgW
    clear hH hbx hcx hfx hgW k0 k1 k2 k3 k4 f0 f1 f2 f3 f4
    go_wp2_with fail
    go_meet
    case rel => exact ⟨V1.heap.size, AX', cX', rfl, rfl, HBX.out, HX.out⟩
  ·have hbz : Below W6.heap.size W6 (W6.alloc (.cells #[.int .i64 0, .int .i64 0, .int .i64 0, .int .i64 0, .slice none 0 0] 31)) := (Below.refl _ _).alloc (Nat.le_refl _) _
   have hcz : Cel (W6.alloc (.cells #[.int .i64 0, .int .i64 0, .int .i64 0, .int .i64 0, .slice none 0 0] 31)) W6.heap.size 31 [.int .i64 0, .int .i64 0, .int .i64 0, .int .i64 0, .slice none 0 0] := Cel.new W6 _ _
   go_simp
   refine hK.out _ _ (.inr hbz) ?_
   clear hK K
   try simp only [Act.put, lay_]
   refine wpAnyN_one (i := 0) (by kernel_rfl) rfl (fun K hK => ?_)
   go_simp
   refine (plain_ _).mono ?_
   rintro e V1 ⟨AP, rfl, hfb, hbp⟩
   have HFB := Lib.hid hfb
   have hHV1 := hbz.trans (hbp.mono hbz.size)
   clear hfb
   go_wp2_with fail
   refine hK.out _ _ (.inr hHV1) ?_
   clear hK K
   try simp only [Act.put, lay_]
   have hcY := hcz.below hbp hcz.lt
   refine wpAnyN_one (i := 3) (by kernel_rfl) rfl (fun K hK => ?_)
   have con := NX.out V1 AP HFB.out
   go_simp
   refine con.mono ?_
   clear con
   intro e V2 hpn
   obtain ⟨AX', cX', rfl, hbn⟩ := nx_t2 hpn
   clear hpn
   have hHV2 := hHV1.trans (hbn.mono hHV1.size)
   go_wp2_with fail
   refine hK.out _ _ (.inr hHV2) ?_
   clear hK K
   have hH := hHV2
   try simp only [Act.put, lay_]
   refine tk_ 4 (.tuple #[.agg #[.int .i64 (-2), .int .i64 2, .int .i64 0, .int .i64 0, .slice AX' 0 cX'], .int .i64 0]) [] rfl hH ?_ ?_
   ·intro V hV; go_simp
   try simp only [Act.put, lay_]
   refine tk_ 5 (.agg #[.int .i64 (-2), .int .i64 2, .int .i64 0, .int .i64 0, .slice AX' 0 cX']) [] rfl hH ?_ ?_
   ·intro V hV; go_simp
   try simp only [Act.put, lay_]
   refine tk_ 6 (.int .i64 0) [] rfl hH ?_ ?_
   ·intro V hV; go_simp
   try simp only [Act.put, lay_]
   have hcV := hcY.below hbn hcY.lt
   clear hbz hcz hcY hbn hbp
   have k0 := hcV.cell 0
   have f0 := hcV.free 0
   have k1 := hcV.cell 1
   have f1 := hcV.free 1
   have k2 := hcV.cell 2
   have f2 := hcV.free 2
   have k3 := hcV.cell 3
   have f3 := hcV.free 3
   have k4 := hcV.cell 4
   have f4 := hcV.free 4
   have hgW : W6.heap.size ≤ W6.heap.size := by first | exact Nat.le_refl _ | exact hHV1.size
   have hfx := fw5_frm V2 W6.heap.size (.int .i64 (-2)) (.int .i64 2) (.int .i64 0) (.int .i64 0) (.slice AX' 0 cX')
   have hbx : Below W6.heap.size W6 (fw5 V2 W6.heap.size (.int .i64 (-2)) (.int .i64 2) (.int .i64 0) (.int .i64 0) (.slice AX' 0 cX')) := hHV2.trans (hfx.below hHV2.size (by intro q hq; simp at hq; subst hq; exact hgW))
   have hcx := fw5_cel (a := .int .i64 (-2)) (b := .int .i64 2) (c := .int .i64 0) (d := .int .i64 0) (e := .slice AX' 0 cX') hcV
   unfold fw5 at hbx hcx
   refine wpAnyN_one (i := 8) (by kernel_rfl) rfl (fun K hK => ?_)
   go_simp
   refine hK.out _ _ (.inr hbx) ?_
   clear hK K
   try simp only [Act.put, lay_]
   refine wpAnyN_one (i := 9) (by kernel_rfl) rfl (fun K hK => ?_)
   go_simp
   refine hK.out _ _ (.inr hbx) ?_
   clear hK K
   try simp only [Act.put, lay_]
   refine wpAnyN_done (by kernel_rfl) ?_ _
   have HX := Lib.hid hcx
   have HBX := Lib.hid hbx
   have HSX := Lib.hid hgW
   clear hH hbx hcx hfx hgW k0 k1 k2 k3 k4 f0 f1 f2 f3 f4
   go_wp2_with fail
   go_meet
   case rel => exact ⟨W6.heap.size, AX', cX', rfl, rfl, HBX.out, HX.out⟩
 case rest =>
  obtain ⟨g2, AY, cY, rfl, rfl, hb7, hc7⟩ := hcut
  obtain ⟨W7, hW7⟩ : ∃ W, W = wc := ⟨_, rfl⟩
  rw [← hW7] at hb7 hc7 ⊢
  clear hW7 hW6 NX
  obtain ⟨W8, hW8⟩ : ∃ W, W = W7.drew := ⟨_, rfl⟩
  have HB8 := Lib.hid (show Below w.heap.size w W8 by rw [hW8]; exact (HB6.out.trans (hb7.mono HB6.out.size)).drew)
  have HP8 := Lib.hid (show Cel W8 g2 31 [.int .i64 (-2), .int .i64 2, .int .i64 0, .int .i64 0, .slice AY 0 cY] by rw [hW8]; exact hc7.drew)
  have HQ8 := Lib.hid (show Cel W8 g1 31 [.int .i64 0, .int .i64 1, .int .i64 1, .int .i64 0, .slice AX 0 cX] by rw [hW8]; exact (HP6.out.below hb7 HP6.out.lt).drew)
  have NX := Lib.hid (show ∀ V A, Fbk V A [f0] → Calls Try.prog 13 #[.agg #[.slice A 1 1, .slice none 0 0, .int .i64 5], .agg #[.int .i64 (-2), .int .i64 2, .int .i64 0, .int .i64 0, .slice AY 0 cY], .agg #[.int .i64 2, .int .i64 0, .int .i64 0, .int .i64 0, .int .i64 0, .slice none 0 0, .int .i64 2, .int .i64 0, .int .i64 0, .int .i64 0, .int .i64 0, .int .i64 0, .slice none 0 0]] V (PnSays V 0 none) from fun V A h => by
   have q := nx_call HN V A h t2 rfl (by decide) (by decide) AY cY r3 rfl rfl
   rw [nx3] at q
   exact q)
  clear hb7 hc7
  go_wp2_with fail
  go_cut [6] from 22 to 28 (fun s6 wx => s6 = .int .i64 7 ∧ Below W8.heap.size W8 wx)
  case first =>
   refine wp_region_N [] (Below W8.heap.size W8) (by kernel_rfl) ?_
   rw [← hW8]
   have hH : Below W8.heap.size W8 W8 := Below.refl _ _
   clear hW8
   refine tk_ 1 (.agg #[.int .i64 (-2), .int .i64 2, .int .i64 0, .int .i64 0, .slice AY 0 cY]) [] rfl hH ?_ ?_
   ·intro V hV; have hc := HP8.out.below hV HP8.out.lt; have k0 := hc.cell 0; have k1 := hc.cell 1; have k2 := hc.cell 2; have k3 := hc.cell 3; have k4 := hc.cell 4; clear hc; go_simp
   try simp only [Act.put, lay_]
   refine tk_ 2 (.agg #[.int .i64 2, .int .i64 0, .int .i64 0, .int .i64 0, .int .i64 0, .slice none 0 0, .int .i64 2, .int .i64 0, .int .i64 0, .int .i64 0, .int .i64 0, .int .i64 0, .slice none 0 0]) [] rfl hH ?_ ?_
   ·intro V hV; go_simp
   try simp only [Act.put, lay_]
   refine wpAnyN_two (i := 0) (j := 7) (by kernel_rfl) rfl rfl (fun K hK => ?_) (fun K hK => ?_)
   ·skip
    go_simp
    refine (plain_ W8).mono ?_
    rintro e V1 ⟨AP, rfl, hfb, hbp⟩
    have HFB := Lib.hid hfb
    have hHV1 := hH.trans (hbp.mono hH.size)
    clear hfb
    go_wp2_with fail
    refine hK.out _ _ (.inr hHV1) ?_
    clear hK K
    try simp only [Act.put, lay_]
    refine wpAnyN_two (i := 3) (j := 7) (by kernel_rfl) rfl rfl (fun K hK => ?_) (fun K hK => ?_)
    ·skip
     have con := NX.out V1 AP HFB.out
     go_simp
     refine con.mono ?_
     clear con
     intro e V2 hpn
     obtain ⟨rfl, hbn⟩ := nx_bad hpn
     clear hpn
     have hHV2 := hHV1.trans (hbn.mono hHV1.size)
     go_wp2_with fail
     refine hK.out _ _ (.inr hHV2) ?_
     clear hK K
     have hH := hHV2
     try simp only [Act.put, lay_]
     refine tk_ 4 (.tuple #[.agg #[.int .i64 0, .int .i64 0, .int .i64 0, .int .i64 0, .slice none 0 0], .int .i64 7]) [] rfl hH ?_ ?_
     ·intro V hV; go_simp
     try simp only [Act.put, lay_]
     refine tk_ 5 (.agg #[.int .i64 0, .int .i64 0, .int .i64 0, .int .i64 0, .slice none 0 0]) [] rfl hH ?_ ?_
     ·intro V hV; go_simp
     try simp only [Act.put, lay_]
     refine tk_ 6 (.int .i64 7) [] rfl hH ?_ ?_
     ·intro V hV; go_simp
     try simp only [Act.put, lay_]
     have hbz : Below V2.heap.size V2 (V2.alloc (.cells #[.int .i64 0, .int .i64 0, .int .i64 0, .int .i64 0, .slice none 0 0] 31)) := (Below.refl _ _).alloc (Nat.le_refl _) _
     have hbx : Below V2.heap.size V2 (V2.alloc (.cells #[.int .i64 0, .int .i64 0, .int .i64 0, .int .i64 0, .slice none 0 0] 31)) := (Below.refl _ _).alloc (Nat.le_refl _) _
     have hcx := Cel.new V2 31 [.int .i64 0, .int .i64 0, .int .i64 0, .int .i64 0, .slice none 0 0]
     refine wpAnyN_one (i := 7) (by kernel_rfl) rfl (fun K hK => ?_)
     go_simp
     refine hK.out _ _ (.inr (hHV2.trans (hbz.mono hHV2.size))) ?_
     clear hK K
     try simp only [Act.put, lay_]
     refine wpAnyN_one (i := 8) (by kernel_rfl) rfl (fun K hK => ?_)
     go_simp
     refine hK.out _ _ (.inr (hHV2.trans (hbx.mono hHV2.size))) ?_
     clear hK K
     try simp only [Act.put, lay_]
     refine wpAnyN_one (i := 9) (by kernel_rfl) rfl (fun K hK => ?_)
     go_simp
     refine hK.out _ _ (.inr (hHV2.trans (hbx.mono hHV2.size))) ?_
     clear hK K
     try simp only [Act.put, lay_]
     refine wpAnyN_done (by kernel_rfl) ?_ _
     have HX := Lib.hid hcx
     have HBX := Lib.hid (hHV2.trans (hbx.mono hHV2.size))
     have HSX := Lib.hid hHV2.size
     clear hH hbz hbx hcx
     go_wp2_with fail
     go_meet
     case rel => exact ⟨rfl, HBX.out⟩
    ·have hbz : Below V1.heap.size V1 (V1.alloc (.cells #[.int .i64 0, .int .i64 0, .int .i64 0, .int .i64 0, .slice none 0 0] 31)) := (Below.refl _ _).alloc (Nat.le_refl _) _
     have hcz : Cel (V1.alloc (.cells #[.int .i64 0, .int .i64 0, .int .i64 0, .int .i64 0, .slice none 0 0] 31)) V1.heap.size 31 [.int .i64 0, .int .i64 0, .int .i64 0, .int .i64 0, .slice none 0 0] := Cel.new V1 _ _
     have hHz := hHV1.trans (hbz.mono hHV1.size)
     go_simp
     refine hK.out _ _ (.inr hHz) ?_
     clear hK K
     try simp only [Act.put, lay_]
     refine wpAnyN_one (i := 3) (by kernel_rfl) rfl (fun K hK => ?_)
     have con := NX.out _ AP (HFB.out.below hbz)
     go_simp
     refine con.mono ?_
     clear con
     intro e V2 hpn
     obtain ⟨rfl, hbn⟩ := nx_bad hpn
     clear hpn
     have hHV2 := hHz.trans (hbn.mono hHz.size)
     go_wp2_with fail
     refine hK.out _ _ (.inr hHV2) ?_
     clear hK K
     have hH := hHV2
     try simp only [Act.put, lay_]
     refine tk_ 4 (.tuple #[.agg #[.int .i64 0, .int .i64 0, .int .i64 0, .int .i64 0, .slice none 0 0], .int .i64 7]) [] rfl hH ?_ ?_
     ·intro V hV; go_simp
     try simp only [Act.put, lay_]
     refine tk_ 5 (.agg #[.int .i64 0, .int .i64 0, .int .i64 0, .int .i64 0, .slice none 0 0]) [] rfl hH ?_ ?_
     ·intro V hV; go_simp
     try simp only [Act.put, lay_]
     refine tk_ 6 (.int .i64 7) [] rfl hH ?_ ?_
     ·intro V hV; go_simp
     try simp only [Act.put, lay_]
     have hcV := hcz.below hbn hcz.lt
     clear hbz hcz hHz hbn hbp
     have k0 := hcV.cell 0
     have f0 := hcV.free 0
     have k1 := hcV.cell 1
     have f1 := hcV.free 1
     have k2 := hcV.cell 2
     have f2 := hcV.free 2
     have k3 := hcV.cell 3
     have f3 := hcV.free 3
     have k4 := hcV.cell 4
     have f4 := hcV.free 4
     have hgW : W8.heap.size ≤ V1.heap.size := by first | exact Nat.le_refl _ | exact hHV1.size
     have hfx := fw5_frm V2 V1.heap.size (.int .i64 0) (.int .i64 0) (.int .i64 0) (.int .i64 0) (.slice none 0 0)
     have hbx : Below W8.heap.size W8 (fw5 V2 V1.heap.size (.int .i64 0) (.int .i64 0) (.int .i64 0) (.int .i64 0) (.slice none 0 0)) := hHV2.trans (hfx.below hHV2.size (by intro q hq; simp at hq; subst hq; exact hgW))
     have hcx := fw5_cel (a := .int .i64 0) (b := .int .i64 0) (c := .int .i64 0) (d := .int .i64 0) (e := .slice none 0 0) hcV
     unfold fw5 at hbx hcx
     refine wpAnyN_one (i := 8) (by kernel_rfl) rfl (fun K hK => ?_)
     go_simp
     refine hK.out _ _ (.inr hbx) ?_
     clear hK K
     try simp only [Act.put, lay_]
     refine wpAnyN_one (i := 9) (by kernel_rfl) rfl (fun K hK => ?_)
     go_simp
     refine hK.out _ _ (.inr hbx) ?_
     clear hK K
     try simp only [Act.put, lay_]
     refine wpAnyN_done (by kernel_rfl) ?_ _
     have HX := Lib.hid hcx
     have HBX := Lib.hid hbx
     have HSX := Lib.hid hgW
     clear hH hbx hcx hfx hgW k0 k1 k2 k3 k4 f0 f1 f2 f3 f4
     go_wp2_with fail
     go_meet
     case rel => exact ⟨rfl, HBX.out⟩
   ·have hbz : Below W8.heap.size W8 (W8.alloc (.cells #[.int .i64 0, .int .i64 0, .int .i64 0, .int .i64 0, .slice none 0 0] 31)) := (Below.refl _ _).alloc (Nat.le_refl _) _
    have hcz : Cel (W8.alloc (.cells #[.int .i64 0, .int .i64 0, .int .i64 0, .int .i64 0, .slice none 0 0] 31)) W8.heap.size 31 [.int .i64 0, .int .i64 0, .int .i64 0, .int .i64 0, .slice none 0 0] := Cel.new W8 _ _
    go_simp
    refine hK.out _ _ (.inr hbz) ?_
    clear hK K
    try simp only [Act.put, lay_]
    refine wpAnyN_one (i := 0) (by kernel_rfl) rfl (fun K hK => ?_)
    go_simp
    refine (plain_ _).mono ?_
    rintro e V1 ⟨AP, rfl, hfb, hbp⟩
    have HFB := Lib.hid hfb
    have hHV1 := hbz.trans (hbp.mono hbz.size)
    clear hfb
    go_wp2_with fail
    refine hK.out _ _ (.inr hHV1) ?_
    clear hK K
    try simp only [Act.put, lay_]
    have hcY := hcz.below hbp hcz.lt
    refine wpAnyN_one (i := 3) (by kernel_rfl) rfl (fun K hK => ?_)
    have con := NX.out V1 AP HFB.out
    go_simp
    refine con.mono ?_
    clear con
    intro e V2 hpn
    obtain ⟨rfl, hbn⟩ := nx_bad hpn
    clear hpn
    have hHV2 := hHV1.trans (hbn.mono hHV1.size)
    go_wp2_with fail
    refine hK.out _ _ (.inr hHV2) ?_
    clear hK K
    have hH := hHV2
    try simp only [Act.put, lay_]
    refine tk_ 4 (.tuple #[.agg #[.int .i64 0, .int .i64 0, .int .i64 0, .int .i64 0, .slice none 0 0], .int .i64 7]) [] rfl hH ?_ ?_
    ·intro V hV; go_simp
    try simp only [Act.put, lay_]
    refine tk_ 5 (.agg #[.int .i64 0, .int .i64 0, .int .i64 0, .int .i64 0, .slice none 0 0]) [] rfl hH ?_ ?_
    ·intro V hV; go_simp
    try simp only [Act.put, lay_]
    refine tk_ 6 (.int .i64 7) [] rfl hH ?_ ?_
    ·intro V hV; go_simp
    try simp only [Act.put, lay_]
    have hcV := hcY.below hbn hcY.lt
    clear hbz hcz hcY hbn hbp
    have k0 := hcV.cell 0
    have f0 := hcV.free 0
    have k1 := hcV.cell 1
    have f1 := hcV.free 1
    have k2 := hcV.cell 2
    have f2 := hcV.free 2
    have k3 := hcV.cell 3
    have f3 := hcV.free 3
    have k4 := hcV.cell 4
    have f4 := hcV.free 4
    have hgW : W8.heap.size ≤ W8.heap.size := by first | exact Nat.le_refl _ | exact hHV1.size
    have hfx := fw5_frm V2 W8.heap.size (.int .i64 0) (.int .i64 0) (.int .i64 0) (.int .i64 0) (.slice none 0 0)
    have hbx : Below W8.heap.size W8 (fw5 V2 W8.heap.size (.int .i64 0) (.int .i64 0) (.int .i64 0) (.int .i64 0) (.slice none 0 0)) := hHV2.trans (hfx.below hHV2.size (by intro q hq; simp at hq; subst hq; exact hgW))
    have hcx := fw5_cel (a := .int .i64 0) (b := .int .i64 0) (c := .int .i64 0) (d := .int .i64 0) (e := .slice none 0 0) hcV
    unfold fw5 at hbx hcx
    refine wpAnyN_one (i := 8) (by kernel_rfl) rfl (fun K hK => ?_)
    go_simp
    refine hK.out _ _ (.inr hbx) ?_
    clear hK K
    try simp only [Act.put, lay_]
    refine wpAnyN_one (i := 9) (by kernel_rfl) rfl (fun K hK => ?_)
    go_simp
    refine hK.out _ _ (.inr hbx) ?_
    clear hK K
    try simp only [Act.put, lay_]
    refine wpAnyN_done (by kernel_rfl) ?_ _
    have HX := Lib.hid hcx
    have HBX := Lib.hid hbx
    have HSX := Lib.hid hgW
    clear hH hbx hcx hfx hgW k0 k1 k2 k3 k4 f0 f1 f2 f3 f4
    go_wp2_with fail
    go_meet
    case rel => exact ⟨rfl, HBX.out⟩
  case rest =>
   obtain ⟨rfl, hb9⟩ := hcut
   obtain ⟨W9, hW9⟩ : ∃ W, W = wc := ⟨_, rfl⟩
   rw [← hW9] at hb9 ⊢
   clear hW9 hW8 NX
   have HB9 := Lib.hid (HB8.out.trans (hb9.mono HB8.out.size))
   have k2 := (HQ8.out.below hb9 HQ8.out.lt).cell 2
   have j0 := (HP8.out.below hb9 HP8.out.lt).cell 0
   have j1 := (HP8.out.below hb9 HP8.out.lt).cell 1
   clear hb9
   go_wp2_with fail
   go_ret
   exact ⟨rfl, HB9.out⟩
end Go.Proofs.Ytfmkkklcgiaacaa.Fold
