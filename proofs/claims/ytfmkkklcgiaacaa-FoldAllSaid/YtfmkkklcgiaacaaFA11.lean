/-
The program's fold (layer 16): a run's step; whether one of its arms leads so; whether an outcome is possible. (Written by gen_foldpout.py.)
-/
import Derived.Test.YtfmkkklcgiaacaaFA0
import Derived.Test.YtfmkkklcgiaacaaFA1
import Derived.Test.YtfmkkklcgiaacaaFA3
import Derived.Test.YtfmkkklcgiaacaaFA4
import Derived.Test.YtfmkkklcgiaacaaFA6
import Derived.Test.YtfmkkklcgiaacaaFA8
import Derived.Test.YtfmkkklcgiaacaaFA10
set_option linter.unusedVariables false
set_option linter.unusedSimpArgs false
set_option maxRecDepth 100000
set_option maxHeartbeats 4000000
namespace Go.Proofs.Ytfmkkklcgiaacaa.Fold
open Go.RowKit Go.Proofs.Ytfmkkklcgiaacaa.Ord
open Lex (Tx)
open Rec (Stt Rc Rv Rok Vt Tvs Trow txt)
def fw7 (w : World) (g : Nat) (a b c d e f k : Value) : World := ((((((w.setCell ⟨g, 0, none⟩ a).setCell ⟨g, 1, none⟩ b).setCell ⟨g, 2, none⟩ c).setCell ⟨g, 3, none⟩ d).setCell ⟨g, 4, none⟩ e).setCell ⟨g, 5, none⟩ f).setCell ⟨g, 6, none⟩ k
theorem fw7_cel {w : World} {g : Nat} {t : TypeId} {x0 x1 x2 x3 x4 x5 x6 a b c d e f k : Value} (h : Cel w g t [x0, x1, x2, x3, x4, x5, x6]) : Cel (fw7 w g a b c d e f k) g t [a, b, c, d, e, f, k] := ((((((h.set 0 a).set 1 b).set 2 c).set 3 d).set 4 e).set 5 f).set 6 k
theorem fw7_frm (w : World) (g : Nat) (a b c d e f k : Value) : Frm [g] w (fw7 w g a b c d e f k) := (((((((Frm.refl [g] w).set (p := ⟨g, 0, none⟩) (by simp) a).set (p := ⟨g, 1, none⟩) (by simp) b).set (p := ⟨g, 2, none⟩) (by simp) c).set (p := ⟨g, 3, none⟩) (by simp) d).set (p := ⟨g, 4, none⟩) (by simp) e).set (p := ⟨g, 5, none⟩) (by simp) f).set (p := ⟨g, 6, none⟩) (by simp) k
theorem load_step {w : World} {g : Nat} {x0 x1 x2 x3 x4 x5 x6 : Value} (h : Cel w g 47 [x0, x1, x2, x3, x4, x5, x6]) : (loadVar 47 ⟨g, 0, none⟩).run Try.prog w = .ok (.agg #[x0, x1, x2, x3, x4, x5, x6]) w :=
 run_loadVar_mid (P := Try.prog) w g 0 47 [x0, x1, x2, x3, x4, x5, x6] _ (fun j v hv => by rw [Nat.zero_add, h.cell j, hv]) Try.underlying47 rfl (by kernel_rfl)
theorem fld_arms (x0 x1 x2 x3 x4 x5 x6 : Value) (W : World) : (Instr.field 47 (.agg #[x0, x1, x2, x3, x4, x5, x6]) 3).run Try.prog W = .ok x3 W := by kernel_rfl
theorem fld_try (x0 x1 x2 x3 x4 x5 x6 : Value) (W : World) : (Instr.field 47 (.agg #[x0, x1, x2, x3, x4, x5, x6]) 5).run Try.prog W = .ok x5 W := by kernel_rfl
theorem fld_els (x0 x1 x2 x3 x4 x5 x6 : Value) (W : World) : (Instr.field 47 (.agg #[x0, x1, x2, x3, x4, x5, x6]) 6).run Try.prog W = .ok x6 W := by kernel_rfl
abbrev zero7 : List Value := [.string ⟨#[]⟩, .int .i64 0, .slice none 0 0, .slice none 0 0, .int .i64 0, .int .i64 0, .int .i64 0]
theorem fbk_some {w : World} {A : Option Addr} {vs : List Fs} (h : Fbk w A vs) {j : Nat} {f : Fs} (hj : vs[j]? = some f) : ∃ ad, A = some ad := by
 obtain ⟨ad, e, _⟩ := h.st j f hj
 exact ⟨ad, e⟩
section
variable (w : World) (g : Nat) (A : Option Addr) (n c : Nat) (A1 : Option Addr) (nv c1 : Nat) (most : Int) (bg : Bool) (j : Nat) (s2 s3 s4 : Int) (AL : Option Addr) (m cL : Nat)
theorem pstep_ (hc : Cel w g 54 (rcells A n c A1 nv c1 most bg (j : Int) s2 s3 s4 AL m cL)) (vs : List Fs) (hf : Fbk w A vs) (hl : vs.length = n) (f : Fs) (hj : vs[j]? = some f) :
  Calls Try.prog 63 #[pp g 0] w fun e w' => e = .returned (sval f) ∧ Below w.heap.size w w' := by
 have hjn : j < n := by rw [← hl]; exact (List.getElem?_eq_some_iff.1 hj).1
 obtain ⟨ad, rfl⟩ := fbk_some hf hj
 obtain ⟨W0, hW0⟩ : ∃ W, W = w.alloc (.cells zero7.toArray 47) := ⟨_, rfl⟩
 obtain ⟨W, hW⟩ : ∃ W, W = W0.drew := ⟨_, rfl⟩
 have hb0 : Below w.heap.size w W0 := by rw [hW0]; exact (Below.refl _ _).alloc (Nat.le_refl _) _
 have hbw : Below w.heap.size w W := by rw [hW]; exact hb0.drew
 have HBW := Lib.hid hbw
 have HC := Lib.hid (hc.below hbw hc.lt)
 have HZ := Lib.hid (show Cel W w.heap.size 47 zero7 by rw [hW, hW0]; exact (Cel.new w _ _).drew)
 have HF := Lib.hid (show ∀ V, Below W.heap.size W V → Fbk V (some ad) vs from fun V h => (hf.below hbw).below h)
 have HJ := Lib.hid hj
 clear hc hf hl hj hb0 hbw
 unfold zero7 at hW0
 go_enter Try.func63, Try.ntmps63
 go_upto_region 1 with fail
 rw [← hW0]
 refine wp_region_N [12] (fun V => Below W.heap.size W V) (by kernel_rfl) ?_
 rw [← hW]
 have hH : Below W.heap.size W W := Below.refl _ _
 clear hW hW0
 refine tk_ 0 (.pointer (some ⟨g, 0, none⟩)) [12] rfl hH ?_ ?_
 ·intro V hV; go_simp
 try simp only [Act.put, lay_]
 refine tk_ 1 (.pointer (some ⟨g, 0, none⟩)) [12] rfl hH ?_ ?_
 ·intro V hV; go_simp
 try simp only [Act.put, lay_]
 refine tk_ 2 (.pointer (some ⟨g, 0, none⟩)) [12] rfl hH ?_ ?_
 ·intro V hV; go_simp
 try simp only [Act.put, lay_]
 refine tk_ 3 (.pointer (some ⟨g, 0, none⟩)) [12] rfl hH ?_ ?_
 ·intro V hV; go_simp
 try simp only [Act.put, lay_]
 refine tk_ 4 (.slice (some ad) n c) [12] rfl hH ?_ ?_
 ·intro V hV; have hc := HC.out.below hV HC.out.lt; have k0 : V.cell? ⟨g, 0, none⟩ = some (.slice (some ad) n c) := hc.cell 0; clear hc; go_simp
 try simp only [Act.put, lay_]
 refine tk_ 5 (.pointer (some ⟨g, 0, none⟩)) [12] rfl hH ?_ ?_
 ·intro V hV; go_simp
 try simp only [Act.put, lay_]
 refine tk_ 6 (.pointer (some ⟨g, 0, none⟩)) [12] rfl hH ?_ ?_
 ·intro V hV; go_simp
 try simp only [Act.put, lay_]
 refine tk_ 7 (.pointer (some ⟨g, 4, none⟩)) [12] rfl hH ?_ ?_
 ·intro V hV; go_simp
 try simp only [Act.put, lay_]
 refine tk_ 8 (.pointer (some ⟨g, 4, none⟩)) [12] rfl hH ?_ ?_
 ·intro V hV; go_simp
 try simp only [Act.put, lay_]
 refine tk_ 9 (.int .i64 (j : Int)) [12] rfl hH ?_ ?_
 ·intro V hV; have hc := HC.out.below hV HC.out.lt; have k0 : V.cell? ⟨g, 4, none⟩ = some (.int .i64 (j : Int)) := hc.cell 4; clear hc; go_simp
 try simp only [Act.put, lay_]
 refine tk_ 10 (.pointer (some (ad.add (j * 7)))) [12] rfl hH ?_ ?_
 ·intro V hV; go_simp
 try simp only [Act.put, lay_]
 refine tk_ 11 (.agg #[.string f.nm, .int .i64 f.tag, .slice f.A2 f.n2 f.c2, .slice f.A3 f.arms.length f.c3, .int .i64 f.time, .int .i64 f.try_, .int .i64 f.els]) [12] rfl hH ?_ ?_
 ·intro V hV; obtain ⟨ad', e', k0, k1, k2, k3, k4, k5, k6⟩ := (HF.out V hV).at_ HJ.out; cases e'; go_simp
 try simp only [Act.put, lay_]
 have k0 := HZ.out.cell 0
 have k1 := HZ.out.cell 1
 have k2 := HZ.out.cell 2
 have k3 := HZ.out.cell 3
 have k4 := HZ.out.cell 4
 have k5 := HZ.out.cell 5
 have k6 := HZ.out.cell 6
 have f0 := HZ.out.free 0
 have f1 := HZ.out.free 1
 have f2 := HZ.out.free 2
 have f3 := HZ.out.free 3
 have f4 := HZ.out.free 4
 have f5 := HZ.out.free 5
 have f6 := HZ.out.free 6
 refine wpAnyN_one (i := 12) (by kernel_rfl) rfl (fun Kq hKq => ?_)
 go_simp
 refine hKq.out _ _ (.inl (by simp)) ?_
 clear hKq Kq
 refine wpAnyN_done (by kernel_rfl) ?_ _
 have hx := fw7_cel (a := .string f.nm) (b := .int .i64 f.tag) (c := .slice f.A2 f.n2 f.c2) (d := .slice f.A3 f.arms.length f.c3) (e := .int .i64 f.time) (f := .int .i64 f.try_) (k := .int .i64 f.els) HZ.out
 have hfx := fw7_frm W w.heap.size (.string f.nm) (.int .i64 f.tag) (.slice f.A2 f.n2 f.c2) (.slice f.A3 f.arms.length f.c3) (.int .i64 f.time) (.int .i64 f.try_) (.int .i64 f.els)
 clear k0 k1 k2 k3 k4 k5 k6 f0 f1 f2 f3 f4 f5 f6
 go_wp2_with fail
 exact bodyPost_ret (v := sval f) (Rec.results_cell_ 2 47 Try.results63 ⟨w.heap.size, 0, none⟩ rfl _ (load_step hx)) rfl ⟨rfl, HBW.out.trans (hfx.below HBW.out.size (by simp))⟩
end
/-! ### Whether one of the step's arms leads so. -/
def ledB (v : Rv) (a : Fa) : Bool := (a.to_ == v.r.to) && (a.var == v.r.var)
theorem led_any (v : Rv) (f : Fs) : f.arms.any (ledB v) = armR f.m v.r.to v.r.var := by
 unfold armR Fs.m
 rw [List.any_map]
 congr 1
theorem leads_ (w : World) (h : Nat) (v : Rv) (hc : Cel w h 42 v.cells) (a : Fa) :
  Calls Try.prog 78 #[.agg #[.slice a.A a.n a.c, .int .i64 a.var, .int .i64 a.to_], pp h 0] w fun e w' => e = .returned (.bool (ledB v a)) ∧ Below w.heap.size w w' := by
 obtain ⟨W1, hW1⟩ : ∃ w1, w1 = w.alloc (.cells #[.slice a.A a.n a.c, .int .i64 a.var, .int .i64 a.to_] 50) := ⟨_, rfl⟩
 have hb1 : Below w.heap.size w W1 := by rw [hW1]; exact (Below.refl _ _).alloc (Nat.le_refl _) _
 have hca : Cel W1 w.heap.size 50 [.slice a.A a.n a.c, .int .i64 a.var, .int .i64 a.to_] := by rw [hW1]; exact Cel.new w _ _
 have hcr := hc.below hb1 hc.lt
 have HB1 := Lib.hid hb1
 have k1 := hca.cell 1
 have k2 := hca.cell 2
 have r9 : W1.cell? ⟨h, 9, none⟩ = some (.int .i64 v.r.to) := hcr.cell 9
 have r11 : W1.cell? ⟨h, 11, none⟩ = some (.int .i64 v.r.var) := hcr.cell 11
 obtain ⟨T, hT⟩ : ∃ T, T = ledB v a := ⟨_, rfl⟩
 rw [← hT]
 unfold ledB at hT
 have HT := Lib.hid hT
 clear hT hb1 hca hcr hc
 generalize v.r.to = rt at *
 generalize v.r.var = rv at *
 generalize a.to_ = at_ at *
 generalize a.var = av at *
 cases h1 : (at_ == rt) with
 | false =>
  have HN := Lib.hid (show T = false by rw [HT.out, h1]; rfl)
  clear HT
  go_enter Try.func78, Try.ntmps78
  go_upto_region 1 with fail
  rw [← hW1]
  clear hW1
  go_wp2_with fail
  go_ret
  rw [HN.out]
  exact ⟨rfl, HB1.out⟩
 | true =>
  have HN := Lib.hid (show T = (av == rv) by rw [HT.out, h1]; rfl)
  obtain ⟨d, hd⟩ : ∃ d, d = (av == rv) := ⟨_, rfl⟩
  rw [← hd] at HN
  have HD := Lib.hid hd
  clear HT hd
  go_enter Try.func78, Try.ntmps78
  go_upto_region 1 with fail
  rw [← hW1]
  clear hW1
  go_wp2_with fail
  go_ret
  rw [HN.out, HD.out]
  exact ⟨rfl, HB1.out⟩
theorem index_ (w : World) (h : Nat) (v : Rv) (hc : Cel w h 42 v.cells) (f : Fs) (hf : Far w f) (hm : f.arms.length ≤ 1000) :
  Calls Try.prog 80 #[.slice f.A3 f.arms.length f.c3, .func (.func 78) #[] #[pp h 0]] w fun e w' => ∃ k : Int, e = .returned (.int .i64 k) ∧ (decide (0 ≤ k) = f.arms.any (ledB v)) ∧ Below w.heap.size w w' := by
 have HC := Lib.hid hc
 have HF := Lib.hid hf
 obtain ⟨n, hn⟩ : ∃ n, n = f.arms.length := ⟨_, rfl⟩
 rw [← hn] at hm ⊢
 have HN := Lib.hid hn
 clear hc hf hn
 go_enter Try.func80, Try.ntmps80
 go_wp2_with fail
 go_loopw [8] (fun v8 wr => ∃ (i : Nat), i ≤ n ∧ v8 = .int .i64 (i : Int) ∧ Below w.heap.size w wr ∧ Hid (f.arms.any (ledB v) = (f.arms.drop i).any (ledB v))) (fun v8 _ => n - (intOf v8).toNat)
 case atStart => exact ⟨0, Nat.zero_le _, rfl, Below.refl _ _, Lib.hid (by rw [List.drop_zero])⟩
 case round =>
  obtain ⟨i, hi, rfl, hb, HK⟩ := hrel
  obtain ⟨W, hW⟩ : ∃ W, W = wr := ⟨_, rfl⟩
  rw [← hW] at hb ⊢
  clear hW
  have HB := Lib.hid hb
  rcases Nat.lt_or_ge i n with hlt | hge
  ·obtain ⟨a, ha⟩ : ∃ a, f.arms[i]? = some a := ⟨_, List.getElem?_eq_getElem (by rw [← HN.out]; exact hlt)⟩
   have hda : f.arms.drop i = a :: f.arms.drop (i + 1) := by
    obtain ⟨hl, rfl⟩ := List.getElem?_eq_some_iff.1 ha
    exact List.drop_eq_getElem_cons hl
   obtain ⟨ad, hA3, a0, a1, a2⟩ := (HF.out.below hb).at_ ha
   rw [hA3]
   have con := leads_ W h v (HC.out.below hb HC.out.lt) a
   obtain ⟨b, hbb⟩ : ∃ b, b = ledB v a := ⟨_, rfl⟩
   rw [← hbb] at con
   have HL := Lib.hid (show f.arms.any (ledB v) = (b || (f.arms.drop (i + 1)).any (ledB v)) by rw [HK.out, hda, List.any_cons, hbb])
   clear HK hda hbb hb ha
   go_wp2_with fail
   refine con.mono ?_
   clear con
   rintro e w2 ⟨rfl, hb2⟩
   have HB2 := Lib.hid (HB.out.trans (hb2.mono HB.out.size))
   clear hb2
   cases b with
   | true =>
    go_wp2_with fail
    go_ret
    refine ⟨(i : Int), rfl, ?_, HB2.out⟩
    rw [HL.out]
    simp
   | false =>
    go_wp2_with fail
    exact ⟨⟨i + 1, by omega, by rw [show ((i + 1 : Nat) : Int) = (i : Int) + 1 by omega], HB2.out, Lib.hid (by rw [HL.out]; rfl)⟩, by simp [intOf]; omega⟩
  ·have HN := Lib.hid (show f.arms.any (ledB v) = false by rw [HK.out, List.drop_eq_nil_of_le (by rw [← HN.out]; exact hge)]; rfl)
   clear hb HK
   go_wp2_with fail
   go_ret
   exact ⟨-1, rfl, by rw [HN.out]; rfl, HB.out⟩
theorem contains_ (w : World) (h : Nat) (v : Rv) (hc : Cel w h 42 v.cells) (f : Fs) (hf : Far w f) (hm : f.arms.length ≤ 1000) :
  Calls Try.prog 79 #[.slice f.A3 f.arms.length f.c3, .func (.func 78) #[] #[pp h 0]] w fun e w' => e = .returned (.bool (armR f.m v.r.to v.r.var)) ∧ Below w.heap.size w w' := by
 have con := index_ w h v hc f hf hm
 rw [led_any] at con
 generalize armR f.m v.r.to v.r.var = b at *
 clear hc hf hm
 go_enter Try.func79, Try.ntmps79
 go_wp2_with fail
 refine con.mono ?_
 clear con
 rintro e w2 ⟨k, rfl, hk, hb2⟩
 have HB2 := Lib.hid hb2
 clear hb2
 go_wp2_with fail
 go_ret
 exact ⟨rfl, HB2.out⟩
end Go.Proofs.Ytfmkkklcgiaacaa.Fold
