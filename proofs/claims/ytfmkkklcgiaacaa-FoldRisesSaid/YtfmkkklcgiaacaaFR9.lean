/-
The program's records (layer 15): the spans, and each field's method, for any pass. (Written by gen_recfield.py.)
-/
import Derived.Test.YtfmkkklcgiaacaaFR0
import Derived.Test.YtfmkkklcgiaacaaFR1
set_option linter.unusedVariables false
set_option linter.unusedSimpArgs false
set_option maxRecDepth 100000
namespace Go.Proofs.Ytfmkkklcgiaacaa.Rec
open Go.RowKit Go.Proofs.Ytfmkkklcgiaacaa.Ord
theorem results_cell1 {P : Program} {fn : Func} {tmps : Array Value} {w : World} (a : Tmp) (t : TypeId) (hr : fn.results = #[.cell a t]) (ad : Addr) (ha : tmps.getD a undef = .pointer (some ad)) (v : Value) (hl : (loadVar t ad).run P w = .ok v w) :
  (results fn tmps).run P w = .ok v w := by
 unfold results
 rw [hr]
 simp only [List.mapM_toArray, List.mapM_cons, List.mapM_nil, ha, asAddr]
 simp [hl]
def spn (a b c d : Int) : Value := .agg #[.int .i64 a, .int .i64 b, .int .i64 c, .int .i64 d]
theorem load_spn {w : World} {g : Nat} {x0 x1 x2 x3 : Value} (h : Cel w g 115 [x0, x1, x2, x3]) : (loadVar 115 ⟨g, 0, none⟩).run Try.prog w = .ok (.agg #[x0, x1, x2, x3]) w :=
 run_loadVar_mid (P := Try.prog) w g 0 115 [x0, x1, x2, x3] _ (fun j v hv => by rw [Nat.zero_add, h.cell j, hv]) Try.underlying115 rfl (by kernel_rfl)
theorem store4 {V : World} {g : Nat} {t : TypeId} {z0 z1 z2 z3 : Value} (x0 x1 x2 x3 : Value) (h : Cel V g t [z0, z1, z2, z3]) : Cel ((((V.setCell ⟨g, 0, none⟩ x0).setCell ⟨g, 1, none⟩ x1).setCell ⟨g, 2, none⟩ x2).setCell ⟨g, 3, none⟩ x3) g t [x0, x1, x2, x3] := (((h.set 0 x0).set 1 x1).set 2 x2).set 3 x3
abbrev pp (g : Nat) (i : Nat) : Value := .pointer (some ⟨g, i, none⟩)
structure Meth (T J : Nat) (s : String) (fn : Nat) : Prop where
 at_ : ∀ (m : Nat) (W : World), (method (m + 1) T (pp J 0) s).run Try.prog W = .ok (fn, pp J 0) W
 ent : ∀ args W, (callFunc fn args).run Try.prog W = .ok (.enter fn args) W
def Fld (w : World) (F R J T : Nat) : Prop := Cel w F 102 [pp R 0, .iface T (pp J 0)]
theorem places_ (w : World) : Calls Try.prog 66 #[] w fun e w' => e = .returned (spn (-3) (29) (3) (1)) ∧ Below w.heap.size w w' := by
 obtain ⟨w1, hw1⟩ : ∃ w1, w1 = w.alloc (.cells #[.int .i64 0, .int .i64 0, .int .i64 0, .int .i64 0] 115) := ⟨_, rfl⟩
 have hc := Cel.new w 115 [.int .i64 0, .int .i64 0, .int .i64 0, .int .i64 0]
 have HB : Hid (Below w.heap.size w w1) := Lib.hid (by rw [hw1]; exact (Below.refl _ _).alloc (Nat.le_refl _) _)
 have HC : Hid (Cel w1 w.heap.size 115 [.int .i64 0, .int .i64 0, .int .i64 0, .int .i64 0]) := Lib.hid (by rw [hw1]; exact hc)
 clear hc
 go_enter Try.func66, Try.ntmps66
 go_upto_region 1 with fail
 rw [← hw1]
 clear hw1
 have y0 := HC.out.cell 0
 have y1 := HC.out.cell 1
 have y2 := HC.out.cell 2
 have y3 := HC.out.cell 3
 have f0 := HC.out.free 0
 have f1 := HC.out.free 1
 have f2 := HC.out.free 2
 have f3 := HC.out.free 3
 go_wp2_with fail
 refine bodyPost_ret (v := spn (-3) (29) (3) (1)) (results_cell1 0 115 Try.results66 ⟨w.heap.size, 0, none⟩ rfl _ (load_spn (store4 (.int .i64 (-3)) (.int .i64 29) (.int .i64 3) (.int .i64 1) HC.out))) rfl ⟨rfl, ?_⟩
 exact HB.out.trans ((((((Frm.refl [w.heap.size] w1).set (by simp) _).set (by simp) _).set (by simp) _).set (by simp) _).below HB.out.size (by simp))
theorem visits_ (w : World) : Calls Try.prog 67 #[] w fun e w' => e = .returned (spn (1) (1001) (0) (2)) ∧ Below w.heap.size w w' := by
 obtain ⟨w1, hw1⟩ : ∃ w1, w1 = w.alloc (.cells #[.int .i64 0, .int .i64 0, .int .i64 0, .int .i64 0] 115) := ⟨_, rfl⟩
 have hc := Cel.new w 115 [.int .i64 0, .int .i64 0, .int .i64 0, .int .i64 0]
 have HB : Hid (Below w.heap.size w w1) := Lib.hid (by rw [hw1]; exact (Below.refl _ _).alloc (Nat.le_refl _) _)
 have HC : Hid (Cel w1 w.heap.size 115 [.int .i64 0, .int .i64 0, .int .i64 0, .int .i64 0]) := Lib.hid (by rw [hw1]; exact hc)
 clear hc
 go_enter Try.func67, Try.ntmps67
 go_upto_region 1 with fail
 rw [← hw1]
 clear hw1
 have y0 := HC.out.cell 0
 have y1 := HC.out.cell 1
 have y2 := HC.out.cell 2
 have y3 := HC.out.cell 3
 have f0 := HC.out.free 0
 have f1 := HC.out.free 1
 have f2 := HC.out.free 2
 have f3 := HC.out.free 3
 go_wp2_with fail
 refine bodyPost_ret (v := spn (1) (1001) (0) (2)) (results_cell1 0 115 Try.results67 ⟨w.heap.size, 0, none⟩ rfl _ (load_spn (store4 (.int .i64 1) (.int .i64 1001) (.int .i64 0) (.int .i64 2) HC.out))) rfl ⟨rfl, ?_⟩
 exact HB.out.trans ((((((Frm.refl [w.heap.size] w1).set (by simp) _).set (by simp) _).set (by simp) _).set (by simp) _).below HB.out.size (by simp))
theorem offsets_ (w : World) : Calls Try.prog 68 #[] w fun e w' => e = .returned (spn (0) (2147483647) (0) (4)) ∧ Below w.heap.size w w' := by
 obtain ⟨w1, hw1⟩ : ∃ w1, w1 = w.alloc (.cells #[.int .i64 0, .int .i64 0, .int .i64 0, .int .i64 0] 115) := ⟨_, rfl⟩
 have hc := Cel.new w 115 [.int .i64 0, .int .i64 0, .int .i64 0, .int .i64 0]
 have HB : Hid (Below w.heap.size w w1) := Lib.hid (by rw [hw1]; exact (Below.refl _ _).alloc (Nat.le_refl _) _)
 have HC : Hid (Cel w1 w.heap.size 115 [.int .i64 0, .int .i64 0, .int .i64 0, .int .i64 0]) := Lib.hid (by rw [hw1]; exact hc)
 clear hc
 go_enter Try.func68, Try.ntmps68
 go_upto_region 1 with fail
 rw [← hw1]
 clear hw1
 have y0 := HC.out.cell 0
 have y1 := HC.out.cell 1
 have y2 := HC.out.cell 2
 have y3 := HC.out.cell 3
 have f0 := HC.out.free 0
 have f1 := HC.out.free 1
 have f2 := HC.out.free 2
 have f3 := HC.out.free 3
 go_wp2_with fail
 refine bodyPost_ret (v := spn (0) (2147483647) (0) (4)) (results_cell1 0 115 Try.results68 ⟨w.heap.size, 0, none⟩ rfl _ (load_spn (store4 (.int .i64 0) (.int .i64 2147483647) (.int .i64 0) (.int .i64 4) HC.out))) rfl ⟨rfl, ?_⟩
 exact HB.out.trans ((((((Frm.refl [w.heap.size] w1).set (by simp) _).set (by simp) _).set (by simp) _).set (by simp) _).below HB.out.size (by simp))
theorem f_stateStep (w : World) {F R J T fn : Nat} (h : Fld w F R J T) (hm : Meth T J "davit/record.number" fn) {Q : Ending → World → Prop} (hQ : ∀ e V, Q e V → e = .returned (.tuple #[])) (con : ∀ V, Below w.heap.size w V → Calls Try.prog fn #[pp J 0, pp R 1, spn (-3) (29) (3) (1)] V Q) : Calls Try.prog 49 #[pp F 0] w Q := by
 unfold Fld pp at h
 have HF := Lib.hid h
 have HQ := Lib.hid hQ
 have CON := Lib.hid con
 have hm1 := hm.at_
 have hE := hm.ent
 unfold pp at hm1
 clear h hm hQ con
 go_enter Try.func49, Try.ntmps49
 refine Ord.wp_region_N [14] (fun V => Below w.heap.size w V) (by kernel_rfl) ?_
 have hH : Below w.heap.size w w.drew := (Below.refl _ _).drew
 refine tk_ 0 (.pointer (some ⟨F, 0, none⟩)) [1, 2, 3, 13, 14] rfl hH ?_ ?_
 ·intro V hV; go_simp
 try simp only [Act.put, lay_]
 refine tk_ 1 (.pointer (some ⟨F, 0, none⟩)) [2, 3, 13, 14] rfl hH ?_ ?_
 ·intro V hV; go_simp
 try simp only [Act.put, lay_]
 refine tk_ 2 (.pointer (some ⟨F, 1, none⟩)) [3, 13, 14] rfl hH ?_ ?_
 ·intro V hV; go_simp
 try simp only [Act.put, lay_]
 refine tk_ 3 (.iface T (.pointer (some ⟨J, 0, none⟩))) [13, 14] rfl hH ?_ ?_
 ·intro V hV; have hc := Cel.below HF.out hV HF.out.lt; have k0 := hc.cell 0; have k1 := hc.cell 1; clear hc; go_simp
 try simp only [Act.put, lay_]
 refine tk_ 4 (.pointer (some ⟨F, 0, none⟩)) [5, 6, 7, 8, 9, 10, 14] rfl hH ?_ ?_
 ·intro V hV; go_simp
 try simp only [Act.put, lay_]
 refine tk_ 5 (.pointer (some ⟨F, 0, none⟩)) [6, 7, 8, 9, 10, 14] rfl hH ?_ ?_
 ·intro V hV; go_simp
 try simp only [Act.put, lay_]
 refine tk_ 6 (.pointer (some ⟨F, 0, none⟩)) [7, 8, 9, 10, 14] rfl hH ?_ ?_
 ·intro V hV; go_simp
 try simp only [Act.put, lay_]
 refine tk_ 7 (.pointer (some ⟨R, 0, none⟩)) [8, 9, 10, 14] rfl hH ?_ ?_
 ·intro V hV; have hc := Cel.below HF.out hV HF.out.lt; have k0 := hc.cell 0; have k1 := hc.cell 1; clear hc; go_simp
 try simp only [Act.put, lay_]
 refine tk_ 8 (.pointer (some ⟨R, 0, none⟩)) [9, 10, 14] rfl hH ?_ ?_
 ·intro V hV; go_simp
 try simp only [Act.put, lay_]
 refine tk_ 9 (.pointer (some ⟨R, 1, none⟩)) [10, 14] rfl hH ?_ ?_
 ·intro V hV; go_simp
 try simp only [Act.put, lay_]
 refine tk_ 10 (.pointer (some ⟨R, 1, none⟩)) [14] rfl hH ?_ ?_
 ·intro V hV; go_simp
 try simp only [Act.put, lay_]
 refine tk_ 12 (.iface T (.pointer (some ⟨J, 0, none⟩))) [13, 14] rfl hH ?_ ?_
 ·intro V hV; go_simp
 try simp only [Act.put, lay_]
 refine tk_ 13 (.iface T (.pointer (some ⟨J, 0, none⟩))) [14] rfl hH ?_ ?_
 ·intro V hV; go_simp
 try simp only [Act.put, lay_]
 refine wpAnyN_one (i := 11) (by kernel_rfl) rfl (fun K hK => ?_)
 go_simp
 refine (places_ w.drew).mono ?_
 rintro e V ⟨rfl, hb⟩
 have hV : Below w.heap.size w V := (Below.refl _ _).drew.trans hb
 unfold spn
 go_wp2_with fail
 refine hK.out _ _ (.inr hV) ?_
 clear hK K hH
 try simp only [Act.put, lay_]
 have con := CON.out _ hV
 unfold spn pp at con
 refine wpAnyN_one (i := 14) (by kernel_rfl) rfl (fun K hK => ?_)
 go_simp
 refine con.mono ?_
 intro e V2 hq
 obtain rfl := HQ.out e V2 hq
 have HP := Lib.hid hq
 clear hq con
 go_wp2_with fail
 refine hK.out _ _ (.inl (by decide)) ?_
 clear hK K
 try simp only [Act.put, lay_]
 refine wpAnyN_done (by kernel_rfl) ?_ _
 go_wp2_with fail
 go_end0
 exact HP.out
theorem f_stateVisit (w : World) {F R J T fn : Nat} (h : Fld w F R J T) (hm : Meth T J "davit/record.number" fn) {Q : Ending → World → Prop} (hQ : ∀ e V, Q e V → e = .returned (.tuple #[])) (con : ∀ V, Below w.heap.size w V → Calls Try.prog fn #[pp J 0, pp R 2, spn (1) (1001) (0) (2)] V Q) : Calls Try.prog 50 #[pp F 0] w Q := by
 unfold Fld pp at h
 have HF := Lib.hid h
 have HQ := Lib.hid hQ
 have CON := Lib.hid con
 have hm1 := hm.at_
 have hE := hm.ent
 unfold pp at hm1
 clear h hm hQ con
 go_enter Try.func50, Try.ntmps50
 refine Ord.wp_region_N [14] (fun V => Below w.heap.size w V) (by kernel_rfl) ?_
 have hH : Below w.heap.size w w.drew := (Below.refl _ _).drew
 refine tk_ 0 (.pointer (some ⟨F, 0, none⟩)) [1, 2, 3, 13, 14] rfl hH ?_ ?_
 ·intro V hV; go_simp
 try simp only [Act.put, lay_]
 refine tk_ 1 (.pointer (some ⟨F, 0, none⟩)) [2, 3, 13, 14] rfl hH ?_ ?_
 ·intro V hV; go_simp
 try simp only [Act.put, lay_]
 refine tk_ 2 (.pointer (some ⟨F, 1, none⟩)) [3, 13, 14] rfl hH ?_ ?_
 ·intro V hV; go_simp
 try simp only [Act.put, lay_]
 refine tk_ 3 (.iface T (.pointer (some ⟨J, 0, none⟩))) [13, 14] rfl hH ?_ ?_
 ·intro V hV; have hc := Cel.below HF.out hV HF.out.lt; have k0 := hc.cell 0; have k1 := hc.cell 1; clear hc; go_simp
 try simp only [Act.put, lay_]
 refine tk_ 4 (.pointer (some ⟨F, 0, none⟩)) [5, 6, 7, 8, 9, 10, 14] rfl hH ?_ ?_
 ·intro V hV; go_simp
 try simp only [Act.put, lay_]
 refine tk_ 5 (.pointer (some ⟨F, 0, none⟩)) [6, 7, 8, 9, 10, 14] rfl hH ?_ ?_
 ·intro V hV; go_simp
 try simp only [Act.put, lay_]
 refine tk_ 6 (.pointer (some ⟨F, 0, none⟩)) [7, 8, 9, 10, 14] rfl hH ?_ ?_
 ·intro V hV; go_simp
 try simp only [Act.put, lay_]
 refine tk_ 7 (.pointer (some ⟨R, 0, none⟩)) [8, 9, 10, 14] rfl hH ?_ ?_
 ·intro V hV; have hc := Cel.below HF.out hV HF.out.lt; have k0 := hc.cell 0; have k1 := hc.cell 1; clear hc; go_simp
 try simp only [Act.put, lay_]
 refine tk_ 8 (.pointer (some ⟨R, 0, none⟩)) [9, 10, 14] rfl hH ?_ ?_
 ·intro V hV; go_simp
 try simp only [Act.put, lay_]
 refine tk_ 9 (.pointer (some ⟨R, 1, none⟩)) [10, 14] rfl hH ?_ ?_
 ·intro V hV; go_simp
 try simp only [Act.put, lay_]
 refine tk_ 10 (.pointer (some ⟨R, 2, none⟩)) [14] rfl hH ?_ ?_
 ·intro V hV; go_simp
 try simp only [Act.put, lay_]
 refine tk_ 12 (.iface T (.pointer (some ⟨J, 0, none⟩))) [13, 14] rfl hH ?_ ?_
 ·intro V hV; go_simp
 try simp only [Act.put, lay_]
 refine tk_ 13 (.iface T (.pointer (some ⟨J, 0, none⟩))) [14] rfl hH ?_ ?_
 ·intro V hV; go_simp
 try simp only [Act.put, lay_]
 refine wpAnyN_one (i := 11) (by kernel_rfl) rfl (fun K hK => ?_)
 go_simp
 refine (visits_ w.drew).mono ?_
 rintro e V ⟨rfl, hb⟩
 have hV : Below w.heap.size w V := (Below.refl _ _).drew.trans hb
 unfold spn
 go_wp2_with fail
 refine hK.out _ _ (.inr hV) ?_
 clear hK K hH
 try simp only [Act.put, lay_]
 have con := CON.out _ hV
 unfold spn pp at con
 refine wpAnyN_one (i := 14) (by kernel_rfl) rfl (fun K hK => ?_)
 go_simp
 refine con.mono ?_
 intro e V2 hq
 obtain rfl := HQ.out e V2 hq
 have HP := Lib.hid hq
 clear hq con
 go_wp2_with fail
 refine hK.out _ _ (.inl (by decide)) ?_
 clear hK K
 try simp only [Act.put, lay_]
 refine wpAnyN_done (by kernel_rfl) ?_ _
 go_wp2_with fail
 go_end0
 exact HP.out
theorem f_stateTries (w : World) {F R J T fn : Nat} (h : Fld w F R J T) (hm : Meth T J "davit/record.number" fn) {Q : Ending → World → Prop} (hQ : ∀ e V, Q e V → e = .returned (.tuple #[])) (con : ∀ V, Below w.heap.size w V → Calls Try.prog fn #[pp J 0, pp R 3, spn (0) (6) (0) (1)] V Q) : Calls Try.prog 51 #[pp F 0] w Q := by
 unfold Fld pp at h
 have HF := Lib.hid h
 have HQ := Lib.hid hQ
 have CON := Lib.hid con
 have hm1 := hm.at_
 have hE := hm.ent
 unfold pp at hm1
 clear h hm hQ con
 go_enter Try.func51, Try.ntmps51
 refine Ord.wp_region_N [14] (fun V => Below w.heap.size w V) (by kernel_rfl) ?_
 have hH : Below w.heap.size w w.drew := (Below.refl _ _).drew
 refine tk_ 0 (.pointer (some ⟨F, 0, none⟩)) [1, 2, 3, 13, 14] rfl hH ?_ ?_
 ·intro V hV; go_simp
 try simp only [Act.put, lay_]
 refine tk_ 1 (.pointer (some ⟨F, 0, none⟩)) [2, 3, 13, 14] rfl hH ?_ ?_
 ·intro V hV; go_simp
 try simp only [Act.put, lay_]
 refine tk_ 2 (.pointer (some ⟨F, 1, none⟩)) [3, 13, 14] rfl hH ?_ ?_
 ·intro V hV; go_simp
 try simp only [Act.put, lay_]
 refine tk_ 3 (.iface T (.pointer (some ⟨J, 0, none⟩))) [13, 14] rfl hH ?_ ?_
 ·intro V hV; have hc := Cel.below HF.out hV HF.out.lt; have k0 := hc.cell 0; have k1 := hc.cell 1; clear hc; go_simp
 try simp only [Act.put, lay_]
 refine tk_ 4 (.pointer (some ⟨F, 0, none⟩)) [5, 6, 7, 8, 9, 10, 14] rfl hH ?_ ?_
 ·intro V hV; go_simp
 try simp only [Act.put, lay_]
 refine tk_ 5 (.pointer (some ⟨F, 0, none⟩)) [6, 7, 8, 9, 10, 14] rfl hH ?_ ?_
 ·intro V hV; go_simp
 try simp only [Act.put, lay_]
 refine tk_ 6 (.pointer (some ⟨F, 0, none⟩)) [7, 8, 9, 10, 14] rfl hH ?_ ?_
 ·intro V hV; go_simp
 try simp only [Act.put, lay_]
 refine tk_ 7 (.pointer (some ⟨R, 0, none⟩)) [8, 9, 10, 14] rfl hH ?_ ?_
 ·intro V hV; have hc := Cel.below HF.out hV HF.out.lt; have k0 := hc.cell 0; have k1 := hc.cell 1; clear hc; go_simp
 try simp only [Act.put, lay_]
 refine tk_ 8 (.pointer (some ⟨R, 0, none⟩)) [9, 10, 14] rfl hH ?_ ?_
 ·intro V hV; go_simp
 try simp only [Act.put, lay_]
 refine tk_ 9 (.pointer (some ⟨R, 1, none⟩)) [10, 14] rfl hH ?_ ?_
 ·intro V hV; go_simp
 try simp only [Act.put, lay_]
 refine tk_ 10 (.pointer (some ⟨R, 3, none⟩)) [14] rfl hH ?_ ?_
 ·intro V hV; go_simp
 try simp only [Act.put, lay_]
 refine tk_ 11 (.agg #[.int .i64 0, .int .i64 6, .int .i64 0, .int .i64 1]) [14] rfl hH ?_ ?_
 ·intro V hV; go_simp
 try simp only [Act.put, lay_]
 refine tk_ 12 (.iface T (.pointer (some ⟨J, 0, none⟩))) [13, 14] rfl hH ?_ ?_
 ·intro V hV; go_simp
 try simp only [Act.put, lay_]
 refine tk_ 13 (.iface T (.pointer (some ⟨J, 0, none⟩))) [14] rfl hH ?_ ?_
 ·intro V hV; go_simp
 try simp only [Act.put, lay_]
 have hV := hH
 have con := CON.out _ hV
 unfold spn pp at con
 refine wpAnyN_one (i := 14) (by kernel_rfl) rfl (fun K hK => ?_)
 go_simp
 refine con.mono ?_
 intro e V2 hq
 obtain rfl := HQ.out e V2 hq
 have HP := Lib.hid hq
 clear hq con
 go_wp2_with fail
 refine hK.out _ _ (.inl (by decide)) ?_
 clear hK K
 try simp only [Act.put, lay_]
 refine wpAnyN_done (by kernel_rfl) ?_ _
 go_wp2_with fail
 go_end0
 exact HP.out
theorem f_stateOffset (w : World) {F R J T fn : Nat} (h : Fld w F R J T) (hm : Meth T J "davit/record.number" fn) {Q : Ending → World → Prop} (hQ : ∀ e V, Q e V → e = .returned (.tuple #[])) (con : ∀ V, Below w.heap.size w V → Calls Try.prog fn #[pp J 0, pp R 4, spn (0) (2147483647) (0) (4)] V Q) : Calls Try.prog 52 #[pp F 0] w Q := by
 unfold Fld pp at h
 have HF := Lib.hid h
 have HQ := Lib.hid hQ
 have CON := Lib.hid con
 have hm1 := hm.at_
 have hE := hm.ent
 unfold pp at hm1
 clear h hm hQ con
 go_enter Try.func52, Try.ntmps52
 refine Ord.wp_region_N [14] (fun V => Below w.heap.size w V) (by kernel_rfl) ?_
 have hH : Below w.heap.size w w.drew := (Below.refl _ _).drew
 refine tk_ 0 (.pointer (some ⟨F, 0, none⟩)) [1, 2, 3, 13, 14] rfl hH ?_ ?_
 ·intro V hV; go_simp
 try simp only [Act.put, lay_]
 refine tk_ 1 (.pointer (some ⟨F, 0, none⟩)) [2, 3, 13, 14] rfl hH ?_ ?_
 ·intro V hV; go_simp
 try simp only [Act.put, lay_]
 refine tk_ 2 (.pointer (some ⟨F, 1, none⟩)) [3, 13, 14] rfl hH ?_ ?_
 ·intro V hV; go_simp
 try simp only [Act.put, lay_]
 refine tk_ 3 (.iface T (.pointer (some ⟨J, 0, none⟩))) [13, 14] rfl hH ?_ ?_
 ·intro V hV; have hc := Cel.below HF.out hV HF.out.lt; have k0 := hc.cell 0; have k1 := hc.cell 1; clear hc; go_simp
 try simp only [Act.put, lay_]
 refine tk_ 4 (.pointer (some ⟨F, 0, none⟩)) [5, 6, 7, 8, 9, 10, 14] rfl hH ?_ ?_
 ·intro V hV; go_simp
 try simp only [Act.put, lay_]
 refine tk_ 5 (.pointer (some ⟨F, 0, none⟩)) [6, 7, 8, 9, 10, 14] rfl hH ?_ ?_
 ·intro V hV; go_simp
 try simp only [Act.put, lay_]
 refine tk_ 6 (.pointer (some ⟨F, 0, none⟩)) [7, 8, 9, 10, 14] rfl hH ?_ ?_
 ·intro V hV; go_simp
 try simp only [Act.put, lay_]
 refine tk_ 7 (.pointer (some ⟨R, 0, none⟩)) [8, 9, 10, 14] rfl hH ?_ ?_
 ·intro V hV; have hc := Cel.below HF.out hV HF.out.lt; have k0 := hc.cell 0; have k1 := hc.cell 1; clear hc; go_simp
 try simp only [Act.put, lay_]
 refine tk_ 8 (.pointer (some ⟨R, 0, none⟩)) [9, 10, 14] rfl hH ?_ ?_
 ·intro V hV; go_simp
 try simp only [Act.put, lay_]
 refine tk_ 9 (.pointer (some ⟨R, 1, none⟩)) [10, 14] rfl hH ?_ ?_
 ·intro V hV; go_simp
 try simp only [Act.put, lay_]
 refine tk_ 10 (.pointer (some ⟨R, 4, none⟩)) [14] rfl hH ?_ ?_
 ·intro V hV; go_simp
 try simp only [Act.put, lay_]
 refine tk_ 12 (.iface T (.pointer (some ⟨J, 0, none⟩))) [13, 14] rfl hH ?_ ?_
 ·intro V hV; go_simp
 try simp only [Act.put, lay_]
 refine tk_ 13 (.iface T (.pointer (some ⟨J, 0, none⟩))) [14] rfl hH ?_ ?_
 ·intro V hV; go_simp
 try simp only [Act.put, lay_]
 refine wpAnyN_one (i := 11) (by kernel_rfl) rfl (fun K hK => ?_)
 go_simp
 refine (offsets_ w.drew).mono ?_
 rintro e V ⟨rfl, hb⟩
 have hV : Below w.heap.size w V := (Below.refl _ _).drew.trans hb
 unfold spn
 go_wp2_with fail
 refine hK.out _ _ (.inr hV) ?_
 clear hK K hH
 try simp only [Act.put, lay_]
 have con := CON.out _ hV
 unfold spn pp at con
 refine wpAnyN_one (i := 14) (by kernel_rfl) rfl (fun K hK => ?_)
 go_simp
 refine con.mono ?_
 intro e V2 hq
 obtain rfl := HQ.out e V2 hq
 have HP := Lib.hid hq
 clear hq con
 go_wp2_with fail
 refine hK.out _ _ (.inl (by decide)) ?_
 clear hK K
 try simp only [Act.put, lay_]
 refine wpAnyN_done (by kernel_rfl) ?_ _
 go_wp2_with fail
 go_end0
 exact HP.out
theorem f_stateVars (w : World) {F R J T fn : Nat} (h : Fld w F R J T) (hm : Meth T J "davit/record.texts" fn) {Q : Ending → World → Prop} (hQ : ∀ e V, Q e V → e = .returned (.tuple #[])) (con : ∀ V, Below w.heap.size w V → Calls Try.prog fn #[pp J 0, pp R 5] V Q) : Calls Try.prog 53 #[pp F 0] w Q := by
 unfold Fld pp at h
 have HF := Lib.hid h
 have HQ := Lib.hid hQ
 have CON := Lib.hid con
 have hm1 := hm.at_
 have hE := hm.ent
 unfold pp at hm1
 clear h hm hQ con
 go_enter Try.func53, Try.ntmps53
 refine Ord.wp_region_N [13] (fun V => Below w.heap.size w V) (by kernel_rfl) ?_
 have hH : Below w.heap.size w w.drew := (Below.refl _ _).drew
 refine tk_ 0 (.pointer (some ⟨F, 0, none⟩)) [1, 2, 3, 12, 13] rfl hH ?_ ?_
 ·intro V hV; go_simp
 try simp only [Act.put, lay_]
 refine tk_ 1 (.pointer (some ⟨F, 0, none⟩)) [2, 3, 12, 13] rfl hH ?_ ?_
 ·intro V hV; go_simp
 try simp only [Act.put, lay_]
 refine tk_ 2 (.pointer (some ⟨F, 1, none⟩)) [3, 12, 13] rfl hH ?_ ?_
 ·intro V hV; go_simp
 try simp only [Act.put, lay_]
 refine tk_ 3 (.iface T (.pointer (some ⟨J, 0, none⟩))) [12, 13] rfl hH ?_ ?_
 ·intro V hV; have hc := Cel.below HF.out hV HF.out.lt; have k0 := hc.cell 0; have k1 := hc.cell 1; clear hc; go_simp
 try simp only [Act.put, lay_]
 refine tk_ 4 (.pointer (some ⟨F, 0, none⟩)) [5, 6, 7, 8, 9, 10, 13] rfl hH ?_ ?_
 ·intro V hV; go_simp
 try simp only [Act.put, lay_]
 refine tk_ 5 (.pointer (some ⟨F, 0, none⟩)) [6, 7, 8, 9, 10, 13] rfl hH ?_ ?_
 ·intro V hV; go_simp
 try simp only [Act.put, lay_]
 refine tk_ 6 (.pointer (some ⟨F, 0, none⟩)) [7, 8, 9, 10, 13] rfl hH ?_ ?_
 ·intro V hV; go_simp
 try simp only [Act.put, lay_]
 refine tk_ 7 (.pointer (some ⟨R, 0, none⟩)) [8, 9, 10, 13] rfl hH ?_ ?_
 ·intro V hV; have hc := Cel.below HF.out hV HF.out.lt; have k0 := hc.cell 0; have k1 := hc.cell 1; clear hc; go_simp
 try simp only [Act.put, lay_]
 refine tk_ 8 (.pointer (some ⟨R, 0, none⟩)) [9, 10, 13] rfl hH ?_ ?_
 ·intro V hV; go_simp
 try simp only [Act.put, lay_]
 refine tk_ 9 (.pointer (some ⟨R, 1, none⟩)) [10, 13] rfl hH ?_ ?_
 ·intro V hV; go_simp
 try simp only [Act.put, lay_]
 refine tk_ 10 (.pointer (some ⟨R, 5, none⟩)) [13] rfl hH ?_ ?_
 ·intro V hV; go_simp
 try simp only [Act.put, lay_]
 refine tk_ 11 (.iface T (.pointer (some ⟨J, 0, none⟩))) [12, 13] rfl hH ?_ ?_
 ·intro V hV; go_simp
 try simp only [Act.put, lay_]
 refine tk_ 12 (.iface T (.pointer (some ⟨J, 0, none⟩))) [13] rfl hH ?_ ?_
 ·intro V hV; go_simp
 try simp only [Act.put, lay_]
 have hV := hH
 have con := CON.out _ hV
 unfold spn pp at con
 refine wpAnyN_one (i := 13) (by kernel_rfl) rfl (fun K hK => ?_)
 go_simp
 refine con.mono ?_
 intro e V2 hq
 obtain rfl := HQ.out e V2 hq
 have HP := Lib.hid hq
 clear hq con
 go_wp2_with fail
 refine hK.out _ _ (.inl (by decide)) ?_
 clear hK K
 try simp only [Act.put, lay_]
 refine wpAnyN_done (by kernel_rfl) ?_ _
 go_wp2_with fail
 go_end0
 exact HP.out
theorem f_visit (w : World) {F R J T fn : Nat} (h : Fld w F R J T) (hm : Meth T J "davit/record.number" fn) {Q : Ending → World → Prop} (hQ : ∀ e V, Q e V → e = .returned (.tuple #[])) (con : ∀ V, Below w.heap.size w V → Calls Try.prog fn #[pp J 0, pp R 6, spn (1) (1001) (0) (2)] V Q) : Calls Try.prog 54 #[pp F 0] w Q := by
 unfold Fld pp at h
 have HF := Lib.hid h
 have HQ := Lib.hid hQ
 have CON := Lib.hid con
 have hm1 := hm.at_
 have hE := hm.ent
 unfold pp at hm1
 clear h hm hQ con
 go_enter Try.func54, Try.ntmps54
 refine Ord.wp_region_N [13] (fun V => Below w.heap.size w V) (by kernel_rfl) ?_
 have hH : Below w.heap.size w w.drew := (Below.refl _ _).drew
 refine tk_ 0 (.pointer (some ⟨F, 0, none⟩)) [1, 2, 3, 12, 13] rfl hH ?_ ?_
 ·intro V hV; go_simp
 try simp only [Act.put, lay_]
 refine tk_ 1 (.pointer (some ⟨F, 0, none⟩)) [2, 3, 12, 13] rfl hH ?_ ?_
 ·intro V hV; go_simp
 try simp only [Act.put, lay_]
 refine tk_ 2 (.pointer (some ⟨F, 1, none⟩)) [3, 12, 13] rfl hH ?_ ?_
 ·intro V hV; go_simp
 try simp only [Act.put, lay_]
 refine tk_ 3 (.iface T (.pointer (some ⟨J, 0, none⟩))) [12, 13] rfl hH ?_ ?_
 ·intro V hV; have hc := Cel.below HF.out hV HF.out.lt; have k0 := hc.cell 0; have k1 := hc.cell 1; clear hc; go_simp
 try simp only [Act.put, lay_]
 refine tk_ 4 (.pointer (some ⟨F, 0, none⟩)) [5, 6, 7, 8, 9, 13] rfl hH ?_ ?_
 ·intro V hV; go_simp
 try simp only [Act.put, lay_]
 refine tk_ 5 (.pointer (some ⟨F, 0, none⟩)) [6, 7, 8, 9, 13] rfl hH ?_ ?_
 ·intro V hV; go_simp
 try simp only [Act.put, lay_]
 refine tk_ 6 (.pointer (some ⟨F, 0, none⟩)) [7, 8, 9, 13] rfl hH ?_ ?_
 ·intro V hV; go_simp
 try simp only [Act.put, lay_]
 refine tk_ 7 (.pointer (some ⟨R, 0, none⟩)) [8, 9, 13] rfl hH ?_ ?_
 ·intro V hV; have hc := Cel.below HF.out hV HF.out.lt; have k0 := hc.cell 0; have k1 := hc.cell 1; clear hc; go_simp
 try simp only [Act.put, lay_]
 refine tk_ 8 (.pointer (some ⟨R, 0, none⟩)) [9, 13] rfl hH ?_ ?_
 ·intro V hV; go_simp
 try simp only [Act.put, lay_]
 refine tk_ 9 (.pointer (some ⟨R, 6, none⟩)) [13] rfl hH ?_ ?_
 ·intro V hV; go_simp
 try simp only [Act.put, lay_]
 refine tk_ 11 (.iface T (.pointer (some ⟨J, 0, none⟩))) [12, 13] rfl hH ?_ ?_
 ·intro V hV; go_simp
 try simp only [Act.put, lay_]
 refine tk_ 12 (.iface T (.pointer (some ⟨J, 0, none⟩))) [13] rfl hH ?_ ?_
 ·intro V hV; go_simp
 try simp only [Act.put, lay_]
 refine wpAnyN_one (i := 10) (by kernel_rfl) rfl (fun K hK => ?_)
 go_simp
 refine (visits_ w.drew).mono ?_
 rintro e V ⟨rfl, hb⟩
 have hV : Below w.heap.size w V := (Below.refl _ _).drew.trans hb
 unfold spn
 go_wp2_with fail
 refine hK.out _ _ (.inr hV) ?_
 clear hK K hH
 try simp only [Act.put, lay_]
 have con := CON.out _ hV
 unfold spn pp at con
 refine wpAnyN_one (i := 13) (by kernel_rfl) rfl (fun K hK => ?_)
 go_simp
 refine con.mono ?_
 intro e V2 hq
 obtain rfl := HQ.out e V2 hq
 have HP := Lib.hid hq
 clear hq con
 go_wp2_with fail
 refine hK.out _ _ (.inl (by decide)) ?_
 clear hK K
 try simp only [Act.put, lay_]
 refine wpAnyN_done (by kernel_rfl) ?_ _
 go_wp2_with fail
 go_end0
 exact HP.out
theorem f_step (w : World) {F R J T fn : Nat} (h : Fld w F R J T) (hm : Meth T J "davit/record.number" fn) {Q : Ending → World → Prop} (hQ : ∀ e V, Q e V → e = .returned (.tuple #[])) (con : ∀ V, Below w.heap.size w V → Calls Try.prog fn #[pp J 0, pp R 7, spn (0) (29) (0) (1)] V Q) : Calls Try.prog 55 #[pp F 0] w Q := by
 unfold Fld pp at h
 have HF := Lib.hid h
 have HQ := Lib.hid hQ
 have CON := Lib.hid con
 have hm1 := hm.at_
 have hE := hm.ent
 unfold pp at hm1
 clear h hm hQ con
 go_enter Try.func55, Try.ntmps55
 refine Ord.wp_region_N [13] (fun V => Below w.heap.size w V) (by kernel_rfl) ?_
 have hH : Below w.heap.size w w.drew := (Below.refl _ _).drew
 refine tk_ 0 (.pointer (some ⟨F, 0, none⟩)) [1, 2, 3, 12, 13] rfl hH ?_ ?_
 ·intro V hV; go_simp
 try simp only [Act.put, lay_]
 refine tk_ 1 (.pointer (some ⟨F, 0, none⟩)) [2, 3, 12, 13] rfl hH ?_ ?_
 ·intro V hV; go_simp
 try simp only [Act.put, lay_]
 refine tk_ 2 (.pointer (some ⟨F, 1, none⟩)) [3, 12, 13] rfl hH ?_ ?_
 ·intro V hV; go_simp
 try simp only [Act.put, lay_]
 refine tk_ 3 (.iface T (.pointer (some ⟨J, 0, none⟩))) [12, 13] rfl hH ?_ ?_
 ·intro V hV; have hc := Cel.below HF.out hV HF.out.lt; have k0 := hc.cell 0; have k1 := hc.cell 1; clear hc; go_simp
 try simp only [Act.put, lay_]
 refine tk_ 4 (.pointer (some ⟨F, 0, none⟩)) [5, 6, 7, 8, 9, 13] rfl hH ?_ ?_
 ·intro V hV; go_simp
 try simp only [Act.put, lay_]
 refine tk_ 5 (.pointer (some ⟨F, 0, none⟩)) [6, 7, 8, 9, 13] rfl hH ?_ ?_
 ·intro V hV; go_simp
 try simp only [Act.put, lay_]
 refine tk_ 6 (.pointer (some ⟨F, 0, none⟩)) [7, 8, 9, 13] rfl hH ?_ ?_
 ·intro V hV; go_simp
 try simp only [Act.put, lay_]
 refine tk_ 7 (.pointer (some ⟨R, 0, none⟩)) [8, 9, 13] rfl hH ?_ ?_
 ·intro V hV; have hc := Cel.below HF.out hV HF.out.lt; have k0 := hc.cell 0; have k1 := hc.cell 1; clear hc; go_simp
 try simp only [Act.put, lay_]
 refine tk_ 8 (.pointer (some ⟨R, 0, none⟩)) [9, 13] rfl hH ?_ ?_
 ·intro V hV; go_simp
 try simp only [Act.put, lay_]
 refine tk_ 9 (.pointer (some ⟨R, 7, none⟩)) [13] rfl hH ?_ ?_
 ·intro V hV; go_simp
 try simp only [Act.put, lay_]
 refine tk_ 10 (.agg #[.int .i64 0, .int .i64 29, .int .i64 0, .int .i64 1]) [13] rfl hH ?_ ?_
 ·intro V hV; go_simp
 try simp only [Act.put, lay_]
 refine tk_ 11 (.iface T (.pointer (some ⟨J, 0, none⟩))) [12, 13] rfl hH ?_ ?_
 ·intro V hV; go_simp
 try simp only [Act.put, lay_]
 refine tk_ 12 (.iface T (.pointer (some ⟨J, 0, none⟩))) [13] rfl hH ?_ ?_
 ·intro V hV; go_simp
 try simp only [Act.put, lay_]
 have hV := hH
 have con := CON.out _ hV
 unfold spn pp at con
 refine wpAnyN_one (i := 13) (by kernel_rfl) rfl (fun K hK => ?_)
 go_simp
 refine con.mono ?_
 intro e V2 hq
 obtain rfl := HQ.out e V2 hq
 have HP := Lib.hid hq
 clear hq con
 go_wp2_with fail
 refine hK.out _ _ (.inl (by decide)) ?_
 clear hK K
 try simp only [Act.put, lay_]
 refine wpAnyN_done (by kernel_rfl) ?_ _
 go_wp2_with fail
 go_end0
 exact HP.out
theorem f_try (w : World) {F R J T fn : Nat} (h : Fld w F R J T) (hm : Meth T J "davit/record.number" fn) {Q : Ending → World → Prop} (hQ : ∀ e V, Q e V → e = .returned (.tuple #[])) (con : ∀ V, Below w.heap.size w V → Calls Try.prog fn #[pp J 0, pp R 8, spn (0) (5) (0) (1)] V Q) : Calls Try.prog 56 #[pp F 0] w Q := by
 unfold Fld pp at h
 have HF := Lib.hid h
 have HQ := Lib.hid hQ
 have CON := Lib.hid con
 have hm1 := hm.at_
 have hE := hm.ent
 unfold pp at hm1
 clear h hm hQ con
 go_enter Try.func56, Try.ntmps56
 refine Ord.wp_region_N [13] (fun V => Below w.heap.size w V) (by kernel_rfl) ?_
 have hH : Below w.heap.size w w.drew := (Below.refl _ _).drew
 refine tk_ 0 (.pointer (some ⟨F, 0, none⟩)) [1, 2, 3, 12, 13] rfl hH ?_ ?_
 ·intro V hV; go_simp
 try simp only [Act.put, lay_]
 refine tk_ 1 (.pointer (some ⟨F, 0, none⟩)) [2, 3, 12, 13] rfl hH ?_ ?_
 ·intro V hV; go_simp
 try simp only [Act.put, lay_]
 refine tk_ 2 (.pointer (some ⟨F, 1, none⟩)) [3, 12, 13] rfl hH ?_ ?_
 ·intro V hV; go_simp
 try simp only [Act.put, lay_]
 refine tk_ 3 (.iface T (.pointer (some ⟨J, 0, none⟩))) [12, 13] rfl hH ?_ ?_
 ·intro V hV; have hc := Cel.below HF.out hV HF.out.lt; have k0 := hc.cell 0; have k1 := hc.cell 1; clear hc; go_simp
 try simp only [Act.put, lay_]
 refine tk_ 4 (.pointer (some ⟨F, 0, none⟩)) [5, 6, 7, 8, 9, 13] rfl hH ?_ ?_
 ·intro V hV; go_simp
 try simp only [Act.put, lay_]
 refine tk_ 5 (.pointer (some ⟨F, 0, none⟩)) [6, 7, 8, 9, 13] rfl hH ?_ ?_
 ·intro V hV; go_simp
 try simp only [Act.put, lay_]
 refine tk_ 6 (.pointer (some ⟨F, 0, none⟩)) [7, 8, 9, 13] rfl hH ?_ ?_
 ·intro V hV; go_simp
 try simp only [Act.put, lay_]
 refine tk_ 7 (.pointer (some ⟨R, 0, none⟩)) [8, 9, 13] rfl hH ?_ ?_
 ·intro V hV; have hc := Cel.below HF.out hV HF.out.lt; have k0 := hc.cell 0; have k1 := hc.cell 1; clear hc; go_simp
 try simp only [Act.put, lay_]
 refine tk_ 8 (.pointer (some ⟨R, 0, none⟩)) [9, 13] rfl hH ?_ ?_
 ·intro V hV; go_simp
 try simp only [Act.put, lay_]
 refine tk_ 9 (.pointer (some ⟨R, 8, none⟩)) [13] rfl hH ?_ ?_
 ·intro V hV; go_simp
 try simp only [Act.put, lay_]
 refine tk_ 10 (.agg #[.int .i64 0, .int .i64 5, .int .i64 0, .int .i64 1]) [13] rfl hH ?_ ?_
 ·intro V hV; go_simp
 try simp only [Act.put, lay_]
 refine tk_ 11 (.iface T (.pointer (some ⟨J, 0, none⟩))) [12, 13] rfl hH ?_ ?_
 ·intro V hV; go_simp
 try simp only [Act.put, lay_]
 refine tk_ 12 (.iface T (.pointer (some ⟨J, 0, none⟩))) [13] rfl hH ?_ ?_
 ·intro V hV; go_simp
 try simp only [Act.put, lay_]
 have hV := hH
 have con := CON.out _ hV
 unfold spn pp at con
 refine wpAnyN_one (i := 13) (by kernel_rfl) rfl (fun K hK => ?_)
 go_simp
 refine con.mono ?_
 intro e V2 hq
 obtain rfl := HQ.out e V2 hq
 have HP := Lib.hid hq
 clear hq con
 go_wp2_with fail
 refine hK.out _ _ (.inl (by decide)) ?_
 clear hK K
 try simp only [Act.put, lay_]
 refine wpAnyN_done (by kernel_rfl) ?_ _
 go_wp2_with fail
 go_end0
 exact HP.out
theorem f_to (w : World) {F R J T fn : Nat} (h : Fld w F R J T) (hm : Meth T J "davit/record.number" fn) {Q : Ending → World → Prop} (hQ : ∀ e V, Q e V → e = .returned (.tuple #[])) (con : ∀ V, Below w.heap.size w V → Calls Try.prog fn #[pp J 0, pp R 9, spn (-3) (29) (3) (1)] V Q) : Calls Try.prog 57 #[pp F 0] w Q := by
 unfold Fld pp at h
 have HF := Lib.hid h
 have HQ := Lib.hid hQ
 have CON := Lib.hid con
 have hm1 := hm.at_
 have hE := hm.ent
 unfold pp at hm1
 clear h hm hQ con
 go_enter Try.func57, Try.ntmps57
 refine Ord.wp_region_N [13] (fun V => Below w.heap.size w V) (by kernel_rfl) ?_
 have hH : Below w.heap.size w w.drew := (Below.refl _ _).drew
 refine tk_ 0 (.pointer (some ⟨F, 0, none⟩)) [1, 2, 3, 12, 13] rfl hH ?_ ?_
 ·intro V hV; go_simp
 try simp only [Act.put, lay_]
 refine tk_ 1 (.pointer (some ⟨F, 0, none⟩)) [2, 3, 12, 13] rfl hH ?_ ?_
 ·intro V hV; go_simp
 try simp only [Act.put, lay_]
 refine tk_ 2 (.pointer (some ⟨F, 1, none⟩)) [3, 12, 13] rfl hH ?_ ?_
 ·intro V hV; go_simp
 try simp only [Act.put, lay_]
 refine tk_ 3 (.iface T (.pointer (some ⟨J, 0, none⟩))) [12, 13] rfl hH ?_ ?_
 ·intro V hV; have hc := Cel.below HF.out hV HF.out.lt; have k0 := hc.cell 0; have k1 := hc.cell 1; clear hc; go_simp
 try simp only [Act.put, lay_]
 refine tk_ 4 (.pointer (some ⟨F, 0, none⟩)) [5, 6, 7, 8, 9, 13] rfl hH ?_ ?_
 ·intro V hV; go_simp
 try simp only [Act.put, lay_]
 refine tk_ 5 (.pointer (some ⟨F, 0, none⟩)) [6, 7, 8, 9, 13] rfl hH ?_ ?_
 ·intro V hV; go_simp
 try simp only [Act.put, lay_]
 refine tk_ 6 (.pointer (some ⟨F, 0, none⟩)) [7, 8, 9, 13] rfl hH ?_ ?_
 ·intro V hV; go_simp
 try simp only [Act.put, lay_]
 refine tk_ 7 (.pointer (some ⟨R, 0, none⟩)) [8, 9, 13] rfl hH ?_ ?_
 ·intro V hV; have hc := Cel.below HF.out hV HF.out.lt; have k0 := hc.cell 0; have k1 := hc.cell 1; clear hc; go_simp
 try simp only [Act.put, lay_]
 refine tk_ 8 (.pointer (some ⟨R, 0, none⟩)) [9, 13] rfl hH ?_ ?_
 ·intro V hV; go_simp
 try simp only [Act.put, lay_]
 refine tk_ 9 (.pointer (some ⟨R, 9, none⟩)) [13] rfl hH ?_ ?_
 ·intro V hV; go_simp
 try simp only [Act.put, lay_]
 refine tk_ 11 (.iface T (.pointer (some ⟨J, 0, none⟩))) [12, 13] rfl hH ?_ ?_
 ·intro V hV; go_simp
 try simp only [Act.put, lay_]
 refine tk_ 12 (.iface T (.pointer (some ⟨J, 0, none⟩))) [13] rfl hH ?_ ?_
 ·intro V hV; go_simp
 try simp only [Act.put, lay_]
 refine wpAnyN_one (i := 10) (by kernel_rfl) rfl (fun K hK => ?_)
 go_simp
 refine (places_ w.drew).mono ?_
 rintro e V ⟨rfl, hb⟩
 have hV : Below w.heap.size w V := (Below.refl _ _).drew.trans hb
 unfold spn
 go_wp2_with fail
 refine hK.out _ _ (.inr hV) ?_
 clear hK K hH
 try simp only [Act.put, lay_]
 have con := CON.out _ hV
 unfold spn pp at con
 refine wpAnyN_one (i := 13) (by kernel_rfl) rfl (fun K hK => ?_)
 go_simp
 refine con.mono ?_
 intro e V2 hq
 obtain rfl := HQ.out e V2 hq
 have HP := Lib.hid hq
 clear hq con
 go_wp2_with fail
 refine hK.out _ _ (.inl (by decide)) ?_
 clear hK K
 try simp only [Act.put, lay_]
 refine wpAnyN_done (by kernel_rfl) ?_ _
 go_wp2_with fail
 go_end0
 exact HP.out
theorem f_offset (w : World) {F R J T fn : Nat} (h : Fld w F R J T) (hm : Meth T J "davit/record.number" fn) {Q : Ending → World → Prop} (hQ : ∀ e V, Q e V → e = .returned (.tuple #[])) (con : ∀ V, Below w.heap.size w V → Calls Try.prog fn #[pp J 0, pp R 10, spn (0) (2147483647) (0) (4)] V Q) : Calls Try.prog 58 #[pp F 0] w Q := by
 unfold Fld pp at h
 have HF := Lib.hid h
 have HQ := Lib.hid hQ
 have CON := Lib.hid con
 have hm1 := hm.at_
 have hE := hm.ent
 unfold pp at hm1
 clear h hm hQ con
 go_enter Try.func58, Try.ntmps58
 refine Ord.wp_region_N [13] (fun V => Below w.heap.size w V) (by kernel_rfl) ?_
 have hH : Below w.heap.size w w.drew := (Below.refl _ _).drew
 refine tk_ 0 (.pointer (some ⟨F, 0, none⟩)) [1, 2, 3, 12, 13] rfl hH ?_ ?_
 ·intro V hV; go_simp
 try simp only [Act.put, lay_]
 refine tk_ 1 (.pointer (some ⟨F, 0, none⟩)) [2, 3, 12, 13] rfl hH ?_ ?_
 ·intro V hV; go_simp
 try simp only [Act.put, lay_]
 refine tk_ 2 (.pointer (some ⟨F, 1, none⟩)) [3, 12, 13] rfl hH ?_ ?_
 ·intro V hV; go_simp
 try simp only [Act.put, lay_]
 refine tk_ 3 (.iface T (.pointer (some ⟨J, 0, none⟩))) [12, 13] rfl hH ?_ ?_
 ·intro V hV; have hc := Cel.below HF.out hV HF.out.lt; have k0 := hc.cell 0; have k1 := hc.cell 1; clear hc; go_simp
 try simp only [Act.put, lay_]
 refine tk_ 4 (.pointer (some ⟨F, 0, none⟩)) [5, 6, 7, 8, 9, 13] rfl hH ?_ ?_
 ·intro V hV; go_simp
 try simp only [Act.put, lay_]
 refine tk_ 5 (.pointer (some ⟨F, 0, none⟩)) [6, 7, 8, 9, 13] rfl hH ?_ ?_
 ·intro V hV; go_simp
 try simp only [Act.put, lay_]
 refine tk_ 6 (.pointer (some ⟨F, 0, none⟩)) [7, 8, 9, 13] rfl hH ?_ ?_
 ·intro V hV; go_simp
 try simp only [Act.put, lay_]
 refine tk_ 7 (.pointer (some ⟨R, 0, none⟩)) [8, 9, 13] rfl hH ?_ ?_
 ·intro V hV; have hc := Cel.below HF.out hV HF.out.lt; have k0 := hc.cell 0; have k1 := hc.cell 1; clear hc; go_simp
 try simp only [Act.put, lay_]
 refine tk_ 8 (.pointer (some ⟨R, 0, none⟩)) [9, 13] rfl hH ?_ ?_
 ·intro V hV; go_simp
 try simp only [Act.put, lay_]
 refine tk_ 9 (.pointer (some ⟨R, 10, none⟩)) [13] rfl hH ?_ ?_
 ·intro V hV; go_simp
 try simp only [Act.put, lay_]
 refine tk_ 11 (.iface T (.pointer (some ⟨J, 0, none⟩))) [12, 13] rfl hH ?_ ?_
 ·intro V hV; go_simp
 try simp only [Act.put, lay_]
 refine tk_ 12 (.iface T (.pointer (some ⟨J, 0, none⟩))) [13] rfl hH ?_ ?_
 ·intro V hV; go_simp
 try simp only [Act.put, lay_]
 refine wpAnyN_one (i := 10) (by kernel_rfl) rfl (fun K hK => ?_)
 go_simp
 refine (offsets_ w.drew).mono ?_
 rintro e V ⟨rfl, hb⟩
 have hV : Below w.heap.size w V := (Below.refl _ _).drew.trans hb
 unfold spn
 go_wp2_with fail
 refine hK.out _ _ (.inr hV) ?_
 clear hK K hH
 try simp only [Act.put, lay_]
 have con := CON.out _ hV
 unfold spn pp at con
 refine wpAnyN_one (i := 13) (by kernel_rfl) rfl (fun K hK => ?_)
 go_simp
 refine con.mono ?_
 intro e V2 hq
 obtain rfl := HQ.out e V2 hq
 have HP := Lib.hid hq
 clear hq con
 go_wp2_with fail
 refine hK.out _ _ (.inl (by decide)) ?_
 clear hK K
 try simp only [Act.put, lay_]
 refine wpAnyN_done (by kernel_rfl) ?_ _
 go_wp2_with fail
 go_end0
 exact HP.out
theorem f_variable (w : World) {F R J T fn : Nat} (h : Fld w F R J T) (hm : Meth T J "davit/record.number" fn) {Q : Ending → World → Prop} (hQ : ∀ e V, Q e V → e = .returned (.tuple #[])) (con : ∀ V, Below w.heap.size w V → Calls Try.prog fn #[pp J 0, pp R 11, spn (-1) (7) (1) (1)] V Q) : Calls Try.prog 59 #[pp F 0] w Q := by
 unfold Fld pp at h
 have HF := Lib.hid h
 have HQ := Lib.hid hQ
 have CON := Lib.hid con
 have hm1 := hm.at_
 have hE := hm.ent
 unfold pp at hm1
 clear h hm hQ con
 go_enter Try.func59, Try.ntmps59
 refine Ord.wp_region_N [13] (fun V => Below w.heap.size w V) (by kernel_rfl) ?_
 have hH : Below w.heap.size w w.drew := (Below.refl _ _).drew
 refine tk_ 0 (.pointer (some ⟨F, 0, none⟩)) [1, 2, 3, 12, 13] rfl hH ?_ ?_
 ·intro V hV; go_simp
 try simp only [Act.put, lay_]
 refine tk_ 1 (.pointer (some ⟨F, 0, none⟩)) [2, 3, 12, 13] rfl hH ?_ ?_
 ·intro V hV; go_simp
 try simp only [Act.put, lay_]
 refine tk_ 2 (.pointer (some ⟨F, 1, none⟩)) [3, 12, 13] rfl hH ?_ ?_
 ·intro V hV; go_simp
 try simp only [Act.put, lay_]
 refine tk_ 3 (.iface T (.pointer (some ⟨J, 0, none⟩))) [12, 13] rfl hH ?_ ?_
 ·intro V hV; have hc := Cel.below HF.out hV HF.out.lt; have k0 := hc.cell 0; have k1 := hc.cell 1; clear hc; go_simp
 try simp only [Act.put, lay_]
 refine tk_ 4 (.pointer (some ⟨F, 0, none⟩)) [5, 6, 7, 8, 9, 13] rfl hH ?_ ?_
 ·intro V hV; go_simp
 try simp only [Act.put, lay_]
 refine tk_ 5 (.pointer (some ⟨F, 0, none⟩)) [6, 7, 8, 9, 13] rfl hH ?_ ?_
 ·intro V hV; go_simp
 try simp only [Act.put, lay_]
 refine tk_ 6 (.pointer (some ⟨F, 0, none⟩)) [7, 8, 9, 13] rfl hH ?_ ?_
 ·intro V hV; go_simp
 try simp only [Act.put, lay_]
 refine tk_ 7 (.pointer (some ⟨R, 0, none⟩)) [8, 9, 13] rfl hH ?_ ?_
 ·intro V hV; have hc := Cel.below HF.out hV HF.out.lt; have k0 := hc.cell 0; have k1 := hc.cell 1; clear hc; go_simp
 try simp only [Act.put, lay_]
 refine tk_ 8 (.pointer (some ⟨R, 0, none⟩)) [9, 13] rfl hH ?_ ?_
 ·intro V hV; go_simp
 try simp only [Act.put, lay_]
 refine tk_ 9 (.pointer (some ⟨R, 11, none⟩)) [13] rfl hH ?_ ?_
 ·intro V hV; go_simp
 try simp only [Act.put, lay_]
 refine tk_ 10 (.agg #[.int .i64 (-1), .int .i64 7, .int .i64 1, .int .i64 1]) [13] rfl hH ?_ ?_
 ·intro V hV; go_simp
 try simp only [Act.put, lay_]
 refine tk_ 11 (.iface T (.pointer (some ⟨J, 0, none⟩))) [12, 13] rfl hH ?_ ?_
 ·intro V hV; go_simp
 try simp only [Act.put, lay_]
 refine tk_ 12 (.iface T (.pointer (some ⟨J, 0, none⟩))) [13] rfl hH ?_ ?_
 ·intro V hV; go_simp
 try simp only [Act.put, lay_]
 have hV := hH
 have con := CON.out _ hV
 unfold spn pp at con
 refine wpAnyN_one (i := 13) (by kernel_rfl) rfl (fun K hK => ?_)
 go_simp
 refine con.mono ?_
 intro e V2 hq
 obtain rfl := HQ.out e V2 hq
 have HP := Lib.hid hq
 clear hq con
 go_wp2_with fail
 refine hK.out _ _ (.inl (by decide)) ?_
 clear hK K
 try simp only [Act.put, lay_]
 refine wpAnyN_done (by kernel_rfl) ?_ _
 go_wp2_with fail
 go_end0
 exact HP.out
theorem f_value (w : World) {F R J T fn : Nat} (h : Fld w F R J T) (hm : Meth T J "davit/record.text" fn) {Q : Ending → World → Prop} (hQ : ∀ e V, Q e V → e = .returned (.tuple #[])) (con : ∀ V, Below w.heap.size w V → Calls Try.prog fn #[pp J 0, pp R 12] V Q) : Calls Try.prog 60 #[pp F 0] w Q := by
 unfold Fld pp at h
 have HF := Lib.hid h
 have HQ := Lib.hid hQ
 have CON := Lib.hid con
 have hm1 := hm.at_
 have hE := hm.ent
 unfold pp at hm1
 clear h hm hQ con
 go_enter Try.func60, Try.ntmps60
 refine Ord.wp_region_N [12] (fun V => Below w.heap.size w V) (by kernel_rfl) ?_
 have hH : Below w.heap.size w w.drew := (Below.refl _ _).drew
 refine tk_ 0 (.pointer (some ⟨F, 0, none⟩)) [1, 2, 3, 11, 12] rfl hH ?_ ?_
 ·intro V hV; go_simp
 try simp only [Act.put, lay_]
 refine tk_ 1 (.pointer (some ⟨F, 0, none⟩)) [2, 3, 11, 12] rfl hH ?_ ?_
 ·intro V hV; go_simp
 try simp only [Act.put, lay_]
 refine tk_ 2 (.pointer (some ⟨F, 1, none⟩)) [3, 11, 12] rfl hH ?_ ?_
 ·intro V hV; go_simp
 try simp only [Act.put, lay_]
 refine tk_ 3 (.iface T (.pointer (some ⟨J, 0, none⟩))) [11, 12] rfl hH ?_ ?_
 ·intro V hV; have hc := Cel.below HF.out hV HF.out.lt; have k0 := hc.cell 0; have k1 := hc.cell 1; clear hc; go_simp
 try simp only [Act.put, lay_]
 refine tk_ 4 (.pointer (some ⟨F, 0, none⟩)) [5, 6, 7, 8, 9, 12] rfl hH ?_ ?_
 ·intro V hV; go_simp
 try simp only [Act.put, lay_]
 refine tk_ 5 (.pointer (some ⟨F, 0, none⟩)) [6, 7, 8, 9, 12] rfl hH ?_ ?_
 ·intro V hV; go_simp
 try simp only [Act.put, lay_]
 refine tk_ 6 (.pointer (some ⟨F, 0, none⟩)) [7, 8, 9, 12] rfl hH ?_ ?_
 ·intro V hV; go_simp
 try simp only [Act.put, lay_]
 refine tk_ 7 (.pointer (some ⟨R, 0, none⟩)) [8, 9, 12] rfl hH ?_ ?_
 ·intro V hV; have hc := Cel.below HF.out hV HF.out.lt; have k0 := hc.cell 0; have k1 := hc.cell 1; clear hc; go_simp
 try simp only [Act.put, lay_]
 refine tk_ 8 (.pointer (some ⟨R, 0, none⟩)) [9, 12] rfl hH ?_ ?_
 ·intro V hV; go_simp
 try simp only [Act.put, lay_]
 refine tk_ 9 (.pointer (some ⟨R, 12, none⟩)) [12] rfl hH ?_ ?_
 ·intro V hV; go_simp
 try simp only [Act.put, lay_]
 refine tk_ 10 (.iface T (.pointer (some ⟨J, 0, none⟩))) [11, 12] rfl hH ?_ ?_
 ·intro V hV; go_simp
 try simp only [Act.put, lay_]
 refine tk_ 11 (.iface T (.pointer (some ⟨J, 0, none⟩))) [12] rfl hH ?_ ?_
 ·intro V hV; go_simp
 try simp only [Act.put, lay_]
 have hV := hH
 have con := CON.out _ hV
 unfold spn pp at con
 refine wpAnyN_one (i := 12) (by kernel_rfl) rfl (fun K hK => ?_)
 go_simp
 refine con.mono ?_
 intro e V2 hq
 obtain rfl := HQ.out e V2 hq
 have HP := Lib.hid hq
 clear hq con
 go_wp2_with fail
 refine hK.out _ _ (.inl (by decide)) ?_
 clear hK K
 try simp only [Act.put, lay_]
 refine wpAnyN_done (by kernel_rfl) ?_ _
 go_wp2_with fail
 go_end0
 exact HP.out
end Go.Proofs.Ytfmkkklcgiaacaa.Rec
