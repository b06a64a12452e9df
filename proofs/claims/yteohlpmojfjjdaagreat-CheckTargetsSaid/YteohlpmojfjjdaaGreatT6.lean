/-
Texts: RegPile RegBracket RegSteps
-/
import Derived.Test.YteohlpmojfjjdaaGreatT0
import Derived.Test.YteohlpmojfjjdaaGreatT1
import Derived.Test.YteohlpmojfjjdaaGreatT2
import Derived.Test.YteohlpmojfjjdaaGreatT3
import Derived.Test.YteohlpmojfjjdaaGreatT4
import Derived.Test.YteohlpmojfjjdaaGreatT5
set_option linter.unusedVariables false
set_option linter.unusedSimpArgs false
set_option maxRecDepth 100000
set_option maxHeartbeats 4000000
section
namespace Go.Proofs.YteohlpmojfjjdaaGreat.Reg
open Go.RowKit Go.Proofs.YteohlpmojfjjdaaGreat.Ord
theorem size_call (w : World) (B b : Nat) (A : Option Addr) (n c : Nat) (s : List (BitVec 8)) (x : St) (h : Pz w B b A n c s x) :
  Calls Tryz.prog 156 #[.pointer (some ⟨b, 5, none⟩)] w fun e w' => e = .returned (.int .i64 (x.outer.length : Int)) ∧ w = w' := by
 obtain ⟨ov, iv, hp, ho, hl⟩ := h.st
 obtain ⟨Ai, ci, rfl⟩ := own_form hl
 have p5 := Cel.cell hp 5
 clear h hp ho hl
 go_enter Tryz.func156, Tryz.ntmps156
 go_wp2_with fail
 go_ret
 exact ⟨rfl, rfl⟩
def Still2 (b g m : Nat) (v x0 x1 : Value) (V : World) : Prop := V.cell? ⟨b, 5, none⟩ = some v ∧ V.cell? ⟨g, m * 2, none⟩ = some x0 ∧ V.cell? ⟨g, m * 2 + 1, none⟩ = some x1
def Still (b i g : Nat) (v x0 x1 : Value) (V : World) : Prop := V.cell? ⟨b, i, none⟩ = some v ∧ V.cell? ⟨g, 0, none⟩ = some x0 ∧ V.cell? ⟨g, 1, none⟩ = some x1
theorem push_call (w : World) (B b : Nat) (A : Option Addr) (n c : Nat) (s : List (BitVec 8)) (x : St) (u v : Bool) (h : Pz w B b A n c s x) (hB : B ≤ w.heap.size) (hlen : x.outer.length ≤ 100) :
  Calls Tryz.prog 181 #[.pointer (some ⟨b, 5, none⟩), .agg #[.bool u, .bool v]] w fun e w' => e = .returned (.tuple #[]) ∧ Pz w' B b A n c s ⟨x.at_, x.ops, x.inner, ⟨u, v⟩ :: x.outer⟩ ∧ Below B w w' := by
 obtain ⟨ov, iv, hp, ho, hl⟩ := h.st
 obtain ⟨Ai, ci, rfl⟩ := own_form hl
 generalize hln : x.outer.length = ln at *
 have hlow := h.low
 have HBS := Lib.hid h.bs
 have HP := Lib.hid hp
 have HO := Lib.hid ho
 have HL := Lib.hid (show w.ownsRow B 190 2 (.slice Ai ln ci) ln (lflat x.outer.reverse) by rw [← hln]; rw [← hln] at hl; exact hl)
 have HLN := Lib.hid hln
 have hbw := hp.lt
 generalize hW : w.alloc (.cells #[.bool u, .bool v] 190) = W
 have hWs : W.heap.size = w.heap.size + 1 := by rw [← hW]; simp
 have hbW : Below w.heap.size w W := by rw [← hW]; exact (Below.refl _ _).alloc (Nat.le_refl _) _
 have hcW : Cel W w.heap.size 190 [.bool u, .bool v] := by rw [← hW]; exact Cel.new w _ _
 have hpW : Pc W b (.slice A n c) x.at_ ov x.inner.hb x.inner.hp (.slice Ai ln ci) := Cel.below hp hbW hbw
 have hH : Still b 5 w.heap.size (.slice Ai ln ci) (.bool u) (.bool v) W.drew := ⟨Cel.cell hpW 5, Cel.cell hcW 0, Cel.cell hcW 1⟩
 have hb5 : Below w.heap.size w (W.alloc (.cells #[.bool u, .bool v] 190)).drew := (hbW.alloc (by omega) _).drew
 have HB5 := Lib.hid hb5
 have H5 := Lib.hid (own_frm (l := []) HL.out (Frm.of_below hb5) (by simp))
 have HC5 := Lib.hid ((hcW.alloc (.cells #[.bool u, .bool v] 190)).drew)
 have HP5 := Lib.hid (show Pc (W.alloc (.cells #[.bool u, .bool v] 190)).drew b (.slice A n c) x.at_ ov x.inner.hb x.inner.hp (.slice Ai ln ci) from Cel.below hp hb5 hbw)
 have hsrc := Lib.hid (Ry.src (m := 1) (Ry.of_cel (show Cel (W.alloc (.cells #[.bool u, .bool v] 190)).drew (w.heap.size + 1) 190 [.bool u, .bool v] by rw [← hWs]; exact Cel.new W _ _)) (by simp))
 clear h hp ho hl hb5 hcW hpW hbW hln
 go_enter Tryz.func181, Tryz.ntmps181
 go_wp2_with fail
 clear hW
 refine wp_region_N [10] (Still b 5 w.heap.size (.slice Ai ln ci) (.bool u) (.bool v)) (by kernel_rfl) ?_
 refine tk_ 0 (.pointer (some ⟨b, 5, none⟩)) [10] rfl hH ?_ ?_
 ·intro V hV; go_simp
 try simp only [Act.put, lay_]
 refine tk_ 1 (.pointer (some ⟨b, 5, none⟩)) [10] rfl hH ?_ ?_
 ·intro V hV; go_simp
 try simp only [Act.put, lay_]
 refine tk_ 2 (.pointer (some ⟨b, 5, none⟩)) [10] rfl hH ?_ ?_
 ·intro V hV; go_simp
 try simp only [Act.put, lay_]
 refine tk_ 3 (.pointer (some ⟨b, 5, none⟩)) [10] rfl hH ?_ ?_
 ·intro V hV; go_simp
 try simp only [Act.put, lay_]
 refine tk_ 4 (.slice Ai ln ci) [10] rfl hH ?_ ?_
 ·intro V hV; obtain ⟨k0, k1, k2⟩ := hV; go_simp
 try simp only [Act.put, lay_]
 refine tk_ 5 (.agg #[.bool u, .bool v]) [10] rfl hH ?_ ?_
 ·intro V hV; obtain ⟨k0, k1, k2⟩ := hV; go_simp
 try simp only [Act.put, lay_]
 refine wpAnyN_one (i := 6) (by kernel_rfl) rfl (fun K hK => ?_)
 go_simp
 refine hK.out _ _ (.inr ?_) ?_
 ·exact ⟨Cel.cell HP5.out 5, HC5.out.cell 0, HC5.out.cell 1⟩
 clear hK K
 try simp only [Act.put, lay_]
 refine wpAnyN_one (i := 7) (by kernel_rfl) rfl (fun K hK => ?_)
 rw [if_pos (by rfl)]
 refine wp_append_any _ _ _ 191 rfl B 190 rowLv (.slice Ai ln ci) ln (lflat x.outer.reverse) rfl H5.out (some ⟨w.heap.size + 1, 0, none⟩) 1 1 [.bool u, .bool v] rfl rfl hsrc.out (by intro u hu; simp at hu; rcases hu with rfl | rfl <;> rfl) (ln + 1) _ rfl rfl (by unfold maxLen; omega) (by omega) (by simp; omega) ?_
 intro A8 c8 w8 ho8 hg8 _
 obtain ⟨hp8, hz9, hb9⟩ := Pz.lpushed (l := ⟨u, v⟩) HLN.out hlow HBS.out HP.out HO.out hB HB5.out H5.out ho8 hg8
 have hc8 := HC5.out.grown hg8 (fun e => by have := own_lt HL.out _ e; omega)
 have hS8 : Still b 5 w.heap.size (.slice Ai ln ci) (.bool u) (.bool v) w8 := ⟨Cel.cell hp8 5, hc8.cell 0, hc8.cell 1⟩
 have y5 := Cel.cell hp8 5
 have g5 := Cel.free hp8 5
 have HZ9 := Lib.hid hz9
 have HB9 := Lib.hid hb9
 refine hK.out _ _ (.inr hS8) ?_
 clear hK K hz9 hb9 hc8 hp8 ho8 hg8
 try simp only [Act.put, lay_]
 refine wpAnyN_one (i := 8) (by kernel_rfl) rfl (fun K hK => ?_)
 go_simp
 refine hK.out _ _ (.inr hS8) ?_
 clear hK K
 try simp only [Act.put, lay_]
 refine wpAnyN_one (i := 9) (by kernel_rfl) rfl (fun K hK => ?_)
 go_simp
 refine hK.out _ _ (.inr hS8) ?_
 clear hK K
 try simp only [Act.put, lay_]
 refine wpAnyN_one (i := 10) (by kernel_rfl) rfl (fun K hK => ?_)
 go_simp
 refine hK.out _ _ (.inl (by decide)) ?_
 clear hK K
 try simp only [Act.put, lay_]
 refine wpAnyN_done (by kernel_rfl) ?_ _
 go_wp2_with fail
 go_end0
 exact ⟨rfl, HZ9.out, HB9.out⟩
theorem load_lv {w : World} {g : Nat} {x0 x1 : Value} (h : Cel w g 190 [x0, x1]) : (loadVar 190 ⟨g, 0, none⟩).run Tryz.prog w = .ok (.agg #[x0, x1]) w :=
 run_loadVar_mid (P := Tryz.prog) w g 0 190 [x0, x1] _ (range_of h) Tryz.underlying190 rfl (by kernel_rfl)
theorem undLv : Tryz.prog.underlying 191 = some (.slice 190) := Tryz.underlying191
theorem sizeLv : (Tryz.prog.info? 190).map (·.size) = some 2 := by kernel_rfl
theorem pop_no (w : World) (B b : Nat) (A : Option Addr) (n c : Nat) (s : List (BitVec 8)) (x : St) (h : Pz w B b A n c s x) (hx : x.outer = []) :
  Calls Tryz.prog 182 #[.pointer (some ⟨b, 5, none⟩)] w fun e w' => e = .returned (.tuple #[.agg #[.bool false, .bool false], .bool false]) ∧ Below w.heap.size w w' := by
 obtain ⟨ov, iv, hp, ho, hl⟩ := h.st
 rw [hx] at hl
 obtain ⟨Ai, ci, rfl⟩ := own_form hl
 have p5 := (Cel.alloc (Cel.alloc hp (.cells #[.bool false, .bool false] 190)) (.cells #[.bool false, .bool false] 190)).cell 5
 have HC := Lib.hid ((Cel.new w 190 [.bool false, .bool false]).alloc (.cells #[.bool false, .bool false] 190))
 have HB := Lib.hid (((Below.refl w.heap.size w).alloc (Nat.le_refl _) (.cells #[.bool false, .bool false] 190)).alloc (by simp) (.cells #[.bool false, .bool false] 190))
 clear h hp ho hl
 go_enter Tryz.func182, Tryz.ntmps182
 go_wp2_with fail
 refine bodyPost_ret (v := .tuple #[.agg #[.bool false, .bool false], .bool false]) (results_at 2 190 3 Tryz.results182 ⟨w.heap.size, 0, none⟩ rfl _ _ rfl (load_lv HC.out)) rfl ?_
 exact ⟨rfl, HB.out⟩
theorem pop_yes (w : World) (B b : Nat) (A : Option Addr) (n c : Nat) (s : List (BitVec 8)) (x : St) (l : Lv) (K : List Lv) (h : Pz w B b A n c s x) (hB : B ≤ w.heap.size) (hx : x.outer = l :: K) (hlen : K.length ≤ 100) :
  Calls Tryz.prog 182 #[.pointer (some ⟨b, 5, none⟩)] w fun e w' => e = .returned (.tuple #[.agg #[.bool l.hb, .bool l.hp], .bool true]) ∧ Pz w' B b A n c s ⟨x.at_, x.ops, x.inner, K⟩ ∧ Below B w w' := by
 obtain ⟨ov, iv, hp, ho, hl⟩ := h.st
 rw [hx] at hl
 obtain ⟨Ai, ci, rfl⟩ := own_form hl
 have hlow := h.low
 obtain ⟨m, hm⟩ : ∃ m, m = K.length := ⟨_, rfl⟩
 have hl2 : w.ownsRow B 190 2 (.slice Ai (m + 1) ci) (m + 1) (lflat K.reverse ++ [.bool l.hb, .bool l.hp]) := by
  have : w.ownsRow B 190 2 (.slice Ai (l :: K).length ci) (l :: K).length (lflat (l :: K).reverse) := hl
  rw [List.reverse_cons, lflat_snoc, List.length_cons, ← hm] at this
  exact this
 obtain ⟨g1, cap, hv, hg1, hlt1⟩ := hl2.form (Nat.succ_pos _)
 cases hv
 have hci : m + 1 ≤ ci ∧ ci ≤ maxLen := by
  rcases hl2.2 with ⟨hv, _⟩ | ⟨g', cap', cur, hv, _, _, h1, h2, _⟩
  ·cases hv
  ·cases hv; exact ⟨h1, h2⟩
 have hlf : (lflat K.reverse).length = m * 2 := by rw [lflat_length, List.length_reverse, hm]
 have r0 : w.cell? ⟨g1, m * 2, none⟩ = some (.bool l.hb) := by
  rw [hl2.cellAt (m * 2) (by omega), List.getElem?_append_right (by omega), hlf, Nat.sub_self]; rfl
 have r1 : w.cell? ⟨g1, m * 2 + 1, none⟩ = some (.bool l.hp) := by
  rw [hl2.cellAt (m * 2 + 1) (by omega), List.getElem?_append_right (by omega), hlf, show m * 2 + 1 - m * 2 = 1 by omega]; rfl
 have hcut := own_cut hl2 (Nat.le_succ m)
 rw [List.take_append_of_le_length (by omega), List.take_of_length_le (by omega)] at hcut
 have HBS := Lib.hid h.bs
 have HO := Lib.hid ho
 have HP := Lib.hid hp
 have HCUT := Lib.hid hcut
 have HLT := Lib.hid hlt1
 have hbw := hp.lt
 have hgb : g1 ≠ b := own_ne_of hl2 hp
 generalize hW : (w.alloc (.cells #[.bool false, .bool false] 190)).alloc (.cells #[.bool false, .bool false] 190) = W
 have hWs : W.heap.size = w.heap.size + 2 := by rw [← hW]; simp
 have hbW : Below w.heap.size w W := by rw [← hW]; exact ((Below.refl w.heap.size w).alloc (Nat.le_refl _) _).alloc (by simp) _
 have hc1 : Cel W w.heap.size 190 [.bool false, .bool false] := by rw [← hW]; exact (Cel.new w _ _).alloc _
 have hc2 : Cel W (w.heap.size + 1) 190 [.bool false, .bool false] := by
  rw [← hW]
  have := Cel.new (w.alloc (.cells #[.bool false, .bool false] 190)) 190 [.bool false, .bool false]
  rwa [show (w.alloc (.cells #[.bool false, .bool false] 190)).heap.size = w.heap.size + 1 by simp] at this
 have hpW : Pc W b (.slice A n c) x.at_ ov x.inner.hb x.inner.hp (.slice (some ⟨g1, 0, none⟩) (m + 1) ci) := by
  rw [hm]; exact Cel.below hp hbW hbw
 have p5 := Cel.cell hpW 5
 have r0W := (hbW.cell (p := ⟨g1, m * 2, none⟩) hlt1).trans r0
 have r1W := (hbW.cell (p := ⟨g1, m * 2 + 1, none⟩) hlt1).trans r1
 have HM := Lib.hid hm
 have hm100 : m ≤ 100 := by omega
 clear h hp ho hl hl2 hcut hlf r0 r1 hm hx hlen
 go_enter Tryz.func182, Tryz.ntmps182
 go_wp2_with fail
 clear hW
 have hH : Still2 b g1 m (.slice (some ⟨g1, 0, none⟩) (m + 1) ci) (.bool l.hb) (.bool l.hp) W.drew := ⟨p5, r0W, r1W⟩
 refine wp_region_N [17] (Still2 b g1 m (.slice (some ⟨g1, 0, none⟩) (m + 1) ci) (.bool l.hb) (.bool l.hp)) (by kernel_rfl) ?_
 refine tk_ 0 (.pointer (some ⟨b, 5, none⟩)) [17] rfl hH ?_ ?_
 ·intro V hV; go_simp
 try simp only [Act.put, lay_]
 refine tk_ 1 (.pointer (some ⟨b, 5, none⟩)) [17] rfl hH ?_ ?_
 ·intro V hV; go_simp
 try simp only [Act.put, lay_]
 refine tk_ 2 (.pointer (some ⟨b, 5, none⟩)) [17] rfl hH ?_ ?_
 ·intro V hV; go_simp
 try simp only [Act.put, lay_]
 refine tk_ 3 (.pointer (some ⟨b, 5, none⟩)) [17] rfl hH ?_ ?_
 ·intro V hV; go_simp
 try simp only [Act.put, lay_]
 refine tk_ 4 (.slice (some ⟨g1, 0, none⟩) (m + 1) ci) [17] rfl hH ?_ ?_
 ·intro V hV; obtain ⟨k0, k1, k2⟩ := hV; go_simp
 try simp only [Act.put, lay_]
 refine tk_ 5 (.int .i64 (m : Int)) [17] rfl hH ?_ ?_
 ·intro V hV; go_simp
 try simp only [Act.put, lay_]
 refine tk_ 6 (.pointer (some ⟨g1, m * 2, none⟩)) [17] rfl hH ?_ ?_
 ·intro V hV; go_simp; intro q; omega
 try simp only [Act.put, lay_]
 refine tk_ 7 (.agg #[.bool l.hb, .bool l.hp]) [17] rfl hH ?_ ?_
 ·intro V hV; obtain ⟨k0, k1, k2⟩ := hV; go_simp
 try simp only [Act.put, lay_]
 refine tk_ 8 (.pointer (some ⟨b, 5, none⟩)) [17] rfl hH ?_ ?_
 ·intro V hV; go_simp
 try simp only [Act.put, lay_]
 refine tk_ 9 (.pointer (some ⟨b, 5, none⟩)) [17] rfl hH ?_ ?_
 ·intro V hV; go_simp
 try simp only [Act.put, lay_]
 refine tk_ 10 (.pointer (some ⟨b, 5, none⟩)) [17] rfl hH ?_ ?_
 ·intro V hV; go_simp
 try simp only [Act.put, lay_]
 refine tk_ 11 (.slice (some ⟨g1, 0, none⟩) (m + 1) ci) [17] rfl hH ?_ ?_
 ·intro V hV; obtain ⟨k0, k1, k2⟩ := hV; go_simp
 try simp only [Act.put, lay_]
 refine tk_ 12 (.int .i64 (m : Int)) [17] rfl hH ?_ ?_
 ·intro V hV; go_simp
 try simp only [Act.put, lay_]
 refine wpAnyN_take (i := 13) (v := .slice (some ⟨g1, 0, none⟩) m ci) [17] (by kernel_rfl) rfl (by kernel_rfl) (by kernel_rfl) (by kernel_rfl) (fun _ _ _ h => h) (yieldsIf_slice (by rfl) 191 (.tmp 26) none (some (.tmp 27)) none rfl _ (fun V => run_cutTo V undLv sizeLv (some ⟨g1, 0, none⟩) (m + 1) ci m .i64 (by omega))) hH ?_
 try simp only [Act.put, lay_]
 have x0 := hc2.cell 0
 have x1 := hc2.cell 1
 have xf0 := hc2.free 0
 have xf1 := hc2.free 1
 refine wpAnyN_one (i := 14) (by kernel_rfl) rfl (fun K hK => ?_)
 go_simp
 have hA := setCells2 (y0 := .bool l.hb) (y1 := .bool l.hp) hc2
 have hN1 : b ≠ w.heap.size + 1 := by omega
 have hG1 : g1 ≠ w.heap.size + 1 := by omega
 have hPA := (Cel.far (p := ⟨w.heap.size + 1, 1, none⟩) (Cel.far (p := ⟨w.heap.size + 1, 0, none⟩) hpW hN1 (.bool l.hb)) hN1 (.bool l.hp))
 have hRA := (Cel.far (p := ⟨w.heap.size + 1, 1, none⟩) (Cel.far (p := ⟨w.heap.size + 1, 0, none⟩) hc1 (by simp) (.bool l.hb)) (by simp) (.bool l.hp))
 generalize hWA : (W.setCell ⟨w.heap.size + 1, 0, none⟩ (.bool l.hb)).setCell ⟨w.heap.size + 1, 1, none⟩ (.bool l.hp) = WA at *
 have hS2 : Still2 b g1 m (.slice (some ⟨g1, 0, none⟩) (m + 1) ci) (.bool l.hb) (.bool l.hp) WA.drew := by
  refine ⟨Cel.cell hPA 5, ?_, ?_⟩
  ·exact (World.cell?_of_block (w := W) (by show WA.heap[g1]? = _; rw [← hWA, Below.heap_setCell _ _ _ _ (by simpa using hG1), Below.heap_setCell _ _ _ _ (by simpa using hG1)])).trans r0W
  ·exact (World.cell?_of_block (w := W) (by show WA.heap[g1]? = _; rw [← hWA, Below.heap_setCell _ _ _ _ (by simpa using hG1), Below.heap_setCell _ _ _ _ (by simpa using hG1)])).trans r1W
 refine hK.out _ _ (.inr hS2) ?_
 clear hK K x0 x1 xf0 xf1
 try simp only [Act.put, lay_]
 refine wpAnyN_one (i := 15) (by kernel_rfl) rfl (fun K hK => ?_)
 go_simp
 refine hK.out _ _ (.inr hS2) ?_
 clear hK K
 try simp only [Act.put, lay_]
 refine wpAnyN_one (i := 16) (by kernel_rfl) rfl (fun K hK => ?_)
 go_simp
 refine hK.out _ _ (.inr hS2) ?_
 clear hK K
 try simp only [Act.put, lay_]
 have y5 := Cel.cell hPA 5
 have g5 := Cel.free hPA 5
 refine wpAnyN_one (i := 17) (by kernel_rfl) rfl (fun K hK => ?_)
 go_simp
 refine hK.out _ _ (.inl (by decide)) ?_
 clear hK K
 try simp only [Act.put, lay_]
 refine wpAnyN_done (by kernel_rfl) ?_ _
 have hB9 := Cel.far (p := ⟨b, 5, none⟩) hA (fun e => hN1 e.symm) (.slice (some ⟨g1, 0, none⟩) m ci)
 have hR9 := Cel.far (p := ⟨b, 5, none⟩) hRA (by simp; omega) (.slice (some ⟨g1, 0, none⟩) m ci)
 have hP9 := Cel.set hPA 5 (.slice (some ⟨g1, 0, none⟩) m ci)
 have a0 := hB9.cell 0
 have a1 := hB9.cell 1
 have c0 := hR9.cell 0
 have c1 := hR9.cell 1
 have f0 := hR9.free 0
 have f1 := hR9.free 1
 have HF := Lib.hid (show Frm [w.heap.size + 1, b, w.heap.size] W (((WA.setCell ⟨b, 5, none⟩ (.slice (some ⟨g1, 0, none⟩) m ci)).setCell ⟨w.heap.size, 0, none⟩ (.bool l.hb)).setCell ⟨w.heap.size, 1, none⟩ (.bool l.hp)).drew from by
  rw [← hWA]
  exact ((((((Frm.refl _ W).set (p := ⟨w.heap.size + 1, 0, none⟩) (by simp) _).set (p := ⟨w.heap.size + 1, 1, none⟩) (by simp) _).set (p := ⟨b, 5, none⟩) (by simp) _).set (p := ⟨w.heap.size, 0, none⟩) (by simp) _).set (p := ⟨w.heap.size, 1, none⟩) (by simp) _).drew)
 have HP9 := Lib.hid (Cel.far (p := ⟨w.heap.size, 1, none⟩) (Cel.far (p := ⟨w.heap.size, 0, none⟩) hP9 (by simp; omega) (.bool l.hb)) (by simp; omega) (.bool l.hp))
 have HR9 := Lib.hid (setCells2 (y0 := .bool l.hb) (y1 := .bool l.hp) hR9)
 clear hWA hP9 hR9 hB9
 go_wp2_with fail
 refine bodyPost_ret (v := .tuple #[.agg #[.bool l.hb, .bool l.hp], .bool true]) (results_at 2 190 3 Tryz.results182 ⟨w.heap.size, 0, none⟩ rfl _ _ rfl (load_lv HR9.out.drew)) rfl ?_
 have hb9 := (hbW.mono hB).trans (HF.out.below (B := B) (by omega) (by simp; omega))
 refine ⟨rfl, ⟨hlow, HBS.out.below hb9, ov, .slice (some ⟨g1, 0, none⟩) m ci, HP9.out, ?_, ?_⟩, hb9⟩
 ·refine (HO.out.below hbW).frm HF.out fun k hk => ?_
  simp only [List.mem_cons, List.not_mem_nil, or_false] at hk
  rcases hk with rfl | rfl | rfl
  ·exact ⟨_, _, hc2, by decide, by decide⟩
  ·exact ⟨_, _, hpW, by decide, by decide⟩
  ·exact ⟨_, _, hc1, by decide, by decide⟩
 ·show World.ownsRow _ _ _ _ _ K.length (lflat K.reverse)
  rw [← HM.out]
  refine own_frm (own_frm (l := []) HCUT.out (Frm.of_below hbW) (by simp)) HF.out fun k hk e => ?_
  have e2 : g1 = k := by simpa [Value.ownBlock] using e
  simp only [List.mem_cons, List.not_mem_nil, or_false] at hk
  rcases hk with rfl | rfl | rfl
  ·omega
  ·exact hgb e2
  ·omega
end Go.Proofs.YteohlpmojfjjdaaGreat.Reg
end
section
namespace Go.Proofs.YteohlpmojfjjdaaGreat.Reg
open Go.RowKit Go.Proofs.YteohlpmojfjjdaaGreat.Ord
theorem open_deep (w : World) (B b : Nat) (A : Option Addr) (n c : Nat) (s : List (BitVec 8)) (x : St) (h : Pz w B b A n c s x) (hd : x.outer.length = 8) :
  Calls Tryz.prog 163 #[.pointer (some ⟨b, 0, none⟩)] w fun e w' => e = .returned (.int .i64 5) ∧ w = w' := by
 have con := size_call w B b A n c s x h
 rw [hd] at con
 clear h
 go_enter Tryz.func163, Tryz.ntmps163
 go_wp2_with fail
 refine con.mono ?_
 rintro e w1 ⟨rfl, rfl⟩
 go_wp2_with fail
 go_ret
 exact ⟨rfl, rfl⟩
theorem open_on (w : World) (B b : Nat) (A : Option Addr) (n c : Nat) (s : List (BitVec 8)) (x : St) (h : Pz w B b A n c s x) (hB : B ≤ w.heap.size) (hd : x.outer.length < 8) (hk : x.at_ < n) (hn : n ≤ 100000) :
  Calls Tryz.prog 163 #[.pointer (some ⟨b, 0, none⟩)] w fun e w' => e = .returned (.int .i64 0) ∧ Pz w' B b A n c s ⟨x.at_ + 1, x.ops, ⟨false, false⟩, x.inner :: x.outer⟩ ∧ Below B w w' := by
 have con := size_call w B b A n c s x h
 have hlow := h.low
 obtain ⟨ov, iv, hp, hset⟩ := h.set
 have p1 := Cel.cell hp 1
 have f1 := Cel.free hp 1
 have hz1 := hset 1 (.int .i64 ((x.at_ : Int) + 1)) (x.at_ + 1) x.inner (by simp)
 have hb1 := set_below w hlow 1 (.int .i64 ((x.at_ : Int) + 1))
 have d8 : ((x.outer.length : Int) == 8) = false := by rw [beq_eq_false_iff_ne]; omega
 generalize hW : w.setCell ⟨b, 1, none⟩ (.int .i64 ((x.at_ : Int) + 1)) = W at *
 have hs1 := hb1.size
 obtain ⟨ov1, iv1, hp1, -⟩ := hz1.open_
 have hH : W.drew.cell? ⟨b, 3, none⟩ = some (.bool x.inner.hb) ∧ W.drew.cell? ⟨b, 4, none⟩ = some (.bool x.inner.hp) := ⟨Cel.cell hp1 3, Cel.cell hp1 4⟩
 have HZ := Lib.hid (hz1.below ((Below.refl W.heap.size W).drew) (by omega))
 have HB1 := Lib.hid hb1.drew
 clear h hp hset hz1 hp1 hb1
 go_enter Tryz.func163, Tryz.ntmps163
 go_wp2_with fail
 refine con.mono ?_
 clear con
 rintro e w1 ⟨rfl, rfl⟩
 go_wp2_with fail
 clear hW p1 f1
 refine wp_region_N [7] (fun V => V.cell? ⟨b, 3, none⟩ = some (.bool x.inner.hb) ∧ V.cell? ⟨b, 4, none⟩ = some (.bool x.inner.hp)) (by kernel_rfl) ?_
 refine tk_ 0 (.pointer (some ⟨b, 0, none⟩)) [1, 2, 7] rfl hH ?_ ?_
 ·intro V hV; go_simp
 try simp only [Act.put, lay_]
 refine tk_ 1 (.pointer (some ⟨b, 0, none⟩)) [2, 7] rfl hH ?_ ?_
 ·intro V hV; go_simp
 try simp only [Act.put, lay_]
 refine tk_ 2 (.pointer (some ⟨b, 5, none⟩)) [7] rfl hH ?_ ?_
 ·intro V hV; go_simp
 try simp only [Act.put, lay_]
 refine tk_ 3 (.pointer (some ⟨b, 0, none⟩)) [4, 5, 6, 7] rfl hH ?_ ?_
 ·intro V hV; go_simp
 try simp only [Act.put, lay_]
 refine tk_ 4 (.pointer (some ⟨b, 0, none⟩)) [5, 6, 7] rfl hH ?_ ?_
 ·intro V hV; go_simp
 try simp only [Act.put, lay_]
 refine tk_ 5 (.pointer (some ⟨b, 3, none⟩)) [6, 7] rfl hH ?_ ?_
 ·intro V hV; go_simp
 try simp only [Act.put, lay_]
 refine tk_ 6 (.agg #[.bool x.inner.hb, .bool x.inner.hp]) [7] rfl hH ?_ ?_
 ·intro V hV; obtain ⟨k0, k1⟩ := hV; go_simp
 try simp only [Act.put, lay_]
 refine wpAnyN_one (i := 7) (by kernel_rfl) rfl (fun K hK => ?_)
 go_simp
 refine (push_call W.drew B b A n c s _ x.inner.hb x.inner.hp HZ.out (by show B ≤ W.heap.size; omega) (by show x.outer.length ≤ 100; omega)).mono ?_
 rintro e w3 ⟨rfl, hz3, hb3⟩
 have HZ3 := Lib.hid hz3
 have HB3 := Lib.hid (HB1.out.trans hb3)
 clear hz3 hb3
 go_wp2_with fail
 refine hK.out _ _ (.inl (by decide)) ?_
 clear hK K
 try simp only [Act.put, lay_]
 refine wpAnyN_done (by kernel_rfl) ?_ _
 obtain ⟨ov3, iv3, hp3, -⟩ := HZ3.out.set
 have q3 := Cel.cell hp3 3
 have f3 := Cel.free hp3 3
 have q4 := Cel.cell hp3 4
 have f4 := Cel.free hp3 4
 have HS := Lib.hid (HZ3.out.level false false)
 clear hp3
 go_wp2_with fail
 go_ret
 exact ⟨rfl, HS.out, HB3.out.trans (set2_below w3 hlow 3 4 _ _)⟩
theorem branchEnd_length (x : St) : (branchEnd x).ops.length ≤ x.ops.length + 2 := by
 show (x.ops ++ (if x.inner.hp then [] else [one 2]) ++ (if x.inner.hb then [one 4] else [])).length ≤ _
 cases x.inner.hp <;> cases x.inner.hb <;> simp
theorem close_none (w : World) (B b : Nat) (A : Option Addr) (n c : Nat) (s : List (BitVec 8)) (x : St) (h : Pz w B b A n c s x) (hx : x.outer = []) :
  Calls Tryz.prog 164 #[.pointer (some ⟨b, 0, none⟩)] w fun e w' => e = .returned (.int .i64 2) ∧ Below w.heap.size w w' := by
 have con := pop_no w B b A n c s x h hx
 clear h
 go_enter Tryz.func164, Tryz.ntmps164
 go_wp2_with fail
 refine con.mono ?_
 rintro e w1 ⟨rfl, hb1⟩
 have HB1 := Lib.hid hb1
 have hs1 := hb1.size
 clear hb1
 go_wp2_with fail
 go_ret
 exact ⟨rfl, HB1.out.alloc hs1 _⟩
theorem close_on (w : World) (B b : Nat) (A : Option Addr) (n c : Nat) (s : List (BitVec 8)) (x : St) (l : Lv) (K : List Lv) (h : Pz w B b A n c s x) (hB : B ≤ w.heap.size) (hx : x.outer = l :: K) (hd : K.length ≤ 100) (hk : x.at_ < n) (hn : n ≤ 100000) (hlen : x.ops.length ≤ 8000) :
  Calls Tryz.prog 164 #[.pointer (some ⟨b, 0, none⟩)] w fun e w' => e = .returned (.int .i64 0) ∧ Pz w' B b A n c s (pieceEnd s ⟨x.at_ + 1, (branchEnd x).ops, l, K⟩) ∧ Below B w w' := by
 have con := pop_yes w B b A n c s x l K h hB hx hd
 have hlow := h.low
 have HLEN := Lib.hid hlen
 clear h hx hd hlen
 go_enter Tryz.func164, Tryz.ntmps164
 go_wp2_with fail
 refine con.mono ?_
 clear con
 rintro e w1 ⟨rfl, hz1, hb1⟩
 have hs1 := hb1.size
 obtain ⟨ov, iv, hp, hset⟩ := hz1.set
 have p1 := Cel.cell hp 1
 have f1 := Cel.free hp 1
 have hbw := hp.lt
 have hz2 := (hset 1 (.int .i64 ((x.at_ : Int) + 1)) (x.at_ + 1) x.inner (by simp))
 generalize hW : (w1.setCell ⟨b, 1, none⟩ (.int .i64 ((x.at_ : Int) + 1))).alloc (.cells #[.bool l.hb, .bool l.hp] 190) = W
 have hc : Cel W w1.heap.size 190 [.bool l.hb, .bool l.hp] := by rw [← hW]; exact newOn w1 b _ 1 _ _
 have hb2 := set_below w1 hlow 1 (.int .i64 ((x.at_ : Int) + 1))
 have hs2 := hb2.size
 have hbW : Below B w1 W := by rw [← hW]; exact hb2.alloc (by omega) _
 have hsW := hbW.size
 have hzW : Pz W B b A n c s ⟨x.at_ + 1, x.ops, x.inner, K⟩ := by rw [← hW]; exact hz2.below ((Below.refl _ _).alloc (Nat.le_refl _) _) (by omega)
 have HZ := Lib.hid hzW
 have HC := Lib.hid hc
 have HB := Lib.hid (hb1.trans hbW)
 clear hz1 hp hset hz2 hb2 hbW hzW hc hb1
 go_wp2_with fail
 clear hW p1 f1
 refine (endBranch_call W B b A n c s _ HZ.out (by omega) (by have := HLEN.out; show x.ops.length ≤ _; omega)).mono ?_
 rintro e w3 ⟨rfl, hz3, hb3⟩
 have hc3 := hb3.cel HC.out (by decide) (by decide)
 have hs3 := hb3.size
 obtain ⟨ov3, iv3, hp3, -⟩ := hz3.set
 have q3 := Cel.cell hp3 3
 have f3 := Cel.free hp3 3
 have q4 := Cel.cell hp3 4
 have f4 := Cel.free hp3 4
 have l0 := hc3.cell 0
 have l1 := hc3.cell 1
 have HS := Lib.hid (hz3.level l.hb l.hp)
 have HB3 := Lib.hid (HB.out.trans (hb3.low.trans (set2_below w3 hlow 3 4 (.bool l.hb) (.bool l.hp))))
 have hs4 := HB3.out.size
 clear hz3 hb3 hc3 hp3
 go_wp2_with fail
 refine (endPiece_call _ B b A n c s _ HS.out (by simp; omega) (by show x.at_ + 1 ≤ n; omega) hn (by have := HLEN.out; have := branchEnd_length x; show (branchEnd x).ops.length ≤ _; omega)).mono ?_
 rintro e w5 ⟨rfl, hz5, hb5⟩
 have HZ5 := Lib.hid hz5
 have HB5 := Lib.hid (HB3.out.trans hb5.low)
 clear hz5 hb5
 go_wp2_with fail
 go_ret
 exact ⟨rfl, HZ5.out, HB5.out⟩
end Go.Proofs.YteohlpmojfjjdaaGreat.Reg
end
section
namespace Go.Proofs.YteohlpmojfjjdaaGreat.Reg
open Go.RowKit Go.Proofs.YteohlpmojfjjdaaGreat.Ord
def StSays (w : World) (B b : Nat) (A : Option Addr) (n c : Nat) (s : List (BitVec 8)) (r : Except (Nat × Nat) St) (e : Ending) (w' : World) : Prop := match r with
 | .error (bad, p) => e = .returned (.int .i64 (bad : Int)) ∧ (∃ y, Pz w' B b A n c s y ∧ y.at_ = p) ∧ Below B w w'
 | .ok y => e = .returned (.int .i64 0) ∧ Pz w' B b A n c s y ∧ Below B w w'
theorem step_open (w : World) (B b : Nat) (A : Option Addr) (n c : Nat) (s : List (BitVec 8)) (x : St) (h : Pz w B b A n c s x) (hB : B ≤ w.heap.size) (hd : x.outer.length ≤ 8) (hk : x.at_ < n) (hn : n ≤ 100000) :
  Calls Tryz.prog 155 #[.pointer (some ⟨b, 0, none⟩), v8 40#8] w (StSays w B b A n c s (step s x 40#8)) := by
 unfold step
 rw [if_pos rfl]
 by_cases h8 : x.outer.length = 8
 ·rw [if_pos h8]
  have con := open_deep w B b A n c s x h h8
  have H := Lib.hid h
  clear h
  go_enter Tryz.func155, Tryz.ntmps155
  go_wp2_with fail
  refine con.mono ?_
  rintro e w1 ⟨rfl, rfl⟩
  go_wp2_with fail
  go_ret
  exact ⟨rfl, ⟨x, H.out, rfl⟩, Below.refl _ _⟩
 ·rw [if_neg h8]
  have con := open_on w B b A n c s x h hB (by omega) hk hn
  clear h
  go_enter Tryz.func155, Tryz.ntmps155
  go_wp2_with fail
  refine con.mono ?_
  rintro e w1 ⟨rfl, hz, hb⟩
  have HZ := Lib.hid hz
  have HB := Lib.hid hb
  clear hz hb
  go_wp2_with fail
  go_ret
  exact ⟨rfl, HZ.out, HB.out⟩
theorem step_close (w : World) (B b : Nat) (A : Option Addr) (n c : Nat) (s : List (BitVec 8)) (x : St) (h : Pz w B b A n c s x) (hB : B ≤ w.heap.size) (hd : x.outer.length ≤ 8) (hk : x.at_ < n) (hn : n ≤ 100000) (hlen : x.ops.length ≤ 8000) :
  Calls Tryz.prog 155 #[.pointer (some ⟨b, 0, none⟩), v8 41#8] w (StSays w B b A n c s (step s x 41#8)) := by
 unfold step
 rw [if_neg (by decide), if_pos rfl]
 rcases hx : x.outer with _ | ⟨l, K⟩
 ·dsimp only
  have con := close_none w B b A n c s x h hx
  have H := Lib.hid h
  clear h
  go_enter Tryz.func155, Tryz.ntmps155
  go_wp2_with fail
  refine con.mono ?_
  rintro e w1 ⟨rfl, hb⟩
  have HB := Lib.hid hb
  clear hb
  go_wp2_with fail
  go_ret
  exact ⟨rfl, ⟨x, H.out.below HB.out hB, rfl⟩, HB.out.mono hB⟩
 ·dsimp only
  rw [hx] at hd
  have con := close_on w B b A n c s x l K h hB hx (by simp at hd; omega) hk hn hlen
  clear h
  go_enter Tryz.func155, Tryz.ntmps155
  go_wp2_with fail
  refine con.mono ?_
  rintro e w1 ⟨rfl, hz, hb⟩
  have HZ := Lib.hid hz
  have HB := Lib.hid hb
  clear hz hb
  go_wp2_with fail
  go_ret
  exact ⟨rfl, HZ.out, HB.out⟩
theorem step_bar (w : World) (B b : Nat) (A : Option Addr) (n c : Nat) (s : List (BitVec 8)) (x : St) (h : Pz w B b A n c s x) (hB : B ≤ w.heap.size) (hk : x.at_ < n) (hn : n ≤ 100000) (hlen : x.ops.length ≤ 8000) :
  Calls Tryz.prog 155 #[.pointer (some ⟨b, 0, none⟩), v8 124#8] w (StSays w B b A n c s (step s x 124#8)) := by
 unfold step
 rw [if_neg (by decide), if_neg (by decide), if_pos rfl]
 have hlow := h.low
 obtain ⟨ov, iv, hp, hset⟩ := h.set
 have p1 := Cel.cell hp 1
 have f1 := Cel.free hp 1
 have hz1 := hset 1 (.int .i64 ((x.at_ : Int) + 1)) (x.at_ + 1) x.inner (by simp)
 have hb1 := set_below w hlow 1 (.int .i64 ((x.at_ : Int) + 1))
 have hs1 := hb1.size
 have con := endBranch_call _ B b A n c s _ hz1 (by omega) (by show x.ops.length ≤ _; omega)
 have HB1 := Lib.hid hb1
 clear h hp hset hz1 hb1
 go_enter Tryz.func155, Tryz.ntmps155
 go_wp2_with fail
 refine con.mono ?_
 rintro e w1 ⟨rfl, hz, hb⟩
 have HZ := Lib.hid hz
 have HB := Lib.hid (HB1.out.trans hb.low)
 clear hz hb
 go_wp2_with fail
 go_ret
 exact ⟨rfl, HZ.out, HB.out⟩
def Still3 (b g : Nat) (v x0 x1 x2 : Value) (V : World) : Prop := V.cell? ⟨b, 2, none⟩ = some v ∧ V.cell? ⟨g, 0, none⟩ = some x0 ∧ V.cell? ⟨g, 1, none⟩ = some x1 ∧ V.cell? ⟨g, 2, none⟩ = some x2
theorem step_atom (w : World) (B b : Nat) (A : Option Addr) (n c : Nat) (s : List (BitVec 8)) (x : St) (y : BitVec 8) (h : Pz w B b A n c s x) (hB : B ≤ w.heap.size) (hk : x.at_ < n) (hn : n ≤ 100000) (hlen : x.ops.length ≤ 8000) (hy : s[x.at_]? = some y) (h40 : y ≠ 40#8) (h41 : y ≠ 41#8) (h124 : y ≠ 124#8) :
  Calls Tryz.prog 155 #[.pointer (some ⟨b, 0, none⟩), v8 y] w (StSays w B b A n c s (step s x y)) := by
 unfold step
 rw [if_neg h40, if_neg h41, if_neg h124]
 have d1 : ((y.toNat : Int) == 40) = false := ne_lit (k := 40) (by decide) h40
 have d2 : ((y.toNat : Int) == 41) = false := ne_lit (k := 41) (by decide) h41
 have d3 : ((y.toNat : Int) == 124) = false := ne_lit (k := 124) (by decide) h124
 have hlow := h.low
 have hsl := h.bs.len
 obtain ⟨ov, iv, hp, hre⟩ := h.open_
 have con := atom_call w B b A n c x.at_ s y ov x.inner.hb x.inner.hp iv hp h.bs hlow hk hn
 have HRE := Lib.hid hre
 have HY := Lib.hid hy
 clear h hp hre h40 h41 h124 hy
 rcases hat : atomL s x.at_ y with p | ⟨o, j⟩ <;> rw [hat] at con <;> dsimp only
 ·clear hat
  go_enter Tryz.func155, Tryz.ntmps155
  go_wp2_with fail
  refine con.mono ?_
  clear con
  rintro e w1 ⟨rfl, ha⟩
  have HZ := Lib.hid (HRE.out w1 _ ha)
  have hb1 := ha.low hB hlow
  have HB1 := Lib.hid hb1
  have hs1 := hb1.size
  clear ha hb1
  go_wp2_with fail
  go_ret
  exact ⟨rfl, ⟨_, HZ.out.below ((Below.refl _ _).alloc (Nat.le_refl _) _) (by omega), rfl⟩, HB1.out.alloc (by omega) _⟩
 ·have hj := atomL_ok hat HY.out
  have hjn : j ≤ n := by rw [← hsl]; exact hj.2.1
  clear hat hj
  go_enter Tryz.func155, Tryz.ntmps155
  go_wp2_with fail
  refine con.mono ?_
  clear con
  rintro e w1 ⟨A3, c3, rfl, hsp, ha⟩
  have hz1 := HRE.out w1 _ ha
  have hb1 := ha.low hB hlow
  have hs1 := hb1.size
  obtain ⟨ov1, iv1, hp1, ho1, hl1⟩ := hz1.st
  obtain ⟨us, q1, q2, q3⟩ := ho1.row
  obtain ⟨Ao, co, rfl⟩ := own_form q1
  dsimp only at hp1 q1 q2
  have hln : x.ops.length = x.ops.length := rfl
  generalize hln2 : x.ops.length = ln at q1 hp1 hlen hln
  dsimp only [opV]
  generalize hm3 : o.sp.length = m3
  generalize hW : w1.alloc (.cells #[.int .i64 o.kind, .bool o.neg, .slice A3 m3 c3] 223) = W
  have hWs : W.heap.size = w1.heap.size + 1 := by rw [← hW]; simp
  have hbW : Below w1.heap.size w1 W := by rw [← hW]; exact (Below.refl _ _).alloc (Nat.le_refl _) _
  have hcW : Cel W w1.heap.size 223 [.int .i64 o.kind, .bool o.neg, .slice A3 m3 c3] := by rw [← hW]; exact Cel.new w1 _ _
  have hbw := hp1.lt
  have hpW : Pc W b (.slice A n c) j (.slice Ao ln co) x.inner.hb x.inner.hp iv1 := Cel.below hp1 hbW hbw
  have hH : Still3 b w1.heap.size (.slice Ao ln co) (.int .i64 o.kind) (.bool o.neg) (.slice A3 m3 c3) W.drew := ⟨Cel.cell hpW 2, Cel.cell hcW 0, Cel.cell hcW 1, Cel.cell hcW 2⟩
  have hb5 : Below w1.heap.size w1 (W.alloc (.cells #[.int .i64 o.kind, .bool o.neg, .slice A3 m3 c3] 223)).drew := (hbW.alloc (by omega) _).drew
  have HB5 := Lib.hid hb5
  have H5 := Lib.hid (own_frm (l := []) q1 (Frm.of_below hb5) (by simp))
  have HC5 := Lib.hid ((hcW.alloc (.cells #[.int .i64 o.kind, .bool o.neg, .slice A3 m3 c3] 223)).drew)
  have HP5 := Lib.hid (show Pc (W.alloc (.cells #[.int .i64 o.kind, .bool o.neg, .slice A3 m3 c3] 223)).drew b (.slice A n c) j (.slice Ao ln co) x.inner.hb x.inner.hp iv1 from Cel.below hp1 hb5 hbw)
  have hsrc := Lib.hid (Ry.src (m := 1) (Ry.of_cel (show Cel (W.alloc (.cells #[.int .i64 o.kind, .bool o.neg, .slice A3 m3 c3] 223)).drew (w1.heap.size + 1) 223 [.int .i64 o.kind, .bool o.neg, .slice A3 m3 c3] by rw [← hWs]; exact Cel.new W _ _)) (by simp))
  have HSP := Lib.hid (Ry.below hsp hb5)
  have HFL := Lib.hid (show oflat us ++ [.int .i64 o.kind, .bool o.neg, .slice A3 m3 c3] = oflat (us ++ [⟨o, A3, c3⟩]) from by rw [oflat_snoc, ← hm3]; rfl)
  have HBS := Lib.hid hz1.bs
  have HP1 := Lib.hid hp1
  have HL1 := Lib.hid hl1
  have HB1 := Lib.hid hb1
  have HQ1 := Lib.hid q1
  have HQ2 := Lib.hid q2
  have HQ3 := Lib.hid q3
  have HLN := Lib.hid hln2
  clear hsp ha hz1 hb1 hp1 ho1 hl1 q1 q2 q3 hb5 hcW hpW hbW hln hln2 hm3
  go_wp2_with fail
  clear hW
  refine wp_region_N [10] (Still3 b w1.heap.size (.slice Ao ln co) (.int .i64 o.kind) (.bool o.neg) (.slice A3 m3 c3)) (by kernel_rfl) ?_
  refine tk_ 0 (.pointer (some ⟨b, 0, none⟩)) [10] rfl hH ?_ ?_
  ·intro V hV; go_simp
  try simp only [Act.put, lay_]
  refine tk_ 1 (.pointer (some ⟨b, 0, none⟩)) [10] rfl hH ?_ ?_
  ·intro V hV; go_simp
  try simp only [Act.put, lay_]
  refine tk_ 2 (.pointer (some ⟨b, 0, none⟩)) [10] rfl hH ?_ ?_
  ·intro V hV; go_simp
  try simp only [Act.put, lay_]
  refine tk_ 3 (.pointer (some ⟨b, 2, none⟩)) [10] rfl hH ?_ ?_
  ·intro V hV; go_simp
  try simp only [Act.put, lay_]
  refine tk_ 4 (.slice Ao ln co) [10] rfl hH ?_ ?_
  ·intro V hV; obtain ⟨k0, k1, k2, k3⟩ := hV; go_simp
  try simp only [Act.put, lay_]
  refine tk_ 5 (.agg #[.int .i64 o.kind, .bool o.neg, .slice A3 m3 c3]) [10] rfl hH ?_ ?_
  ·intro V hV; obtain ⟨k0, k1, k2, k3⟩ := hV; go_simp
  try simp only [Act.put, lay_]
  refine wpAnyN_one (i := 6) (by kernel_rfl) rfl (fun K hK => ?_)
  go_simp
  refine hK.out _ _ (.inr ?_) ?_
  ·exact ⟨Cel.cell HP5.out 2, HC5.out.cell 0, HC5.out.cell 1, HC5.out.cell 2⟩
  clear hK K
  try simp only [Act.put, lay_]
  refine wpAnyN_one (i := 7) (by kernel_rfl) rfl (fun K hK => ?_)
  rw [if_pos (by rfl)]
  refine wp_append_any _ _ _ 153 rfl B 223 rowOp (.slice Ao ln co) ln (oflat us) rfl H5.out (some ⟨w1.heap.size + 1, 0, none⟩) 1 1 [.int .i64 o.kind, .bool o.neg, .slice A3 m3 c3] rfl rfl hsrc.out (by intro u hu; simp at hu; rcases hu with rfl | rfl | rfl <;> rfl) (ln + 1) (oflat (us ++ [⟨o, A3, c3⟩])) rfl HFL.out (by unfold maxLen; omega) (by omega) (by simp; omega) ?_
  intro A8 c8 w8 ho8 hg8 _
  obtain ⟨hp8, hz9, hb9⟩ := Pz.pushed (u := ⟨o, A3, c3⟩) (x := ⟨j, x.ops, x.inner, x.outer⟩) HLN.out hlow HBS.out HP1.out HL1.out (by omega) HB5.out H5.out HQ2.out HQ3.out HSP.out ho8 hg8
  have hc8 := HC5.out.grown hg8 (fun e => by have := own_lt HQ1.out _ e; omega)
  have hS8 : Still3 b w1.heap.size (.slice Ao ln co) (.int .i64 o.kind) (.bool o.neg) (.slice A3 m3 c3) w8 := ⟨Cel.cell hp8 2, hc8.cell 0, hc8.cell 1, hc8.cell 2⟩
  have y2 := Cel.cell hp8 2
  have g2 := Cel.free hp8 2
  have HZ9 := Lib.hid hz9
  have HB9 := Lib.hid (HB1.out.trans hb9.low)
  refine hK.out _ _ (.inr hS8) ?_
  clear hK K hz9 hb9 hc8 hp8 ho8 hg8
  try simp only [Act.put, lay_]
  refine wpAnyN_one (i := 8) (by kernel_rfl) rfl (fun K hK => ?_)
  go_simp
  refine hK.out _ _ (.inr hS8) ?_
  clear hK K
  try simp only [Act.put, lay_]
  refine wpAnyN_one (i := 9) (by kernel_rfl) rfl (fun K hK => ?_)
  go_simp
  refine hK.out _ _ (.inr hS8) ?_
  clear hK K
  try simp only [Act.put, lay_]
  refine wpAnyN_one (i := 10) (by kernel_rfl) rfl (fun K hK => ?_)
  go_simp
  refine hK.out _ _ (.inl (by decide)) ?_
  clear hK K
  try simp only [Act.put, lay_]
  refine wpAnyN_done (by kernel_rfl) ?_ _
  go_wp2_with fail
  have hs9 := HB9.out.size
  refine (endPiece_call _ B b A n c s _ HZ9.out (by omega) hjn hn (by have := HLN.out; show (x.ops ++ [o]).length ≤ _; simp; omega)).mono ?_
  rintro e w5 ⟨rfl, hz5, hb5⟩
  have HZ5 := Lib.hid hz5
  have HBZ := Lib.hid (HB9.out.trans hb5.low)
  clear hz5 hb5
  go_wp2_with fail
  go_ret
  exact ⟨rfl, HZ5.out, HBZ.out⟩
end Go.Proofs.YteohlpmojfjjdaaGreat.Reg
end
