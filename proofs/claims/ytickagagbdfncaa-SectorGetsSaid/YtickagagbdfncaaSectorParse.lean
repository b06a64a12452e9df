/-
  What sector.parse comes to.
-/
import Derived.Test.YtickagagbdfncaaSectorImage
namespace Go.Proofs.Ytickagagbdfncaa.Sector
open Go.RowKit Go.Proofs.Ytickagagbdfncaa.Pack
set_option linter.unusedVariables false

theorem narrow32 (x : BitVec 64) : (x.toNat : Int) % 4294967296 = ((x.setWidth 32).toNat : Int) := by
  rw [BitVec.toNat_setWidth]; omega

/-- While parse runs: the reader, the part's variable at block q, the result's at block b, and nothing else has changed. -/
structure PS (w w' : World) (q d g : Nat) (st : St) (x0 x1 x2 x3 : Value) : Prop where
  rd : Rd w' (w.heap.size + 1) d g st
  var : Cel w' q 25 [x0, x1, x2, x3]
  res : Cel w' w.heap.size 25 [.int .u32 0, .int .u32 0, .int .i64 0, .slice none 0 0]
  low : Below w.heap.size w w'
  gq : g < q
namespace PS
variable {w w1 w2 : World} {q d g : Nat} {st st' : St} {x0 x1 x2 x3 : Value}
theorem after (h : PS w w1 q d g st x0 x1 x2 x3) (ha : After w1 (w.heap.size + 1) d g st' w2) : PS w w2 q d g st' x0 x1 x2 x3 := by
  have h1 := h.rd.1
  have h2 := h.rd.2.1
  have h3 := h.gq
  refine ⟨ha.1, h.var.frm ha.2 (by simp; omega), h.res.frm ha.2 (by simp; omega), h.low.trans (ha.2.below h.low.size (by simp; omega)), h3⟩
theorem store (h : PS w w1 q d g st x0 x1 x2 x3) (i : Nat) (u y0 y1 y2 y3 : Value) (e : [x0, x1, x2, x3].set i u = [y0, y1, y2, y3]) : PS w (w1.setCell ⟨q, i, none⟩ u) q d g st y0 y1 y2 y3 := by
  have h1 := h.rd.1
  have h2 := h.rd.2.1
  have h3 := h.gq
  have hf : Frm [q] w1 (w1.setCell ⟨q, i, none⟩ u) := (Frm.refl _ _).set (by simp) _
  refine ⟨h.rd.frm hf (by simp; omega), ?_, h.res.frm hf (by simp; omega), h.low.setCell (by show _ ≤ q; omega) _, h3⟩
  rw [← e]
  exact h.var.set i u
end PS
theorem flag64 (x : BitVec 64) (h : x.toNat < 256) : IntKind.i64.wrap (x.toNat : Int) = (x.toNat : Int) := by
  rw [IntKind.wrap_i64]; omega

set_option maxRecDepth 100000 in
set_option maxHeartbeats 1000000 in
theorem parse_walk (B : Nat) (A : Option Addr) (n c : Nat) (bs : List (BitVec 8)) (w : World) (hbs : Bs w B A n bs) (hB : B ≤ w.heap.size) (hn : n ≤ 140737488355328) :
    Calls Try.prog 16 #[.slice A n c] w fun r w' => ∃ A' c', r = .returned (partV (parse bs).epoch (parse bs).seq (parse bs).flags A' (parse bs).body.length c') ∧ Own w' w.heap.size A' (parse bs).body.length c' (parse bs).body ∧ Below w.heap.size w w' := by
  have HB := Lib.hid hbs
  clear hbs
  have hp : parse bs = (readAll (some bs)).2.1 := rfl
  simp only [readAll] at hp
  have HP := Lib.hid hp
  clear hp
  have hz0 : Cel (w.alloc (.cells #[.int .u32 0, .int .u32 0, .int .i64 0, .slice none 0 0] 25)) w.heap.size 25 [.int .u32 0, .int .u32 0, .int .i64 0, .slice none 0 0] := Cel.new w _ _
  have hb0 : Below w.heap.size w (w.alloc (.cells #[.int .u32 0, .int .u32 0, .int .i64 0, .slice none 0 0] 25)) := (Below.refl _ _).alloc (Nat.le_refl _) _
  have HZ0 := Lib.hid hz0
  have HB0 := Lib.hid hb0
  clear hz0 hb0
  go_enter Try.func16, Try.ntmps16
  go_wp2_with fail
  generalize hW : w.alloc (.cells #[.int .u32 0, .int .u32 0, .int .i64 0, .slice none 0 0] 25) = W at *
  have hWs : W.heap.size = w.heap.size + 1 := by rw [← hW]; simp
  clear hW
  have HWS := Lib.hid hWs
  clear hWs
  refine (read B A n c bs _ (HB.out.below (HB0.out.mono hB)) (by rw [HWS.out]; omega) hn).mono ?_
  rintro r w1 ⟨d, g, rfl, hr1, hs1, hb1⟩
  have hd := hr1.1
  rw [HWS.out] at hd
  have hdg := hr1.2.1
  have R1 := Lib.hid hr1
  have HS1 := Lib.hid hs1
  have HB1 := Lib.hid hb1
  clear hr1 hs1 hb1
  go_wp2_with fail
  refine (rNumber _ d g _ _ _ R1.out).mono ?_
  rintro r w2 ⟨rfl, hr2, hf2⟩
  have hg2 : g < w2.heap.size := by have := hf2.size; have := HS1.out; omega
  have R2 := Lib.hid hr2
  have F2 := Lib.hid hf2
  clear hr2 hf2
  generalize hX1 : (rnum 4 (some bs)).1 = X1
  have HX1 := Lib.hid hX1
  clear hX1
  have hps : PS w (w2.alloc (.cells #[.int .u32 0, .int .u32 0, .int .i64 0, .slice none 0 0] 25)) w2.heap.size d g (rnum 4 (some bs)).2 (.int .u32 0) (.int .u32 0) (.int .i64 0) (.slice none 0 0) := by
    have r2 := R2.out
    rw [HWS.out] at r2
    have hf : Frm [] w2 (w2.alloc (.cells #[.int .u32 0, .int .u32 0, .int .i64 0, .slice none 0 0] 25)) := (Frm.refl _ _).alloc _
    have l2 : Below w.heap.size w w2 := (HB0.out.trans (HB1.out.mono (by rw [HWS.out]; omega))).trans (F2.out.below (by have := HS1.out; omega) (by simp; omega))
    have z1 : Cel w1 w.heap.size 25 [.int .u32 0, .int .u32 0, .int .i64 0, .slice none 0 0] := HZ0.out.below HB1.out (by rw [HWS.out]; omega)
    exact ⟨r2.frm hf (by simp), Cel.new w2 _ _, (z1.frm F2.out (by simp; omega)).frm hf (by simp), l2.alloc l2.size _, hg2⟩
  have HPS := Lib.hid hps
  clear hps
  go_wp2_with fail
  generalize w2.alloc (.cells #[.int .u32 0, .int .u32 0, .int .i64 0, .slice none 0 0] 25) = w3 at *
  generalize w2.heap.size = q at *
  clear R2 F2 R1 HS1 HB1 HX1 hg2
  generalize hst1 : (rnum 4 (some bs)).2 = st1 at HPS
  have ST1 := Lib.hid hst1
  clear hst1
  refine (rNumber _ d g _ _ _ HPS.out.rd).mono ?_
  rintro r w4 ⟨rfl, ha⟩
  have H4 := Lib.hid (HPS.out.after ha)
  clear ha HPS
  have k4 := H4.out.var.cell 0
  have f4 := H4.out.var.free 0
  generalize hX2 : (rnum 4 st1).1 = X2
  generalize hst2 : (rnum 4 st1).2 = st2 at H4
  have HX2 := Lib.hid hX2
  have ST2 := Lib.hid hst2
  clear hX2 hst2
  go_wp2_with fail
  have H5 := Lib.hid (H4.out.store 0 (.int .u32 ((X2.toNat : Int) % 4294967296)) _ _ _ _ rfl)
  generalize w4.setCell ⟨q, 0, none⟩ (.int .u32 ((X2.toNat : Int) % 4294967296)) = w5 at *
  clear H4 k4 f4
  refine (rNumber _ d g _ _ _ H5.out.rd).mono ?_
  rintro r w6 ⟨rfl, ha⟩
  have H6 := Lib.hid (H5.out.after ha)
  clear ha H5
  have k6 := H6.out.var.cell 1
  have f6 := H6.out.var.free 1
  generalize hX3 : (rnum 4 st2).1 = X3
  generalize hst3 : (rnum 4 st2).2 = st3 at H6
  have HX3 := Lib.hid hX3
  have ST3 := Lib.hid hst3
  clear hX3 hst3
  go_wp2_with fail
  have H7 := Lib.hid (H6.out.store 1 (.int .u32 ((X3.toNat : Int) % 4294967296)) _ _ _ _ rfl)
  generalize w6.setCell ⟨q, 1, none⟩ (.int .u32 ((X3.toNat : Int) % 4294967296)) = w7 at *
  clear H6 k6 f6
  refine (rNumber _ d g _ _ _ H7.out.rd).mono ?_
  rintro r w8 ⟨rfl, ha⟩
  have H8 := Lib.hid (H7.out.after ha)
  clear ha H7
  have k8 := H8.out.var.cell 2
  have f8 := H8.out.var.free 2
  have hX4l := rnum_small 1 st3 (by decide) (by decide)
  generalize hX4 : (rnum 1 st3).1 = X4 at *
  generalize hst4 : (rnum 1 st3).2 = st4 at H8
  have HX4 := Lib.hid hX4
  have ST4 := Lib.hid hst4
  clear hX4 hst4
  go_wp2_with fail
  have H9 := Lib.hid (H8.out.store 2 (.int .i64 (X4.toNat : Int)) _ _ _ _ rfl)
  generalize w8.setCell ⟨q, 2, none⟩ (.int .i64 (X4.toNat : Int)) = w9 at *
  clear H8 k8 f8
  have hq9 := H9.out.var.lt
  refine (rText _ d g _ _ H9.out.rd).mono ?_
  rintro r w10 ⟨A10, c10, rfl, ho, ha⟩
  have H10 := Lib.hid (H9.out.after ha)
  have s9 := H9.out.low.size
  have O10 := Lib.hid ho
  clear ha H9 ho
  have k10 := H10.out.var.cell 3
  have f10 := H10.out.var.free 3
  generalize hX5 : (rtext st4).1 = X5 at *
  generalize hst5 : (rtext st4).2 = st5 at H10
  have HX5 := Lib.hid hX5
  clear hX5 hst5
  have H11 := Lib.hid (H10.out.store 3 (.slice A10 X5.length c10) _ _ _ _ rfl)
  have kc := H11.out.var.cell
  have k0 := kc 0
  have k1 := kc 1
  have k2 := kc 2
  have k3 := kc 3
  have g0 := H11.out.res.cell 0
  have g1 := H11.out.res.cell 1
  have g2 := H11.out.res.cell 2
  have g3 := H11.out.res.cell 3
  have e0 := H11.out.res.free 0
  have e1 := H11.out.res.free 1
  have e2 := H11.out.res.free 2
  have e3 := H11.out.res.free 3
  clear kc
  go_wp2_with fail
  have hpe : parse bs = ⟨X2.setWidth 32, X3.setWidth 32, (X4.toNat : Int), X5⟩ := by
    rw [HP.out, ST1.out, HX2.out, ST2.out, HX3.out, ST3.out, HX4.out, ST4.out, HX5.out]
  have hqb := H10.out.gq
  have hfr : Frm [q, w.heap.size] w10 (((((w10.setCell ⟨q, 3, none⟩ (.slice A10 X5.length c10)).setCell ⟨w.heap.size, 0, none⟩ (.int .u32 ((X2.toNat : Int) % 4294967296))).setCell ⟨w.heap.size, 1, none⟩ (.int .u32 ((X3.toNat : Int) % 4294967296))).setCell ⟨w.heap.size, 2, none⟩ (.int .i64 (X4.toNat : Int))).setCell ⟨w.heap.size, 3, none⟩ (.slice A10 X5.length c10)) :=
    (((((Frm.refl _ _).set (by simp) _).set (by simp) _).set (by simp) _).set (by simp) _).set (by simp) _
  rw [hpe]
  refine bodyPost_ret (v := partV (X2.setWidth 32) (X3.setWidth 32) (X4.toNat : Int) A10 X5.length c10) ?_ rfl ⟨A10, c10, rfl, (O10.out.frm hfr (by simp; omega)).base s9, H10.out.low.trans (hfr.below H10.out.low.size (by simp; omega))⟩
  refine results_cell 2 25 Try.results16 ⟨w.heap.size, 0, none⟩ rfl _ ?_
  refine run_loadVar_mid (P := Try.prog) _ w.heap.size 0 25 [v32 (X2.setWidth 32), v32 (X3.setWidth 32), .int .i64 (X4.toNat : Int), .slice A10 X5.length c10] _ (Cel.range (t := 25) ?_) Try.underlying25 rfl (by kernel_rfl)
  rw [narrow32, narrow32]
  have h11 := ((((H11.out.res.set 0 (v32 (X2.setWidth 32))).set 1 (v32 (X3.setWidth 32))).set 2 (.int .i64 (X4.toNat : Int))).set 3 (.slice A10 X5.length c10))
  exact h11
end Go.Proofs.Ytickagagbdfncaa.Sector
