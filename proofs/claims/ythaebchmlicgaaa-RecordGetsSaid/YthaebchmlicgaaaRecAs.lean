/-
  The law's own functions (layer 15): As, few.
-/
import Derived.Test.YthaebchmlicgaaaRecGet
namespace Go.Proofs.Ythaebchmlicgaaa.Rec
open Go.RowKit
open Go.Proofs.Ythaebchmlicgaaa.Lex (Tx)
set_option linter.unusedVariables false
set_option linter.unusedSimpArgs false

theorem results_cell_ {P : Program} {fn : Func} {tmps : Array Value} {w : World} (a : Tmp) (t : TypeId) (hr : fn.results = #[.cell a t]) (ad : Addr) (ha : tmps.getD a undef = .pointer (some ad)) (v : Value) (hl : (loadVar t ad).run P w = .ok v w) :
    (results fn tmps).run P w = .ok v w := by
  unfold results
  rw [hr]
  simp only [List.mapM_toArray, List.mapM_cons, List.mapM_nil, ha, asAddr]
  simp [hl]
set_option maxRecDepth 100000 in
set_option maxHeartbeats 2000000 in
theorem as15 (w : World) (v : Rv) :
    Calls Try.prog 10 #[.agg v.cells.toArray] w fun e w' => e = .returned (.agg v.cells.toArray) ∧ Below w.heap.size w w' := by
  obtain ⟨u1, hu1⟩ : ∃ u1, u1 = w.alloc (.cells v.cells.toArray 27) := ⟨_, rfl⟩
  obtain ⟨w1, hw1⟩ : ∃ w1, w1 = u1.alloc (.cells zeros.toArray 34) := ⟨_, rfl⟩
  have hs1 : u1.heap.size = w.heap.size + 1 := by rw [hu1]; simp
  have hb1 : Below w.heap.size w u1 := by rw [hu1]; exact (Below.refl _ _).alloc (Nat.le_refl _) _
  have hb2 : Below u1.heap.size u1 w1 := by rw [hw1]; exact (Below.refl _ _).alloc (Nat.le_refl _) _
  have hx : Cel u1 w.heap.size 27 v.cells := by rw [hu1]; exact Cel.new w _ _
  have HX := Lib.hid (hx.below hb2 hx.lt)
  have HY : Hid (Cel w1 (w.heap.size + 1) 34 zeros) := Lib.hid (by rw [hw1, ← hs1]; exact Cel.new u1 _ _)
  have HB := Lib.hid (hb1.trans (hb2.mono hb1.size))
  obtain ⟨⟨k, ⟨s1, s2, s3, s4, vars⟩, vi, st, tr, dst, of, va, vl⟩, AL, cL, vs, AV, cV⟩ := v
  unfold Rv.cells at hu1 HX ⊢
  unfold zeros at hw1 HY
  dsimp only at *
  generalize vs.length = n at *
  generalize vl.length = m at *
  rw [hu1] at hw1
  clear hu1 hs1 hb1 hb2 hx
  go_enter Try.func10, Try.ntmps10
  go_upto_region 1 with fail
  rw [← hw1]
  clear hw1
  have x0 := HX.out.cell 0
  have y0 := HY.out.cell 0
  have f0 := HY.out.free 0
  have x1 := HX.out.cell 1
  have y1 := HY.out.cell 1
  have f1 := HY.out.free 1
  have x2 := HX.out.cell 2
  have y2 := HY.out.cell 2
  have f2 := HY.out.free 2
  have x3 := HX.out.cell 3
  have y3 := HY.out.cell 3
  have f3 := HY.out.free 3
  have x4 := HX.out.cell 4
  have y4 := HY.out.cell 4
  have f4 := HY.out.free 4
  have x5 := HX.out.cell 5
  have y5 := HY.out.cell 5
  have f5 := HY.out.free 5
  have x6 := HX.out.cell 6
  have y6 := HY.out.cell 6
  have f6 := HY.out.free 6
  have x7 := HX.out.cell 7
  have y7 := HY.out.cell 7
  have f7 := HY.out.free 7
  have x8 := HX.out.cell 8
  have y8 := HY.out.cell 8
  have f8 := HY.out.free 8
  have x9 := HX.out.cell 9
  have y9 := HY.out.cell 9
  have f9 := HY.out.free 9
  have x10 := HX.out.cell 10
  have y10 := HY.out.cell 10
  have f10 := HY.out.free 10
  have x11 := HX.out.cell 11
  have y11 := HY.out.cell 11
  have f11 := HY.out.free 11
  have x12 := HX.out.cell 12
  have y12 := HY.out.cell 12
  have f12 := HY.out.free 12
  go_wp2_with fail
  refine bodyPost_ret (v := .agg #[.int .i64 k, .int .i64 s1, .int .i64 s2, .int .i64 s3, .int .i64 s4, .slice AL n cL, .int .i64 vi, .int .i64 st, .int .i64 tr, .int .i64 dst, .int .i64 of, .int .i64 va, .slice AV m cV]) (results_cell_ 2 34 Try.results10 ⟨w.heap.size + 1, 0, none⟩ rfl _ (load_rec (store13 (Value.int .i64 k) (Value.int .i64 s1) (Value.int .i64 s2) (Value.int .i64 s3) (Value.int .i64 s4) (Value.slice AL n cL) (Value.int .i64 vi) (Value.int .i64 st) (Value.int .i64 tr) (Value.int .i64 dst) (Value.int .i64 of) (Value.int .i64 va) (Value.slice AV m cV) HY.out))) rfl ⟨rfl, ?_⟩
  exact HB.out.trans ((frm13 _ _ _ _ _ _ _ _ _ _ _ _ _ _ _).below HB.out.size (by simp))

def FewR (v : Rv) : Prop := v.vs.length ≤ 20 ∧ (∀ u ∈ v.vs, u.t.length ≤ 300) ∧ v.r.value.length ≤ 300
set_option maxRecDepth 100000 in
set_option maxHeartbeats 2000000 in
theorem few15 (w : World) (K : Nat) (v : Rv) (h : Rok w K v) (hK : K ≤ w.heap.size) :
    Calls Try.prog 5 #[.agg v.cells.toArray] w fun e w' => ∃ b, e = .returned (.bool b) ∧ Below w.heap.size w w' ∧ (b = true → FewR v) := by
  obtain ⟨w1, hw1⟩ : ∃ w1, w1 = w.alloc (.cells v.cells.toArray 27) := ⟨_, rfl⟩
  have hb1 : Below w.heap.size w w1 := by rw [hw1]; exact (Below.refl _ _).alloc (Nat.le_refl _) _
  have hc1 : Cel w1 w.heap.size 27 v.cells := by rw [hw1]; exact Cel.new w _ _
  have HR := Lib.hid (h.below hK hb1)
  have HK := Lib.hid (Nat.le_trans hK hb1.size)
  have HB := Lib.hid hb1
  have HC := Lib.hid hc1
  have hvl := h.vl
  have hml := h.ml
  obtain ⟨V, hV⟩ : ∃ F : Prop, F = FewR v := ⟨_, rfl⟩
  rw [← hV]
  have HV := Lib.hid hV
  clear hb1 hc1 h hV
  obtain ⟨⟨k, ⟨s1, s2, s3, s4, vars⟩, vi, st, tr, dst, of, va, vl⟩, AL, cL, vs, AV, cV⟩ := v
  unfold Rv.cells at HC hw1 ⊢
  dsimp only at *
  obtain ⟨n, hn⟩ : ∃ n, n = vs.length := ⟨_, rfl⟩
  obtain ⟨m, hm⟩ : ∃ m, m = vl.length := ⟨_, rfl⟩
  rw [← hn] at HC hw1 hvl ⊢
  rw [← hm] at HC hw1 hml ⊢
  have HN := Lib.hid hn
  have HM := Lib.hid hm
  clear hn hm
  unfold maxLen at hvl hml
  go_enter Try.func5, Try.ntmps5
  go_upto_region 1 with fail
  rw [← hw1]
  clear hw1
  go_wp2_with fail
  go_loopw [3] (fun v3 wr => ∃ (i : Nat), i ≤ n ∧ v3 = .int .i64 (i : Int) ∧ Below w1.heap.size w1 wr ∧ Hid (∀ u ∈ vs.take i, u.t.length ≤ 300)) (fun v3 _ => n - (intOf v3).toNat)
  case atStart => exact ⟨0, Nat.zero_le _, rfl, Below.refl _ _, Lib.hid (by simp)⟩
  case round =>
    obtain ⟨i, hi, rfl, hb, HI⟩ := hrel
    obtain ⟨W, rfl⟩ : ∃ W, W = wr := ⟨_, rfl⟩
    have hc := HC.out.below hb HC.out.lt
    have x5 := hc.cell 5
    have x12 := hc.cell 12
    have HBW := Lib.hid (HB.out.trans (hb.mono HB.out.size))
    have HB1 := Lib.hid hb
    rcases Nat.lt_or_ge i n with hlt | hge
    · obtain ⟨u, hu⟩ : ∃ u, vs[i]? = some u := ⟨_, List.getElem?_eq_getElem (by rw [← HN.out]; exact hlt)⟩
      have hT := (HR.out.below HK.out hb).vs
      obtain ⟨ad, rfl, k0⟩ := hT.cr i u hu
      have hlu := (hT.tx u (List.mem_of_getElem? hu)).2
      unfold maxLen at hlu
      have HU := Lib.hid hu
      clear hu hT hb hc
      obtain ⟨uA, uc, ut⟩ := u
      change _ = some (Value.slice uA ut.length uc) at k0
      change ut.length ≤ _ at hlu
      obtain ⟨tl, htl⟩ : ∃ tl, tl = ut.length := ⟨_, rfl⟩
      rw [← htl] at k0 hlu
      have HTL := Lib.hid htl
      clear htl
      by_cases t1 : 300 < tl
      · have dt1 : decide ((300 : Int) < (tl : Int)) = true := by simp; omega
        go_wp2_with fail
        go_ret
        exact ⟨false, rfl, HBW.out, fun e => by cases e⟩
      · have dt1 : decide ((300 : Int) < (tl : Int)) = false := by simp; omega
        go_wp2_with fail
        refine ⟨⟨i + 1, by omega, by rw [show ((i + 1 : Nat) : Int) = (i : Int) + 1 by omega], HB1.out, Lib.hid fun x hx => ?_⟩, by simp [intOf]; omega⟩
        rcases mem_take HU.out hx with hx | rfl
        · exact HI.out x hx
        · show ut.length ≤ 300
          rw [← HTL.out]
          omega
    · obtain rfl : i = n := by omega
      have hk := HI.out
      rw [HN.out, List.take_length] at hk
      have HA := Lib.hid hk
      clear hk hb hc
      by_cases t1 : i ≤ 20
      · have dt1 : decide ((i : Int) ≤ 20) = true := by simp; omega
        by_cases t2 : m ≤ 300
        · have dt2 : decide ((m : Int) ≤ 300) = true := by simp; omega
          go_wp2_with fail
          go_ret
          refine ⟨true, rfl, HBW.out, fun _ => ?_⟩
          rw [HV.out]
          exact ⟨by show vs.length ≤ 20; rw [← HN.out]; exact t1, HA.out, by show vl.length ≤ 300; rw [← HM.out]; exact t2⟩
        · have dt2 : decide ((m : Int) ≤ 300) = false := by simp; omega
          go_wp2_with fail
          go_ret
          exact ⟨false, rfl, HBW.out, fun e => by cases e⟩
      · have dt1 : decide ((i : Int) ≤ 20) = false := by simp; omega
        go_wp2_with fail
        go_ret
        exact ⟨false, rfl, HBW.out, fun e => by cases e⟩
end Go.Proofs.Ythaebchmlicgaaa.Rec
