/-
  davitlaw09.NfaHas: the walk.
-/
import Derived.Test.YtpfogoncholiaaaNfaBuilds
namespace Go.Proofs.Ytpfogoncholiaaa.Nfa
open Go.RowKit Go.Proofs.Ytpfogoncholiaaa.Ord
open Go.Proofs.Ytpfogoncholiaaa.Reg (Ov oflat Sp sflat sflat_length Rop Spn RSpn)
set_option linter.unusedVariables false
set_option linter.unusedSimpArgs false

set_option maxRecDepth 100000 in
set_option maxHeartbeats 2000000 in
theorem has_walk (kd x y : Int) (ng : Bool) (A : Option Addr) (n cap : Nat) (c0 : Int) (w : World) (h : IsV w (.recs [.int .u8, .int .u8]) (.slice A n cap)) (hc : (Lit.int .u8 c0).wf = true) :
    Calls Try.prog 4 #[.agg #[.int .i64 kd, .int .i64 x, .int .i64 y, .bool ng, .slice A n cap], .int .u8 c0] w fun e w' => e = .returned (.bool true) ∧ Below w.heap.size w w' := by
  obtain ⟨sp, hl, hm, hcz⟩ := spans_of_isv h
  obtain ⟨cc, rfl⟩ := u8_wf hc
  clear h hc
  obtain ⟨W, hW⟩ : ∃ W, W = w.alloc (.cells #[.int .i64 kd, .int .i64 x, .int .i64 y, .bool ng, .slice A n cap] 38) := ⟨_, rfl⟩
  have hcW : Cel W w.heap.size 38 [.int .i64 kd, .int .i64 x, .int .i64 y, .bool ng, .slice A n cap] := by rw [hW]; exact Cel.new w _ _
  have hbW : Below w.heap.size w W := by rw [hW]; exact (Below.refl _ _).alloc (Nat.le_refl _) _
  have c4 := hcW.cell 4
  by_cases h60 : 60 < n
  · have HBW := Lib.hid hbW
    rw [hW] at c4 HBW
    clear hcW hbW hcz
    go_enter Try.func4, Try.ntmps4
    go_wp2_with fail
    refine (knows9 _).mono ?_
    rintro e w1 ⟨rfl, hb1⟩
    have HB1 := Lib.hid (HBW.out.trans (hb1.mono HBW.out.size))
    clear hb1
    go_wp2_with fail
    go_ret
    exact ⟨rfl, HB1.out⟩
  · obtain ⟨W2, hW2⟩ : ∃ W2, W2 = W.alloc (.cells #[.int .i64 kd, .int .i64 x, .int .i64 y, .bool ng, .slice A n cap] 38) := ⟨_, rfl⟩
    have hWs : W.heap.size = w.heap.size + 1 := by rw [hW]; simp
    have hb2 : Below w.heap.size w W2 := by rw [hW2]; exact hbW.alloc (by omega) _
    have hcv : Cel W2 (w.heap.size + 1) 38 (iflat [⟨⟨kd, x, y, ng, sp⟩, A, cap⟩]) := by
      have := Cel.new W 38 [.int .i64 kd, .int .i64 x, .int .i64 y, .bool ng, .slice A n cap]
      rw [hWs, ← hW2, ← hl] at this
      exact this
    have hc2 : Cel W2 w.heap.size 38 [.int .i64 kd, .int .i64 x, .int .i64 y, .bool ng, .slice A n cap] := by rw [hW2]; exact hcW.alloc _
    have con3 := as9 W2 (some ⟨w.heap.size + 1, 0, none⟩) 1 1 [⟨⟨kd, x, y, ng, sp⟩, A, cap⟩] ⟨cz_ry (Ry.of_cel hcv), by simp; exact hcz.below hb2⟩ rfl (by decide) (by simp; omega)
    have HC2 := Lib.hid hc2
    have HCZ := Lib.hid (hcz.below hb2)
    have HB2 := Lib.hid hb2
    have HN := Lib.hid hl.symm
    have l0 := hcW.cell 0
    have l1 := hcW.cell 1
    have l2 := hcW.cell 2
    have l3 := hcW.cell 3
    rw [hW2, hW] at con3
    rw [hW] at l0 l1 l2 l3 c4
    clear hcW hbW hcz hb2 hcv hc2 hl
    go_enter Try.func4, Try.ntmps4
    go_wp2_with fail
    refine con3.mono ?_
    rintro e W4 ⟨A3, cp, vs, rfl, hri, hvi, hb4⟩
    rw [← hW, ← hW2] at hb4
    obtain ⟨⟨i3, B3, d3⟩, rfl⟩ : ∃ v, vs = [v] := by
      rcases vs with _ | ⟨v, _ | ⟨u, r⟩⟩ <;> simp at hvi
      exact ⟨v, rfl⟩
    obtain rfl : i3 = ⟨kd, x, y, ng, sp⟩ := by simpa using hvi
    obtain ⟨g, cs, rfl, hcel, hcp, _⟩ := own_cel hri.own (by decide)
    have cell : ∀ j, j < 5 → W4.cell? ⟨g, j, none⟩ = _ := fun j hj => hri.own.cellAt j hj
    have k0 : W4.cell? ⟨g, 0, none⟩ = some (.int .i64 kd) := cell 0 (by decide)
    have k1 : W4.cell? ⟨g, 1, none⟩ = some (.int .i64 x) := cell 1 (by decide)
    have k2 : W4.cell? ⟨g, 2, none⟩ = some (.int .i64 y) := cell 2 (by decide)
    have k3 : W4.cell? ⟨g, 3, none⟩ = some (.bool ng) := cell 3 (by decide)
    have k4 : W4.cell? ⟨g, 4, none⟩ = some (.slice B3 n d3) := by rw [HN.out]; exact cell 4 (by decide)
    have hglt := hcel.lt
    have hc4 := HC2.out.below hb4 HC2.out.lt
    have c0 := hc4.cell 0
    have c1 := hc4.cell 1
    have c2 := hc4.cell 2
    have c3 := hc4.cell 3
    have c4 := hc4.cell 4
    have hblt := hc4.lt
    have HB4 := Lib.hid (HB2.out.trans (hb4.mono HB2.out.size))
    have hH : Below W4.heap.size W4 W4.drew := (Below.refl _ _).drew
    have con4 := phas W4.drew ⟨kd, x, y, ng, sp⟩ A cap cc ((HCZ.out.below hb4).below hH) (by show sp.length ≤ 100000; have := HN.out; omega)
    rw [show (⟨kd, x, y, ng, sp⟩ : In).sp.length = n from HN.out.symm] at con4
    have HRS := Lib.hid (hri.sp ⟨⟨kd, x, y, ng, sp⟩, B3, d3⟩ (by simp))
    clear hri hvi hb4 hcel hc4 cell con3 l0 l1 l2 l3
    go_wp2_with fail
    refine wp_region_N [17] (fun V => Below W4.heap.size W4 V) (by kernel_rfl) ?_
    refine wpAnyN_one (i := 0) (by kernel_rfl) rfl (fun K hK => ?_)
    go_simp
    refine hK.out _ _ (.inr hH) ?_
    clear hK K
    try simp only [Act.put, List.setIfInBounds_toArray, List.set_cons_zero, List.set_cons_succ, List.getElem_toArray, List.getElem_cons_succ, List.getElem_cons_zero]
    refine wpAnyN_one (i := 1) (by kernel_rfl) rfl (fun K hK => ?_)
    go_simp
    refine hK.out _ _ (.inr hH) ?_
    clear hK K
    try simp only [Act.put, List.setIfInBounds_toArray, List.set_cons_zero, List.set_cons_succ, List.getElem_toArray, List.getElem_cons_succ, List.getElem_cons_zero]
    refine wpAnyN_one (i := 2) (by kernel_rfl) rfl (fun K hK => ?_)
    go_simp
    refine hK.out _ _ (.inr hH) ?_
    clear hK K
    try simp only [Act.put, List.setIfInBounds_toArray, List.set_cons_zero, List.set_cons_succ, List.getElem_toArray, List.getElem_cons_succ, List.getElem_cons_zero]
    refine wpAnyN_one (i := 3) (by kernel_rfl) rfl (fun K hK => ?_)
    go_simp
    refine hK.out _ _ (.inr hH) ?_
    clear hK K
    try simp only [Act.put, List.setIfInBounds_toArray, List.set_cons_zero, List.set_cons_succ, List.getElem_toArray, List.getElem_cons_succ, List.getElem_cons_zero]
    refine wpAnyN_take (i := 4) (v := .agg #[.int .i64 kd, .int .i64 x, .int .i64 y, .bool ng, .slice A n cap]) [17] (by kernel_rfl) rfl (by kernel_rfl) (by kernel_rfl) (by kernel_rfl) (fun _ _ _ h => h) (Or.inl ⟨by rfl, ?_⟩) hH ?_
    · intro V hV; have z0 := (hV.cell (p := ⟨w.heap.size, 0, none⟩) hblt).trans c0; have z1 := (hV.cell (p := ⟨w.heap.size, 1, none⟩) hblt).trans c1; have z2 := (hV.cell (p := ⟨w.heap.size, 2, none⟩) hblt).trans c2; have z3 := (hV.cell (p := ⟨w.heap.size, 3, none⟩) hblt).trans c3; have z4 := (hV.cell (p := ⟨w.heap.size, 4, none⟩) hblt).trans c4; go_simp
    try simp only [Act.put, List.setIfInBounds_toArray, List.set_cons_zero, List.set_cons_succ, List.getElem_toArray, List.getElem_cons_succ, List.getElem_cons_zero]
    refine wpAnyN_take (i := 5) (v := v8 cc) [17] (by kernel_rfl) rfl (by kernel_rfl) (by kernel_rfl) (by kernel_rfl) (fun _ _ _ h => h) (Or.inl ⟨by rfl, ?_⟩) hH ?_
    · intro V hV; go_simp
    try simp only [Act.put, List.setIfInBounds_toArray, List.set_cons_zero, List.set_cons_succ, List.getElem_toArray, List.getElem_cons_succ, List.getElem_cons_zero]
    refine wpAnyN_take (i := 7) (v := .slice (some ⟨g, 0, none⟩) 1 cp) [17] (by kernel_rfl) rfl (by kernel_rfl) (by kernel_rfl) (by kernel_rfl) (fun _ _ _ h => h) (Or.inl ⟨by rfl, ?_⟩) hH ?_
    · intro V hV; go_simp
    try simp only [Act.put, List.setIfInBounds_toArray, List.set_cons_zero, List.set_cons_succ, List.getElem_toArray, List.getElem_cons_succ, List.getElem_cons_zero]
    refine wpAnyN_take (i := 8) (v := .pointer (some ⟨g, 0, none⟩)) [17] (by kernel_rfl) rfl (by kernel_rfl) (by kernel_rfl) (by kernel_rfl) (fun _ _ _ h => h) (Or.inl ⟨by rfl, ?_⟩) hH ?_
    · intro V hV; go_simp
    try simp only [Act.put, List.setIfInBounds_toArray, List.set_cons_zero, List.set_cons_succ, List.getElem_toArray, List.getElem_cons_succ, List.getElem_cons_zero]
    refine wpAnyN_take (i := 9) (v := .agg #[.int .i64 kd, .int .i64 x, .int .i64 y, .bool ng, .slice B3 n d3]) [17] (by kernel_rfl) rfl (by kernel_rfl) (by kernel_rfl) (by kernel_rfl) (fun _ _ _ h => h) (Or.inl ⟨by rfl, ?_⟩) hH ?_
    · intro V hV; have z0 := (hV.cell (p := ⟨g, 0, none⟩) hglt).trans k0; have z1 := (hV.cell (p := ⟨g, 1, none⟩) hglt).trans k1; have z2 := (hV.cell (p := ⟨g, 2, none⟩) hglt).trans k2; have z3 := (hV.cell (p := ⟨g, 3, none⟩) hglt).trans k3; have z4 := (hV.cell (p := ⟨g, 4, none⟩) hglt).trans k4; go_simp
    try simp only [Act.put, List.setIfInBounds_toArray, List.set_cons_zero, List.set_cons_succ, List.getElem_toArray, List.getElem_cons_succ, List.getElem_cons_zero]
    refine wpAnyN_take (i := 10) (v := v8 cc) [17] (by kernel_rfl) rfl (by kernel_rfl) (by kernel_rfl) (by kernel_rfl) (fun _ _ _ h => h) (Or.inl ⟨by rfl, ?_⟩) hH ?_
    · intro V hV; go_simp
    try simp only [Act.put, List.setIfInBounds_toArray, List.set_cons_zero, List.set_cons_succ, List.getElem_toArray, List.getElem_cons_succ, List.getElem_cons_zero]
    refine wpAnyN_one (i := 6) (by kernel_rfl) rfl (fun K hK => ?_)
    go_simp
    refine con4.mono ?_
    rintro e w5 ⟨rfl, hb5⟩
    go_wp2_with fail
    have hS5 : Below W4.heap.size W4 w5 := hH.trans (hb5.mono hH.size)
    have con5 := rhas w5 ⟨kd, x, y, ng, sp⟩ B3 d3 cc (Ry.below HRS.out hS5) (by show sp.length ≤ 1000; have := HN.out; omega)
    rw [show (⟨kd, x, y, ng, sp⟩ : In).sp.length = n from HN.out.symm] at con5
    refine hK.out _ _ (.inr hS5) ?_
    clear hK K hb5 con4
    try simp only [Act.put, List.setIfInBounds_toArray, List.set_cons_zero, List.set_cons_succ, List.getElem_toArray, List.getElem_cons_succ, List.getElem_cons_zero]
    refine wpAnyN_one (i := 11) (by kernel_rfl) rfl (fun K hK => ?_)
    go_simp
    refine con5.mono ?_
    rintro e w6 ⟨rfl, hb6⟩
    go_wp2_with fail
    have hS6 : Below W4.heap.size W4 w6 := hS5.trans (hb6.mono hS5.size)
    refine hK.out _ _ (.inr hS6) ?_
    clear hK K hb6 con5
    try simp only [Act.put, List.setIfInBounds_toArray, List.set_cons_zero, List.set_cons_succ, List.getElem_toArray, List.getElem_cons_succ, List.getElem_cons_zero]
    refine wpAnyN_one (i := 12) (by kernel_rfl) rfl (fun K hK => ?_)
    go_simp
    refine hK.out _ _ (.inr hS6) ?_
    clear hK K
    try simp only [Act.put, List.setIfInBounds_toArray, List.set_cons_zero, List.set_cons_succ, List.getElem_toArray, List.getElem_cons_succ, List.getElem_cons_zero]
    refine wpAnyN_one (i := 13) (by kernel_rfl) rfl (fun K hK => ?_)
    go_simp
    refine hK.out _ _ (.inr hS6) ?_
    clear hK K
    try simp only [Act.put, List.setIfInBounds_toArray, List.set_cons_zero, List.set_cons_succ, List.getElem_toArray, List.getElem_cons_succ, List.getElem_cons_zero]
    refine wpAnyN_one (i := 14) (by kernel_rfl) rfl (fun K hK => ?_)
    go_simp
    refine hK.out _ _ (.inr hS6) ?_
    clear hK K
    try simp only [Act.put, List.setIfInBounds_toArray, List.set_cons_zero, List.set_cons_succ, List.getElem_toArray, List.getElem_cons_succ, List.getElem_cons_zero]
    refine wpAnyN_one (i := 15) (by kernel_rfl) rfl (fun K hK => ?_)
    go_simp
    refine (knows9 _).mono ?_
    rintro e w7 ⟨rfl, hb7⟩
    go_wp2_with fail
    have hS7 : Below W4.heap.size W4 w7 := hS6.trans (hb7.mono hS6.size)
    refine hK.out _ _ (.inr hS7) ?_
    clear hK K hb7
    try simp only [Act.put, List.setIfInBounds_toArray, List.set_cons_zero, List.set_cons_succ, List.getElem_toArray, List.getElem_cons_succ, List.getElem_cons_zero]
    refine wpAnyN_one (i := 16) (by kernel_rfl) rfl (fun K hK => ?_)
    go_simp
    refine hK.out _ _ (.inr hS7) ?_
    clear hK K
    try simp only [Act.put, List.setIfInBounds_toArray, List.set_cons_zero, List.set_cons_succ, List.getElem_toArray, List.getElem_cons_succ, List.getElem_cons_zero]
    refine wpAnyN_one (i := 17) (by kernel_rfl) rfl (fun K hK => ?_)
    go_simp
    refine hK.out _ _ (.inl (by decide)) ?_
    clear hK K
    try simp only [Act.put, List.setIfInBounds_toArray, List.set_cons_zero, List.set_cons_succ, List.getElem_toArray, List.getElem_cons_succ, List.getElem_cons_zero]
    refine wpAnyN_done (by kernel_rfl) ?_ _
    go_wp2_with fail
    go_ret
    exact ⟨rfl, HB4.out.trans (hS7.mono HB4.out.size)⟩
end Go.Proofs.Ytpfogoncholiaaa.Nfa
