/-
  Layer 15: the walk of RecordPuts. (Written by gen_recputs.py.)
-/
import Derived.Test.YthaebchmlicgaaaRecKnows
import Derived.Deep.MidRow
namespace Go.Proofs.Ythaebchmlicgaaa.Rec
open Go.RowKit Go.Proofs.Ythaebchmlicgaaa.Ord
open Go.Proofs.Ythaebchmlicgaaa.Lex (Tx Owb rowB)
open Go.Proofs.Ythaebchmlicgaaa.Pack (Own toStr)
set_option linter.unusedVariables false
set_option linter.unusedSimpArgs false

theorem rv_len (v : Rv) : v.cells.length = 13 := rfl
theorem cells13 {w : World} {g : Nat} {t : TypeId} {v : Rv} (h : Cel w g t v.cells) : w.cell? ⟨g, 0, none⟩ = some (.int .i64 v.r.kind) ∧ w.cell? ⟨g, 1, none⟩ = some (.int .i64 v.r.s.step) ∧ w.cell? ⟨g, 2, none⟩ = some (.int .i64 v.r.s.visit) ∧ w.cell? ⟨g, 3, none⟩ = some (.int .i64 v.r.s.tries) ∧ w.cell? ⟨g, 4, none⟩ = some (.int .i64 v.r.s.off) ∧ w.cell? ⟨g, 5, none⟩ = some (.slice v.AL v.vs.length v.cL) ∧ w.cell? ⟨g, 6, none⟩ = some (.int .i64 v.r.visit) ∧ w.cell? ⟨g, 7, none⟩ = some (.int .i64 v.r.step) ∧ w.cell? ⟨g, 8, none⟩ = some (.int .i64 v.r.try_) ∧ w.cell? ⟨g, 9, none⟩ = some (.int .i64 v.r.to) ∧ w.cell? ⟨g, 10, none⟩ = some (.int .i64 v.r.off) ∧ w.cell? ⟨g, 11, none⟩ = some (.int .i64 v.r.var) ∧ w.cell? ⟨g, 12, none⟩ = some (.slice v.AV v.r.value.length v.cV) :=
  ⟨h.cell 0, h.cell 1, h.cell 2, h.cell 3, h.cell 4, h.cell 5, h.cell 6, h.cell 7, h.cell 8, h.cell 9, h.cell 10, h.cell 11, h.cell 12⟩
theorem flat_len : ∀ (l : List (List B)), (∀ t ∈ l, t.length ≤ 100) → (l.flatMap Pack.text).length ≤ 102 * l.length
  | [], _ => by simp
  | t :: l, h => by
    have h1 := flat_len l fun x hx => h x (List.mem_cons_of_mem _ hx)
    have h2 := h t (List.mem_cons_self ..)
    rw [List.flatMap_cons, List.length_append, Pack.text, List.length_append, Pack.num_length, List.length_cons]
    omega
theorem put_len {r : Rc} (h : may r = true) : (put r).length ≤ 2000 := by
  unfold put
  rcases may_kind h with hk | hk | hk
  · obtain ⟨_, _, _, _, _, h5, h6⟩ := may1 h hk
    have := flat_len _ h5
    rw [if_pos hk]
    simp only [List.length_append, Pack.num_length]
    omega
  · rw [if_neg (by omega), if_pos hk]
    simp only [List.length_append, Pack.num_length]
    omega
  · obtain ⟨_, _, _, _, _, h5⟩ := may3 h hk
    rw [if_neg (by omega), if_neg (by omega)]
    simp only [List.length_append, Pack.num_length, Pack.text]
    omega
/-- Put of the document, of any kind. -/
theorem put_any (w : World) (K : Nat) (v : Rv) (h : Rok w K v) (hK : K ≤ w.heap.size) (hm : may v.r = true) : Calls Try.prog 12 #[.agg v.cells.toArray] w (PutSays w (put v.r)) := by
  rcases may_kind hm with hk | hk | hk
  · exact put1 w K v h hK hm hk
  · exact put2 w K v h hK hm hk
  · exact put3 w K v h hK hm hk
set_option maxRecDepth 100000 in
set_option maxHeartbeats 2000000 in
theorem puts_walk (w : World) (v : Rv) (h : Rok w w.heap.size v) :
    Calls Try.prog 3 #[.agg v.cells.toArray] w fun e w' => e = .returned (.bool true) ∧ Below w.heap.size w w' := by
  obtain ⟨T, hT⟩ : ∃ T, T = w.heap.size := ⟨_, rfl⟩
  rw [← hT] at h
  obtain ⟨W1, hW1⟩ : ∃ w1, w1 = w.alloc (.cells v.cells.toArray 27) := ⟨_, rfl⟩
  have hb1 : Below w.heap.size w W1 := by rw [hW1]; exact (Below.refl _ _).alloc (Nat.le_refl _) _
  have hc1 : Cel W1 w.heap.size 27 v.cells := by rw [hW1]; exact Cel.new w _ _
  have ht : Trow w T v.AL v.vs := trow_below h.vs (by omega)
  have HTW := Lib.hid (show T ≤ w.heap.size by omega)
  have HR := Lib.hid (show ∀ V, Below w.heap.size w V → Rok V T v ∧ Trow V T v.AL v.vs ∧ T ≤ V.heap.size from fun V hb => ⟨h.below (by omega) hb, ht.below hb, by have := hb.size; omega⟩)
  have con := few15 W1 T v (HR.out W1 hb1).1 (HR.out W1 hb1).2.2
  have HB1 := Lib.hid hb1
  have HC1 := Lib.hid hc1
  obtain ⟨c0, c1, c2, c3, c4, c5, c6, c7, c8, c9, c10, c11, c12⟩ := cells13 hc1
  have HEN := Lib.hid (rv_len v)
  clear hb1 hc1 ht h hT
  go_enter Try.func3, Try.ntmps3
  go_upto_region 1 with fail
  rw [← hW1]
  clear hW1
  go_wp2_with fail
  refine con.mono ?_
  clear con c0 c1 c2 c3 c4 c5 c6 c7 c8 c9 c10 c11 c12
  rintro e w2 ⟨b, rfl, hb2, hfew⟩
  have HB2 := Lib.hid (HB1.out.trans (hb2.mono HB1.out.size))
  have HC2 := Lib.hid (HC1.out.below hb2 HC1.out.lt)
  have HFW := Lib.hid hfew
  clear hb2 HC1 HB1 hfew
  cases b with
  | false =>
    have con := knows15 w2
    go_wp2_with fail
    refine con.mono ?_
    clear con
    rintro e w3 ⟨rfl, hb3⟩
    have HB3 := Lib.hid (HB2.out.trans (hb3.mono HB2.out.size))
    clear hb3
    go_wp2_with fail
    go_ret
    exact ⟨rfl, HB3.out⟩
  | true =>
    have con := pput_ w2 T v (HR.out w2 HB2.out).1 (HR.out w2 HB2.out).2.1 (HR.out w2 HB2.out).2.2
    obtain ⟨c0, c1, c2, c3, c4, c5, c6, c7, c8, c9, c10, c11, c12⟩ := cells13 HC2.out
    go_wp2_with fail
    refine con.mono ?_
    clear con c0 c1 c2 c3 c4 c5 c6 c7 c8 c9 c10 c11 c12
    intro e w3 h3
    obtain ⟨A, n, c, z, rfl, hb3, hno, hyes⟩ := put_form h3
    have HB3 := Lib.hid (HB2.out.trans (hb3.mono HB2.out.size))
    have HC3 := Lib.hid (HC2.out.below hb3 HC2.out.lt)
    have HNO := Lib.hid hno
    have HYES := Lib.hid (show may v.r = true → n = (put v.r).length ∧ z = 0 ∧ Owb w3 w.heap.size A n c (put v.r) from fun hm => by
      obtain ⟨q1, q2, q3⟩ := hyes hm
      exact ⟨q1, q2, Own.base q3 HB2.out.size⟩)
    clear h3 hb3 hno hyes HB2 HC2
    go_upto_region 4 with fail
    obtain ⟨W4, hW4⟩ : ∃ W, W = w3.drew := ⟨_, rfl⟩
    have HB4 := Lib.hid (show Below w.heap.size w W4 by rw [hW4]; exact HB3.out.drew)
    have HC4 := Lib.hid (show Cel W4 w.heap.size 27 v.cells by rw [hW4]; exact HC3.out.drew)
    have HY4 := Lib.hid (show may v.r = true → n = (put v.r).length ∧ z = 0 ∧ Owb W4 w.heap.size A n c (put v.r) from fun hm => by
      obtain ⟨q1, q2, q3⟩ := HYES.out hm
      exact ⟨q1, q2, by rw [hW4]; exact q3.below ((Below.refl _ _).drew)⟩)
    refine Ord.wp_region_N [] (fun V => Below W4.heap.size W4 V) (by kernel_rfl) ?_
    rw [← hW4]
    have hH : Below W4.heap.size W4 W4 := Below.refl _ _
    clear hW4 HB3 HC3 HYES
    refine wpAnyN_take (i := 0) (v := .agg v.cells.toArray) [] (by kernel_rfl) rfl (by kernel_rfl) (by kernel_rfl) (by kernel_rfl) (fun _ _ _ h => h) (yieldsIf_load_mid (by rfl) _ _ rfl w.heap.size 0 rfl v.cells _ (fun V hV => fun j u hu => by rw [Nat.zero_add, (HC4.out.below hV HC4.out.lt).cell j, hu]) Try.underlying27 rfl (show _ = some 13 by kernel_rfl)) hH ?_
    try simp only [Act.put, List.setIfInBounds_toArray, List.set_cons_zero, List.set_cons_succ, List.getElem_toArray, List.getElem_cons_succ, List.getElem_cons_zero]
    refine wpAnyN_take (i := 2) (v := .agg v.cells.toArray) [] (by kernel_rfl) rfl (by kernel_rfl) (by kernel_rfl) (by kernel_rfl) (fun _ _ _ h => h) (yieldsIf_load_mid (by rfl) _ _ rfl w.heap.size 0 rfl v.cells _ (fun V hV => fun j u hu => by rw [Nat.zero_add, (HC4.out.below hV HC4.out.lt).cell j, hu]) Try.underlying27 rfl (show _ = some 13 by kernel_rfl)) hH ?_
    try simp only [Act.put, List.setIfInBounds_toArray, List.set_cons_zero, List.set_cons_succ, List.getElem_toArray, List.getElem_cons_succ, List.getElem_cons_zero]
    refine wpAnyN_one (i := 1) (by kernel_rfl) rfl (fun K hK => ?_)
    go_simp
    refine (pmay_ W4 T v (HR.out W4 HB4.out).1 (HR.out W4 HB4.out).2.1 (HR.out W4 HB4.out).2.2).mono ?_
    rintro e w5 ⟨rfl, hb5⟩
    go_wp2_with fail
    refine hK.out _ _ (.inr hb5) ?_
    clear hK K
    try simp only [Act.put, List.setIfInBounds_toArray, List.set_cons_zero, List.set_cons_succ, List.getElem_toArray, List.getElem_cons_succ, List.getElem_cons_zero]
    have HB5 := Lib.hid hb5
    clear hb5
    refine wpAnyN_one (i := 3) (by kernel_rfl) rfl (fun K hK => ?_)
    go_simp
    refine (as15 w5 v).mono ?_
    rintro e w6 ⟨rfl, hb6⟩
    go_wp2_with fail
    refine hK.out _ _ (.inr (HB5.out.trans (hb6.mono HB5.out.size))) ?_
    clear hK K
    try simp only [Act.put, List.setIfInBounds_toArray, List.set_cons_zero, List.set_cons_succ, List.getElem_toArray, List.getElem_cons_succ, List.getElem_cons_zero]
    have HB6 := Lib.hid (HB5.out.trans (hb6.mono HB5.out.size))
    clear hb6 HB5
    have HX6 := Lib.hid (HB4.out.trans (HB6.out.mono HB4.out.size))
    refine wpAnyN_one (i := 4) (by kernel_rfl) rfl (fun K hK => ?_)
    go_simp
    refine (may_ w6 T v (HR.out w6 HX6.out).1 (HR.out w6 HX6.out).2.2).mono ?_
    rintro e w7 ⟨rfl, hb7⟩
    go_wp2_with fail
    refine hK.out _ _ (.inr (HB6.out.trans (hb7.mono HB6.out.size))) ?_
    clear hK K
    try simp only [Act.put, List.setIfInBounds_toArray, List.set_cons_zero, List.set_cons_succ, List.getElem_toArray, List.getElem_cons_succ, List.getElem_cons_zero]
    have HB7 := Lib.hid (HB6.out.trans (hb7.mono HB6.out.size))
    clear hb7 HB6 HX6
    have HC7 := Lib.hid (HC4.out.below HB7.out HC4.out.lt)
    have HX7 := Lib.hid (HB4.out.trans (HB7.out.mono HB4.out.size))
    have HY7 := Lib.hid (show may v.r = true → n = (put v.r).length ∧ z = 0 ∧ Owb w7 w.heap.size A n c (put v.r) from fun hm => by
      obtain ⟨q1, q2, q3⟩ := HY4.out hm
      exact ⟨q1, q2, q3.below HB7.out⟩)
    obtain ⟨M, hM⟩ : ∃ M, M = may v.r := ⟨_, rfl⟩
    have HM := Lib.hid hM
    rw [← hM]
    have hH := HB7.out
    clear hM
    cases M
    case false =>
      refine wpAnyN_take (i := 5) (v := .bool false) [] (by kernel_rfl) rfl (by kernel_rfl) (by kernel_rfl) (by kernel_rfl) (fun _ _ _ h => h) (Or.inl ⟨by rfl, ?_⟩) hH ?_
      · intro V hV; go_simp
      try simp only [Act.put, List.setIfInBounds_toArray, List.set_cons_zero, List.set_cons_succ, List.getElem_toArray, List.getElem_cons_succ, List.getElem_cons_zero]
      refine wpAnyN_done (by kernel_rfl) ?_ _
      clear hH HY7 HY4 HB7 HC4 HB4
      obtain ⟨rfl, rfl⟩ := HNO.out HM.out.symm
      obtain ⟨c0, c1, c2, c3, c4, c5, c6, c7, c8, c9, c10, c11, c12⟩ := cells13 HC7.out
      go_wp2_with fail
      refine (as15 w7 v).mono ?_
      rintro e w8 ⟨rfl, hb8⟩
      have HX8 := Lib.hid (HX7.out.trans (hb8.mono HX7.out.size))
      clear hb8 c0 c1 c2 c3 c4 c5 c6 c7 c8 c9 c10 c11 c12
      go_wp2_with fail
      refine (may_ w8 T v (HR.out w8 HX8.out).1 (HR.out w8 HX8.out).2.2).mono ?_
      rintro e w9 ⟨rfl, hb9⟩
      rw [← HM.out]
      have HX9 := Lib.hid (HX8.out.trans (hb9.mono HX8.out.size))
      clear hb9
      go_wp2_with fail
      refine (knows15 w9).mono ?_
      rintro e w10 ⟨rfl, hb10⟩
      have HX10 := Lib.hid (HX9.out.trans (hb10.mono HX9.out.size))
      clear hb10
      go_wp2_with fail
      go_ret
      exact ⟨rfl, HX10.out⟩
    case true =>
      refine wpAnyN_take (i := 5) (v := .bool false) [] (by kernel_rfl) rfl (by kernel_rfl) (by kernel_rfl) (by kernel_rfl) (fun _ _ _ h => h) (Or.inl ⟨by rfl, ?_⟩) hH ?_
      · intro V hV; go_simp
      try simp only [Act.put, List.setIfInBounds_toArray, List.set_cons_zero, List.set_cons_succ, List.getElem_toArray, List.getElem_cons_succ, List.getElem_cons_zero]
      refine wpAnyN_done (by kernel_rfl) ?_ _
      clear hH HY4 HB7 HC4 HB4 HNO
      obtain ⟨rfl, rfl, ho7⟩ := HY7.out HM.out.symm
      have HO7 := Lib.hid ho7
      clear ho7 HY7
      obtain ⟨c0, c1, c2, c3, c4, c5, c6, c7, c8, c9, c10, c11, c12⟩ := cells13 HC7.out
      go_wp2_with fail
      refine (as15 w7 v).mono ?_
      rintro e w8 ⟨rfl, hb8⟩
      have HX8 := Lib.hid (HX7.out.trans (hb8.mono HX7.out.size))
      have HC8 := Lib.hid (HC7.out.below hb8 HC7.out.lt)
      have HO8 := Lib.hid (HO7.out.below hb8)
      clear hb8 c0 c1 c2 c3 c4 c5 c6 c7 c8 c9 c10 c11 c12
      go_wp2_with fail
      refine (may_ w8 T v (HR.out w8 HX8.out).1 (HR.out w8 HX8.out).2.2).mono ?_
      rintro e w9 ⟨rfl, hb9⟩
      rw [← HM.out]
      have HX9 := Lib.hid (HX8.out.trans (hb9.mono HX8.out.size))
      have HC9 := Lib.hid (HC8.out.below hb9 HC8.out.lt)
      have HO9 := Lib.hid (HO8.out.below hb9)
      clear hb9 HC7 HC8 HO7 HO8
      have hgp := get_put HM.out.symm
      have hpl := put_len HM.out.symm
      have HPM := Lib.hid HM.out.symm
      obtain ⟨bs, hbs⟩ : ∃ bs, bs = put v.r := ⟨_, rfl⟩
      rw [← hbs] at hgp hpl HO9 ⊢
      have HBE := Lib.hid hbs
      clear hbs
      have con := pget_ w9 A bs.length c bs (Bs.of_own HO9.out rfl) (by omega)
      have HGP := Lib.hid hgp
      clear hgp
      go_wp2_with fail
      refine con.mono ?_
      clear con
      rintro e w10 ⟨hb10, h10⟩
      rw [HGP.out] at h10
      obtain ⟨v1, hv1, rfl, hok, htr⟩ := h10
      have HX10 := Lib.hid (HX9.out.trans (hb10.mono HX9.out.size))
      have HC10 := Lib.hid (HC9.out.below hb10 HC9.out.lt)
      have HO10 := Lib.hid (HO9.out.below hb10)
      clear hb10 HC9 HO9
      obtain ⟨r1, AL1, cL1, vs1, AV1, cV1⟩ := v1
      subst hv1
      obtain ⟨v1, hv1⟩ : ∃ u, u = Rv.mk v.r AL1 cL1 vs1 AV1 cV1 := ⟨_, rfl⟩
      obtain ⟨W11, hW11⟩ : ∃ W, W = w10.alloc (.cells v1.cells.toArray 27) := ⟨_, rfl⟩
      have hb11 : Below w10.heap.size w10 W11 := by rw [hW11]; exact (Below.refl _ _).alloc (Nat.le_refl _) _
      have hd11 : Cel W11 w10.heap.size 27 v1.cells := by rw [hW11]; exact Cel.new w10 _ _
      obtain ⟨W12, hW12⟩ : ∃ W, W = W11.drew := ⟨_, rfl⟩
      have hb12 : Below w10.heap.size w10 W12 := by rw [hW12]; exact hb11.drew
      have HX12 := Lib.hid (HX10.out.trans (hb12.mono HX10.out.size))
      have HC12 := Lib.hid (HC10.out.below hb12 HC10.out.lt)
      have HD12 := Lib.hid (show Cel W12 w10.heap.size 27 v1.cells by rw [hW12]; exact hd11.drew)
      have HBS := Lib.hid (Bs.of_own (HO10.out.below hb12) rfl : Bs W12 W12.heap.size A bs.length bs)
      have HOK := Lib.hid (show Rok W12 0 v1 by rw [← hv1] at hok; exact hok.below (Nat.zero_le _) hb12)
      have HV1 := Lib.hid (show v1.r = v.r by rw [hv1])
      rw [hv1] at hW11
      unfold Rv.cells at hW11 ⊢
      dsimp only at hW11 ⊢
      clear hb11 hd11 hb12 HC10 HO10 HX10 hok htr hv1
      go_upto_region 9 with fail
      rw [← hW11]
      clear hW11
      refine Ord.wp_region_N [] (fun V => Below W12.heap.size W12 V) (by kernel_rfl) ?_
      rw [← hW12]
      have hH : Below W12.heap.size W12 W12 := Below.refl _ _
      clear hW12
      generalize w10.heap.size = g1 at *
      refine wpAnyN_take (i := 0) (v := .slice A bs.length c) [] (by kernel_rfl) rfl (by kernel_rfl) (by kernel_rfl) (by kernel_rfl) (fun _ _ _ h => h) (Or.inl ⟨by rfl, ?_⟩) hH ?_
      · intro V hV; go_simp
      try simp only [Act.put, List.setIfInBounds_toArray, List.set_cons_zero, List.set_cons_succ, List.getElem_toArray, List.getElem_cons_succ, List.getElem_cons_zero]
      refine wpAnyN_take (i := 1) (v := .string (str bs)) [] (by kernel_rfl) rfl (by kernel_rfl) (by kernel_rfl) (by kernel_rfl) (fun _ _ _ h => h) (Or.inl ⟨by rfl, ?_⟩) hH ?_
      · intro V hV; have q := toStr (HBS.out.below hV).bp c; go_simp
      try simp only [Act.put, List.setIfInBounds_toArray, List.set_cons_zero, List.set_cons_succ, List.getElem_toArray, List.getElem_cons_succ, List.getElem_cons_zero]
      refine wpAnyN_take (i := 2) (v := .agg v.cells.toArray) [] (by kernel_rfl) rfl (by kernel_rfl) (by kernel_rfl) (by kernel_rfl) (fun _ _ _ h => h) (yieldsIf_load_mid (by rfl) _ _ rfl w.heap.size 0 rfl v.cells _ (fun V hV => fun j u hu => by rw [Nat.zero_add, (HC12.out.below hV HC12.out.lt).cell j, hu]) Try.underlying27 rfl (show _ = some 13 by kernel_rfl)) hH ?_
      try simp only [Act.put, List.setIfInBounds_toArray, List.set_cons_zero, List.set_cons_succ, List.getElem_toArray, List.getElem_cons_succ, List.getElem_cons_zero]
      refine wpAnyN_one (i := 3) (by kernel_rfl) rfl (fun K hK => ?_)
      go_simp
      refine (as15 W12 v).mono ?_
      rintro e w13 ⟨rfl, hb13⟩
      go_wp2_with fail
      refine hK.out _ _ (.inr hb13) ?_
      clear hK K
      try simp only [Act.put, List.setIfInBounds_toArray, List.set_cons_zero, List.set_cons_succ, List.getElem_toArray, List.getElem_cons_succ, List.getElem_cons_zero]
      have HB13 := Lib.hid hb13
      clear hb13 hH
      have HX13 := Lib.hid (HX12.out.trans (HB13.out.mono HX12.out.size))
      refine wpAnyN_one (i := 4) (by kernel_rfl) rfl (fun K hK => ?_)
      go_simp
      refine (put_any w13 T v (HR.out w13 HX13.out).1 (HR.out w13 HX13.out).2.2 HPM.out).mono ?_
      rintro e w14 ⟨A2, c2, rfl, ho2, hb14⟩
      go_wp2_with fail
      refine hK.out _ _ (.inr (HB13.out.trans (hb14.mono HB13.out.size))) ?_
      clear hK K
      try simp only [Act.put, List.setIfInBounds_toArray, List.set_cons_zero, List.set_cons_succ, List.getElem_toArray, List.getElem_cons_succ, List.getElem_cons_zero]
      rw [← HBE.out] at ho2 ⊢
      have q2 := toStr (Bs.of_own ho2 rfl : Bs w14 w14.heap.size A2 bs.length bs).bp c2
      have HB14 := Lib.hid (HB13.out.trans (hb14.mono HB13.out.size))
      have hH := HB14.out
      clear hb14 HB13 HX13 ho2
      refine wpAnyN_one (i := 5) (by kernel_rfl) rfl (fun K hK => ?_)
      go_simp
      refine hK.out _ _ (.inr hH) ?_
      clear hK K q2
      try simp only [Act.put, List.setIfInBounds_toArray, List.set_cons_zero, List.set_cons_succ, List.getElem_toArray, List.getElem_cons_succ, List.getElem_cons_zero]
      refine wpAnyN_take (i := 6) (v := .bool true) [] (by kernel_rfl) rfl (by kernel_rfl) (by kernel_rfl) (by kernel_rfl) (fun _ _ _ h => h) (Or.inl ⟨by rfl, ?_⟩) hH ?_
      · intro V hV; go_simp
      try simp only [Act.put, List.setIfInBounds_toArray, List.set_cons_zero, List.set_cons_succ, List.getElem_toArray, List.getElem_cons_succ, List.getElem_cons_zero]
      refine wpAnyN_take (i := 7) (v := .bool true) [] (by kernel_rfl) rfl (by kernel_rfl) (by kernel_rfl) (by kernel_rfl) (fun _ _ _ h => h) (Or.inl ⟨by rfl, ?_⟩) hH ?_
      · intro V hV; go_simp
      try simp only [Act.put, List.setIfInBounds_toArray, List.set_cons_zero, List.set_cons_succ, List.getElem_toArray, List.getElem_cons_succ, List.getElem_cons_zero]
      refine wpAnyN_take (i := 8) (v := .int .i64 0) [] (by kernel_rfl) rfl (by kernel_rfl) (by kernel_rfl) (by kernel_rfl) (fun _ _ _ h => h) (Or.inl ⟨by rfl, ?_⟩) hH ?_
      · intro V hV; go_simp
      try simp only [Act.put, List.setIfInBounds_toArray, List.set_cons_zero, List.set_cons_succ, List.getElem_toArray, List.getElem_cons_succ, List.getElem_cons_zero]
      refine wpAnyN_take (i := 9) (v := .bool true) [] (by kernel_rfl) rfl (by kernel_rfl) (by kernel_rfl) (by kernel_rfl) (fun _ _ _ h => h) (Or.inl ⟨by rfl, ?_⟩) hH ?_
      · intro V hV; go_simp
      try simp only [Act.put, List.setIfInBounds_toArray, List.set_cons_zero, List.set_cons_succ, List.getElem_toArray, List.getElem_cons_succ, List.getElem_cons_zero]
      refine wpAnyN_take (i := 10) (v := .bool true) [] (by kernel_rfl) rfl (by kernel_rfl) (by kernel_rfl) (by kernel_rfl) (fun _ _ _ h => h) (Or.inl ⟨by rfl, ?_⟩) hH ?_
      · intro V hV; go_simp
      try simp only [Act.put, List.setIfInBounds_toArray, List.set_cons_zero, List.set_cons_succ, List.getElem_toArray, List.getElem_cons_succ, List.getElem_cons_zero]
      refine wpAnyN_take (i := 11) (v := .bool true) [] (by kernel_rfl) rfl (by kernel_rfl) (by kernel_rfl) (by kernel_rfl) (fun _ _ _ h => h) (Or.inl ⟨by rfl, ?_⟩) hH ?_
      · intro V hV; go_simp
      try simp only [Act.put, List.setIfInBounds_toArray, List.set_cons_zero, List.set_cons_succ, List.getElem_toArray, List.getElem_cons_succ, List.getElem_cons_zero]
      refine wpAnyN_take (i := 12) (v := .agg v1.cells.toArray) [] (by kernel_rfl) rfl (by kernel_rfl) (by kernel_rfl) (by kernel_rfl) (fun _ _ _ h => h) (yieldsIf_load_mid (by rfl) _ _ rfl g1 0 rfl v1.cells _ (fun V hV => fun j u hu => by rw [Nat.zero_add, (HD12.out.below hV HD12.out.lt).cell j, hu]) Try.underlying27 rfl (show _ = some 13 by kernel_rfl)) hH ?_
      try simp only [Act.put, List.setIfInBounds_toArray, List.set_cons_zero, List.set_cons_succ, List.getElem_toArray, List.getElem_cons_succ, List.getElem_cons_zero]
      refine wpAnyN_take (i := 14) (v := .agg v.cells.toArray) [] (by kernel_rfl) rfl (by kernel_rfl) (by kernel_rfl) (by kernel_rfl) (fun _ _ _ h => h) (yieldsIf_load_mid (by rfl) _ _ rfl w.heap.size 0 rfl v.cells _ (fun V hV => fun j u hu => by rw [Nat.zero_add, (HC12.out.below hV HC12.out.lt).cell j, hu]) Try.underlying27 rfl (show _ = some 13 by kernel_rfl)) hH ?_
      try simp only [Act.put, List.setIfInBounds_toArray, List.set_cons_zero, List.set_cons_succ, List.getElem_toArray, List.getElem_cons_succ, List.getElem_cons_zero]
      clear hH
      refine wpAnyN_one (i := 13) (by kernel_rfl) rfl (fun K hK => ?_)
      go_simp
      refine (as15 w14 v1).mono ?_
      rintro e w15 ⟨rfl, hb15⟩
      go_wp2_with fail
      refine hK.out _ _ (.inr (HB14.out.trans (hb15.mono HB14.out.size))) ?_
      clear hK K
      try simp only [Act.put, List.setIfInBounds_toArray, List.set_cons_zero, List.set_cons_succ, List.getElem_toArray, List.getElem_cons_succ, List.getElem_cons_zero]
      have HB15 := Lib.hid (HB14.out.trans (hb15.mono HB14.out.size))
      clear hb15 HB14
      refine wpAnyN_one (i := 15) (by kernel_rfl) rfl (fun K hK => ?_)
      go_simp
      refine (as15 w15 v).mono ?_
      rintro e w16 ⟨rfl, hb16⟩
      go_wp2_with fail
      refine hK.out _ _ (.inr (HB15.out.trans (hb16.mono HB15.out.size))) ?_
      clear hK K
      try simp only [Act.put, List.setIfInBounds_toArray, List.set_cons_zero, List.set_cons_succ, List.getElem_toArray, List.getElem_cons_succ, List.getElem_cons_zero]
      have HB16 := Lib.hid (HB15.out.trans (hb16.mono HB15.out.size))
      clear hb16 HB15
      have HX16 := Lib.hid (HX12.out.trans (HB16.out.mono HX12.out.size))
      refine wpAnyN_one (i := 16) (by kernel_rfl) rfl (fun K hK => ?_)
      go_simp
      refine (same15 w16 T v1 v ((HOK.out.below (Nat.zero_le _) HB16.out).up T) (HR.out w16 HX16.out).1 (HR.out w16 HX16.out).2.2 HV1.out).mono ?_
      rintro e w17 ⟨rfl, hb17⟩
      go_wp2_with fail
      refine hK.out _ _ (.inr (HB16.out.trans (hb17.mono HB16.out.size))) ?_
      clear hK K
      try simp only [Act.put, List.setIfInBounds_toArray, List.set_cons_zero, List.set_cons_succ, List.getElem_toArray, List.getElem_cons_succ, List.getElem_cons_zero]
      have HB17 := Lib.hid (HB16.out.trans (hb17.mono HB16.out.size))
      have hH := HB17.out
      clear hb17 HB16 HX16
      refine wpAnyN_take (i := 17) (v := .bool true) [] (by kernel_rfl) rfl (by kernel_rfl) (by kernel_rfl) (by kernel_rfl) (fun _ _ _ h => h) (Or.inl ⟨by rfl, ?_⟩) hH ?_
      · intro V hV; go_simp
      try simp only [Act.put, List.setIfInBounds_toArray, List.set_cons_zero, List.set_cons_succ, List.getElem_toArray, List.getElem_cons_succ, List.getElem_cons_zero]
      refine wpAnyN_take (i := 18) (v := .bool true) [] (by kernel_rfl) rfl (by kernel_rfl) (by kernel_rfl) (by kernel_rfl) (fun _ _ _ h => h) (Or.inl ⟨by rfl, ?_⟩) hH ?_
      · intro V hV; go_simp
      try simp only [Act.put, List.setIfInBounds_toArray, List.set_cons_zero, List.set_cons_succ, List.getElem_toArray, List.getElem_cons_succ, List.getElem_cons_zero]
      refine wpAnyN_take (i := 19) (v := .int .i64 0) [] (by kernel_rfl) rfl (by kernel_rfl) (by kernel_rfl) (by kernel_rfl) (fun _ _ _ h => h) (Or.inl ⟨by rfl, ?_⟩) hH ?_
      · intro V hV; go_simp
      try simp only [Act.put, List.setIfInBounds_toArray, List.set_cons_zero, List.set_cons_succ, List.getElem_toArray, List.getElem_cons_succ, List.getElem_cons_zero]
      refine wpAnyN_take (i := 20) (v := .bool true) [] (by kernel_rfl) rfl (by kernel_rfl) (by kernel_rfl) (by kernel_rfl) (fun _ _ _ h => h) (Or.inl ⟨by rfl, ?_⟩) hH ?_
      · intro V hV; go_simp
      try simp only [Act.put, List.setIfInBounds_toArray, List.set_cons_zero, List.set_cons_succ, List.getElem_toArray, List.getElem_cons_succ, List.getElem_cons_zero]
      refine wpAnyN_take (i := 21) (v := .bool true) [] (by kernel_rfl) rfl (by kernel_rfl) (by kernel_rfl) (by kernel_rfl) (fun _ _ _ h => h) (Or.inl ⟨by rfl, ?_⟩) hH ?_
      · intro V hV; go_simp
      try simp only [Act.put, List.setIfInBounds_toArray, List.set_cons_zero, List.set_cons_succ, List.getElem_toArray, List.getElem_cons_succ, List.getElem_cons_zero]
      refine wpAnyN_take (i := 22) (v := .bool true) [] (by kernel_rfl) rfl (by kernel_rfl) (by kernel_rfl) (by kernel_rfl) (fun _ _ _ h => h) (Or.inl ⟨by rfl, ?_⟩) hH ?_
      · intro V hV; go_simp
      try simp only [Act.put, List.setIfInBounds_toArray, List.set_cons_zero, List.set_cons_succ, List.getElem_toArray, List.getElem_cons_succ, List.getElem_cons_zero]
      clear hH
      refine wpAnyN_one (i := 23) (by kernel_rfl) rfl (fun K hK => ?_)
      go_simp
      refine (knows15 w17).mono ?_
      rintro e w18 ⟨rfl, hb18⟩
      go_wp2_with fail
      refine hK.out _ _ (.inr (HB17.out.trans (hb18.mono HB17.out.size))) ?_
      clear hK K
      try simp only [Act.put, List.setIfInBounds_toArray, List.set_cons_zero, List.set_cons_succ, List.getElem_toArray, List.getElem_cons_succ, List.getElem_cons_zero]
      have HB18 := Lib.hid (HB17.out.trans (hb18.mono HB17.out.size))
      have hH := HB18.out
      clear hb18 HB17
      refine wpAnyN_take (i := 24) (v := .bool true) [] (by kernel_rfl) rfl (by kernel_rfl) (by kernel_rfl) (by kernel_rfl) (fun _ _ _ h => h) (Or.inl ⟨by rfl, ?_⟩) hH ?_
      · intro V hV; go_simp
      try simp only [Act.put, List.setIfInBounds_toArray, List.set_cons_zero, List.set_cons_succ, List.getElem_toArray, List.getElem_cons_succ, List.getElem_cons_zero]
      refine wpAnyN_take (i := 25) (v := .bool true) [] (by kernel_rfl) rfl (by kernel_rfl) (by kernel_rfl) (by kernel_rfl) (fun _ _ _ h => h) (Or.inl ⟨by rfl, ?_⟩) hH ?_
      · intro V hV; go_simp
      try simp only [Act.put, List.setIfInBounds_toArray, List.set_cons_zero, List.set_cons_succ, List.getElem_toArray, List.getElem_cons_succ, List.getElem_cons_zero]
      refine wpAnyN_done (by kernel_rfl) ?_ _
      have HEND := Lib.hid (HX12.out.trans (HB18.out.mono HX12.out.size))
      clear hH
      go_wp2_with fail
      go_ret
      exact ⟨rfl, HEND.out⟩
end Go.Proofs.Ythaebchmlicgaaa.Rec
