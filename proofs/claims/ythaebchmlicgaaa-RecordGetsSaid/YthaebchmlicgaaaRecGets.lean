/-
  Layer 15: the walk of RecordGets. (Written by gen_recgets.py.)
-/
import Derived.Test.YthaebchmlicgaaaRecPuts
namespace Go.Proofs.Ythaebchmlicgaaa.Rec
open Go.RowKit Go.Proofs.Ythaebchmlicgaaa.Ord
open Go.Proofs.Ythaebchmlicgaaa.Lex (Tx Owb rowB)
open Go.Proofs.Ythaebchmlicgaaa.Pack (Own toStr)
set_option linter.unusedVariables false
set_option linter.unusedSimpArgs false

def rv0 : Rv := ⟨rc0, none, 0, [], none, 0⟩
theorem pget_form {w w' : World} {bs : List B} {e : Ending} (h : PgetSays w bs e w') : ∃ (v : Rv) (z : Int), e = .returned (.tuple #[.agg v.cells.toArray, .int .i64 z]) ∧ Below w.heap.size w w' ∧ Rok w' 0 v ∧ Trow w' 0 v.AL v.vs ∧ (get bs = none → v.r = rc0 ∧ z = 2) ∧ (∀ r, get bs = some r → v.r = r ∧ z = 0) := by
  obtain ⟨hb, h⟩ := h
  cases hg : get bs with
  | none =>
    rw [hg] at h
    exact ⟨rv0, 2, h, hb, rok_nil rfl rfl, trow_nil, fun _ => ⟨rfl, rfl⟩, fun r e => by cases e⟩
  | some r =>
    rw [hg] at h
    obtain ⟨v, hv, rfl, h1, h2⟩ := h
    exact ⟨v, 0, rfl, hb, h1, h2, fun e => (by cases e), fun r' e => by injection e with e; subst e; exact ⟨hv, rfl⟩⟩
theorem dget_form {w w' : World} {bs : List B} {e : Ending} (h : GetSays w bs e w') : ∃ (v : Rv) (z : Bool), e = .returned (.tuple #[.agg v.cells.toArray, .bool z]) ∧ Below w.heap.size w w' ∧ Rok w' 0 v ∧ (get bs = none → v.r = rc0 ∧ z = false) ∧ (∀ r, get bs = some r → v.r = r ∧ z = true) := by
  obtain ⟨hb, h⟩ := h
  cases hg : get bs with
  | none =>
    rw [hg] at h
    exact ⟨rv0, false, h, hb, rok_nil rfl rfl, fun _ => ⟨rfl, rfl⟩, fun r e => by cases e⟩
  | some r =>
    rw [hg] at h
    obtain ⟨v, hv, rfl, h1, h2⟩ := h
    exact ⟨v, true, rfl, hb, h1, fun e => (by cases e), fun r' e => by injection e with e; subst e; exact ⟨hv, rfl⟩⟩
set_option maxRecDepth 100000 in
set_option maxHeartbeats 4000000 in
theorem gets_walk (A : Option Addr) (n c : Nat) (bs : List B) (w : World) (h : Bs w w.heap.size A n bs) (hd1 : n ≤ c) (hd2 : c ≤ maxLen) (C : Option Addr) (m d : Nat) (ms : List B) (ht : Bs w w.heap.size C m ms) (hd3 : m ≤ d) (hd4 : d ≤ maxLen) :
    Calls Try.prog 4 #[.slice A n c, .slice C m d] w fun e w' => e = .returned (.bool true) ∧ Below w.heap.size w w' := by
  unfold maxLen at hd2 hd4
  by_cases hb : 2000 < n
  · have z1 : decide ((2000 : Int) < (n : Int)) = true := by simp; omega
    clear h ht hb
    go_enter Try.func4, Try.ntmps4
    go_wp2_with fail
    refine (knows15 w).mono ?_
    rintro e w1 ⟨rfl, hb1⟩
    have HB1 := Lib.hid hb1
    clear hb1
    go_wp2_with fail
    go_ret
    exact ⟨rfl, HB1.out⟩
  have z1 : decide ((2000 : Int) < (n : Int)) = false := by simp; omega
  by_cases hm : 20 < m
  · have z2 : decide ((20 : Int) < (m : Int)) = true := by simp; omega
    clear h ht hb hm
    go_enter Try.func4, Try.ntmps4
    go_wp2_with fail
    refine (knows15 w).mono ?_
    rintro e w1 ⟨rfl, hb1⟩
    have HB1 := Lib.hid hb1
    clear hb1
    go_wp2_with fail
    go_ret
    exact ⟨rfl, HB1.out⟩
  have z2 : decide ((20 : Int) < (m : Int)) = false := by simp; omega
  have con := pget_ w A n c bs h (by omega)
  have H := Lib.hid h
  have HT := Lib.hid ht
  have hn2 : n ≤ 2000 := by omega
  have hm2 : m ≤ 20 := by omega
  have HBL := Lib.hid h.len
  have HML := Lib.hid ht.len
  clear h ht hb hm
  go_enter Try.func4, Try.ntmps4
  go_wp2_with fail
  refine con.mono ?_
  clear con
  intro e w1 h1
  obtain ⟨v1, z, rfl, hb1, hok, htr, hno, hyes⟩ := pget_form h1
  clear h1
  obtain ⟨W1, hW1⟩ : ∃ W, W = w1.alloc (.cells v1.cells.toArray 27) := ⟨_, rfl⟩
  have hw1 : Below w1.heap.size w1 W1 := by rw [hW1]; exact (Below.refl _ _).alloc (Nat.le_refl _) _
  have HC1 := Lib.hid (show Cel W1 w1.heap.size 27 v1.cells by rw [hW1]; exact Cel.new w1 _ _)
  have HB1 := Lib.hid (hb1.trans (hw1.mono hb1.size))
  have HK1 := Lib.hid (show ∀ V, Below W1.heap.size W1 V → Rok V 0 v1 ∧ Trow V 0 v1.AL v1.vs from fun V hV => ⟨(hok.below (Nat.zero_le _) hw1).below (Nat.zero_le _) hV, (htr.below hw1).below hV⟩)
  have HNO := Lib.hid hno
  have HYES := Lib.hid hyes
  clear hw1 hb1 hok htr hno hyes
  unfold Rv.cells at hW1 ⊢
  dsimp only at hW1 ⊢
  go_upto_region 4 with fail
  rw [← hW1]
  clear hW1
  generalize w1.heap.size = g1 at *
  have con := get_ W1 A n c bs ((H.out.below HB1.out).more HB1.out.size) hd1 (by unfold maxLen; omega)
  go_wp2_with fail
  refine con.mono ?_
  clear con
  intro e w2 h2
  obtain ⟨v2, y, rfl, hb2, hok2, hno2, hyes2⟩ := dget_form h2
  clear h2
  obtain ⟨W2, hW2⟩ : ∃ W, W = w2.alloc (.cells v2.cells.toArray 34) := ⟨_, rfl⟩
  have hw2 : Below w2.heap.size w2 W2 := by rw [hW2]; exact (Below.refl _ _).alloc (Nat.le_refl _) _
  have hb12 : Below W1.heap.size W1 W2 := hb2.trans (hw2.mono hb2.size)
  have HC2 := Lib.hid (HC1.out.below hb12 HC1.out.lt)
  have HD2 := Lib.hid (show Cel W2 w2.heap.size 34 v2.cells by rw [hW2]; exact Cel.new w2 _ _)
  have HB2 := Lib.hid (HB1.out.trans (hb12.mono HB1.out.size))
  have HK2 := Lib.hid (show ∀ V, Below W2.heap.size W2 V → (Rok V 0 v1 ∧ Trow V 0 v1.AL v1.vs) ∧ Rok V 0 v2 from fun V hV => ⟨HK1.out V (hb12.trans (hV.mono hb12.size)), (hok2.below (Nat.zero_le _) hw2).below (Nat.zero_le _) hV⟩)
  have HNO2 := Lib.hid hno2
  have HYES2 := Lib.hid hyes2
  clear hw2 hb2 hb12 hok2 hno2 hyes2 HC1 HB1 HK1
  unfold Rv.cells at hW2 ⊢
  dsimp only at hW2 ⊢
  go_upto_region 5 with fail
  rw [← hW2]
  clear hW2
  generalize w2.heap.size = g2 at *
  cases hg : get bs with
  | none =>
    obtain ⟨hr1, rfl⟩ := HNO.out hg
    obtain ⟨hr2, rfl⟩ := HNO2.out hg
    have HR1 := Lib.hid (show v1.r = rv0.r from hr1)
    clear hr1 hr2 hg HNO HNO2 HYES HYES2
    obtain ⟨c0, c1, c2, c3, c4, c5, c6, c7, c8, c9, c10, c11, c12⟩ := cells13 HC2.out
    go_wp2_with fail
    refine (as15 W2 v1).mono ?_
    rintro e w3 ⟨rfl, hb3⟩
    have HB3 := Lib.hid (HB2.out.trans (hb3.mono HB2.out.size))
    have con := same15 w3 0 v1 rv0 (HK2.out w3 hb3).1.1 (rok_nil rfl rfl) (Nat.zero_le _) HR1.out
    clear hb3 c0 c1 c2 c3 c4 c5 c6 c7 c8 c9 c10 c11 c12
    go_wp2_with fail
    refine con.mono ?_
    clear con
    rintro e w4 ⟨rfl, hb4⟩
    have HB4 := Lib.hid (HB3.out.trans (hb4.mono HB3.out.size))
    clear hb4
    go_wp2_with fail
    refine (knows15 w4).mono ?_
    rintro e w5 ⟨rfl, hb5⟩
    have HB5 := Lib.hid (HB4.out.trans (hb5.mono HB4.out.size))
    clear hb5
    go_wp2_with fail
    go_ret
    exact ⟨rfl, HB5.out⟩
  | some r =>
    obtain ⟨hr1, rfl⟩ := HYES.out r hg
    obtain ⟨hr2, rfl⟩ := HYES2.out r hg
    obtain ⟨hput, hmay⟩ := put_get hg
    have hmore : ms ≠ [] → get (bs ++ ms) = none := fun hn => get_more hg hn
    have hmore0 : ms = [] → get (bs ++ ms) = some r := fun hn => by rw [hn, List.append_nil]; exact hg
    subst hr1
    have HR := Lib.hid hr2
    have HPUT := Lib.hid hput
    have HMAY := Lib.hid hmay
    have HMORE := Lib.hid hmore
    have HMORE0 := Lib.hid hmore0
    clear hr2 hput hmay hmore hmore0 hg HNO HNO2 HYES HYES2
    have con := pput_ W2 0 v1 (HK2.out W2 (Below.refl _ _)).1.1 (HK2.out W2 (Below.refl _ _)).1.2 (Nat.zero_le _)
    obtain ⟨c0, c1, c2, c3, c4, c5, c6, c7, c8, c9, c10, c11, c12⟩ := cells13 HC2.out
    go_wp2_with fail
    refine con.mono ?_
    clear con c0 c1 c2 c3 c4 c5 c6 c7 c8 c9 c10 c11 c12
    rintro e w3 ⟨hb3, _, h3⟩
    obtain ⟨A3, c3, rfl, ho3⟩ := h3 HMAY.out
    rw [HPUT.out] at ho3 ⊢
    rw [HBL.out] at ho3 ⊢
    have HC3 := Lib.hid (HC2.out.below hb3 HC2.out.lt)
    have HD3 := Lib.hid (HD2.out.below hb3 HD2.out.lt)
    have HB3 := Lib.hid (HB2.out.trans (hb3.mono HB2.out.size))
    have HK3 := Lib.hid (show ∀ V, Below w3.heap.size w3 V → (Rok V 0 v1 ∧ Trow V 0 v1.AL v1.vs) ∧ Rok V 0 v2 from fun V hV => HK2.out V (hb3.trans (hV.mono hb3.size)))
    have HO3 := Lib.hid (show Bs w3 w3.heap.size A3 n bs from Bs.of_own ho3 rfl)
    have HX3 := Lib.hid (H.out.below HB3.out)
    have HY3 := Lib.hid (HT.out.below HB3.out)
    clear h3 hb3 ho3 HC2 HD2 HB2 HK2
    go_wp2_with (first
      | (at_builtin; refine wpList_append_new _ rfl _ _ 25 rfl 5 rowB rfl w.heap.size A n c bs rfl HX3.out HB3.out.size (by omega) ?_; intro A4 c4 w4 ho4 hb4; have HO4 := Lib.hid (show Owb w4 w3.heap.size A4 n c4 bs from ho4); have HB4 := Lib.hid hb4; have HY4 := Lib.hid (HY3.out.below (hb4.mono HB3.out.size)); clear ho4 hb4)
      | (at_builtin; refine wpList_append_bs _ rfl _ _ 25 rfl w3.heap.size 5 rowB (.slice A4 n c4) n bs rfl HO4.out w.heap.size C m d ms rfl HY4.out (n + m) (bs ++ ms) rfl rfl (by omega) HB4.out.size ?_; intro A6 c6 w6 ho6 hg6 _; have HO6 := Lib.hid (show Owb w6 w3.heap.size A6 (n + m) c6 (bs ++ ms) from ho6); have HB6 := Lib.hid (HB4.out.trans (Lex.Owb.grew HO4.out hg6 HB4.out.size)); clear ho6 hg6))
    have con := pget_ w6 A6 (n + m) c6 (bs ++ ms) (Bs.of_own HO6.out rfl) (by omega)
    refine con.mono ?_
    clear con
    intro e w7 h7
    obtain ⟨v3, z3, rfl, hb7, _, _, hno3, hyes3⟩ := pget_form h7
    clear h7
    obtain ⟨W8, hW8⟩ : ∃ W, W = w7.alloc (.cells v3.cells.toArray 27) := ⟨_, rfl⟩
    have hw8 : Below w7.heap.size w7 W8 := by rw [hW8]; exact (Below.refl _ _).alloc (Nat.le_refl _) _
    have hb36 : Below w3.heap.size w3 W8 := (HB6.out.trans (hb7.mono HB6.out.size)).trans (hw8.mono (Nat.le_trans HB6.out.size hb7.size))
    obtain ⟨W9, hW9⟩ : ∃ W, W = W8.drew := ⟨_, rfl⟩
    have hb9 : Below w3.heap.size w3 W9 := by rw [hW9]; exact hb36.drew
    have HB9 := Lib.hid (HB3.out.trans (hb9.mono HB3.out.size))
    have HC9 := Lib.hid (HC3.out.below hb9 HC3.out.lt)
    have HD9 := Lib.hid (HD3.out.below hb9 HD3.out.lt)
    have HO9 := Lib.hid ((HO3.out.below hb9).more hb9.size)
    have HX9 := Lib.hid ((HX3.out.below (hb9.mono HB3.out.size)).more (Nat.le_trans HB3.out.size hb9.size))
    have HK9 := Lib.hid (show ∀ V, Below W9.heap.size W9 V → (Rok V 0 v1 ∧ Trow V 0 v1.AL v1.vs) ∧ Rok V 0 v2 from fun V hV => HK3.out V (hb9.trans (hV.mono hb9.size)))
    have HZ : Hid ((m = 0 ∧ z3 = 0) ∨ (m ≠ 0 ∧ z3 = 2)) := Lib.hid (by
      have hml := HML.out
      rcases Nat.eq_zero_or_pos m with h0 | h0
      · exact .inl ⟨h0, (hyes3 _ (HMORE0.out (List.eq_nil_of_length_eq_zero (by omega)))).2⟩
      · refine .inr ⟨by omega, (hno3 (HMORE.out (fun e => ?_))).2⟩
        rw [e] at hml
        simp at hml
        omega)
    clear hw8 hb36 hb9 hb7 hno3 hyes3 HO6 HB6 HO4 HB4 HY4 HX3 HY3 HO3 HC3 HD3 HB3 HK3
    unfold Rv.cells at hW8 ⊢
    dsimp only at hW8 ⊢
    go_upto_region 9 with fail
    rw [← hW8]
    clear hW8
    refine Ord.wp_region_N [] (fun V => Below W9.heap.size W9 V) (by kernel_rfl) ?_
    rw [← hW9]
    have hH : Below W9.heap.size W9 W9 := Below.refl _ _
    clear hW9
    refine wpAnyN_take (i := 0) (v := .agg v1.cells.toArray) [] (by kernel_rfl) rfl (by kernel_rfl) (by kernel_rfl) (by kernel_rfl) (fun _ _ _ h => h) (yieldsIf_load_mid (by rfl) _ _ rfl g1 0 rfl v1.cells _ (fun V hV => fun j u hu => by rw [Nat.zero_add, (HC9.out.below hV HC9.out.lt).cell j, hu]) Try.underlying27 rfl (show _ = some 13 by kernel_rfl)) hH ?_
    try simp only [Act.put, List.setIfInBounds_toArray, List.set_cons_zero, List.set_cons_succ, List.getElem_toArray, List.getElem_cons_succ, List.getElem_cons_zero]
    refine wpAnyN_take (i := 2) (v := .agg v2.cells.toArray) [] (by kernel_rfl) rfl (by kernel_rfl) (by kernel_rfl) (by kernel_rfl) (fun _ _ _ h => h) (yieldsIf_load_mid (by rfl) _ _ rfl g2 0 rfl v2.cells _ (fun V hV => fun j u hu => by rw [Nat.zero_add, (HD9.out.below hV HD9.out.lt).cell j, hu]) Try.underlying34 rfl (show _ = some 13 by kernel_rfl)) hH ?_
    try simp only [Act.put, List.setIfInBounds_toArray, List.set_cons_zero, List.set_cons_succ, List.getElem_toArray, List.getElem_cons_succ, List.getElem_cons_zero]
    refine wpAnyN_one (i := 1) (by kernel_rfl) rfl (fun K hK => ?_)
    go_simp
    refine (as15 W9 v1).mono ?_
    rintro e w10 ⟨rfl, hb10⟩
    go_wp2_with fail
    refine hK.out _ _ (.inr hb10) ?_
    clear hK K
    try simp only [Act.put, List.setIfInBounds_toArray, List.set_cons_zero, List.set_cons_succ, List.getElem_toArray, List.getElem_cons_succ, List.getElem_cons_zero]
    have HB10 := Lib.hid hb10
    clear hb10 hH
    refine wpAnyN_one (i := 3) (by kernel_rfl) rfl (fun K hK => ?_)
    go_simp
    refine (same15 w10 0 v1 v2 (HK9.out w10 HB10.out).1.1 (HK9.out w10 HB10.out).2 (Nat.zero_le _) HR.out.symm).mono ?_
    rintro e w11 ⟨rfl, hb11⟩
    go_wp2_with fail
    refine hK.out _ _ (.inr (HB10.out.trans (hb11.mono HB10.out.size))) ?_
    clear hK K
    try simp only [Act.put, List.setIfInBounds_toArray, List.set_cons_zero, List.set_cons_succ, List.getElem_toArray, List.getElem_cons_succ, List.getElem_cons_zero]
    have HB11 := Lib.hid (HB10.out.trans (hb11.mono HB10.out.size))
    have hH := HB11.out
    clear hb11 HB10
    rcases HZ.out with ⟨rfl, rfl⟩ | ⟨hm0, rfl⟩
    · skip
      refine wpAnyN_take (i := 4) (v := .bool true) [] (by kernel_rfl) rfl (by kernel_rfl) (by kernel_rfl) (by kernel_rfl) (fun _ _ _ h => h) (Or.inl ⟨by rfl, ?_⟩) hH ?_
      · intro V hV; go_simp
      try simp only [Act.put, List.setIfInBounds_toArray, List.set_cons_zero, List.set_cons_succ, List.getElem_toArray, List.getElem_cons_succ, List.getElem_cons_zero]
      refine wpAnyN_take (i := 5) (v := .int .i64 0) [] (by kernel_rfl) rfl (by kernel_rfl) (by kernel_rfl) (by kernel_rfl) (fun _ _ _ h => h) (Or.inl ⟨by rfl, ?_⟩) hH ?_
      · intro V hV; go_simp
      try simp only [Act.put, List.setIfInBounds_toArray, List.set_cons_zero, List.set_cons_succ, List.getElem_toArray, List.getElem_cons_succ, List.getElem_cons_zero]
      refine wpAnyN_take (i := 6) (v := .bool true) [] (by kernel_rfl) rfl (by kernel_rfl) (by kernel_rfl) (by kernel_rfl) (fun _ _ _ h => h) (Or.inl ⟨by rfl, ?_⟩) hH ?_
      · intro V hV; go_simp
      try simp only [Act.put, List.setIfInBounds_toArray, List.set_cons_zero, List.set_cons_succ, List.getElem_toArray, List.getElem_cons_succ, List.getElem_cons_zero]
      refine wpAnyN_take (i := 7) (v := .bool true) [] (by kernel_rfl) rfl (by kernel_rfl) (by kernel_rfl) (by kernel_rfl) (fun _ _ _ h => h) (Or.inl ⟨by rfl, ?_⟩) hH ?_
      · intro V hV; go_simp
      try simp only [Act.put, List.setIfInBounds_toArray, List.set_cons_zero, List.set_cons_succ, List.getElem_toArray, List.getElem_cons_succ, List.getElem_cons_zero]
      refine wpAnyN_take (i := 8) (v := .bool true) [] (by kernel_rfl) rfl (by kernel_rfl) (by kernel_rfl) (by kernel_rfl) (fun _ _ _ h => h) (Or.inl ⟨by rfl, ?_⟩) hH ?_
      · intro V hV; go_simp
      try simp only [Act.put, List.setIfInBounds_toArray, List.set_cons_zero, List.set_cons_succ, List.getElem_toArray, List.getElem_cons_succ, List.getElem_cons_zero]
      refine wpAnyN_take (i := 9) (v := .slice A3 n c3) [] (by kernel_rfl) rfl (by kernel_rfl) (by kernel_rfl) (by kernel_rfl) (fun _ _ _ h => h) (Or.inl ⟨by rfl, ?_⟩) hH ?_
      · intro V hV; go_simp
      try simp only [Act.put, List.setIfInBounds_toArray, List.set_cons_zero, List.set_cons_succ, List.getElem_toArray, List.getElem_cons_succ, List.getElem_cons_zero]
      refine wpAnyN_take (i := 10) (v := .string (str bs)) [] (by kernel_rfl) rfl (by kernel_rfl) (by kernel_rfl) (by kernel_rfl) (fun _ _ _ h => h) (Or.inl ⟨by rfl, ?_⟩) hH ?_
      · intro V hV; have q := toStr (HO9.out.below hV).bp c3; go_simp
      try simp only [Act.put, List.setIfInBounds_toArray, List.set_cons_zero, List.set_cons_succ, List.getElem_toArray, List.getElem_cons_succ, List.getElem_cons_zero]
      refine wpAnyN_take (i := 11) (v := .slice A n c) [] (by kernel_rfl) rfl (by kernel_rfl) (by kernel_rfl) (by kernel_rfl) (fun _ _ _ h => h) (Or.inl ⟨by rfl, ?_⟩) hH ?_
      · intro V hV; go_simp
      try simp only [Act.put, List.setIfInBounds_toArray, List.set_cons_zero, List.set_cons_succ, List.getElem_toArray, List.getElem_cons_succ, List.getElem_cons_zero]
      refine wpAnyN_take (i := 12) (v := .string (str bs)) [] (by kernel_rfl) rfl (by kernel_rfl) (by kernel_rfl) (by kernel_rfl) (fun _ _ _ h => h) (Or.inl ⟨by rfl, ?_⟩) hH ?_
      · intro V hV; have q := toStr (HX9.out.below hV).bp c; go_simp
      try simp only [Act.put, List.setIfInBounds_toArray, List.set_cons_zero, List.set_cons_succ, List.getElem_toArray, List.getElem_cons_succ, List.getElem_cons_zero]
      refine wpAnyN_take (i := 13) (v := .bool true) [] (by kernel_rfl) rfl (by kernel_rfl) (by kernel_rfl) (by kernel_rfl) (fun _ _ _ h => h) (Or.inl ⟨by rfl, ?_⟩) hH ?_
      · intro V hV; go_simp
      try simp only [Act.put, List.setIfInBounds_toArray, List.set_cons_zero, List.set_cons_succ, List.getElem_toArray, List.getElem_cons_succ, List.getElem_cons_zero]
      refine wpAnyN_take (i := 14) (v := .bool true) [] (by kernel_rfl) rfl (by kernel_rfl) (by kernel_rfl) (by kernel_rfl) (fun _ _ _ h => h) (Or.inl ⟨by rfl, ?_⟩) hH ?_
      · intro V hV; go_simp
      try simp only [Act.put, List.setIfInBounds_toArray, List.set_cons_zero, List.set_cons_succ, List.getElem_toArray, List.getElem_cons_succ, List.getElem_cons_zero]
      refine wpAnyN_take (i := 15) (v := .bool true) [] (by kernel_rfl) rfl (by kernel_rfl) (by kernel_rfl) (by kernel_rfl) (fun _ _ _ h => h) (Or.inl ⟨by rfl, ?_⟩) hH ?_
      · intro V hV; go_simp
      try simp only [Act.put, List.setIfInBounds_toArray, List.set_cons_zero, List.set_cons_succ, List.getElem_toArray, List.getElem_cons_succ, List.getElem_cons_zero]
      refine wpAnyN_take (i := 16) (v := .int .i64 0) [] (by kernel_rfl) rfl (by kernel_rfl) (by kernel_rfl) (by kernel_rfl) (fun _ _ _ h => h) (Or.inl ⟨by rfl, ?_⟩) hH ?_
      · intro V hV; go_simp
      try simp only [Act.put, List.setIfInBounds_toArray, List.set_cons_zero, List.set_cons_succ, List.getElem_toArray, List.getElem_cons_succ, List.getElem_cons_zero]
      refine wpAnyN_take (i := 17) (v := .bool true) [] (by kernel_rfl) rfl (by kernel_rfl) (by kernel_rfl) (by kernel_rfl) (fun _ _ _ h => h) (Or.inl ⟨by rfl, ?_⟩) hH ?_
      · intro V hV; go_simp
      try simp only [Act.put, List.setIfInBounds_toArray, List.set_cons_zero, List.set_cons_succ, List.getElem_toArray, List.getElem_cons_succ, List.getElem_cons_zero]
      refine wpAnyN_take (i := 18) (v := .bool true) [] (by kernel_rfl) rfl (by kernel_rfl) (by kernel_rfl) (by kernel_rfl) (fun _ _ _ h => h) (Or.inl ⟨by rfl, ?_⟩) hH ?_
      · intro V hV; go_simp
      try simp only [Act.put, List.setIfInBounds_toArray, List.set_cons_zero, List.set_cons_succ, List.getElem_toArray, List.getElem_cons_succ, List.getElem_cons_zero]
      refine wpAnyN_take (i := 19) (v := .bool true) [] (by kernel_rfl) rfl (by kernel_rfl) (by kernel_rfl) (by kernel_rfl) (fun _ _ _ h => h) (Or.inl ⟨by rfl, ?_⟩) hH ?_
      · intro V hV; go_simp
      try simp only [Act.put, List.setIfInBounds_toArray, List.set_cons_zero, List.set_cons_succ, List.getElem_toArray, List.getElem_cons_succ, List.getElem_cons_zero]
      refine wpAnyN_take (i := 20) (v := .int .i64 0) [] (by kernel_rfl) rfl (by kernel_rfl) (by kernel_rfl) (by kernel_rfl) (fun _ _ _ h => h) (Or.inl ⟨by rfl, ?_⟩) hH ?_
      · intro V hV; go_simp
      try simp only [Act.put, List.setIfInBounds_toArray, List.set_cons_zero, List.set_cons_succ, List.getElem_toArray, List.getElem_cons_succ, List.getElem_cons_zero]
      refine wpAnyN_take (i := 21) (v := .bool true) [] (by kernel_rfl) rfl (by kernel_rfl) (by kernel_rfl) (by kernel_rfl) (fun _ _ _ h => h) (Or.inl ⟨by rfl, ?_⟩) hH ?_
      · intro V hV; go_simp
      try simp only [Act.put, List.setIfInBounds_toArray, List.set_cons_zero, List.set_cons_succ, List.getElem_toArray, List.getElem_cons_succ, List.getElem_cons_zero]
      refine wpAnyN_take (i := 22) (v := .slice C 0 d) [] (by kernel_rfl) rfl (by kernel_rfl) (by kernel_rfl) (by kernel_rfl) (fun _ _ _ h => h) (Or.inl ⟨by rfl, ?_⟩) hH ?_
      · intro V hV; go_simp
      try simp only [Act.put, List.setIfInBounds_toArray, List.set_cons_zero, List.set_cons_succ, List.getElem_toArray, List.getElem_cons_succ, List.getElem_cons_zero]
      refine wpAnyN_take (i := 23) (v := .int .i64 0) [] (by kernel_rfl) rfl (by kernel_rfl) (by kernel_rfl) (by kernel_rfl) (fun _ _ _ h => h) (Or.inl ⟨by rfl, ?_⟩) hH ?_
      · intro V hV; go_simp
      try simp only [Act.put, List.setIfInBounds_toArray, List.set_cons_zero, List.set_cons_succ, List.getElem_toArray, List.getElem_cons_succ, List.getElem_cons_zero]
      refine wpAnyN_take (i := 24) (v := .bool true) [] (by kernel_rfl) rfl (by kernel_rfl) (by kernel_rfl) (by kernel_rfl) (fun _ _ _ h => h) (Or.inl ⟨by rfl, ?_⟩) hH ?_
      · intro V hV; go_simp
      try simp only [Act.put, List.setIfInBounds_toArray, List.set_cons_zero, List.set_cons_succ, List.getElem_toArray, List.getElem_cons_succ, List.getElem_cons_zero]
      refine wpAnyN_take (i := 25) (v := .bool true) [] (by kernel_rfl) rfl (by kernel_rfl) (by kernel_rfl) (by kernel_rfl) (fun _ _ _ h => h) (Or.inl ⟨by rfl, ?_⟩) hH ?_
      · intro V hV; go_simp
      try simp only [Act.put, List.setIfInBounds_toArray, List.set_cons_zero, List.set_cons_succ, List.getElem_toArray, List.getElem_cons_succ, List.getElem_cons_zero]
      refine wpAnyN_take (i := 26) (v := .bool true) [] (by kernel_rfl) rfl (by kernel_rfl) (by kernel_rfl) (by kernel_rfl) (fun _ _ _ h => h) (Or.inl ⟨by rfl, ?_⟩) hH ?_
      · intro V hV; go_simp
      try simp only [Act.put, List.setIfInBounds_toArray, List.set_cons_zero, List.set_cons_succ, List.getElem_toArray, List.getElem_cons_succ, List.getElem_cons_zero]
      refine wpAnyN_take (i := 27) (v := .bool true) [] (by kernel_rfl) rfl (by kernel_rfl) (by kernel_rfl) (by kernel_rfl) (fun _ _ _ h => h) (Or.inl ⟨by rfl, ?_⟩) hH ?_
      · intro V hV; go_simp
      try simp only [Act.put, List.setIfInBounds_toArray, List.set_cons_zero, List.set_cons_succ, List.getElem_toArray, List.getElem_cons_succ, List.getElem_cons_zero]
      clear hH
      refine wpAnyN_one (i := 28) (by kernel_rfl) rfl (fun K hK => ?_)
      go_simp
      refine (knows15 w11).mono ?_
      rintro e w12 ⟨rfl, hb12⟩
      go_wp2_with fail
      refine hK.out _ _ (.inr (HB11.out.trans (hb12.mono HB11.out.size))) ?_
      clear hK K
      try simp only [Act.put, List.setIfInBounds_toArray, List.set_cons_zero, List.set_cons_succ, List.getElem_toArray, List.getElem_cons_succ, List.getElem_cons_zero]
      have HB12 := Lib.hid (HB11.out.trans (hb12.mono HB11.out.size))
      have hH := HB12.out
      clear hb12 HB11
      refine wpAnyN_take (i := 29) (v := .bool true) [] (by kernel_rfl) rfl (by kernel_rfl) (by kernel_rfl) (by kernel_rfl) (fun _ _ _ h => h) (Or.inl ⟨by rfl, ?_⟩) hH ?_
      · intro V hV; go_simp
      try simp only [Act.put, List.setIfInBounds_toArray, List.set_cons_zero, List.set_cons_succ, List.getElem_toArray, List.getElem_cons_succ, List.getElem_cons_zero]
      refine wpAnyN_take (i := 30) (v := .bool true) [] (by kernel_rfl) rfl (by kernel_rfl) (by kernel_rfl) (by kernel_rfl) (fun _ _ _ h => h) (Or.inl ⟨by rfl, ?_⟩) hH ?_
      · intro V hV; go_simp
      try simp only [Act.put, List.setIfInBounds_toArray, List.set_cons_zero, List.set_cons_succ, List.getElem_toArray, List.getElem_cons_succ, List.getElem_cons_zero]
      refine wpAnyN_done (by kernel_rfl) ?_ _
      have HEND := Lib.hid (HB9.out.trans (HB12.out.mono HB9.out.size))
      clear hH
      go_wp2_with fail
      go_ret
      exact ⟨rfl, HEND.out⟩
    · have d0 : ((m : Int) == 0) = false := by simp; omega
      refine wpAnyN_take (i := 4) (v := .bool true) [] (by kernel_rfl) rfl (by kernel_rfl) (by kernel_rfl) (by kernel_rfl) (fun _ _ _ h => h) (Or.inl ⟨by rfl, ?_⟩) hH ?_
      · intro V hV; go_simp
      try simp only [Act.put, List.setIfInBounds_toArray, List.set_cons_zero, List.set_cons_succ, List.getElem_toArray, List.getElem_cons_succ, List.getElem_cons_zero]
      refine wpAnyN_take (i := 5) (v := .int .i64 0) [] (by kernel_rfl) rfl (by kernel_rfl) (by kernel_rfl) (by kernel_rfl) (fun _ _ _ h => h) (Or.inl ⟨by rfl, ?_⟩) hH ?_
      · intro V hV; go_simp
      try simp only [Act.put, List.setIfInBounds_toArray, List.set_cons_zero, List.set_cons_succ, List.getElem_toArray, List.getElem_cons_succ, List.getElem_cons_zero]
      refine wpAnyN_take (i := 6) (v := .bool true) [] (by kernel_rfl) rfl (by kernel_rfl) (by kernel_rfl) (by kernel_rfl) (fun _ _ _ h => h) (Or.inl ⟨by rfl, ?_⟩) hH ?_
      · intro V hV; go_simp
      try simp only [Act.put, List.setIfInBounds_toArray, List.set_cons_zero, List.set_cons_succ, List.getElem_toArray, List.getElem_cons_succ, List.getElem_cons_zero]
      refine wpAnyN_take (i := 7) (v := .bool true) [] (by kernel_rfl) rfl (by kernel_rfl) (by kernel_rfl) (by kernel_rfl) (fun _ _ _ h => h) (Or.inl ⟨by rfl, ?_⟩) hH ?_
      · intro V hV; go_simp
      try simp only [Act.put, List.setIfInBounds_toArray, List.set_cons_zero, List.set_cons_succ, List.getElem_toArray, List.getElem_cons_succ, List.getElem_cons_zero]
      refine wpAnyN_take (i := 8) (v := .bool true) [] (by kernel_rfl) rfl (by kernel_rfl) (by kernel_rfl) (by kernel_rfl) (fun _ _ _ h => h) (Or.inl ⟨by rfl, ?_⟩) hH ?_
      · intro V hV; go_simp
      try simp only [Act.put, List.setIfInBounds_toArray, List.set_cons_zero, List.set_cons_succ, List.getElem_toArray, List.getElem_cons_succ, List.getElem_cons_zero]
      refine wpAnyN_take (i := 9) (v := .slice A3 n c3) [] (by kernel_rfl) rfl (by kernel_rfl) (by kernel_rfl) (by kernel_rfl) (fun _ _ _ h => h) (Or.inl ⟨by rfl, ?_⟩) hH ?_
      · intro V hV; go_simp
      try simp only [Act.put, List.setIfInBounds_toArray, List.set_cons_zero, List.set_cons_succ, List.getElem_toArray, List.getElem_cons_succ, List.getElem_cons_zero]
      refine wpAnyN_take (i := 10) (v := .string (str bs)) [] (by kernel_rfl) rfl (by kernel_rfl) (by kernel_rfl) (by kernel_rfl) (fun _ _ _ h => h) (Or.inl ⟨by rfl, ?_⟩) hH ?_
      · intro V hV; have q := toStr (HO9.out.below hV).bp c3; go_simp
      try simp only [Act.put, List.setIfInBounds_toArray, List.set_cons_zero, List.set_cons_succ, List.getElem_toArray, List.getElem_cons_succ, List.getElem_cons_zero]
      refine wpAnyN_take (i := 11) (v := .slice A n c) [] (by kernel_rfl) rfl (by kernel_rfl) (by kernel_rfl) (by kernel_rfl) (fun _ _ _ h => h) (Or.inl ⟨by rfl, ?_⟩) hH ?_
      · intro V hV; go_simp
      try simp only [Act.put, List.setIfInBounds_toArray, List.set_cons_zero, List.set_cons_succ, List.getElem_toArray, List.getElem_cons_succ, List.getElem_cons_zero]
      refine wpAnyN_take (i := 12) (v := .string (str bs)) [] (by kernel_rfl) rfl (by kernel_rfl) (by kernel_rfl) (by kernel_rfl) (fun _ _ _ h => h) (Or.inl ⟨by rfl, ?_⟩) hH ?_
      · intro V hV; have q := toStr (HX9.out.below hV).bp c; go_simp
      try simp only [Act.put, List.setIfInBounds_toArray, List.set_cons_zero, List.set_cons_succ, List.getElem_toArray, List.getElem_cons_succ, List.getElem_cons_zero]
      refine wpAnyN_take (i := 13) (v := .bool true) [] (by kernel_rfl) rfl (by kernel_rfl) (by kernel_rfl) (by kernel_rfl) (fun _ _ _ h => h) (Or.inl ⟨by rfl, ?_⟩) hH ?_
      · intro V hV; go_simp
      try simp only [Act.put, List.setIfInBounds_toArray, List.set_cons_zero, List.set_cons_succ, List.getElem_toArray, List.getElem_cons_succ, List.getElem_cons_zero]
      refine wpAnyN_take (i := 14) (v := .bool true) [] (by kernel_rfl) rfl (by kernel_rfl) (by kernel_rfl) (by kernel_rfl) (fun _ _ _ h => h) (Or.inl ⟨by rfl, ?_⟩) hH ?_
      · intro V hV; go_simp
      try simp only [Act.put, List.setIfInBounds_toArray, List.set_cons_zero, List.set_cons_succ, List.getElem_toArray, List.getElem_cons_succ, List.getElem_cons_zero]
      refine wpAnyN_take (i := 15) (v := .bool true) [] (by kernel_rfl) rfl (by kernel_rfl) (by kernel_rfl) (by kernel_rfl) (fun _ _ _ h => h) (Or.inl ⟨by rfl, ?_⟩) hH ?_
      · intro V hV; go_simp
      try simp only [Act.put, List.setIfInBounds_toArray, List.set_cons_zero, List.set_cons_succ, List.getElem_toArray, List.getElem_cons_succ, List.getElem_cons_zero]
      refine wpAnyN_take (i := 16) (v := .int .i64 0) [] (by kernel_rfl) rfl (by kernel_rfl) (by kernel_rfl) (by kernel_rfl) (fun _ _ _ h => h) (Or.inl ⟨by rfl, ?_⟩) hH ?_
      · intro V hV; go_simp
      try simp only [Act.put, List.setIfInBounds_toArray, List.set_cons_zero, List.set_cons_succ, List.getElem_toArray, List.getElem_cons_succ, List.getElem_cons_zero]
      refine wpAnyN_take (i := 17) (v := .bool true) [] (by kernel_rfl) rfl (by kernel_rfl) (by kernel_rfl) (by kernel_rfl) (fun _ _ _ h => h) (Or.inl ⟨by rfl, ?_⟩) hH ?_
      · intro V hV; go_simp
      try simp only [Act.put, List.setIfInBounds_toArray, List.set_cons_zero, List.set_cons_succ, List.getElem_toArray, List.getElem_cons_succ, List.getElem_cons_zero]
      refine wpAnyN_take (i := 18) (v := .bool true) [] (by kernel_rfl) rfl (by kernel_rfl) (by kernel_rfl) (by kernel_rfl) (fun _ _ _ h => h) (Or.inl ⟨by rfl, ?_⟩) hH ?_
      · intro V hV; go_simp
      try simp only [Act.put, List.setIfInBounds_toArray, List.set_cons_zero, List.set_cons_succ, List.getElem_toArray, List.getElem_cons_succ, List.getElem_cons_zero]
      refine wpAnyN_take (i := 19) (v := .bool true) [] (by kernel_rfl) rfl (by kernel_rfl) (by kernel_rfl) (by kernel_rfl) (fun _ _ _ h => h) (Or.inl ⟨by rfl, ?_⟩) hH ?_
      · intro V hV; go_simp
      try simp only [Act.put, List.setIfInBounds_toArray, List.set_cons_zero, List.set_cons_succ, List.getElem_toArray, List.getElem_cons_succ, List.getElem_cons_zero]
      refine wpAnyN_take (i := 20) (v := .int .i64 2) [] (by kernel_rfl) rfl (by kernel_rfl) (by kernel_rfl) (by kernel_rfl) (fun _ _ _ h => h) (Or.inl ⟨by rfl, ?_⟩) hH ?_
      · intro V hV; go_simp
      try simp only [Act.put, List.setIfInBounds_toArray, List.set_cons_zero, List.set_cons_succ, List.getElem_toArray, List.getElem_cons_succ, List.getElem_cons_zero]
      refine wpAnyN_take (i := 21) (v := .bool false) [] (by kernel_rfl) rfl (by kernel_rfl) (by kernel_rfl) (by kernel_rfl) (fun _ _ _ h => h) (Or.inl ⟨by rfl, ?_⟩) hH ?_
      · intro V hV; go_simp
      try simp only [Act.put, List.setIfInBounds_toArray, List.set_cons_zero, List.set_cons_succ, List.getElem_toArray, List.getElem_cons_succ, List.getElem_cons_zero]
      refine wpAnyN_take (i := 22) (v := .slice C m d) [] (by kernel_rfl) rfl (by kernel_rfl) (by kernel_rfl) (by kernel_rfl) (fun _ _ _ h => h) (Or.inl ⟨by rfl, ?_⟩) hH ?_
      · intro V hV; go_simp
      try simp only [Act.put, List.setIfInBounds_toArray, List.set_cons_zero, List.set_cons_succ, List.getElem_toArray, List.getElem_cons_succ, List.getElem_cons_zero]
      refine wpAnyN_take (i := 23) (v := .int .i64 (m : Int)) [] (by kernel_rfl) rfl (by kernel_rfl) (by kernel_rfl) (by kernel_rfl) (fun _ _ _ h => h) (Or.inl ⟨by rfl, ?_⟩) hH ?_
      · intro V hV; go_simp
      try simp only [Act.put, List.setIfInBounds_toArray, List.set_cons_zero, List.set_cons_succ, List.getElem_toArray, List.getElem_cons_succ, List.getElem_cons_zero]
      refine wpAnyN_take (i := 24) (v := .bool false) [] (by kernel_rfl) rfl (by kernel_rfl) (by kernel_rfl) (by kernel_rfl) (fun _ _ _ h => h) (Or.inl ⟨by rfl, ?_⟩) hH ?_
      · intro V hV; go_simp
      try simp only [Act.put, List.setIfInBounds_toArray, List.set_cons_zero, List.set_cons_succ, List.getElem_toArray, List.getElem_cons_succ, List.getElem_cons_zero]
      refine wpAnyN_take (i := 25) (v := .bool true) [] (by kernel_rfl) rfl (by kernel_rfl) (by kernel_rfl) (by kernel_rfl) (fun _ _ _ h => h) (Or.inl ⟨by rfl, ?_⟩) hH ?_
      · intro V hV; go_simp
      try simp only [Act.put, List.setIfInBounds_toArray, List.set_cons_zero, List.set_cons_succ, List.getElem_toArray, List.getElem_cons_succ, List.getElem_cons_zero]
      refine wpAnyN_take (i := 26) (v := .bool true) [] (by kernel_rfl) rfl (by kernel_rfl) (by kernel_rfl) (by kernel_rfl) (fun _ _ _ h => h) (Or.inl ⟨by rfl, ?_⟩) hH ?_
      · intro V hV; go_simp
      try simp only [Act.put, List.setIfInBounds_toArray, List.set_cons_zero, List.set_cons_succ, List.getElem_toArray, List.getElem_cons_succ, List.getElem_cons_zero]
      refine wpAnyN_take (i := 27) (v := .bool true) [] (by kernel_rfl) rfl (by kernel_rfl) (by kernel_rfl) (by kernel_rfl) (fun _ _ _ h => h) (Or.inl ⟨by rfl, ?_⟩) hH ?_
      · intro V hV; go_simp
      try simp only [Act.put, List.setIfInBounds_toArray, List.set_cons_zero, List.set_cons_succ, List.getElem_toArray, List.getElem_cons_succ, List.getElem_cons_zero]
      clear hH
      refine wpAnyN_one (i := 28) (by kernel_rfl) rfl (fun K hK => ?_)
      go_simp
      refine (knows15 w11).mono ?_
      rintro e w12 ⟨rfl, hb12⟩
      go_wp2_with fail
      refine hK.out _ _ (.inr (HB11.out.trans (hb12.mono HB11.out.size))) ?_
      clear hK K
      try simp only [Act.put, List.setIfInBounds_toArray, List.set_cons_zero, List.set_cons_succ, List.getElem_toArray, List.getElem_cons_succ, List.getElem_cons_zero]
      have HB12 := Lib.hid (HB11.out.trans (hb12.mono HB11.out.size))
      have hH := HB12.out
      clear hb12 HB11
      refine wpAnyN_take (i := 29) (v := .bool true) [] (by kernel_rfl) rfl (by kernel_rfl) (by kernel_rfl) (by kernel_rfl) (fun _ _ _ h => h) (Or.inl ⟨by rfl, ?_⟩) hH ?_
      · intro V hV; go_simp
      try simp only [Act.put, List.setIfInBounds_toArray, List.set_cons_zero, List.set_cons_succ, List.getElem_toArray, List.getElem_cons_succ, List.getElem_cons_zero]
      refine wpAnyN_take (i := 30) (v := .bool true) [] (by kernel_rfl) rfl (by kernel_rfl) (by kernel_rfl) (by kernel_rfl) (fun _ _ _ h => h) (Or.inl ⟨by rfl, ?_⟩) hH ?_
      · intro V hV; go_simp
      try simp only [Act.put, List.setIfInBounds_toArray, List.set_cons_zero, List.set_cons_succ, List.getElem_toArray, List.getElem_cons_succ, List.getElem_cons_zero]
      refine wpAnyN_done (by kernel_rfl) ?_ _
      have HEND := Lib.hid (HB9.out.trans (HB12.out.mono HB9.out.size))
      clear hH
      go_wp2_with fail
      go_ret
      exact ⟨rfl, HEND.out⟩
end Go.Proofs.Ythaebchmlicgaaa.Rec
