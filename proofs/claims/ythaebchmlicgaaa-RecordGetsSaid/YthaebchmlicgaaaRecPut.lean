/-
  The document's records (layer 15): Put. (Written by gen_recput.py.)
-/
import Derived.Test.YthaebchmlicgaaaRecMay
import Derived.Test.YthaebchmlicgaaaLexText
namespace Go.Proofs.Ythaebchmlicgaaa.Rec
open Go.RowKit
open Go.Proofs.Ythaebchmlicgaaa.Lex (Tx Owb rowB lit_one)
open Go.Proofs.Ythaebchmlicgaaa.Pack (num text Own)
set_option linter.unusedVariables false
set_option linter.unusedSimpArgs false

theorem n64_val {x : Int} (h0 : 0 ≤ x) (h : x < 9223372036854775808) : x = ((n64 x).toNat : Int) := by
  unfold n64
  rw [BitVec.toNat_ofInt]
  show x = (((x % (2 ^ 64 : Int)).toNat : Nat) : Int)
  omega
theorem byte_val {x : Int} (h0 : 0 ≤ x) (h : x < 256) : Value.int .u8 x = v8 ((n64 x).setWidth 8) := by
  have e := n64_val h0 (by omega)
  show _ = Value.int .u8 ((((n64 x).setWidth 8).toNat : Nat) : Int)
  rw [BitVec.toNat_setWidth]
  congr 1
  generalize (n64 x).toNat = y at e
  omega
def PutSays (w : World) (bs : List B) (e : Ending) (w' : World) : Prop := ∃ A c, e = .returned (.slice A bs.length c) ∧ Owb w' w.heap.size A bs.length c bs ∧ Below w.heap.size w w'
theorem put_end {w w1 w' : World} {A : Option Addr} {n c : Nat} {bs b : List B} (hb : bs = b) (ho : Owb w' w1.heap.size A n c b) (h1 : Below w.heap.size w w1) (h2 : Below w1.heap.size w1 w') : PutSays w bs (.returned (.slice A n c)) w' := by
  have hl := ho.len
  subst hb
  subst hl
  exact ⟨A, c, rfl, Own.base ho h1.size, h1.trans (h2.mono h1.size)⟩
theorem tx_bs {w : World} {K : Nat} {A : Option Addr} {t : List B} (h : Tx w K A t) (hB : K ≤ w.heap.size) : Bs w w.heap.size A t.length t := by
  rcases h with h | h
  · exact h.more hB
  · exact h.rd
theorem flat_take {vs : List Vt} {i : Nat} {v : Vt} (h : vs[i]? = some v) : (txt (vs.take (i + 1))).flatMap text = (txt (vs.take i)).flatMap text ++ text v.t := by
  unfold txt
  rw [List.take_add_one, h]
  simp
set_option maxRecDepth 100000 in
set_option maxHeartbeats 2000000 in
theorem put2 (w : World) (K : Nat) (v : Rv) (h : Rok w K v) (hK : K ≤ w.heap.size) (hm : may v.r = true) (hk : v.r.kind = 2) :
    Calls Try.prog 12 #[.agg v.cells.toArray] w (PutSays w (put v.r)) := by
  obtain ⟨w1, hw1⟩ : ∃ w1, w1 = w.alloc (.cells v.cells.toArray 34) := ⟨_, rfl⟩
  have hb1 : Below w.heap.size w w1 := by rw [hw1]; exact (Below.refl _ _).alloc (Nat.le_refl _) _
  have hc1 : Cel w1 w.heap.size 34 v.cells := by rw [hw1]; exact Cel.new w _ _
  have HR := Lib.hid (h.below hK hb1)
  have HK := Lib.hid (Nat.le_trans hK hb1.size)
  have hml := h.ml
  have hvl := h.vl
  obtain ⟨_, hv1, hs1, ht1⟩ := may2 hm hk
  obtain ⟨bs, hbs⟩ : ∃ bs, bs = put v.r := ⟨_, rfl⟩
  rw [← hbs]
  have HB := Lib.hid hb1
  have HC := Lib.hid hc1
  have HW := Lib.hid hw1.symm
  clear hb1 hc1 hw1 h hm hK
  obtain ⟨⟨k, ⟨s1, s2, s3, s4, vars⟩, vi, st, tr, dst, of, va, vl⟩, AL, cL, vs, AV, cV⟩ := v
  unfold Rv.cells at HC HW ⊢
  dsimp only at *
  subst hk
  have HBS := Lib.hid (show bs = [2#8] ++ num 2 (n64 vi) ++ [(n64 st).setWidth 8, (n64 tr).setWidth 8] by
    rw [hbs]; unfold put; rw [if_neg (by simp), if_pos rfl]; rfl)
  clear hbs
  go_enter Try.func12, Try.ntmps12
  go_upto_region 1 with fail
  rw [HW.out]
  have c0 := HC.out.cell 0
  go_upto_region 2 with fail
  obtain ⟨W1, hw2⟩ : ∃ w2, w2 = w1.alloc (.cells #[.int .u8 2] 5) := ⟨_, rfl⟩
  obtain ⟨A1, hA1⟩ : ∃ A, A = some (⟨w1.heap.size, 0, none⟩ : Addr) := ⟨_, rfl⟩
  have HO1 := Lib.hid (show Owb W1 w1.heap.size A1 1 1 [2#8] from by rw [hw2, hA1]; exact World.ownsRow_lit w1 #[.int .u8 2] 1 (Nat.le_refl _) (by decide) rfl)
  have HB1 := Lib.hid (show Below w1.heap.size w1 W1 from by rw [hw2]; exact (Below.refl _ _).alloc (Nat.le_refl _) _)
  rw [← hw2, ← hA1]
  clear c0 hw2 hA1
  obtain ⟨k1, hk1⟩ : ∃ k1 : Nat, k1 = 1 := ⟨_, rfl⟩
  have HC1 := Lib.hid (HC.out.below HB1.out HC.out.lt)
  have c0 := HC1.out.cell 0
  go_upto_region 19 with fail
  clear c0
  have c6 := HC1.out.cell 6
  go_upto_region 20 with (first | (go_at_call 24; refine (Pack.refNumber_at (n64 vi) 2 (by decide) _ _ (n64_val (by omega) (by omega)) rfl _).mono ?_; rintro e V1 ⟨N1, m1, rfl, ho1, hb1⟩; have HN1 := Lib.hid ho1; have HV1 := Lib.hid hb1; clear ho1 hb1) | (at_builtin; refine wpList_append_bs _ rfl _ _ 25 rfl w1.heap.size 5 rowB (.slice A1 1 1) (1) ([2#8]) rfl (HO1.out.below HV1.out) _ N1 2 m1 (num 2 (n64 vi)) rfl (Bs.of_own HN1.out rfl) (1 + 2) ([2#8] ++ num 2 (n64 vi)) (by omega) rfl (by omega) (Nat.le_trans HB1.out.size HV1.out.size) ?_; intro A2 k2 W2 o2 g2 _))
  clear c6
  have HB2 := Lib.hid (HB1.out.trans ((HV1.out.mono HB1.out.size).trans ((HO1.out.below HV1.out).grew g2 (Nat.le_trans HB1.out.size HV1.out.size))))
  have HO2 := Lib.hid (show Owb W2 w1.heap.size A2 (1 + 2) k2 ([2#8] ++ num 2 (n64 vi)) from o2)
  have HC2 := Lib.hid (HC.out.below HB2.out HC.out.lt)
  clear o2 g2
  have c7 := HC2.out.cell 7
  have c8 := HC2.out.cell 8
  go_wp2_with (at_builtin; refine wpList_append_bs _ rfl _ _ 25 rfl w1.heap.size 5 rowB (.slice A2 (1 + 2) k2) (1 + 2) ([2#8] ++ num 2 (n64 vi)) rfl (HO2.out.alloc _) (W2.heap.size + 1) _ 2 _ [(n64 (st)).setWidth 8, (n64 (tr)).setWidth 8] rfl (Bs.lit W2 _ _ _ _ (by show [Value.int .u8 (st), Value.int .u8 (tr)] = [v8 ((n64 (st)).setWidth 8), v8 ((n64 (tr)).setWidth 8)]; rw [byte_val (x := st) (by omega) (by omega), byte_val (x := tr) (by omega) (by omega)]) 2 rfl) (1 + 2 + 2) ([2#8] ++ num 2 (n64 vi) ++ [(n64 (st)).setWidth 8, (n64 (tr)).setWidth 8]) (by omega) rfl (by omega) (Nat.le_trans HB2.out.size (by simp)) ?_; intro A3 k3 W3 o3 g3 _)
  clear c7 c8
  have HB3 := Lib.hid (HB2.out.trans (((Below.refl _ _).alloc HB2.out.size _).trans (Owb.grew (World.ownsRow.alloc HO2.out _) g3 (Nat.le_trans HB2.out.size (by simp)))))
  have HO3 := Lib.hid (show Owb W3 w1.heap.size A3 (1 + 2 + 2) k3 ([2#8] ++ num 2 (n64 vi) ++ [(n64 (st)).setWidth 8, (n64 (tr)).setWidth 8]) from o3)
  have HC3 := Lib.hid (HC.out.below HB3.out HC.out.lt)
  clear o3 g3
  go_wp2_with fail
  go_ret
  exact put_end HBS.out HO3.out HB.out HB3.out
set_option maxRecDepth 100000 in
set_option maxHeartbeats 2000000 in
theorem put3 (w : World) (K : Nat) (v : Rv) (h : Rok w K v) (hK : K ≤ w.heap.size) (hm : may v.r = true) (hk : v.r.kind = 3) :
    Calls Try.prog 12 #[.agg v.cells.toArray] w (PutSays w (put v.r)) := by
  obtain ⟨w1, hw1⟩ : ∃ w1, w1 = w.alloc (.cells v.cells.toArray 34) := ⟨_, rfl⟩
  have hb1 : Below w.heap.size w w1 := by rw [hw1]; exact (Below.refl _ _).alloc (Nat.le_refl _) _
  have hc1 : Cel w1 w.heap.size 34 v.cells := by rw [hw1]; exact Cel.new w _ _
  have HR := Lib.hid (h.below hK hb1)
  have HK := Lib.hid (Nat.le_trans hK hb1.size)
  have hml := h.ml
  have hvl := h.vl
  obtain ⟨_, hv1, ht1, ho1, ha1, hl1⟩ := may3 hm hk
  obtain ⟨bs, hbs⟩ : ∃ bs, bs = put v.r := ⟨_, rfl⟩
  rw [← hbs]
  have HB := Lib.hid hb1
  have HC := Lib.hid hc1
  have HW := Lib.hid hw1.symm
  clear hb1 hc1 hw1 h hm hK
  obtain ⟨⟨k, ⟨s1, s2, s3, s4, vars⟩, vi, st, tr, dst, of, va, vl⟩, AL, cL, vs, AV, cV⟩ := v
  unfold Rv.cells at HC HW ⊢
  dsimp only at *
  subst hk
  have HBS := Lib.hid (show bs = [3#8] ++ num 2 (n64 vi) ++ [(n64 (dst + 3)).setWidth 8] ++ num 4 (n64 of) ++ [(n64 (va + 1)).setWidth 8] ++ text vl by
    rw [hbs]; unfold put; rw [if_neg (by simp), if_neg (by simp)]; rfl)
  clear hbs
  go_enter Try.func12, Try.ntmps12
  go_upto_region 1 with fail
  rw [HW.out]
  have c0 := HC.out.cell 0
  go_upto_region 2 with fail
  obtain ⟨W1, hw2⟩ : ∃ w2, w2 = w1.alloc (.cells #[.int .u8 3] 5) := ⟨_, rfl⟩
  obtain ⟨A1, hA1⟩ : ∃ A, A = some (⟨w1.heap.size, 0, none⟩ : Addr) := ⟨_, rfl⟩
  have HO1 := Lib.hid (show Owb W1 w1.heap.size A1 1 1 [3#8] from by rw [hw2, hA1]; exact World.ownsRow_lit w1 #[.int .u8 3] 1 (Nat.le_refl _) (by decide) rfl)
  have HB1 := Lib.hid (show Below w1.heap.size w1 W1 from by rw [hw2]; exact (Below.refl _ _).alloc (Nat.le_refl _) _)
  rw [← hw2, ← hA1]
  clear c0 hw2 hA1
  obtain ⟨k1, hk1⟩ : ∃ k1 : Nat, k1 = 1 := ⟨_, rfl⟩
  have HC1 := Lib.hid (HC.out.below HB1.out HC.out.lt)
  have c0 := HC1.out.cell 0
  go_upto_region 3 with fail
  clear c0
  have c6 := HC1.out.cell 6
  go_upto_region 4 with (first | (go_at_call 24; refine (Pack.refNumber_at (n64 vi) 2 (by decide) _ _ (n64_val (by omega) (by omega)) rfl _).mono ?_; rintro e V1 ⟨N1, m1, rfl, ho1, hb1⟩; have HN1 := Lib.hid ho1; have HV1 := Lib.hid hb1; clear ho1 hb1) | (at_builtin; refine wpList_append_bs _ rfl _ _ 25 rfl w1.heap.size 5 rowB (.slice A1 1 1) (1) ([3#8]) rfl (HO1.out.below HV1.out) _ N1 2 m1 (num 2 (n64 vi)) rfl (Bs.of_own HN1.out rfl) (1 + 2) ([3#8] ++ num 2 (n64 vi)) (by omega) rfl (by omega) (Nat.le_trans HB1.out.size HV1.out.size) ?_; intro A2 k2 W2 o2 g2 _))
  clear c6
  have HB2 := Lib.hid (HB1.out.trans ((HV1.out.mono HB1.out.size).trans ((HO1.out.below HV1.out).grew g2 (Nat.le_trans HB1.out.size HV1.out.size))))
  have HO2 := Lib.hid (show Owb W2 w1.heap.size A2 (1 + 2) k2 ([3#8] ++ num 2 (n64 vi)) from o2)
  have HC2 := Lib.hid (HC.out.below HB2.out HC.out.lt)
  clear o2 g2
  have c9 := HC2.out.cell 9
  go_upto_region 5 with (at_builtin; refine wpList_append_bs _ rfl _ _ 25 rfl w1.heap.size 5 rowB (.slice A2 (1 + 2) k2) (1 + 2) ([3#8] ++ num 2 (n64 vi)) rfl (HO2.out.alloc _) (W2.heap.size + 1) _ 1 _ [(n64 (dst + 3)).setWidth 8] rfl (Bs.lit W2 _ _ _ _ (by show [Value.int .u8 (dst + 3)] = [v8 ((n64 (dst + 3)).setWidth 8)]; rw [byte_val (x := dst + 3) (by omega) (by omega)]) 1 rfl) (1 + 2 + 1) ([3#8] ++ num 2 (n64 vi) ++ [(n64 (dst + 3)).setWidth 8]) (by omega) rfl (by omega) (Nat.le_trans HB2.out.size (by simp)) ?_; intro A3 k3 W3 o3 g3 _)
  clear c9
  have HB3 := Lib.hid (HB2.out.trans (((Below.refl _ _).alloc HB2.out.size _).trans (Owb.grew (World.ownsRow.alloc HO2.out _) g3 (Nat.le_trans HB2.out.size (by simp)))))
  have HO3 := Lib.hid (show Owb W3 w1.heap.size A3 (1 + 2 + 1) k3 ([3#8] ++ num 2 (n64 vi) ++ [(n64 (dst + 3)).setWidth 8]) from o3)
  have HC3 := Lib.hid (HC.out.below HB3.out HC.out.lt)
  clear o3 g3
  have c10 := HC3.out.cell 10
  go_upto_region 6 with (first | (go_at_call 24; refine (Pack.refNumber_at (n64 of) 4 (by decide) _ _ (n64_val (by omega) (by omega)) rfl _).mono ?_; rintro e V3 ⟨N3, m3, rfl, ho3, hb3⟩; have HN3 := Lib.hid ho3; have HV3 := Lib.hid hb3; clear ho3 hb3) | (at_builtin; refine wpList_append_bs _ rfl _ _ 25 rfl w1.heap.size 5 rowB (.slice A3 (1 + 2 + 1) k3) (1 + 2 + 1) ([3#8] ++ num 2 (n64 vi) ++ [(n64 (dst + 3)).setWidth 8]) rfl (HO3.out.below HV3.out) _ N3 4 m3 (num 4 (n64 of)) rfl (Bs.of_own HN3.out rfl) (1 + 2 + 1 + 4) ([3#8] ++ num 2 (n64 vi) ++ [(n64 (dst + 3)).setWidth 8] ++ num 4 (n64 of)) (by omega) rfl (by omega) (Nat.le_trans HB3.out.size HV3.out.size) ?_; intro A4 k4 W4 o4 g4 _))
  clear c10
  have HB4 := Lib.hid (HB3.out.trans ((HV3.out.mono HB3.out.size).trans ((HO3.out.below HV3.out).grew g4 (Nat.le_trans HB3.out.size HV3.out.size))))
  have HO4 := Lib.hid (show Owb W4 w1.heap.size A4 (1 + 2 + 1 + 4) k4 ([3#8] ++ num 2 (n64 vi) ++ [(n64 (dst + 3)).setWidth 8] ++ num 4 (n64 of)) from o4)
  have HC4 := Lib.hid (HC.out.below HB4.out HC.out.lt)
  clear o4 g4
  have c11 := HC4.out.cell 11
  go_upto_region 7 with (at_builtin; refine wpList_append_bs _ rfl _ _ 25 rfl w1.heap.size 5 rowB (.slice A4 (1 + 2 + 1 + 4) k4) (1 + 2 + 1 + 4) ([3#8] ++ num 2 (n64 vi) ++ [(n64 (dst + 3)).setWidth 8] ++ num 4 (n64 of)) rfl (HO4.out.alloc _) (W4.heap.size + 1) _ 1 _ [(n64 (va + 1)).setWidth 8] rfl (Bs.lit W4 _ _ _ _ (by show [Value.int .u8 (va + 1)] = [v8 ((n64 (va + 1)).setWidth 8)]; rw [byte_val (x := va + 1) (by omega) (by omega)]) 1 rfl) (1 + 2 + 1 + 4 + 1) ([3#8] ++ num 2 (n64 vi) ++ [(n64 (dst + 3)).setWidth 8] ++ num 4 (n64 of) ++ [(n64 (va + 1)).setWidth 8]) (by omega) rfl (by omega) (Nat.le_trans HB4.out.size (by simp)) ?_; intro A5 k5 W5 o5 g5 _)
  clear c11
  have HB5 := Lib.hid (HB4.out.trans (((Below.refl _ _).alloc HB4.out.size _).trans (Owb.grew (World.ownsRow.alloc HO4.out _) g5 (Nat.le_trans HB4.out.size (by simp)))))
  have HO5 := Lib.hid (show Owb W5 w1.heap.size A5 (1 + 2 + 1 + 4 + 1) k5 ([3#8] ++ num 2 (n64 vi) ++ [(n64 (dst + 3)).setWidth 8] ++ num 4 (n64 of) ++ [(n64 (va + 1)).setWidth 8]) from o5)
  have HC5 := Lib.hid (HC.out.below HB5.out HC.out.lt)
  clear o5 g5
  have c12 := HC5.out.cell 12
  have HT5 := Lib.hid (tx_bs (HR.out.val.below HK.out HB5.out) (Nat.le_trans HK.out HB5.out.size))
  go_upto_region 21 with (first | (go_at_call 25; refine (Pack.refText W5.heap.size AV vl.length cV vl _ HT5.out (Nat.le_refl _) (by omega)).mono ?_; rintro e V5 ⟨N5, m5, rfl, ho5, hb5⟩; have HN5 := Lib.hid ho5; have HV5 := Lib.hid hb5; clear ho5 hb5) | (at_builtin; refine wpList_append_bs _ rfl _ _ 25 rfl w1.heap.size 5 rowB (.slice A5 (1 + 2 + 1 + 4 + 1) k5) (1 + 2 + 1 + 4 + 1) ([3#8] ++ num 2 (n64 vi) ++ [(n64 (dst + 3)).setWidth 8] ++ num 4 (n64 of) ++ [(n64 (va + 1)).setWidth 8]) rfl (HO5.out.below HV5.out) _ N5 (2 + vl.length) m5 (text vl) rfl (Bs.of_own HN5.out rfl) (1 + 2 + 1 + 4 + 1 + (2 + vl.length)) ([3#8] ++ num 2 (n64 vi) ++ [(n64 (dst + 3)).setWidth 8] ++ num 4 (n64 of) ++ [(n64 (va + 1)).setWidth 8] ++ text vl) (by omega) rfl (by omega) (Nat.le_trans HB5.out.size HV5.out.size) ?_; intro A6 k6 W6 o6 g6 _))
  clear c12
  have HB6 := Lib.hid (HB5.out.trans ((HV5.out.mono HB5.out.size).trans ((HO5.out.below HV5.out).grew g6 (Nat.le_trans HB5.out.size HV5.out.size))))
  have HO6 := Lib.hid (show Owb W6 w1.heap.size A6 (1 + 2 + 1 + 4 + 1 + (2 + vl.length)) k6 ([3#8] ++ num 2 (n64 vi) ++ [(n64 (dst + 3)).setWidth 8] ++ num 4 (n64 of) ++ [(n64 (va + 1)).setWidth 8] ++ text vl) from o6)
  have HC6 := Lib.hid (HC.out.below HB6.out HC.out.lt)
  clear o6 g6
  go_wp2_with fail
  go_ret
  exact put_end HBS.out HO6.out HB.out HB6.out
set_option maxRecDepth 100000 in
set_option maxHeartbeats 2000000 in
theorem put1 (w : World) (K : Nat) (v : Rv) (h : Rok w K v) (hK : K ≤ w.heap.size) (hm : may v.r = true) (hk : v.r.kind = 1) :
    Calls Try.prog 12 #[.agg v.cells.toArray] w (PutSays w (put v.r)) := by
  obtain ⟨w1, hw1⟩ : ∃ w1, w1 = w.alloc (.cells v.cells.toArray 34) := ⟨_, rfl⟩
  have hb1 : Below w.heap.size w w1 := by rw [hw1]; exact (Below.refl _ _).alloc (Nat.le_refl _) _
  have hc1 : Cel w1 w.heap.size 34 v.cells := by rw [hw1]; exact Cel.new w _ _
  have HR := Lib.hid (h.below hK hb1)
  have HK := Lib.hid (Nat.le_trans hK hb1.size)
  have hml := h.ml
  have hvl := h.vl
  obtain ⟨_, ht1, hv1, hr1, ho1, hx1, hl1⟩ := may1 hm hk
  obtain ⟨bs, hbs⟩ : ∃ bs, bs = put v.r := ⟨_, rfl⟩
  rw [← hbs]
  have HB := Lib.hid hb1
  have HC := Lib.hid hc1
  have HW := Lib.hid hw1.symm
  clear hb1 hc1 hw1 h hm hK
  obtain ⟨⟨k, ⟨s1, s2, s3, s4, vars⟩, vi, st, tr, dst, of, va, vl⟩, AL, cL, vs, AV, cV⟩ := v
  unfold Rv.cells at HC HW ⊢
  dsimp only at *
  subst hk
  have hln : vars.length = vs.length := by have e := HR.out.eq; dsimp only at e; rw [e]; unfold txt; rw [List.length_map]
  have HBS := Lib.hid (show bs = [1#8] ++ [(n64 (s1 + 3)).setWidth 8] ++ num 2 (n64 s2) ++ [(n64 s3).setWidth 8] ++ num 4 (n64 s4) ++ [(n64 vs.length).setWidth 8] ++ vars.flatMap text by
    rw [hbs]; unfold put; rw [if_pos rfl]; dsimp only; rw [hln]; rfl)
  have HX := Lib.hid hx1
  rw [hln] at hl1
  clear hx1 hln
  clear hbs
  go_enter Try.func12, Try.ntmps12
  go_upto_region 1 with fail
  rw [HW.out]
  have c0 := HC.out.cell 0
  go_upto_region 2 with fail
  obtain ⟨W1, hw2⟩ : ∃ w2, w2 = w1.alloc (.cells #[.int .u8 1] 5) := ⟨_, rfl⟩
  obtain ⟨A1, hA1⟩ : ∃ A, A = some (⟨w1.heap.size, 0, none⟩ : Addr) := ⟨_, rfl⟩
  have HO1 := Lib.hid (show Owb W1 w1.heap.size A1 1 1 [1#8] from by rw [hw2, hA1]; exact World.ownsRow_lit w1 #[.int .u8 1] 1 (Nat.le_refl _) (by decide) rfl)
  have HB1 := Lib.hid (show Below w1.heap.size w1 W1 from by rw [hw2]; exact (Below.refl _ _).alloc (Nat.le_refl _) _)
  rw [← hw2, ← hA1]
  clear c0 hw2 hA1
  obtain ⟨k1, hk1⟩ : ∃ k1 : Nat, k1 = 1 := ⟨_, rfl⟩
  have HC1 := Lib.hid (HC.out.below HB1.out HC.out.lt)
  have c0 := HC1.out.cell 0
  go_upto_region 9 with fail
  clear c0
  have c1 := HC1.out.cell 1
  go_upto_region 10 with (at_builtin; refine wpList_append_bs _ rfl _ _ 25 rfl w1.heap.size 5 rowB (.slice A1 1 1) (1) ([1#8]) rfl (HO1.out.alloc _) (W1.heap.size + 1) _ 1 _ [(n64 (s1 + 3)).setWidth 8] rfl (Bs.lit W1 _ _ _ _ (by show [Value.int .u8 (s1 + 3)] = [v8 ((n64 (s1 + 3)).setWidth 8)]; rw [byte_val (x := s1 + 3) (by omega) (by omega)]) 1 rfl) (1 + 1) ([1#8] ++ [(n64 (s1 + 3)).setWidth 8]) (by omega) rfl (by omega) (Nat.le_trans HB1.out.size (by simp)) ?_; intro A2 k2 W2 o2 g2 _)
  clear c1
  have HB2 := Lib.hid (HB1.out.trans (((Below.refl _ _).alloc HB1.out.size _).trans (Owb.grew (World.ownsRow.alloc HO1.out _) g2 (Nat.le_trans HB1.out.size (by simp)))))
  have HO2 := Lib.hid (show Owb W2 w1.heap.size A2 (1 + 1) k2 ([1#8] ++ [(n64 (s1 + 3)).setWidth 8]) from o2)
  have HC2 := Lib.hid (HC.out.below HB2.out HC.out.lt)
  clear o2 g2
  have c2 := HC2.out.cell 2
  go_upto_region 11 with (first | (go_at_call 24; refine (Pack.refNumber_at (n64 s2) 2 (by decide) _ _ (n64_val (by omega) (by omega)) rfl _).mono ?_; rintro e V2 ⟨N2, m2, rfl, ho2, hb2⟩; have HN2 := Lib.hid ho2; have HV2 := Lib.hid hb2; clear ho2 hb2) | (at_builtin; refine wpList_append_bs _ rfl _ _ 25 rfl w1.heap.size 5 rowB (.slice A2 (1 + 1) k2) (1 + 1) ([1#8] ++ [(n64 (s1 + 3)).setWidth 8]) rfl (HO2.out.below HV2.out) _ N2 2 m2 (num 2 (n64 s2)) rfl (Bs.of_own HN2.out rfl) (1 + 1 + 2) ([1#8] ++ [(n64 (s1 + 3)).setWidth 8] ++ num 2 (n64 s2)) (by omega) rfl (by omega) (Nat.le_trans HB2.out.size HV2.out.size) ?_; intro A3 k3 W3 o3 g3 _))
  clear c2
  have HB3 := Lib.hid (HB2.out.trans ((HV2.out.mono HB2.out.size).trans ((HO2.out.below HV2.out).grew g3 (Nat.le_trans HB2.out.size HV2.out.size))))
  have HO3 := Lib.hid (show Owb W3 w1.heap.size A3 (1 + 1 + 2) k3 ([1#8] ++ [(n64 (s1 + 3)).setWidth 8] ++ num 2 (n64 s2)) from o3)
  have HC3 := Lib.hid (HC.out.below HB3.out HC.out.lt)
  clear o3 g3
  have c3 := HC3.out.cell 3
  go_upto_region 12 with (at_builtin; refine wpList_append_bs _ rfl _ _ 25 rfl w1.heap.size 5 rowB (.slice A3 (1 + 1 + 2) k3) (1 + 1 + 2) ([1#8] ++ [(n64 (s1 + 3)).setWidth 8] ++ num 2 (n64 s2)) rfl (HO3.out.alloc _) (W3.heap.size + 1) _ 1 _ [(n64 (s3)).setWidth 8] rfl (Bs.lit W3 _ _ _ _ (by show [Value.int .u8 (s3)] = [v8 ((n64 (s3)).setWidth 8)]; rw [byte_val (x := s3) (by omega) (by omega)]) 1 rfl) (1 + 1 + 2 + 1) ([1#8] ++ [(n64 (s1 + 3)).setWidth 8] ++ num 2 (n64 s2) ++ [(n64 (s3)).setWidth 8]) (by omega) rfl (by omega) (Nat.le_trans HB3.out.size (by simp)) ?_; intro A4 k4 W4 o4 g4 _)
  clear c3
  have HB4 := Lib.hid (HB3.out.trans (((Below.refl _ _).alloc HB3.out.size _).trans (Owb.grew (World.ownsRow.alloc HO3.out _) g4 (Nat.le_trans HB3.out.size (by simp)))))
  have HO4 := Lib.hid (show Owb W4 w1.heap.size A4 (1 + 1 + 2 + 1) k4 ([1#8] ++ [(n64 (s1 + 3)).setWidth 8] ++ num 2 (n64 s2) ++ [(n64 (s3)).setWidth 8]) from o4)
  have HC4 := Lib.hid (HC.out.below HB4.out HC.out.lt)
  clear o4 g4
  have c4 := HC4.out.cell 4
  go_upto_region 13 with (first | (go_at_call 24; refine (Pack.refNumber_at (n64 s4) 4 (by decide) _ _ (n64_val (by omega) (by omega)) rfl _).mono ?_; rintro e V4 ⟨N4, m4, rfl, ho4, hb4⟩; have HN4 := Lib.hid ho4; have HV4 := Lib.hid hb4; clear ho4 hb4) | (at_builtin; refine wpList_append_bs _ rfl _ _ 25 rfl w1.heap.size 5 rowB (.slice A4 (1 + 1 + 2 + 1) k4) (1 + 1 + 2 + 1) ([1#8] ++ [(n64 (s1 + 3)).setWidth 8] ++ num 2 (n64 s2) ++ [(n64 (s3)).setWidth 8]) rfl (HO4.out.below HV4.out) _ N4 4 m4 (num 4 (n64 s4)) rfl (Bs.of_own HN4.out rfl) (1 + 1 + 2 + 1 + 4) ([1#8] ++ [(n64 (s1 + 3)).setWidth 8] ++ num 2 (n64 s2) ++ [(n64 (s3)).setWidth 8] ++ num 4 (n64 s4)) (by omega) rfl (by omega) (Nat.le_trans HB4.out.size HV4.out.size) ?_; intro A5 k5 W5 o5 g5 _))
  clear c4
  have HB5 := Lib.hid (HB4.out.trans ((HV4.out.mono HB4.out.size).trans ((HO4.out.below HV4.out).grew g5 (Nat.le_trans HB4.out.size HV4.out.size))))
  have HO5 := Lib.hid (show Owb W5 w1.heap.size A5 (1 + 1 + 2 + 1 + 4) k5 ([1#8] ++ [(n64 (s1 + 3)).setWidth 8] ++ num 2 (n64 s2) ++ [(n64 (s3)).setWidth 8] ++ num 4 (n64 s4)) from o5)
  have HC5 := Lib.hid (HC.out.below HB5.out HC.out.lt)
  clear o5 g5
  have c5 := HC5.out.cell 5
  go_upto_region 14 with (at_builtin; refine wpList_append_bs _ rfl _ _ 25 rfl w1.heap.size 5 rowB (.slice A5 (1 + 1 + 2 + 1 + 4) k5) (1 + 1 + 2 + 1 + 4) ([1#8] ++ [(n64 (s1 + 3)).setWidth 8] ++ num 2 (n64 s2) ++ [(n64 (s3)).setWidth 8] ++ num 4 (n64 s4)) rfl (HO5.out.alloc _) (W5.heap.size + 1) _ 1 _ [(n64 ((vs.length : Int))).setWidth 8] rfl (Bs.lit W5 _ _ _ _ (by show [Value.int .u8 ((vs.length : Int))] = [v8 ((n64 ((vs.length : Int))).setWidth 8)]; rw [byte_val (x := (vs.length : Int)) (by omega) (by omega)]) 1 rfl) (1 + 1 + 2 + 1 + 4 + 1) ([1#8] ++ [(n64 (s1 + 3)).setWidth 8] ++ num 2 (n64 s2) ++ [(n64 (s3)).setWidth 8] ++ num 4 (n64 s4) ++ [(n64 ((vs.length : Int))).setWidth 8]) (by omega) rfl (by omega) (Nat.le_trans HB5.out.size (by simp)) ?_; intro A6 k6 W6 o6 g6 _)
  clear c5
  have HB6 := Lib.hid (HB5.out.trans (((Below.refl _ _).alloc HB5.out.size _).trans (Owb.grew (World.ownsRow.alloc HO5.out _) g6 (Nat.le_trans HB5.out.size (by simp)))))
  have HO6 := Lib.hid (show Owb W6 w1.heap.size A6 (1 + 1 + 2 + 1 + 4 + 1) k6 ([1#8] ++ [(n64 (s1 + 3)).setWidth 8] ++ num 2 (n64 s2) ++ [(n64 (s3)).setWidth 8] ++ num 4 (n64 s4) ++ [(n64 ((vs.length : Int))).setWidth 8]) from o6)
  have HC6 := Lib.hid (HC.out.below HB6.out HC.out.lt)
  clear o6 g6
  obtain ⟨b0, hb0⟩ : ∃ b0, b0 = [1#8] ++ [(n64 (s1 + 3)).setWidth 8] ++ num 2 (n64 s2) ++ [(n64 (s3)).setWidth 8] ++ num 4 (n64 s4) ++ [(n64 ((vs.length : Int))).setWidth 8] := ⟨_, rfl⟩
  rw [← hb0] at HO6
  have HE0 := Lib.hid hb0
  clear hb0
  obtain ⟨N, hN⟩ : ∃ N, N = vs.length := ⟨_, rfl⟩
  have HN := Lib.hid hN
  clear hN
  have cN : ∀ W, Below w1.heap.size w1 W → W.cell? ⟨w.heap.size, 5, none⟩ = some (.slice AL N cL) := fun W h => by rw [HN.out]; exact (HC.out.below h HC.out.lt).cell 5
  have HCN := Lib.hid cN
  clear cN
  rw [← HN.out] at hl1
  go_wp2_with fail
  go_loopw [3, 4] (fun v3 v4 wr => ∃ (i : Nat) (A : Option Addr) (n k : Nat), i ≤ N ∧ v3 = .slice A n k ∧ v4 = .int .i64 (i : Int) ∧ n ≤ 10 + 102 * i ∧ Hid (Below w1.heap.size w1 wr) ∧ Hid (Owb wr w1.heap.size A n k (b0 ++ (txt (vs.take i)).flatMap text))) (fun _ v4 _ => N - (intOf v4).toNat)
  case atStart => exact ⟨0, A6, _, k6, Nat.zero_le _, rfl, rfl, by omega, HB6, Lib.hid (by rw [List.take_zero]; unfold txt; rw [List.map_nil, List.flatMap_nil, List.append_nil]; exact HO6.out)⟩
  case round =>
    obtain ⟨i, A, n, k, hi, rfl, rfl, hn, HBR, HOR⟩ := hrel
    obtain ⟨W, rfl⟩ : ∃ W, W = wr := ⟨_, rfl⟩
    have c5 := HCN.out W HBR.out
    rcases Nat.lt_or_ge i N with hlt | hge
    · obtain ⟨v, hv⟩ : ∃ v, vs[i]? = some v := ⟨_, List.getElem?_eq_getElem (by rw [← HN.out]; exact hlt)⟩
      have HRW := HR.out.below HK.out HBR.out
      have HKW := Nat.le_trans HK.out HBR.out.size
      obtain ⟨ad, rfl, k0⟩ := HRW.vs.cr i v hv
      change _ = some (Value.slice v.A v.t.length v.c) at k0
      have hvt : v.t.length ≤ 100 := HX.out _ (by have e := HRW.eq; dsimp only at e; rw [e]; exact List.mem_map.2 ⟨v, List.mem_of_getElem? hv, rfl⟩)
      have HT := Lib.hid (tx_bs (HRW.vs.tx v (List.mem_of_getElem? hv)).1 HKW)
      have HFL := Lib.hid (flat_take hv)
      clear hv HRW HKW
      obtain ⟨tl, htl⟩ : ∃ tl, tl = v.t.length := ⟨_, rfl⟩
      rw [← htl] at k0 hvt HT
      clear htl
      go_wp2_with (first | (go_at_call 25; refine (Pack.refText W.heap.size v.A tl v.c v.t _ HT.out (Nat.le_refl _) (by omega)).mono ?_; rintro e V ⟨N9, m9, rfl, ho9, hb9⟩; have HN9 := Lib.hid ho9; have HV9 := Lib.hid hb9; clear ho9 hb9) | (at_builtin; refine wpList_append_bs _ rfl _ _ 25 rfl w1.heap.size 5 rowB (.slice A n k) n (b0 ++ (txt (vs.take i)).flatMap text) rfl (HOR.out.below HV9.out) _ N9 (2 + tl) m9 (text v.t) rfl (Bs.of_own HN9.out rfl) (n + (2 + tl)) (b0 ++ (txt (vs.take i)).flatMap text ++ text v.t) rfl rfl (by omega) (Nat.le_trans HBR.out.size HV9.out.size) ?_; intro A8 k8 W8 o8 g8 _; have HO8 := Lib.hid (show Owb W8 w1.heap.size A8 (n + (2 + tl)) k8 (b0 ++ (txt (vs.take i)).flatMap text ++ text v.t) from o8); have HB8 := Lib.hid (HBR.out.trans ((HV9.out.mono HBR.out.size).trans ((HOR.out.below HV9.out).grew g8 (Nat.le_trans HBR.out.size HV9.out.size)))); clear o8 g8))
      exact ⟨⟨i + 1, A8, _, k8, by omega, rfl, by rw [show ((i + 1 : Nat) : Int) = (i : Int) + 1 by omega], by omega, HB8, Lib.hid (by rw [HFL.out, ← List.append_assoc]; exact HO8.out)⟩, by simp [intOf]; omega⟩
    · obtain rfl : i = N := by omega
      have HO9 := Lib.hid HOR.out
      rw [HN.out, List.take_length] at HO9
      go_wp2_with fail
      go_ret
      have e := HR.out.eq
      dsimp only at e
      exact put_end (by rw [HBS.out, HE0.out, e]) HO9.out HB.out HBR.out
end Go.Proofs.Ythaebchmlicgaaa.Rec
