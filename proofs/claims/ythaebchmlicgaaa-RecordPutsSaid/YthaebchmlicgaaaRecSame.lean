/-
  The document's records (layer 15): State and Same, of records that are alike.
-/
import Derived.Test.YthaebchmlicgaaaRecPut
namespace Go.Proofs.Ythaebchmlicgaaa.Rec
open Go.RowKit
open Go.Proofs.Ythaebchmlicgaaa.Lex (Tx)
set_option linter.unusedVariables false
set_option linter.unusedSimpArgs false

theorem rbelow_drew {K : Nat} {w w' : World} (h : Below K w w') (m : Nat) : Below K w (w'.drewN m) := ⟨h.os, h.tape, h.output, h.size, h.block⟩
theorem tx_str {w : World} {K : Nat} {A : Option Addr} {t : List B} (h : Tx w K A t) (hB : K ≤ w.heap.size) (c m : Nat) : (convert 25 9 (.slice A t.length c)).run Try.prog (w.drewN m) = .ok (.string (str t)) (w.drewN m) :=
  (Bs.bp ((tx_bs h hB).drewN m)).string c Try.underlying25 Try.underlying5 Try.underlying9
set_option maxRecDepth 100000 in
set_option maxHeartbeats 2000000 in
theorem state_ (w : World) (K : Nat) (s1 s2 s3 s4 : Int) (A A' : Option Addr) (n c c' : Nat) (vs vs' : List Vt) (h : Tvs w K A vs) (h' : Tvs w K A' vs') (hK : K ≤ w.heap.size) (hl : vs.length = n) (hn : n ≤ maxLen) (he : txt vs = txt vs') :
    Calls Try.prog 26 #[.agg #[.int .i64 s1, .int .i64 s2, .int .i64 s3, .int .i64 s4, .slice A n c], .agg #[.int .i64 s1, .int .i64 s2, .int .i64 s3, .int .i64 s4, .slice A' n c']] w fun e w' => e = .returned (.bool true) ∧ Below w.heap.size w w' := by
  unfold maxLen at hn
  obtain ⟨u1, hu1⟩ : ∃ u1, u1 = w.alloc (.cells #[.int .i64 s1, .int .i64 s2, .int .i64 s3, .int .i64 s4, .slice A n c] 24) := ⟨_, rfl⟩
  obtain ⟨w1, hw1⟩ : ∃ w1, w1 = u1.alloc (.cells #[.int .i64 s1, .int .i64 s2, .int .i64 s3, .int .i64 s4, .slice A' n c'] 24) := ⟨_, rfl⟩
  have hs1 : u1.heap.size = w.heap.size + 1 := by rw [hu1]; simp
  have hb1 : Below w.heap.size w u1 := by rw [hu1]; exact (Below.refl _ _).alloc (Nat.le_refl _) _
  have hb2 : Below u1.heap.size u1 w1 := by rw [hw1]; exact (Below.refl _ _).alloc (Nat.le_refl _) _
  have hx : Cel u1 w.heap.size 24 [.int .i64 s1, .int .i64 s2, .int .i64 s3, .int .i64 s4, .slice A n c] := by rw [hu1]; exact Cel.new w _ _
  have HX := Lib.hid (hx.below hb2 hx.lt)
  have HY : Hid (Cel w1 (w.heap.size + 1) 24 [.int .i64 s1, .int .i64 s2, .int .i64 s3, .int .i64 s4, .slice A' n c']) := Lib.hid (by rw [hw1, ← hs1]; exact Cel.new u1 _ _)
  have HB := Lib.hid (hb1.trans (hb2.mono hb1.size))
  have H := Lib.hid (h.below hK HB.out)
  have H' := Lib.hid (h'.below hK HB.out)
  have HK := Lib.hid (Nat.le_trans hK HB.out.size)
  have HL := Lib.hid hl
  have HE := Lib.hid he
  rw [hu1] at hw1
  clear h h' hl he hu1 hs1 hb1 hb2 hx
  have e1 : (s1 != s1) = false := by simp
  have e2 : (s2 != s2) = false := by simp
  have e3 : (s3 != s3) = false := by simp
  have e4 : (s4 != s4) = false := by simp
  have e5 : ((n : Int) != (n : Int)) = false := by simp
  go_enter Try.func26, Try.ntmps26
  go_upto_region 1 with fail
  rw [← hw1]
  clear hw1
  have x0 := HX.out.cell 0
  have x1 := HX.out.cell 1
  have x2 := HX.out.cell 2
  have x3 := HX.out.cell 3
  have x4 := HX.out.cell 4
  have y0 := HY.out.cell 0
  have y1 := HY.out.cell 1
  have y2 := HY.out.cell 2
  have y3 := HY.out.cell 3
  have y4 := HY.out.cell 4
  go_wp2_with fail
  clear x0 x1 x2 x3 x4 y0 y1 y2 y3 y4 e1 e2 e3 e4 e5
  go_loopw [5] (fun v5 wr => ∃ (i : Nat), i ≤ n ∧ v5 = .int .i64 (i : Int) ∧ Below w1.heap.size w1 wr) (fun v5 _ => n - (intOf v5).toNat)
  case atStart => exact ⟨0, Nat.zero_le _, rfl, Below.refl _ _⟩
  case round =>
    obtain ⟨i, hi, rfl, hb⟩ := hrel
    obtain ⟨W, rfl⟩ : ∃ W, W = wr := ⟨_, rfl⟩
    have x4 := (HX.out.below hb HX.out.lt).cell 4
    have y4 := (HY.out.below hb HY.out.lt).cell 4
    have HBW := Lib.hid hb
    rcases Nat.lt_or_ge i n with hlt | hge
    · obtain ⟨u, hu⟩ : ∃ u, vs[i]? = some u := ⟨_, List.getElem?_eq_getElem (by rw [HL.out]; exact hlt)⟩
      have hlv : vs'.length = n := by have := congrArg List.length HE.out; unfold txt at this; rw [List.length_map, List.length_map] at this; rw [← this]; exact HL.out
      obtain ⟨v, hv⟩ : ∃ v, vs'[i]? = some v := ⟨_, List.getElem?_eq_getElem (by omega)⟩
      have huv : u.t = v.t := by
        have q1 : (txt vs)[i]? = some u.t := by unfold txt; rw [List.getElem?_map, hu]; rfl
        rw [HE.out] at q1
        unfold txt at q1
        rw [List.getElem?_map, hv] at q1
        injection q1 with q1
        exact q1.symm
      have hU := H.out.below HK.out hb
      have hV := H'.out.below HK.out hb
      have hKW := Nat.le_trans HK.out hb.size
      obtain ⟨ad, rfl, k0⟩ := hU.cr i u hu
      obtain ⟨ad', rfl, j0⟩ := hV.cr i v hv
      have q1 := tx_str (hU.tx u (List.mem_of_getElem? hu)).1 hKW u.c
      have q2 := tx_str (hV.tx v (List.mem_of_getElem? hv)).1 hKW v.c
      obtain ⟨uA, uc, ut⟩ := u
      obtain ⟨vA, vc, vt⟩ := v
      dsimp only at huv
      subst huv
      change _ = some (Value.slice uA ut.length uc) at k0
      change _ = some (Value.slice vA ut.length vc) at j0
      dsimp only at q1 q2
      generalize hut : ut.length = ul at *
      generalize hstr : str ut = us at *
      clear hut hstr hu hv hlv hU hV hKW hb
      go_wp2_with fail
      go_quiet (fail)
      go_wp2_with fail
      exact ⟨⟨i + 1, by omega, by rw [show ((i + 1 : Nat) : Int) = (i : Int) + 1 by omega], rbelow_drew HBW.out nq⟩, by simp [intOf]; omega⟩
    · obtain rfl : i = n := by omega
      clear hb
      go_wp2_with fail
      go_ret
      exact ⟨rfl, HB.out.trans (HBW.out.mono HB.out.size)⟩
set_option maxRecDepth 100000 in
set_option maxHeartbeats 2000000 in
theorem same15 (w : World) (K : Nat) (v v' : Rv) (h : Rok w K v) (h' : Rok w K v') (hK : K ≤ w.heap.size) (he : v.r = v'.r) :
    Calls Try.prog 13 #[.agg v.cells.toArray, .agg v'.cells.toArray] w fun e w' => e = .returned (.bool true) ∧ Below w.heap.size w w' := by
  obtain ⟨u1, hu1⟩ : ∃ u1, u1 = w.alloc (.cells v.cells.toArray 34) := ⟨_, rfl⟩
  obtain ⟨w1, hw1⟩ : ∃ w1, w1 = u1.alloc (.cells v'.cells.toArray 34) := ⟨_, rfl⟩
  have hs1 : u1.heap.size = w.heap.size + 1 := by rw [hu1]; simp
  have hb1 : Below w.heap.size w u1 := by rw [hu1]; exact (Below.refl _ _).alloc (Nat.le_refl _) _
  have hb2 : Below u1.heap.size u1 w1 := by rw [hw1]; exact (Below.refl _ _).alloc (Nat.le_refl _) _
  have hx : Cel u1 w.heap.size 34 v.cells := by rw [hu1]; exact Cel.new w _ _
  have HX := Lib.hid (hx.below hb2 hx.lt)
  have HY : Hid (Cel w1 (w.heap.size + 1) 34 v'.cells) := Lib.hid (by rw [hw1, ← hs1]; exact Cel.new u1 _ _)
  have HB := Lib.hid (hb1.trans (hb2.mono hb1.size))
  have HK := Lib.hid (Nat.le_trans hK HB.out.size)
  have hr := h.below hK HB.out
  have hr' := h'.below hK HB.out
  obtain ⟨r, AL, cL, vs, AV, cV⟩ := v
  obtain ⟨r', AL', cL', vs', AV', cV'⟩ := v'
  dsimp only at he
  subst he
  obtain ⟨k, ⟨s1, s2, s3, s4, vars⟩, vi, st, tr, dst, of, va, vl⟩ := r
  have e1 := hr.eq
  have e2 := hr'.eq
  dsimp only at e1 e2
  have hlv : vs'.length = vs.length := by have := congrArg List.length (e1.symm.trans e2); unfold txt at this; rw [List.length_map, List.length_map] at this; exact this.symm
  have con := Lib.hid (state_ w1 K s1 s2 s3 s4 AL AL' vs.length cL cL' vs vs' hr.vs hr'.vs HK.out rfl hr.vl (e1.symm.trans e2))
  have HT := Lib.hid hr.val
  have HT' := Lib.hid hr'.val
  unfold Rv.cells at HX HY hw1 ⊢
  unfold Rv.cells at hu1
  dsimp only at *
  rw [hlv] at HY hw1
  rw [hlv]
  rw [hu1] at hw1
  clear hu1 hs1 hb1 hb2 hx hr hr' h h' e1 e2 hlv
  have b0 : (k == k) = true := by simp
  have b1 : (vi == vi) = true := by simp
  have b2 : (st == st) = true := by simp
  have b3 : (tr == tr) = true := by simp
  have b4 : (dst == dst) = true := by simp
  have b5 : (of == of) = true := by simp
  have b6 : (va == va) = true := by simp
  go_enter Try.func13, Try.ntmps13
  go_upto_region 1 with fail
  rw [← hw1]
  clear hw1
  have x0 := HX.out.cell 0
  have y0 := HY.out.cell 0
  have x1 := HX.out.cell 1
  have y1 := HY.out.cell 1
  have x2 := HX.out.cell 2
  have y2 := HY.out.cell 2
  have x3 := HX.out.cell 3
  have y3 := HY.out.cell 3
  have x4 := HX.out.cell 4
  have y4 := HY.out.cell 4
  have x5 := HX.out.cell 5
  have y5 := HY.out.cell 5
  have x6 := HX.out.cell 6
  have y6 := HY.out.cell 6
  have x7 := HX.out.cell 7
  have y7 := HY.out.cell 7
  have x8 := HX.out.cell 8
  have y8 := HY.out.cell 8
  have x9 := HX.out.cell 9
  have y9 := HY.out.cell 9
  have x10 := HX.out.cell 10
  have y10 := HY.out.cell 10
  have x11 := HX.out.cell 11
  have y11 := HY.out.cell 11
  have x12 := HX.out.cell 12
  have y12 := HY.out.cell 12
  go_wp2_with fail
  refine con.out.mono ?_
  rintro e w2 ⟨rfl, hb2⟩
  clear con x0 y0 x1 y1 x2 y2 x3 y3 x4 y4 x5 y5 x6 y6 x7 y7 x8 y8 x9 y9 x10 y10 x11 y11 x12 y12
  have HX2 := Lib.hid (HX.out.below hb2 HX.out.lt)
  have HY2 := Lib.hid (HY.out.below hb2 HY.out.lt)
  have q1 := tx_str (HT.out.below HK.out hb2) (Nat.le_trans HK.out hb2.size) cV 0
  have q2 := tx_str (HT'.out.below HK.out hb2) (Nat.le_trans HK.out hb2.size) cV' 0
  change (convert _ _ _).run _ w2 = .ok _ w2 at q1
  change (convert _ _ _).run _ w2 = .ok _ w2 at q2
  have HB2 := Lib.hid (HB.out.trans (hb2.mono HB.out.size))
  generalize hstr : str vl = us at *
  clear hb2 hstr
  have x0 := HX2.out.cell 0
  have y0 := HY2.out.cell 0
  have x1 := HX2.out.cell 1
  have y1 := HY2.out.cell 1
  have x2 := HX2.out.cell 2
  have y2 := HY2.out.cell 2
  have x3 := HX2.out.cell 3
  have y3 := HY2.out.cell 3
  have x4 := HX2.out.cell 4
  have y4 := HY2.out.cell 4
  have x5 := HX2.out.cell 5
  have y5 := HY2.out.cell 5
  have x6 := HX2.out.cell 6
  have y6 := HY2.out.cell 6
  have x7 := HX2.out.cell 7
  have y7 := HY2.out.cell 7
  have x8 := HX2.out.cell 8
  have y8 := HY2.out.cell 8
  have x9 := HX2.out.cell 9
  have y9 := HY2.out.cell 9
  have x10 := HX2.out.cell 10
  have y10 := HY2.out.cell 10
  have x11 := HX2.out.cell 11
  have y11 := HY2.out.cell 11
  have x12 := HX2.out.cell 12
  have y12 := HY2.out.cell 12
  go_wp2_with fail
  go_ret
  exact ⟨rfl, HB2.out⟩
end Go.Proofs.Ythaebchmlicgaaa.Rec
