/-
Texts: RecSame FoldPsays FoldPrun
-/
import Derived.Test.YtfmkkklcgiaacaaFA0
import Derived.Test.YtfmkkklcgiaacaaFA1
import Derived.Test.YtfmkkklcgiaacaaFA2
import Derived.Test.YtfmkkklcgiaacaaFA3
import Derived.Test.YtfmkkklcgiaacaaFA4
import Derived.Test.YtfmkkklcgiaacaaFA6
import Derived.Test.YtfmkkklcgiaacaaFA9
import Derived.Deep.MidRow
set_option linter.unusedVariables false
set_option linter.unusedSimpArgs false
set_option maxRecDepth 100000
set_option maxHeartbeats 4000000
section
namespace Go.Proofs.Ytfmkkklcgiaacaa.Rec
open Go.RowKit
open Lex (Tx)
theorem rbelow_drew {K : Nat} {w w' : World} (h : Below K w w') (m : Nat) : Below K w (w'.drewN m) := ⟨h.os, h.tape, h.output, h.size, h.block⟩
theorem tx_str {w : World} {K : Nat} {A : Option Addr} {t : List B} (h : Tx w K A t) (hB : K ≤ w.heap.size) (c m : Nat) : (convert 29 9 (.slice A t.length c)).run Try.prog (w.drewN m) = .ok (.string (str t)) (w.drewN m) :=
 (Bs.bp ((tx_bs h hB).drewN m)).string c Try.underlying29 Try.underlying5 Try.underlying9
theorem state_ (w : World) (K : Nat) (s1 s2 s3 s4 : Int) (A A' : Option Addr) (n c c' : Nat) (vs vs' : List Vt) (h : Tvs w K A vs) (h' : Tvs w K A' vs') (hK : K ≤ w.heap.size) (hl : vs.length = n) (hn : n ≤ maxLen) (he : txt vs = txt vs') :
  Calls Try.prog 10 #[.agg #[.int .i64 s1, .int .i64 s2, .int .i64 s3, .int .i64 s4, .slice A n c], .agg #[.int .i64 s1, .int .i64 s2, .int .i64 s3, .int .i64 s4, .slice A' n c']] w fun e w' => e = .returned (.bool true) ∧ Below w.heap.size w w' := by
 unfold maxLen at hn
 obtain ⟨u1, hu1⟩ : ∃ u1, u1 = w.alloc (.cells #[.int .i64 s1, .int .i64 s2, .int .i64 s3, .int .i64 s4, .slice A n c] 31) := ⟨_, rfl⟩
 obtain ⟨w1, hw1⟩ : ∃ w1, w1 = u1.alloc (.cells #[.int .i64 s1, .int .i64 s2, .int .i64 s3, .int .i64 s4, .slice A' n c'] 31) := ⟨_, rfl⟩
 have hs1 : u1.heap.size = w.heap.size + 1 := by rw [hu1]; simp
 have hb1 : Below w.heap.size w u1 := by rw [hu1]; exact (Below.refl _ _).alloc (Nat.le_refl _) _
 have hb2 : Below u1.heap.size u1 w1 := by rw [hw1]; exact (Below.refl _ _).alloc (Nat.le_refl _) _
 have hx : Cel u1 w.heap.size 31 [.int .i64 s1, .int .i64 s2, .int .i64 s3, .int .i64 s4, .slice A n c] := by rw [hu1]; exact Cel.new w _ _
 have HX := Lib.hid (hx.below hb2 hx.lt)
 have HY : Hid (Cel w1 (w.heap.size + 1) 31 [.int .i64 s1, .int .i64 s2, .int .i64 s3, .int .i64 s4, .slice A' n c']) := Lib.hid (by rw [hw1, ← hs1]; exact Cel.new u1 _ _)
 have HB := Lib.hid (hb1.trans (hb2.mono hb1.size))
 have H := Lib.hid (h.below hK HB.out)
 have H' := Lib.hid (h'.below hK HB.out)
 have HK := Lib.hid (Nat.le_trans hK HB.out.size)
 have HL := Lib.hid hl
 have HE := Lib.hid he
 rw [hu1] at hw1
 clear h h' hl he hu1 hs1 hb1 hb2 hx
 have e1 : (s1 != s1) = false := by simp
 have e2 : (s2 != s2) = false := by simp
 have e3 : (s3 != s3) = false := by simp
 have e4 : (s4 != s4) = false := by simp
 have e5 : ((n : Int) != (n : Int)) = false := by simp
 go_enter Try.func10, Try.ntmps10
 go_upto_region 1 with fail
 rw [← hw1]
 clear hw1
 have x0 := HX.out.cell 0
 have x1 := HX.out.cell 1
 have x2 := HX.out.cell 2
 have x3 := HX.out.cell 3
 have x4 := HX.out.cell 4
 have y0 := HY.out.cell 0
 have y1 := HY.out.cell 1
 have y2 := HY.out.cell 2
 have y3 := HY.out.cell 3
 have y4 := HY.out.cell 4
 go_wp2_with fail
 clear x0 x1 x2 x3 x4 y0 y1 y2 y3 y4 e1 e2 e3 e4 e5
 go_loopw [5] (fun v5 wr => ∃ (i : Nat), i ≤ n ∧ v5 = .int .i64 (i : Int) ∧ Below w1.heap.size w1 wr) (fun v5 _ => n - (intOf v5).toNat)
 case atStart => exact ⟨0, Nat.zero_le _, rfl, Below.refl _ _⟩
 case round =>
  obtain ⟨i, hi, rfl, hb⟩ := hrel
  obtain ⟨W, rfl⟩ : ∃ W, W = wr := ⟨_, rfl⟩
  have x4 := (HX.out.below hb HX.out.lt).cell 4
  have y4 := (HY.out.below hb HY.out.lt).cell 4
  have HBW := Lib.hid hb
  rcases Nat.lt_or_ge i n with hlt | hge
  ·obtain ⟨u, hu⟩ : ∃ u, vs[i]? = some u := ⟨_, List.getElem?_eq_getElem (by rw [HL.out]; exact hlt)⟩
   have hlv : vs'.length = n := by have := congrArg List.length HE.out; unfold txt at this; rw [List.length_map, List.length_map] at this; rw [← this]; exact HL.out
   obtain ⟨v, hv⟩ : ∃ v, vs'[i]? = some v := ⟨_, List.getElem?_eq_getElem (by omega)⟩
   have huv : u.t = v.t := by
    have q1 : (txt vs)[i]? = some u.t := by unfold txt; rw [List.getElem?_map, hu]; rfl
    rw [HE.out] at q1
    unfold txt at q1
    rw [List.getElem?_map, hv] at q1
    injection q1 with q1
    exact q1.symm
   have hU := H.out.below HK.out hb
   have hV := H'.out.below HK.out hb
   have hKW := Nat.le_trans HK.out hb.size
   obtain ⟨ad, rfl, k0⟩ := hU.cr i u hu
   obtain ⟨ad', rfl, j0⟩ := hV.cr i v hv
   have q1 := tx_str (hU.tx u (List.mem_of_getElem? hu)).1 hKW u.c
   have q2 := tx_str (hV.tx v (List.mem_of_getElem? hv)).1 hKW v.c
   obtain ⟨uA, uc, ut⟩ := u
   obtain ⟨vA, vc, vt⟩ := v
   dsimp only at huv
   subst huv
   change _ = some (Value.slice uA ut.length uc) at k0
   change _ = some (Value.slice vA ut.length vc) at j0
   dsimp only at q1 q2
   generalize hut : ut.length = ul at *
   generalize hstr : str ut = us at *
   clear hut hstr hu hv hlv hU hV hKW hb
   go_wp2_with fail
   go_quiet (fail)
   go_wp2_with fail
   exact ⟨⟨i + 1, by omega, by rw [show ((i + 1 : Nat) : Int) = (i : Int) + 1 by omega], rbelow_drew HBW.out nq⟩, by simp [intOf]; omega⟩
  ·obtain rfl : i = n := by omega
   clear hb
   go_wp2_with fail
   go_ret
   exact ⟨rfl, HB.out.trans (HBW.out.mono HB.out.size)⟩
end Go.Proofs.Ytfmkkklcgiaacaa.Rec
end
section
namespace Go.Proofs.Ytfmkkklcgiaacaa.Fold
open Go.RowKit
open Lex (Tx)
open Rec (Stt Rc Rv Rok Vt Tvs Trow txt)
structure Bfit (vs : List Fs) (n nv : Nat) (most : Int) : Prop where
 len : vs.length = n
 few : n ≤ 35
 try_ : ∀ v ∈ vs, -1000000 ≤ v.try_ ∧ v.try_ ≤ 1000000
 arms : ∀ v ∈ vs, v.arms.length ≤ 10
 vars : nv ≤ 20
 most : -1000000 ≤ most ∧ most ≤ 1000000
def PnSays (w : World) (K : Nat) (r : Option Stt) (e : Ending) (w' : World) : Prop := Below w.heap.size w w' ∧ match r with
 | none => e = .returned (.tuple #[stval 0 0 0 0 none 0 0, .int .i64 7])
 | some t => ∃ v, e = .returned (.tuple #[v, .int .i64 0]) ∧ StSays w' K t v
theorem pn_split {w w' : World} {K : Nat} {r : Option Stt} {e : Ending} (h : PnSays w K r e w') : Below w.heap.size w w' ∧ ((r = none ∧ e = .returned (.tuple #[stval 0 0 0 0 none 0 0, .int .i64 7])) ∨ ∃ (t : Stt) (A : Option Addr) (c : Nat) (us : List Vt), r = some t ∧ e = .returned (.tuple #[stval t.step t.visit t.tries t.off A us.length c, .int .i64 0]) ∧ Tvs w' K A us ∧ Trow w' K A us ∧ txt us = t.vars) := by
 obtain ⟨hb, h⟩ := h
 refine ⟨hb, ?_⟩
 cases r with
 | none => exact .inl ⟨rfl, h⟩
 | some t =>
  obtain ⟨v, rfl, A, c, us, rfl, h1, h2, h3⟩ := h
  exact .inr ⟨t, A, c, us, rfl, rfl, h1, h2, h3⟩
def PStart : Prop := ∀ (w : World) (A : Option Addr) (n c : Nat) (A1 : Option Addr) (nv c1 : Nat) (most : Int) (vs : List Fs) (K : Nat), Bfit vs n nv most → Calls Try.prog 11 #[bval A n c A1 nv c1 most] w fun e w' => Below w.heap.size w w' ∧ ∃ v, e = .returned v ∧ StSays w' K (startR (bok vs nv most)) v
def PNext : Prop := ∀ (w : World) (K : Nat), K ≤ w.heap.size → ∀ (A : Option Addr) (n c : Nat) (vs : List Fs), Fbk w A vs → ∀ (A1 : Option Addr) (nv c1 : Nat) (most : Int), Bfit vs n nv most → ∀ (s1 s2 s3 s4 : Int), s2 < 9223372036854775808 → s3 < 9223372036854775808 → ∀ (AL : Option Addr) (m cL : Nat) (us : List Vt), Tvs w K AL us → Trow w K AL us → us.length = m → m ≤ 20 → (∀ u ∈ us, u.t.length ≤ 300) → ∀ v : Rv, Rok w K v → Trow w K v.AL v.vs → v.vs.length ≤ 20 → (∀ u ∈ v.vs, u.t.length ≤ 300) → v.r.value.length ≤ 300 →
 Calls Try.prog 13 #[bval A n c A1 nv c1 most, stval s1 s2 s3 s4 AL m cL, .agg v.cells.toArray] w (PnSays w K (nextR (bok vs nv most) ⟨s1, s2, s3, s4, txt us⟩ v.r))
def PAll : Prop := ∀ (w : World) (A : Option Addr) (n c : Nat) (vs : List Fs), Fbk w A vs → ∀ (A1 : Option Addr) (nv c1 : Nat) (most : Int), Bfit vs n nv most → ∀ (AL : Option Addr) (m cL : Nat) (ls : List Vt), Tvs w w.heap.size AL ls → (∀ v ∈ ls, v.t.length ≤ v.c ∧ v.c ≤ maxLen) → ls.length = m → m ≤ 40 → (∀ v ∈ ls, v.t.length ≤ 1000) →
 Calls Try.prog 8 #[bval A n c A1 nv c1 most, .slice AL m cL] w (PnSays w 0 (allR (bok vs nv most) (txt ls)))
theorem next_most {b : Bok} {s t : Stt} {r : Rc} (h : nextR b s r = some t) (hm : b.most ≤ 1000000) (hp : ∀ p ∈ b.steps, p.try_ ≤ 1000000) : t.visit < 9223372036854775808 ∧ t.tries < 9223372036854775808 := by
 obtain ⟨h1, h2, h3, h4, h5, _⟩ := next_some h
 obtain ⟨_, q2, q3⟩ := rises h
 have hv := ((right_more h1).2 h3).1
 rcases Rec.may_kind h2 with e | e | e
 ·exact absurd e h5
 ·obtain ⟨e1, e2, _, _, p, hpp, e3⟩ := q2 e
  have := hp p (List.mem_of_getElem? hpp)
  omega
 ·obtain ⟨e1, e2, _⟩ := q3 e
  omega
def Knows16 : Prop := ∀ w : World, Calls Try.prog 7 #[] w fun e w' => e = .returned (.bool true) ∧ Below w.heap.size w w'
theorem fit_max {vs : List Fs} (h : ∀ v ∈ vs, FitS v) : ∀ v ∈ vs, v.arms.length ≤ maxLen := fun v hv => (h v hv).2.2.2.1
end Go.Proofs.Ytfmkkklcgiaacaa.Fold
end
section
namespace Go.Proofs.Ytfmkkklcgiaacaa.Fold
open Go.RowKit Go.Proofs.Ytfmkkklcgiaacaa.Ord
open Lex (Tx)
open Rec (Stt Vt Tvs Trow txt)
theorem pright_ (w : World) (K : Nat) (hK : K ≤ w.heap.size) (A : Option Addr) (n c : Nat) (vs : List Fs) (hf : Fbk w A vs) (hl : vs.length = n) (A1 : Option Addr) (nv c1 : Nat) (most s1 s2 s3 s4 : Int) (h2 : s2 < 9223372036854775808) (h3 : s3 < 9223372036854775808) (AL : Option Addr) (m cL : Nat) (us : List Vt) (hu : Tvs w K AL us) (hul : us.length = m) (hm : m ≤ maxLen) :
  Calls Try.prog 61 #[bval A n c A1 nv c1 most, stval s1 s2 s3 s4 AL m cL] w fun e w' => e = .returned (.bool (right (bok vs nv most) ⟨s1, s2, s3, s4, txt us⟩)) ∧ Below w.heap.size w w' := by
 obtain ⟨W1, hW1, hb1, hc1, hc2⟩ := two_boxes w A n c A1 nv c1 most s1 s2 s3 s4 AL m cL
 have HB1 := Lib.hid hb1
 have HF := Lib.hid (show ∀ V, Below w.heap.size w V → Fbk V A vs from fun V h => hf.below h)
 have HU := Lib.hid (show ∀ V, Below w.heap.size w V → K ≤ V.heap.size ∧ Tvs V K AL us from fun V h => ⟨Nat.le_trans hK h.size, hu.below hK h⟩)
 have HL := Lib.hid hl
 have HUL := Lib.hid hul
 have H2 := Lib.hid h2
 have H3 := Lib.hid h3
 have HM := Lib.hid hm
 have k0 := hc1.cell 0
 have k1 := hc1.cell 1
 have k2 := hc1.cell 2
 have q0 := hc2.cell 0
 have q1 := hc2.cell 1
 have q2 := hc2.cell 2
 have q3 := hc2.cell 3
 have q4 := hc2.cell 4
 obtain ⟨T, hT⟩ : ∃ T, T = right (bok vs nv most) ⟨s1, s2, s3, s4, txt us⟩ := ⟨_, rfl⟩
 rw [← hT]
 unfold bok at hT
 rw [right_eq, List.length_map, hl] at hT
 have con := target_ W1 A n c A1 nv c1 most s1
 obtain ⟨b1, hb_1⟩ : ∃ b, b = tgtB n s1 := ⟨_, rfl⟩
 rw [← hb_1] at hT con
 obtain ⟨b2, hb_2⟩ : ∃ b, b = visB s1 s2 most := ⟨_, rfl⟩
 rw [← hb_2] at hT
 obtain ⟨b3, hb_3⟩ : ∃ b, b = triB (vs.map Fs.m) s1 s3 := ⟨_, rfl⟩
 rw [← hb_3] at hT
 obtain ⟨b4, hb_4⟩ : ∃ b, b = offB s4 := ⟨_, rfl⟩
 rw [← hb_4] at hT
 obtain ⟨b5, hb_5⟩ : ∃ b, b = vrsB (txt us) nv := ⟨_, rfl⟩
 rw [← hb_5] at hT
 have HT := Lib.hid hT
 have E1 := Lib.hid hb_1
 have E2 := Lib.hid hb_2
 have E3 := Lib.hid hb_3
 have E4 := Lib.hid hb_4
 have E5 := Lib.hid hb_5
 clear hT hb_1 hb_2 hb_3 hb_4 hb_5 hb1 hc1 hc2 hf hu hl hul h2 h3 hm hK
 unfold bval at con
 unfold bval stval
 go_enter Try.func61, Try.ntmps61
 go_upto_region 1 with fail
 rw [← hW1]
 clear hW1
 go_wp2_with fail
 refine con.mono ?_
 clear con
 rintro e w2 ⟨rfl, hb⟩
 have HB2 := Lib.hid (HB1.out.trans (hb.mono HB1.out.size))
 replace k0 := (hb.cell (cell_lt k0)).trans k0
 replace k1 := (hb.cell (cell_lt k1)).trans k1
 replace k2 := (hb.cell (cell_lt k2)).trans k2
 replace q0 := (hb.cell (cell_lt q0)).trans q0
 replace q1 := (hb.cell (cell_lt q1)).trans q1
 replace q2 := (hb.cell (cell_lt q2)).trans q2
 replace q3 := (hb.cell (cell_lt q3)).trans q3
 replace q4 := (hb.cell (cell_lt q4)).trans q4
 clear hb
 cases b1 with
 | false =>
  go_wp2_with fail
  go_ret
  rw [show T = false from HT.out]
  exact ⟨rfl, HB2.out⟩
 | true =>
  have con := visit_ w2 A n c A1 nv c1 most s1 s2 s3 s4 AL m cL H2.out
  rw [← E2.out] at con
  unfold bval stval at con
  go_wp2_with fail
  refine con.mono ?_
  clear con
  rintro e w3 ⟨rfl, hb⟩
  have HB3 := Lib.hid (HB2.out.trans (hb.mono HB2.out.size))
  replace k0 := (hb.cell (cell_lt k0)).trans k0
  replace k1 := (hb.cell (cell_lt k1)).trans k1
  replace k2 := (hb.cell (cell_lt k2)).trans k2
  replace q0 := (hb.cell (cell_lt q0)).trans q0
  replace q1 := (hb.cell (cell_lt q1)).trans q1
  replace q2 := (hb.cell (cell_lt q2)).trans q2
  replace q3 := (hb.cell (cell_lt q3)).trans q3
  replace q4 := (hb.cell (cell_lt q4)).trans q4
  clear hb
  cases b2 with
  | false =>
   go_wp2_with fail
   go_ret
   rw [show T = false from HT.out]
   exact ⟨rfl, HB3.out⟩
  | true =>
   have con := tries_ w3 A n c A1 nv c1 most s1 s2 s3 s4 AL m cL H3.out vs (HF.out _ HB3.out) HL.out E1.out.symm
   rw [← E3.out] at con
   unfold bval stval at con
   go_wp2_with fail
   refine con.mono ?_
   clear con
   rintro e w4 ⟨rfl, hb⟩
   have HB4 := Lib.hid (HB3.out.trans (hb.mono HB3.out.size))
   replace k0 := (hb.cell (cell_lt k0)).trans k0
   replace k1 := (hb.cell (cell_lt k1)).trans k1
   replace k2 := (hb.cell (cell_lt k2)).trans k2
   replace q0 := (hb.cell (cell_lt q0)).trans q0
   replace q1 := (hb.cell (cell_lt q1)).trans q1
   replace q2 := (hb.cell (cell_lt q2)).trans q2
   replace q3 := (hb.cell (cell_lt q3)).trans q3
   replace q4 := (hb.cell (cell_lt q4)).trans q4
   clear hb
   cases b3 with
   | false =>
    go_wp2_with fail
    go_ret
    rw [show T = false from HT.out]
    exact ⟨rfl, HB4.out⟩
   | true =>
    have con := offset_ w4 s1 s2 s3 s4 AL m cL
    rw [← E4.out] at con
    unfold stval at con
    go_wp2_with fail
    refine con.mono ?_
    clear con
    rintro e w5 ⟨rfl, hb⟩
    have HB5 := Lib.hid (HB4.out.trans (hb.mono HB4.out.size))
    replace k0 := (hb.cell (cell_lt k0)).trans k0
    replace k1 := (hb.cell (cell_lt k1)).trans k1
    replace k2 := (hb.cell (cell_lt k2)).trans k2
    replace q0 := (hb.cell (cell_lt q0)).trans q0
    replace q1 := (hb.cell (cell_lt q1)).trans q1
    replace q2 := (hb.cell (cell_lt q2)).trans q2
    replace q3 := (hb.cell (cell_lt q3)).trans q3
    replace q4 := (hb.cell (cell_lt q4)).trans q4
    clear hb
    cases b4 with
    | false =>
     go_wp2_with fail
     go_ret
     rw [show T = false from HT.out]
     exact ⟨rfl, HB5.out⟩
    | true =>
     have con := vars_ w5 K (HU.out _ HB5.out).1 A n c A1 nv c1 most s1 s2 s3 s4 AL m cL us (HU.out _ HB5.out).2 HUL.out HM.out
     rw [← E5.out] at con
     unfold bval stval at con
     go_wp2_with fail
     refine con.mono ?_
     clear con
     rintro e w6 ⟨rfl, hb⟩
     have HB6 := Lib.hid (HB5.out.trans (hb.mono HB5.out.size))
     replace k0 := (hb.cell (cell_lt k0)).trans k0
     replace k1 := (hb.cell (cell_lt k1)).trans k1
     replace k2 := (hb.cell (cell_lt k2)).trans k2
     replace q0 := (hb.cell (cell_lt q0)).trans q0
     replace q1 := (hb.cell (cell_lt q1)).trans q1
     replace q2 := (hb.cell (cell_lt q2)).trans q2
     replace q3 := (hb.cell (cell_lt q3)).trans q3
     replace q4 := (hb.cell (cell_lt q4)).trans q4
     clear hb
     go_wp2_with fail
     go_ret
     rw [HT.out]
     exact ⟨rfl, HB6.out⟩
abbrev rcells (A : Option Addr) (n c : Nat) (A1 : Option Addr) (nv c1 : Nat) (most : Int) (bg : Bool) (s1 s2 s3 s4 : Int) (AL : Option Addr) (m cL : Nat) : List Value := [.slice A n c, .slice A1 nv c1, .int .i64 most, .bool bg, .int .i64 s1, .int .i64 s2, .int .i64 s3, .int .i64 s4, .slice AL m cL]
structure Rfit (w : World) (K : Nat) (A : Option Addr) (n nv : Nat) (most : Int) (vs : List Fs) (s2 s3 : Int) (AL : Option Addr) (m : Nat) (us : List Vt) : Prop where
 bk : Fbk w A vs
 fit : Bfit vs n nv most
 s2 : s2 < 9223372036854775808
 s3 : s3 < 9223372036854775808
 low : K ≤ w.heap.size
 tv : Tvs w K AL us
 len : us.length = m
 max : m ≤ maxLen
theorem Rfit.below {w w' : World} {K : Nat} {A : Option Addr} {n nv : Nat} {most : Int} {vs : List Fs} {s2 s3 : Int} {AL : Option Addr} {m : Nat} {us : List Vt} (h : Rfit w K A n nv most vs s2 s3 AL m us) (hb : Below w.heap.size w w') : Rfit w' K A n nv most vs s2 s3 AL m us :=
 ⟨h.bk.below hb, h.fit, h.s2, h.s3, Nat.le_trans h.low hb.size, h.tv.below h.low hb, h.len, h.max⟩
abbrev pp (g k : Nat) : Value := .pointer (some ⟨g, k, none⟩)
def onB (bg : Bool) (b : Bok) (s : Stt) : Bool := bg && right b s && !endB s.step
section
variable (w : World) (g K : Nat) (A : Option Addr) (n c : Nat) (A1 : Option Addr) (nv c1 : Nat) (most : Int) (bg : Bool) (s1 s2 s3 s4 : Int) (AL : Option Addr) (m cL : Nat)
theorem goesOn_ (hc : Cel w g 54 (rcells A n c A1 nv c1 most bg s1 s2 s3 s4 AL m cL)) (vs : List Fs) (us : List Vt) (hr : Rfit w K A n nv most vs s2 s3 AL m us) :
  Calls Try.prog 62 #[pp g 0] w fun e w' => e = .returned (.bool (onB bg (bok vs nv most) ⟨s1, s2, s3, s4, txt us⟩)) ∧ Below w.heap.size w w' := by
 obtain ⟨T, hT⟩ : ∃ T, T = onB bg (bok vs nv most) ⟨s1, s2, s3, s4, txt us⟩ := ⟨_, rfl⟩
 rw [← hT]
 unfold onB at hT
 obtain ⟨b1, hb1⟩ : ∃ b, b = right (bok vs nv most) ⟨s1, s2, s3, s4, txt us⟩ := ⟨_, rfl⟩
 rw [← hb1] at hT
 dsimp only at hT
 obtain ⟨b2, hb2⟩ : ∃ b, b = endB s1 := ⟨_, rfl⟩
 rw [← hb2] at hT
 have HT := Lib.hid hT
 have E1 := Lib.hid hb1
 have E2 := Lib.hid hb2
 obtain ⟨W, hW⟩ : ∃ W, W = w.drew := ⟨_, rfl⟩
 have hbw : Below w.heap.size w W := by rw [hW]; exact (Below.refl _ _).drew
 have HBW := Lib.hid hbw
 have HC := Lib.hid (hc.below hbw hc.lt)
 have HR := Lib.hid (show ∀ V, Below W.heap.size W V → Rfit V K A n nv most vs s2 s3 AL m us from fun V h => (hr.below hbw).below h)
 clear hc hr hT hb1 hb2 hbw
 go_enter Try.func62, Try.ntmps62
 go_upto_region 1 with fail
 refine wp_region_N [] (fun V => Below W.heap.size W V) (by kernel_rfl) ?_
 rw [← hW]
 have hH : Below W.heap.size W W := Below.refl _ _
 clear hW
 cases bg with
 | true =>
  refine tk_ 0 (.pointer (some ⟨g, 0, none⟩)) [] rfl hH ?_ ?_
  ·intro V hV; go_simp
  try simp only [Act.put, lay_]
  refine tk_ 1 (.pointer (some ⟨g, 0, none⟩)) [] rfl hH ?_ ?_
  ·intro V hV; go_simp
  try simp only [Act.put, lay_]
  refine tk_ 2 (.pointer (some ⟨g, 3, none⟩)) [] rfl hH ?_ ?_
  ·intro V hV; go_simp
  try simp only [Act.put, lay_]
  refine tk_ 3 (.bool true) [] rfl hH ?_ ?_
  ·intro V hV; have hc := HC.out.below hV HC.out.lt; have k0 : V.cell? ⟨g, 3, none⟩ = some (.bool true) := hc.cell 3; clear hc; go_simp
  try simp only [Act.put, lay_]
  refine tk_ 4 (.bool true) [] rfl hH ?_ ?_
  ·intro V hV; go_simp
  try simp only [Act.put, lay_]
  refine tk_ 5 (.pointer (some ⟨g, 0, none⟩)) [] rfl hH ?_ ?_
  ·intro V hV; go_simp
  try simp only [Act.put, lay_]
  refine tk_ 6 (.pointer (some ⟨g, 0, none⟩)) [] rfl hH ?_ ?_
  ·intro V hV; go_simp
  try simp only [Act.put, lay_]
  refine tk_ 7 (.pointer (some ⟨g, 0, none⟩)) [] rfl hH ?_ ?_
  ·intro V hV; go_simp
  try simp only [Act.put, lay_]
  refine tk_ 8 (.agg #[.slice A n c, .slice A1 nv c1, .int .i64 most]) [] rfl hH ?_ ?_
  ·intro V hV; have hc := HC.out.below hV HC.out.lt; have k0 : V.cell? ⟨g, 0, none⟩ = some (.slice A n c) := hc.cell 0; have k1 : V.cell? ⟨g, 1, none⟩ = some (.slice A1 nv c1) := hc.cell 1; have k2 : V.cell? ⟨g, 2, none⟩ = some (.int .i64 most) := hc.cell 2; clear hc; go_simp
  try simp only [Act.put, lay_]
  refine tk_ 9 (.pointer (some ⟨g, 0, none⟩)) [] rfl hH ?_ ?_
  ·intro V hV; go_simp
  try simp only [Act.put, lay_]
  refine tk_ 10 (.pointer (some ⟨g, 0, none⟩)) [] rfl hH ?_ ?_
  ·intro V hV; go_simp
  try simp only [Act.put, lay_]
  refine tk_ 11 (.pointer (some ⟨g, 4, none⟩)) [] rfl hH ?_ ?_
  ·intro V hV; go_simp
  try simp only [Act.put, lay_]
  refine tk_ 12 (.agg #[.int .i64 s1, .int .i64 s2, .int .i64 s3, .int .i64 s4, .slice AL m cL]) [] rfl hH ?_ ?_
  ·intro V hV; have hc := HC.out.below hV HC.out.lt; have k0 : V.cell? ⟨g, 4, none⟩ = some (.int .i64 s1) := hc.cell 4; have k1 : V.cell? ⟨g, 5, none⟩ = some (.int .i64 s2) := hc.cell 5; have k2 : V.cell? ⟨g, 6, none⟩ = some (.int .i64 s3) := hc.cell 6; have k3 : V.cell? ⟨g, 7, none⟩ = some (.int .i64 s4) := hc.cell 7; have k4 : V.cell? ⟨g, 8, none⟩ = some (.slice AL m cL) := hc.cell 8; clear hc; go_simp
  try simp only [Act.put, lay_]
  refine wpAnyN_one (i := 13) (by kernel_rfl) rfl (fun Kq hKq => ?_)
  go_simp
  refine ((show Calls Try.prog 61 #[.agg #[.slice A n c, .slice A1 nv c1, .int .i64 most], .agg #[.int .i64 s1, .int .i64 s2, .int .i64 s3, .int .i64 s4, .slice AL m cL]] _ (fun e w' => e = .returned (.bool b1) ∧ Below _ _ w') by rw [E1.out]; have R := HR.out _ hH; exact pright_ _ K R.low A n c vs R.bk R.fit.len A1 nv c1 most s1 s2 s3 s4 R.s2 R.s3 AL m cL us R.tv R.len R.max)).mono ?_
  rintro e V1 ⟨rfl, hb⟩
  replace hH := hH.trans (hb.mono hH.size)
  clear hb
  go_wp2_with fail
  refine hKq.out _ _ (.inr hH) ?_
  clear hKq Kq
  try simp only [Act.put, lay_]
  cases b1 with
  | true =>
   refine tk_ 14 (.bool true) [] rfl hH ?_ ?_
   ·intro V hV; go_simp
   try simp only [Act.put, lay_]
   refine tk_ 15 (.bool true) [] rfl hH ?_ ?_
   ·intro V hV; go_simp
   try simp only [Act.put, lay_]
   refine tk_ 16 (.pointer (some ⟨g, 0, none⟩)) [] rfl hH ?_ ?_
   ·intro V hV; go_simp
   try simp only [Act.put, lay_]
   refine tk_ 17 (.pointer (some ⟨g, 0, none⟩)) [] rfl hH ?_ ?_
   ·intro V hV; go_simp
   try simp only [Act.put, lay_]
   refine tk_ 18 (.pointer (some ⟨g, 4, none⟩)) [] rfl hH ?_ ?_
   ·intro V hV; go_simp
   try simp only [Act.put, lay_]
   refine tk_ 19 (.pointer (some ⟨g, 4, none⟩)) [] rfl hH ?_ ?_
   ·intro V hV; go_simp
   try simp only [Act.put, lay_]
   refine tk_ 20 (.int .i64 s1) [] rfl hH ?_ ?_
   ·intro V hV; have hc := HC.out.below hV HC.out.lt; have k0 : V.cell? ⟨g, 4, none⟩ = some (.int .i64 s1) := hc.cell 4; clear hc; go_simp
   try simp only [Act.put, lay_]
   refine wpAnyN_one (i := 21) (by kernel_rfl) rfl (fun Kq hKq => ?_)
   go_simp
   refine ((show Calls Try.prog 74 #[.int .i64 s1] _ (fun e w' => e = .returned (.bool b2) ∧ _ = w') by rw [E2.out]; exact end_ _ s1)).mono ?_
   rintro e V2 ⟨rfl, rfl⟩
   go_wp2_with fail
   refine hKq.out _ _ (.inr hH) ?_
   clear hKq Kq
   try simp only [Act.put, lay_]
   refine tk_ 22 (.bool (!b2)) [] rfl hH ?_ ?_
   ·intro V hV; go_simp
   try simp only [Act.put, lay_]
   refine tk_ 23 (.bool (!b2)) [] rfl hH ?_ ?_
   ·intro V hV; go_simp
   try simp only [Act.put, lay_]
   refine tk_ 24 (.bool (!b2)) [] rfl hH ?_ ?_
   ·intro V hV; go_simp
   try simp only [Act.put, lay_]
   refine wpAnyN_done (by kernel_rfl) ?_ _
   go_wp2_with fail
   go_ret
   rw [show T = !b2 from HT.out]
   exact ⟨rfl, HBW.out.trans (hH.mono HBW.out.size)⟩
  | false =>
   refine tk_ 14 (.bool false) [] rfl hH ?_ ?_
   ·intro V hV; go_simp
   try simp only [Act.put, lay_]
   refine tk_ 15 (.bool false) [] rfl hH ?_ ?_
   ·intro V hV; go_simp
   try simp only [Act.put, lay_]
   refine wpAnyN_take (i := 16) (v := undef) [] (by kernel_rfl) rfl (by kernel_rfl) (by kernel_rfl) (by kernel_rfl) (fun _ _ _ h => h) (Or.inr ⟨by rfl, rfl⟩) hH ?_
   try simp only [Act.put, lay_]
   refine wpAnyN_take (i := 17) (v := undef) [] (by kernel_rfl) rfl (by kernel_rfl) (by kernel_rfl) (by kernel_rfl) (fun _ _ _ h => h) (Or.inr ⟨by rfl, rfl⟩) hH ?_
   try simp only [Act.put, lay_]
   refine wpAnyN_take (i := 18) (v := undef) [] (by kernel_rfl) rfl (by kernel_rfl) (by kernel_rfl) (by kernel_rfl) (fun _ _ _ h => h) (Or.inr ⟨by rfl, rfl⟩) hH ?_
   try simp only [Act.put, lay_]
   refine wpAnyN_take (i := 19) (v := undef) [] (by kernel_rfl) rfl (by kernel_rfl) (by kernel_rfl) (by kernel_rfl) (fun _ _ _ h => h) (Or.inr ⟨by rfl, rfl⟩) hH ?_
   try simp only [Act.put, lay_]
   refine wpAnyN_take (i := 20) (v := undef) [] (by kernel_rfl) rfl (by kernel_rfl) (by kernel_rfl) (by kernel_rfl) (fun _ _ _ h => h) (Or.inr ⟨by rfl, rfl⟩) hH ?_
   try simp only [Act.put, lay_]
   refine wpAnyN_take (i := 21) (v := undef) [] (by kernel_rfl) rfl (by kernel_rfl) (by kernel_rfl) (by kernel_rfl) (fun _ _ _ h => h) (Or.inr ⟨by rfl, rfl⟩) hH ?_
   try simp only [Act.put, lay_]
   refine wpAnyN_take (i := 22) (v := undef) [] (by kernel_rfl) rfl (by kernel_rfl) (by kernel_rfl) (by kernel_rfl) (fun _ _ _ h => h) (Or.inr ⟨by rfl, rfl⟩) hH ?_
   try simp only [Act.put, lay_]
   refine tk_ 23 (.bool false) [] rfl hH ?_ ?_
   ·intro V hV; go_simp
   try simp only [Act.put, lay_]
   refine tk_ 24 (.bool false) [] rfl hH ?_ ?_
   ·intro V hV; go_simp
   try simp only [Act.put, lay_]
   refine wpAnyN_done (by kernel_rfl) ?_ _
   go_wp2_with fail
   go_ret
   rw [show T = false from HT.out]
   exact ⟨rfl, HBW.out.trans (hH.mono HBW.out.size)⟩
 | false =>
  refine tk_ 0 (.pointer (some ⟨g, 0, none⟩)) [] rfl hH ?_ ?_
  ·intro V hV; go_simp
  try simp only [Act.put, lay_]
  refine tk_ 1 (.pointer (some ⟨g, 0, none⟩)) [] rfl hH ?_ ?_
  ·intro V hV; go_simp
  try simp only [Act.put, lay_]
  refine tk_ 2 (.pointer (some ⟨g, 3, none⟩)) [] rfl hH ?_ ?_
  ·intro V hV; go_simp
  try simp only [Act.put, lay_]
  refine tk_ 3 (.bool false) [] rfl hH ?_ ?_
  ·intro V hV; have hc := HC.out.below hV HC.out.lt; have k0 : V.cell? ⟨g, 3, none⟩ = some (.bool false) := hc.cell 3; clear hc; go_simp
  try simp only [Act.put, lay_]
  refine tk_ 4 (.bool false) [] rfl hH ?_ ?_
  ·intro V hV; go_simp
  try simp only [Act.put, lay_]
  refine wpAnyN_take (i := 5) (v := undef) [] (by kernel_rfl) rfl (by kernel_rfl) (by kernel_rfl) (by kernel_rfl) (fun _ _ _ h => h) (Or.inr ⟨by rfl, rfl⟩) hH ?_
  try simp only [Act.put, lay_]
  refine wpAnyN_take (i := 6) (v := undef) [] (by kernel_rfl) rfl (by kernel_rfl) (by kernel_rfl) (by kernel_rfl) (fun _ _ _ h => h) (Or.inr ⟨by rfl, rfl⟩) hH ?_
  try simp only [Act.put, lay_]
  refine wpAnyN_take (i := 7) (v := undef) [] (by kernel_rfl) rfl (by kernel_rfl) (by kernel_rfl) (by kernel_rfl) (fun _ _ _ h => h) (Or.inr ⟨by rfl, rfl⟩) hH ?_
  try simp only [Act.put, lay_]
  refine wpAnyN_take (i := 8) (v := undef) [] (by kernel_rfl) rfl (by kernel_rfl) (by kernel_rfl) (by kernel_rfl) (fun _ _ _ h => h) (Or.inr ⟨by rfl, rfl⟩) hH ?_
  try simp only [Act.put, lay_]
  refine wpAnyN_take (i := 9) (v := undef) [] (by kernel_rfl) rfl (by kernel_rfl) (by kernel_rfl) (by kernel_rfl) (fun _ _ _ h => h) (Or.inr ⟨by rfl, rfl⟩) hH ?_
  try simp only [Act.put, lay_]
  refine wpAnyN_take (i := 10) (v := undef) [] (by kernel_rfl) rfl (by kernel_rfl) (by kernel_rfl) (by kernel_rfl) (fun _ _ _ h => h) (Or.inr ⟨by rfl, rfl⟩) hH ?_
  try simp only [Act.put, lay_]
  refine wpAnyN_take (i := 11) (v := undef) [] (by kernel_rfl) rfl (by kernel_rfl) (by kernel_rfl) (by kernel_rfl) (fun _ _ _ h => h) (Or.inr ⟨by rfl, rfl⟩) hH ?_
  try simp only [Act.put, lay_]
  refine wpAnyN_take (i := 12) (v := undef) [] (by kernel_rfl) rfl (by kernel_rfl) (by kernel_rfl) (by kernel_rfl) (fun _ _ _ h => h) (Or.inr ⟨by rfl, rfl⟩) hH ?_
  try simp only [Act.put, lay_]
  refine wpAnyN_take (i := 13) (v := undef) [] (by kernel_rfl) rfl (by kernel_rfl) (by kernel_rfl) (by kernel_rfl) (fun _ _ _ h => h) (Or.inr ⟨by rfl, rfl⟩) hH ?_
  try simp only [Act.put, lay_]
  refine tk_ 14 (.bool false) [] rfl hH ?_ ?_
  ·intro V hV; go_simp
  try simp only [Act.put, lay_]
  refine tk_ 15 (.bool false) [] rfl hH ?_ ?_
  ·intro V hV; go_simp
  try simp only [Act.put, lay_]
  refine wpAnyN_take (i := 16) (v := undef) [] (by kernel_rfl) rfl (by kernel_rfl) (by kernel_rfl) (by kernel_rfl) (fun _ _ _ h => h) (Or.inr ⟨by rfl, rfl⟩) hH ?_
  try simp only [Act.put, lay_]
  refine wpAnyN_take (i := 17) (v := undef) [] (by kernel_rfl) rfl (by kernel_rfl) (by kernel_rfl) (by kernel_rfl) (fun _ _ _ h => h) (Or.inr ⟨by rfl, rfl⟩) hH ?_
  try simp only [Act.put, lay_]
  refine wpAnyN_take (i := 18) (v := undef) [] (by kernel_rfl) rfl (by kernel_rfl) (by kernel_rfl) (by kernel_rfl) (fun _ _ _ h => h) (Or.inr ⟨by rfl, rfl⟩) hH ?_
  try simp only [Act.put, lay_]
  refine wpAnyN_take (i := 19) (v := undef) [] (by kernel_rfl) rfl (by kernel_rfl) (by kernel_rfl) (by kernel_rfl) (fun _ _ _ h => h) (Or.inr ⟨by rfl, rfl⟩) hH ?_
  try simp only [Act.put, lay_]
  refine wpAnyN_take (i := 20) (v := undef) [] (by kernel_rfl) rfl (by kernel_rfl) (by kernel_rfl) (by kernel_rfl) (fun _ _ _ h => h) (Or.inr ⟨by rfl, rfl⟩) hH ?_
  try simp only [Act.put, lay_]
  refine wpAnyN_take (i := 21) (v := undef) [] (by kernel_rfl) rfl (by kernel_rfl) (by kernel_rfl) (by kernel_rfl) (fun _ _ _ h => h) (Or.inr ⟨by rfl, rfl⟩) hH ?_
  try simp only [Act.put, lay_]
  refine wpAnyN_take (i := 22) (v := undef) [] (by kernel_rfl) rfl (by kernel_rfl) (by kernel_rfl) (by kernel_rfl) (fun _ _ _ h => h) (Or.inr ⟨by rfl, rfl⟩) hH ?_
  try simp only [Act.put, lay_]
  refine tk_ 23 (.bool false) [] rfl hH ?_ ?_
  ·intro V hV; go_simp
  try simp only [Act.put, lay_]
  refine tk_ 24 (.bool false) [] rfl hH ?_ ?_
  ·intro V hV; go_simp
  try simp only [Act.put, lay_]
  refine wpAnyN_done (by kernel_rfl) ?_ _
  go_wp2_with fail
  go_ret
  rw [show T = false from HT.out]
  exact ⟨rfl, HBW.out.trans (hH.mono HBW.out.size)⟩
end
end Go.Proofs.Ytfmkkklcgiaacaa.Fold
end
