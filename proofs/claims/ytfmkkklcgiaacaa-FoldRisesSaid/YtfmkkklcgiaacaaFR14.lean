/-
Layer 16: the walk of FoldRises. (Written by gen_foldrises.py.)
-/
import Derived.Test.YtfmkkklcgiaacaaFR0
import Derived.Test.YtfmkkklcgiaacaaFR1
import Derived.Test.YtfmkkklcgiaacaaFR2
import Derived.Test.YtfmkkklcgiaacaaFR13
set_option linter.unusedVariables false
set_option linter.unusedSimpArgs false
set_option maxRecDepth 100000
set_option maxHeartbeats 8000000
namespace Go.Proofs.Ytfmkkklcgiaacaa.Fold
open Go.RowKit Go.Proofs.Ytfmkkklcgiaacaa.Ord
open Lex (Tx)
open Rec (Stt Rc Rv Rok Vt Tvs Trow txt may)
theorem setV_len {l : List (List B)} {v : Int} {x : List B} {n : Nat} (h : ∀ y ∈ l, y.length ≤ n) (hx : x.length ≤ n) : ∀ y ∈ setV l v x, y.length ≤ n := by
 intro y hy
 unfold setV at hy
 obtain ⟨i, hi, rfl⟩ := List.mem_map.1 hy
 rw [List.mem_range] at hi
 split
 ·exact hx
 ·rw [List.getD_eq_getElem?_getD, List.getElem?_eq_getElem hi]
  exact h _ (List.getElem_mem hi)
theorem next_small {b : Bok} {s t : Stt} {r : Rc} (h : nextR b s r = some t) : ∀ x ∈ t.vars, x.length ≤ 100 := by
 obtain ⟨h1, h2, h3, h4, h5, p, hp, ht⟩ := next_some h
 have hv := (right_nums h1).2.2.2.2.2.2.2
 split at ht
 ·unfold intentR at ht
  split at ht
  ·cases ht
  ·injection ht with ht
   subst ht
   exact hv
 ·rename_i hk
  have hk3 : r.kind = 3 := by
   rcases Rec.may_kind h2 with e | e | e
   ·exact absurd e h5
   ·exact absurd e hk
   ·exact e
  obtain ⟨_, _, _, _, _, hx⟩ := Rec.may3 h2 hk3
  unfold outcomeR at ht
  split at ht
  ·cases ht
  ·split at ht
   ·injection ht with ht
    subst ht
    exact setV_len hv hx
   ·cases ht
def Rs (W wx : World) (T g : Nat) (z : Int) (r : Option Stt) : Prop := Below W.heap.size W wx ∧ W.heap.size ≤ g ∧ ((r = none ∧ z = 7) ∨ ∃ (t : Stt) (A : Option Addr) (c : Nat) (us : List Vt), r = some t ∧ z = 0 ∧ Cel wx g 31 [.int .i64 t.step, .int .i64 t.visit, .int .i64 t.tries, .int .i64 t.off, .slice A us.length c] ∧ Tvs wx T A us ∧ Trow wx T A us ∧ txt us = t.vars)
theorem pn_form {w w' : World} {K : Nat} {r : Option Stt} {e : Ending} (h : PnSays w K r e w') : ∃ (x1 x2 x3 x4 : Int) (A : Option Addr) (n c : Nat) (z : Int), e = .returned (.tuple #[.agg #[.int .i64 x1, .int .i64 x2, .int .i64 x3, .int .i64 x4, .slice A n c], .int .i64 z]) ∧ Below w.heap.size w w' ∧ ((r = none ∧ z = 7) ∨ ∃ (t : Stt) (us : List Vt), r = some t ∧ z = 0 ∧ x1 = t.step ∧ x2 = t.visit ∧ x3 = t.tries ∧ x4 = t.off ∧ n = us.length ∧ Tvs w' K A us ∧ Trow w' K A us ∧ txt us = t.vars) := by
 obtain ⟨hb, hr⟩ := pn_split h
 rcases hr with ⟨h1, rfl⟩ | ⟨t, A, c, us, h1, rfl, h2, h3, h4⟩
 ·exact ⟨0, 0, 0, 0, none, 0, 0, 7, rfl, hb, .inl ⟨h1, rfl⟩⟩
 ·exact ⟨_, _, _, _, A, _, c, 0, rfl, hb, .inr ⟨t, us, h1, rfl, rfl, rfl, rfl, rfl, rfl, h2, h3, h4⟩⟩
theorem rs_of {W V wx : World} {T g n c : Nat} {z x1 x2 x3 x4 : Int} {A : Option Addr} {r : Option Stt} (h : (r = none ∧ z = 7) ∨ ∃ (t : Stt) (us : List Vt), r = some t ∧ z = 0 ∧ x1 = t.step ∧ x2 = t.visit ∧ x3 = t.tries ∧ x4 = t.off ∧ n = us.length ∧ Tvs V T A us ∧ Trow V T A us ∧ txt us = t.vars) (hb : Below W.heap.size W wx) (hg : W.heap.size ≤ g) (hc : Cel wx g 31 [.int .i64 x1, .int .i64 x2, .int .i64 x3, .int .i64 x4, .slice A n c])
  (hk : ∀ us, Tvs V T A us → Trow V T A us → Tvs wx T A us ∧ Trow wx T A us) : Rs W wx T g z r := by
 refine ⟨hb, hg, ?_⟩
 rcases h with h | ⟨t, us, h1, h2, rfl, rfl, rfl, rfl, rfl, h3, h4, h5⟩
 ·exact .inl h
 ·obtain ⟨q1, q2⟩ := hk us h3 h4
  exact .inr ⟨t, A, c, us, h1, h2, hc, q1, q2, h5⟩
theorem frc_at {w : World} {K : Nat} {A : Option Addr} {rs : List Rv} (h : Frc w K A rs) {i : Nat} {v : Rv} (hi : rs[i]? = some v) : ∃ ad, A = some ad ∧ (∀ k u, 0 < k → v.cells[k]? = some u → w.cell? ⟨(ad.add (i * 13)).block, (ad.add (i * 13)).off + k, none⟩ = some u) ∧ w.cell? (ad.add (i * 13)) = some (.int .i64 v.r.kind) ∧ Rok w K v := by
 obtain ⟨⟨ad, e, hc⟩, hr⟩ := h i v hi
 exact ⟨ad, e, fun k u hk hu => by rw [fadd _ _ _ hk]; exact hc k u hu, hc 0 _ rfl, hr⟩
theorem rises_walk (HS : PStart) (HN : PNext) (HKN : Knows16) (w : World) (A : Option Addr) (n c : Nat) (vs : List Fs) (hb : Fbk w A vs) (hl : vs.length = n) (hn : n ≤ maxLen) (hf : ∀ v ∈ vs, FitS v) (A1 : Option Addr) (nv c1 : Nat) (most : Int)
  (C : Option Addr) (m d : Nat) (rs : List Rv) (hrs : Frc w w.heap.size C rs) (hrl : rs.length = m) (hrm : m ≤ maxLen) :
  Calls Try.prog 4 #[bval A n c A1 nv c1 most, .slice C m d] w fun e w' => e = .returned (.bool true) ∧ Below w.heap.size w w' := by
 unfold maxLen at hrm
 obtain ⟨T, hT⟩ : ∃ T, T = w.heap.size := ⟨_, rfl⟩
 rw [← hT] at hrs
 have HTW := Lib.hid (show ∀ V, Below w.heap.size w V → T ≤ V.heap.size from fun V h => by have := h.size; omega)
 have HTE := Lib.hid hT
 obtain ⟨W1, hW1⟩ : ∃ w1, w1 = w.alloc (.cells #[.slice A n c, .slice A1 nv c1, .int .i64 most] 25) := ⟨_, rfl⟩
 have hb1 : Below w.heap.size w W1 := by rw [hW1]; exact (Below.refl _ _).alloc (Nat.le_refl _) _
 have hc1 : Cel W1 w.heap.size 25 [.slice A n c, .slice A1 nv c1, .int .i64 most] := by rw [hW1]; exact Cel.new w _ _
 have HB1 := Lib.hid hb1
 have HC1 := Lib.hid hc1
 have HF := Lib.hid (show ∀ V, Below w.heap.size w V → Fbk V A vs from fun V h => hb.below h)
 have HR := Lib.hid (show ∀ V, Below w.heap.size w V → Frc V T C rs from fun V h => hrs.below (by omega) h)
 have HTR := Lib.hid (show ∀ v ∈ rs, Trow w T v.AL v.vs from fun v hv => by
  obtain ⟨i, hi⟩ := List.getElem?_of_mem hv
  exact Rec.trow_below (hrs i v hi).2.vs (by omega))
 have HRL := Lib.hid hrl
 have HK := Lib.hid HKN
 have con := few16 W1 A n c vs (hb.below hb1) hl hn A1 nv c1 most (fit_max hf)
 have CON2 := Lib.hid (fun W => fun h : Below w.heap.size w W => tries16 W A n c vs (hb.below h) hl hn A1 nv c1 most)
 have HL := Lib.hid hl
 have k0 := hc1.cell 0
 have k1 := hc1.cell 1
 have k2 := hc1.cell 2
 have KN := Lib.hid (show ∀ W : World, Below w.heap.size w W → Calls Try.prog 7 #[] W fun e w' => e = .returned (.bool true) ∧ Below w.heap.size w w' from fun W hW => (HK.out _).mono fun e w' h => ⟨h.1, hW.trans (h.2.mono hW.size)⟩)
 clear hb1 hc1 hb hrs hf HKN hrl hT
 unfold bval at con ⊢
 go_enter Try.func4, Try.ntmps4
 go_upto_region 1 with fail
 rw [← hW1]
 clear hW1
 go_wp2_with fail
 refine con.mono ?_
 clear con k0 k1 k2
 rintro e w2 ⟨b1, rfl, hb2, hx1⟩
 have HB2 := Lib.hid (HB1.out.trans (hb2.mono HB1.out.size))
 have HC2 := Lib.hid (HC1.out.below hb2 HC1.out.lt)
 have HX1 := Lib.hid hx1
 clear hb2 hx1 HC1 HB1
 cases b1 with
 | false =>
  go_wp2_with fail
  refine (KN.out _ HB2.out).mono ?_
  rintro e wk ⟨rfl, hbk⟩
  have HBK := Lib.hid hbk
  clear hbk
  go_wp2_with fail
  go_ret
  exact ⟨rfl, HBK.out⟩
 | true =>
  have con := CON2.out w2 HB2.out
  have k0 := HC2.out.cell 0
  have k1 := HC2.out.cell 1
  have k2 := HC2.out.cell 2
  unfold bval at con
  go_wp2_with fail
  refine con.mono ?_
  clear con k0 k1 k2
  rintro e w3 ⟨b2, rfl, hb3, hx2⟩
  have HB3 := Lib.hid (HB2.out.trans (hb3.mono HB2.out.size))
  have HC3 := Lib.hid (HC2.out.below hb3 HC2.out.lt)
  have HX2 := Lib.hid hx2
  clear hb3 hx2 HC2 HB2
  cases b2 with
  | false =>
   go_wp2_with fail
   refine (KN.out _ HB3.out).mono ?_
   rintro e wk ⟨rfl, hbk⟩
   have HBK := Lib.hid hbk
   clear hbk
   go_wp2_with fail
   go_ret
   exact ⟨rfl, HBK.out⟩
  | true =>
   by_cases h60 : 60 < m
   ·have dd : decide ((60 : Int) < (m : Int)) = true := by simp; omega
    go_wp2_with fail
    refine (KN.out _ HB3.out).mono ?_
    rintro e wk ⟨rfl, hbk⟩
    have HBK := Lib.hid hbk
    clear hbk
    go_wp2_with fail
    go_ret
    exact ⟨rfl, HBK.out⟩
   ·have dd : decide ((60 : Int) < (m : Int)) = false := by simp; omega
    obtain ⟨q1, q2, q3, q4, q5⟩ := HX1.out (by first | rfl | trivial)
    have HFIT : Hid (Bfit vs n nv most) := Lib.hid ⟨HL.out, q1, HX2.out (by first | rfl | trivial), q5, q2, by omega⟩
    clear q1 q2 q3 q4 q5 HX1 HX2
    have con := HS w3 A n c A1 nv c1 most vs T HFIT.out
    have k0 := HC3.out.cell 0
    have k1 := HC3.out.cell 1
    have k2 := HC3.out.cell 2
    unfold bval at con
    go_wp2_with fail
    refine con.mono ?_
    clear con k0 k1 k2
    rintro e w4 ⟨hb4, v4, rfl, AS, cS, us, rfl, hu4, hut4, hux4⟩
    obtain ⟨bk, hbk⟩ : ∃ b, b = bok vs nv most := ⟨_, rfl⟩
    rw [← hbk] at hux4 ⊢
    have HBE := Lib.hid hbk
    clear hbk
    obtain ⟨W5, hW5⟩ : ∃ W, W = w4.alloc (.cells ([.int .i64 (startR bk).step, .int .i64 (startR bk).visit, .int .i64 (startR bk).tries, .int .i64 (startR bk).off, .slice AS us.length cS] : List Value).toArray 31) := ⟨_, rfl⟩
    have hb5 : Below w4.heap.size w4 W5 := by rw [hW5]; exact (Below.refl _ _).alloc (Nat.le_refl _) _
    have hb45 := HB3.out.trans (hb4.mono HB3.out.size)
    have HB5 := Lib.hid (hb45.trans (hb5.mono hb45.size))
    have HC5 := Lib.hid (HC3.out.below (hb4.trans (hb5.mono hb4.size)) HC3.out.lt)
    have HD5 := Lib.hid (show Cel W5 w4.heap.size 31 [.int .i64 (startR bk).step, .int .i64 (startR bk).visit, .int .i64 (startR bk).tries, .int .i64 (startR bk).off, .slice AS us.length cS] by rw [hW5]; exact Cel.new w4 _ _)
    have HU5 : Hid (Tvs W5 T AS us ∧ Trow W5 T AS us ∧ txt us = (startR bk).vars) := Lib.hid ⟨hu4.below (HTW.out _ hb45) hb5, hut4.below hb5, hux4⟩
    have HZ5 : Hid (((startR bk).vars.length = nv ∧ (startR bk).visit < 9223372036854775808 ∧ (startR bk).tries < 9223372036854775808) ∧ ∀ x ∈ (startR bk).vars, x.length ≤ 300) := Lib.hid ⟨⟨by rw [HBE.out]; unfold startR bok; simp, show (1 : Int) < 9223372036854775808 by decide, show (0 : Int) < 9223372036854775808 by decide⟩, fun x hx => by
     unfold startR at hx
     have := (List.mem_replicate.1 hx).2
     rw [this]
     exact Nat.zero_le _⟩
    have HG5 := Lib.hid (show w.heap.size ≤ w4.heap.size from hb45.size)
    clear hb4 hu4 hut4 hux4 hb5 hb45 HB3 HC3
    go_upto_region 4 with fail
    rw [← hW5]
    clear hW5
    generalize w4.heap.size = g5 at *
    obtain ⟨st, hst⟩ : ∃ s, s = startR bk := ⟨_, rfl⟩
    rw [← hst] at HD5 HU5 HZ5
    clear hst dd
    go_wp2_with fail
    go_loopw [6] (fun v6 wr => ∃ (i : Nat) (s : Stt) (AS : Option Addr) (cS : Nat) (us : List Vt), i ≤ m ∧ v6 = .int .i64 (i : Int) ∧ Hid (Below w.heap.size w wr) ∧ Hid (Cel wr w.heap.size 25 [.slice A n c, .slice A1 nv c1, .int .i64 most]) ∧ Hid (Cel wr g5 31 [.int .i64 s.step, .int .i64 s.visit, .int .i64 s.tries, .int .i64 s.off, .slice AS us.length cS]) ∧ Hid (Tvs wr T AS us ∧ Trow wr T AS us ∧ txt us = s.vars) ∧ Hid ((s.vars.length = nv ∧ s.visit < 9223372036854775808 ∧ s.tries < 9223372036854775808) ∧ ∀ x ∈ s.vars, x.length ≤ 300)) (fun v6 _ => m - (intOf v6).toNat)
    case atStart => exact ⟨0, st, AS, cS, us, Nat.zero_le _, rfl, HB5, HC5, HD5, HU5, HZ5⟩
    case round =>
     clear HB5 HC5 HD5 HU5 HZ5
     obtain ⟨i, s, AS, cS, us, hi, rfl, HB6, HC6, HD6, HU6, HZ6⟩ := hrel
     obtain ⟨W6, rfl⟩ : ∃ W, W = wr := ⟨_, rfl⟩
     rcases Nat.lt_or_ge i m with hlt | hge
     rotate_left
     ·obtain rfl : i = m := by omega
      go_wp2_with fail
      refine (KN.out _ HB6.out).mono ?_
      rintro e wk ⟨rfl, hbk⟩
      have HBK := Lib.hid hbk
      clear hbk
      go_wp2_with fail
      go_ret
      exact ⟨rfl, HBK.out⟩
     obtain ⟨v, hv⟩ : ∃ v, rs[i]? = some v := ⟨_, List.getElem?_eq_getElem (by rw [HRL.out]; exact hlt)⟩
     obtain ⟨ad, hC, hk, kk0, hok⟩ := frc_at (HR.out _ HB6.out) hv
     have hlv := hok.vl
     have hml := hok.ml
     unfold maxLen at hlv hml
     have HOK := Lib.hid hok
     have HKC := Lib.hid hk
     have HKK := Lib.hid kk0
     have HV := Lib.hid hv
     have HCE := Lib.hid hC
     subst hC
     have k12 : W6.cell? ⟨(ad.add (i * 13)).block, (ad.add (i * 13)).off + 12, none⟩ = some (.slice v.AV v.r.value.length v.cV) := hk 12 _ (by decide) rfl
     have k1 : W6.cell? ⟨(ad.add (i * 13)).block, (ad.add (i * 13)).off + 1, none⟩ = some (.int .i64 v.r.s.step) := hk 1 _ (by decide) rfl
     have k2 : W6.cell? ⟨(ad.add (i * 13)).block, (ad.add (i * 13)).off + 1 + 1, none⟩ = some (.int .i64 v.r.s.visit) := hk 2 _ (by decide) rfl
     have k3 : W6.cell? ⟨(ad.add (i * 13)).block, (ad.add (i * 13)).off + 1 + 2, none⟩ = some (.int .i64 v.r.s.tries) := hk 3 _ (by decide) rfl
     have k4 : W6.cell? ⟨(ad.add (i * 13)).block, (ad.add (i * 13)).off + 1 + 3, none⟩ = some (.int .i64 v.r.s.off) := hk 4 _ (by decide) rfl
     have k5 : W6.cell? ⟨(ad.add (i * 13)).block, (ad.add (i * 13)).off + 1 + 4, none⟩ = some (.slice v.AL v.vs.length v.cL) := hk 5 _ (by decide) rfl
     obtain ⟨vl, hvl⟩ : ∃ q, q = v.r.value.length := ⟨_, rfl⟩
     rw [← hvl] at k12 hml
     have HVL := Lib.hid hvl
     clear hv hk hok hvl HCE kk0
     by_cases t3 : 300 < vl
     ·have d3 : decide ((300 : Int) < (vl : Int)) = true := by simp; omega
      go_wp2_with fail
      refine (KN.out _ HB6.out).mono ?_
      rintro e wk ⟨rfl, hbk⟩
      have HBK := Lib.hid hbk
      clear hbk
      go_wp2_with fail
      go_ret
      exact ⟨rfl, HBK.out⟩
     have d3 : decide ((300 : Int) < (vl : Int)) = false := by simp; omega
     have con := fewS16 W6 T (HTW.out _ HB6.out) v.r.s.step v.r.s.visit v.r.s.tries v.r.s.off v.AL v.vs.length v.cL v.vs HOK.out.vs rfl (by unfold maxLen; exact hlv)
     unfold stval at con
     go_wp2_with fail
     refine con.mono ?_
     clear con
     rintro e w7 ⟨b3, rfl, hb7, hx3⟩
     have HB7 := Lib.hid (HB6.out.trans (hb7.mono HB6.out.size))
     have HH7 := Lib.hid hb7
     have HX3 := Lib.hid hx3
     clear hb7 hx3 k1 k2 k3 k4 k5 k12
     cases b3 with
     | false =>
      go_wp2_with fail
      refine (KN.out _ HB7.out).mono ?_
      rintro e wk ⟨rfl, hbk⟩
      have HBK := Lib.hid hbk
      clear hbk
      go_wp2_with fail
      go_ret
      exact ⟨rfl, HBK.out⟩
     | true =>
      obtain ⟨q1, q2⟩ := HX3.out (by first | rfl | trivial)
      clear HX3
      go_upto_region 9 with fail
      obtain ⟨W8, hW8⟩ : ∃ W, W = w7.drew := ⟨_, rfl⟩
      have hb68 : Below W6.heap.size W6 W8 := by rw [hW8]; exact HH7.out.drew
      have HB8 := Lib.hid (HB6.out.trans (hb68.mono HB6.out.size))
      have HC8 := Lib.hid (HC6.out.below hb68 HC6.out.lt)
      have HD8 := Lib.hid (HD6.out.below hb68 HD6.out.lt)
      have HU8 : Hid (Tvs W8 T AS us ∧ Trow W8 T AS us ∧ txt us = s.vars) := Lib.hid ⟨HU6.out.1.below (HTW.out _ HB6.out) hb68, HU6.out.2.1.below hb68, HU6.out.2.2⟩
      obtain ⟨R, hR⟩ : ∃ R, R = nextR bk s v.r := ⟨_, rfl⟩
      have HRE := Lib.hid hR
      have CON := Lib.hid (show ∀ V, Below W8.heap.size W8 V → Calls Try.prog 13 #[.agg #[.slice A n c, .slice A1 nv c1, .int .i64 most], .agg #[.int .i64 s.step, .int .i64 s.visit, .int .i64 s.tries, .int .i64 s.off, .slice AS us.length cS], .agg v.cells.toArray] V (PnSays V T R) from fun V hV => by
       have hw := HB8.out.trans (hV.mono HB8.out.size)
       have hul : us.length = nv := by
        have e1 := congrArg List.length HU8.out.2.2
        unfold txt at e1
        rw [List.length_map, HZ6.out.1.1] at e1
        exact e1
       have q := HN V T (HTW.out _ hw) A n c vs (HF.out _ hw) A1 nv c1 most HFIT.out s.step s.visit s.tries s.off HZ6.out.1.2.1 HZ6.out.1.2.2 AS us.length cS us (HU8.out.1.below (HTW.out _ HB8.out) hV) (HU8.out.2.1.below hV) rfl (by rw [hul]; exact HFIT.out.vars) (fun u hu => HZ6.out.2 u.t (by rw [← HU8.out.2.2]; exact List.mem_map.2 ⟨u, hu, rfl⟩)) v (HOK.out.below (HTW.out _ HB6.out) (hb68.trans (hV.mono hb68.size))) ((HTR.out v (List.mem_of_getElem? HV.out)).below hw) q1 q2 (by rw [← HVL.out]; omega)
       rw [HU8.out.2.2, ← HBE.out, ← hR] at q
       exact q)
      have HRC := Lib.hid (show ∀ V, Below W8.heap.size W8 V → (∀ k u, 0 < k → v.cells[k]? = some u → V.cell? ⟨(ad.add (i * 13)).block, (ad.add (i * 13)).off + k, none⟩ = some u) ∧ V.cell? (ad.add (i * 13)) = some (.int .i64 v.r.kind) from fun V hV => by
       have hw := hb68.trans (hV.mono hb68.size)
       exact ⟨fun k u hk hu => (hw.cell (cell_lt (HKC.out k u hk hu))).trans (HKC.out k u hk hu), (hw.cell (cell_lt HKK.out)).trans HKK.out⟩)
      clear hb68 q1 q2 HB7 HH7 HC6 HD6 HU6 HB6 HKC HKK hR
      go_cut [7, 8] from 48 to 57 (fun s7 s8 wx => ∃ (g : Nat) (z : Int), s7 = .pointer (some ⟨g, 0, none⟩) ∧ s8 = .int .i64 z ∧ Rs W8 wx T g z R)
      case first =>
       refine wp_region_N [] (Below W8.heap.size W8) (by kernel_rfl) ?_
       rw [← hW8]
       have hH : Below W8.heap.size W8 W8 := Below.refl _ _
       clear hW8
       refine tk_ 0 (.agg #[.slice A n c, .slice A1 nv c1, .int .i64 most]) [] rfl hH ?_ ?_
       ·intro V hV; have hc := HC8.out.below hV HC8.out.lt; have k0 := hc.cell 0; have k1 := hc.cell 1; have k2 := hc.cell 2; clear hc; go_simp
       try simp only [Act.put, lay_]
       refine tk_ 1 (.agg #[.int .i64 s.step, .int .i64 s.visit, .int .i64 s.tries, .int .i64 s.off, .slice AS us.length cS]) [] rfl hH ?_ ?_
       ·intro V hV; have hc := HD8.out.below hV HD8.out.lt; have k0 := hc.cell 0; have k1 := hc.cell 1; have k2 := hc.cell 2; have k3 := hc.cell 3; have k4 := hc.cell 4; clear hc; go_simp
       try simp only [Act.put, lay_]
       refine tk_ 2 (.slice (some ad) m d) [] rfl hH ?_ ?_
       ·intro V hV; go_simp
       try simp only [Act.put, lay_]
       refine tk_ 3 (.int .i64 (i : Int)) [] rfl hH ?_ ?_
       ·intro V hV; go_simp
       try simp only [Act.put, lay_]
       refine tk_ 4 (.pointer (some (ad.add (i * 13)))) [] rfl hH ?_ ?_
       ·intro V hV; go_simp
       try simp only [Act.put, lay_]
       refine tk_ 5 (.agg #[.int .i64 v.r.kind, .int .i64 v.r.s.step, .int .i64 v.r.s.visit, .int .i64 v.r.s.tries, .int .i64 v.r.s.off, .slice v.AL v.vs.length v.cL, .int .i64 v.r.visit, .int .i64 v.r.step, .int .i64 v.r.try_, .int .i64 v.r.to, .int .i64 v.r.off, .int .i64 v.r.var, .slice v.AV v.r.value.length v.cV]) [] rfl hH ?_ ?_
       ·intro V hV; obtain ⟨hk, k0⟩ := HRC.out V hV; have k1 : V.cell? ⟨(ad.add (i * 13)).block, (ad.add (i * 13)).off + 1, none⟩ = some (.int .i64 v.r.s.step) := hk 1 _ (by decide) rfl; have k2 : V.cell? ⟨(ad.add (i * 13)).block, (ad.add (i * 13)).off + 2, none⟩ = some (.int .i64 v.r.s.visit) := hk 2 _ (by decide) rfl; have k3 : V.cell? ⟨(ad.add (i * 13)).block, (ad.add (i * 13)).off + 3, none⟩ = some (.int .i64 v.r.s.tries) := hk 3 _ (by decide) rfl; have k4 : V.cell? ⟨(ad.add (i * 13)).block, (ad.add (i * 13)).off + 4, none⟩ = some (.int .i64 v.r.s.off) := hk 4 _ (by decide) rfl; have k5 : V.cell? ⟨(ad.add (i * 13)).block, (ad.add (i * 13)).off + 5, none⟩ = some (.slice v.AL v.vs.length v.cL) := hk 5 _ (by decide) rfl; have k6 : V.cell? ⟨(ad.add (i * 13)).block, (ad.add (i * 13)).off + 6, none⟩ = some (.int .i64 v.r.visit) := hk 6 _ (by decide) rfl; have k7 : V.cell? ⟨(ad.add (i * 13)).block, (ad.add (i * 13)).off + 7, none⟩ = some (.int .i64 v.r.step) := hk 7 _ (by decide) rfl; have k8 : V.cell? ⟨(ad.add (i * 13)).block, (ad.add (i * 13)).off + 8, none⟩ = some (.int .i64 v.r.try_) := hk 8 _ (by decide) rfl; have k9 : V.cell? ⟨(ad.add (i * 13)).block, (ad.add (i * 13)).off + 9, none⟩ = some (.int .i64 v.r.to) := hk 9 _ (by decide) rfl; have k10 : V.cell? ⟨(ad.add (i * 13)).block, (ad.add (i * 13)).off + 10, none⟩ = some (.int .i64 v.r.off) := hk 10 _ (by decide) rfl; have k11 : V.cell? ⟨(ad.add (i * 13)).block, (ad.add (i * 13)).off + 11, none⟩ = some (.int .i64 v.r.var) := hk 11 _ (by decide) rfl; have k12 : V.cell? ⟨(ad.add (i * 13)).block, (ad.add (i * 13)).off + 12, none⟩ = some (.slice v.AV v.r.value.length v.cV) := hk 12 _ (by decide) rfl; clear hk; go_simp
       try simp only [Act.put, lay_]
       refine wpAnyN_two (i := 6) (j := 10) (by kernel_rfl) rfl rfl (fun K hK => ?_) (fun K hK => ?_)
       ·have con := CON.out W8 hH
        go_simp
        refine con.mono ?_
        clear con
        intro e V hpn
        obtain ⟨x1, x2, x3, x4, AX, nX, cX, z, rfl, hbV, hx⟩ := pn_form hpn
        have HX := Lib.hid hx
        clear hpn hx
        go_wp2_with fail
        refine hK.out _ _ (.inr hbV) ?_
        clear hK K hH
        have hH := hbV
        try simp only [Act.put, lay_]
        refine tk_ 7 (.tuple #[.agg #[.int .i64 x1, .int .i64 x2, .int .i64 x3, .int .i64 x4, .slice AX nX cX], .int .i64 z]) [] rfl hH ?_ ?_
        ·intro V hV; go_simp
        try simp only [Act.put, lay_]
        refine tk_ 8 (.agg #[.int .i64 x1, .int .i64 x2, .int .i64 x3, .int .i64 x4, .slice AX nX cX]) [] rfl hH ?_ ?_
        ·intro V hV; go_simp
        try simp only [Act.put, lay_]
        refine tk_ 9 (.int .i64 z) [] rfl hH ?_ ?_
        ·intro V hV; go_simp
        try simp only [Act.put, lay_]
        have hbz : Below V.heap.size V (V.alloc (.cells #[.int .i64 0, .int .i64 0, .int .i64 0, .int .i64 0, .slice none 0 0] 31)) := (Below.refl _ _).alloc (Nat.le_refl _) _
        have hbx : Below V.heap.size V (V.alloc (.cells #[.int .i64 x1, .int .i64 x2, .int .i64 x3, .int .i64 x4, .slice AX nX cX] 31)) := (Below.refl _ _).alloc (Nat.le_refl _) _
        have HCX := Lib.hid (Cel.new V 31 [.int .i64 x1, .int .i64 x2, .int .i64 x3, .int .i64 x4, .slice AX nX cX])
        refine wpAnyN_one (i := 10) (by kernel_rfl) rfl (fun K hK => ?_)
        go_simp
        refine hK.out _ _ (.inr (hH.trans (hbz.mono hH.size))) ?_
        clear hK K
        try simp only [Act.put, lay_]
        refine wpAnyN_one (i := 11) (by kernel_rfl) rfl (fun K hK => ?_)
        go_simp
        refine hK.out _ _ (.inr (hH.trans (hbx.mono hH.size))) ?_
        clear hK K
        try simp only [Act.put, lay_]
        have HRS := Lib.hid (rs_of HX.out (hH.trans (hbx.mono hH.size)) hH.size HCX.out (fun us h1 h2 => ⟨h1.below (HTW.out _ (HB8.out.trans (hH.mono HB8.out.size))) hbx, h2.below hbx⟩))
        refine wpAnyN_one (i := 12) (by kernel_rfl) rfl (fun K hK => ?_)
        go_simp
        refine hK.out _ _ (.inr (hH.trans (hbx.mono hH.size))) ?_
        clear hK K
        try simp only [Act.put, lay_]
        refine wpAnyN_done (by kernel_rfl) ?_ _
        clear hH hbz hbx
        go_wp2_with fail
        go_meet
        case rel => exact ⟨V.heap.size, z, rfl, rfl, HRS.out⟩
       ·have hbz : Below W8.heap.size W8 (W8.alloc (.cells #[.int .i64 0, .int .i64 0, .int .i64 0, .int .i64 0, .slice none 0 0] 31)) := (Below.refl _ _).alloc (Nat.le_refl _) _
        have hcz : Cel (W8.alloc (.cells #[.int .i64 0, .int .i64 0, .int .i64 0, .int .i64 0, .slice none 0 0] 31)) W8.heap.size 31 [.int .i64 0, .int .i64 0, .int .i64 0, .int .i64 0, .slice none 0 0] := Cel.new W8 _ _
        go_simp
        refine hK.out _ _ (.inr hbz) ?_
        clear hK K
        try simp only [Act.put, lay_]
        have con := CON.out _ hbz
        refine wpAnyN_one (i := 6) (by kernel_rfl) rfl (fun K hK => ?_)
        go_simp
        refine con.mono ?_
        clear con
        intro e V hpn
        obtain ⟨x1, x2, x3, x4, AX, nX, cX, z, rfl, hbV, hx⟩ := pn_form hpn
        have HX := Lib.hid hx
        have hcV := hcz.below hbV hcz.lt
        clear hpn hx hH
        have hH := hbz.trans (hbV.mono hbz.size)
        go_wp2_with fail
        refine hK.out _ _ (.inr hH) ?_
        clear hK K
        try simp only [Act.put, lay_]
        refine tk_ 7 (.tuple #[.agg #[.int .i64 x1, .int .i64 x2, .int .i64 x3, .int .i64 x4, .slice AX nX cX], .int .i64 z]) [] rfl hH ?_ ?_
        ·intro V hV; go_simp
        try simp only [Act.put, lay_]
        refine tk_ 8 (.agg #[.int .i64 x1, .int .i64 x2, .int .i64 x3, .int .i64 x4, .slice AX nX cX]) [] rfl hH ?_ ?_
        ·intro V hV; go_simp
        try simp only [Act.put, lay_]
        refine tk_ 9 (.int .i64 z) [] rfl hH ?_ ?_
        ·intro V hV; go_simp
        try simp only [Act.put, lay_]
        have k0 := hcV.cell 0
        have k1 := hcV.cell 1
        have k2 := hcV.cell 2
        have k3 := hcV.cell 3
        have k4 := hcV.cell 4
        have f0 := hcV.free 0
        have f1 := hcV.free 1
        have f2 := hcV.free 2
        have f3 := hcV.free 3
        have f4 := hcV.free 4
        have hfx := fw5_frm V W8.heap.size (.int .i64 x1) (.int .i64 x2) (.int .i64 x3) (.int .i64 x4) (.slice AX nX cX)
        have hbx : Below W8.heap.size W8 (fw5 V W8.heap.size (.int .i64 x1) (.int .i64 x2) (.int .i64 x3) (.int .i64 x4) (.slice AX nX cX)) := hH.trans (hfx.below hH.size (by simp))
        have HRS := Lib.hid (rs_of HX.out hbx (Nat.le_refl _) (fw5_cel (a := .int .i64 x1) (b := .int .i64 x2) (c := .int .i64 x3) (d := .int .i64 x4) (e := .slice AX nX cX) hcV) (fun us h1 h2 => h1.frm h2 hfx (fun q hq => by
         simp at hq
         subst hq
         exact ⟨HTW.out _ HB8.out, hcV.not_ty (by decide), hcV.not_ty (by decide)⟩)))
        unfold fw5 at HRS hbx
        refine wpAnyN_one (i := 11) (by kernel_rfl) rfl (fun K hK => ?_)
        go_simp
        refine hK.out _ _ (.inr hbx) ?_
        clear hK K
        try simp only [Act.put, lay_]
        refine wpAnyN_one (i := 12) (by kernel_rfl) rfl (fun K hK => ?_)
        go_simp
        refine hK.out _ _ (.inr hbx) ?_
        clear hK K
        try simp only [Act.put, lay_]
        refine wpAnyN_done (by kernel_rfl) ?_ _
        clear hH hbz hbx hcz hcV hfx k0 k1 k2 k3 k4 f0 f1 f2 f3 f4
        go_wp2_with fail
        go_meet
        case rel => exact ⟨W8.heap.size, z, rfl, rfl, HRS.out⟩
      case rest =>
       obtain ⟨g, z, rfl, rfl, hrs⟩ := hcut
       obtain ⟨W9, hW9⟩ : ∃ W, W = wc := ⟨_, rfl⟩
       rw [← hW9] at hrs ⊢
       clear hW9 hW8
       obtain ⟨hb9, hg9, hres⟩ := hrs
       have HB9 := Lib.hid (HB8.out.trans (hb9.mono HB8.out.size))
       have HC9 := Lib.hid (HC8.out.below hb9 HC8.out.lt)
       have HD9 := Lib.hid (HD8.out.below hb9 HD8.out.lt)
       have HU9 : Hid (Tvs W9 T AS us ∧ Trow W9 T AS us ∧ txt us = s.vars) := Lib.hid ⟨HU8.out.1.below (HTW.out _ HB8.out) hb9, HU8.out.2.1.below hb9, HU8.out.2.2⟩
       have kkk := (HRC.out W9 hb9).2
       have HG9 := Lib.hid (Nat.le_trans (HTW.out _ HB8.out) hg9)
       rcases hres with ⟨_, rfl⟩ | ⟨t, AT, cT, ut, hrt, rfl, hct, hut, hurt, huxt⟩
       ·clear hb9 hg9 kkk HB8 HC8 HD8 HU8
        go_wp2_with fail
        exact ⟨⟨i + 1, s, AS, cS, us, by omega, by rw [show ((i + 1 : Nat) : Int) = (i : Int) + 1 by omega], HB9, HC9, HD9, HU9, HZ6⟩, by simp [intOf]; omega⟩
       ·have hnx : nextR bk s v.r = some t := by rw [← HRE.out, hrt]
        obtain ⟨⟨hs0, hs1⟩, hi2, hi3⟩ := rises hnx
        obtain ⟨hright, hmay, _, _, hk1, _⟩ := next_some hnx
        have hkind := Rec.may_kind hmay
        have hns := (right_nums hright).2.2.2.1
        have hvs1 := (right_nums hright).2.2.1
        have hvs2 : s.visit ≤ 1000001 := by
         have q := ((right_more hright).2 hs0).1
         have q2 := HFIT.out.most
         have q3 : bk.most = most := by rw [HBE.out]; rfl
         omega
        have hlen : bk.steps.length = n := by rw [HBE.out]; unfold bok; simp [HL.out]
        obtain ⟨j, hj⟩ : ∃ j : Nat, s.step = (j : Int) := ⟨s.step.toNat, by omega⟩
        have hjn : j < n := by omega
        have HZT : Hid ((t.vars.length = nv ∧ t.visit < 9223372036854775808 ∧ t.tries < 9223372036854775808) ∧ ∀ x ∈ t.vars, x.length ≤ 300) := Lib.hid ⟨⟨by rw [next_len hnx, HBE.out]; rfl, next_most hnx (by rw [HBE.out]; exact HFIT.out.most.2) (by rw [HBE.out]; intro p hp; obtain ⟨q, hq, rfl⟩ := List.mem_map.1 (show p ∈ vs.map Fs.m from hp); exact (HFIT.out.try_ q hq).2)⟩, fun x hx => by have := next_small hnx x hx; omega⟩
        have HUT : Hid (Tvs W9 T AT ut ∧ Trow W9 T AT ut ∧ txt ut = t.vars) := Lib.hid ⟨hut, hurt, huxt⟩
        obtain ⟨f, hf⟩ : ∃ f, vs[j]? = some f := ⟨_, List.getElem?_eq_getElem (by rw [HL.out]; exact hjn)⟩
        have hbs : bk.steps[s.step.toNat]? = some f.m := by rw [HBE.out, hj, Int.toNat_natCast]; unfold bok; rw [List.getElem?_map, hf]; rfl
        have hft := HFIT.out.try_ f (List.mem_of_getElem? hf)
        obtain ⟨ab, hA, _, _, _, _, _, kt, _⟩ := (HF.out _ HB9.out).at_ hf
        have HAE := Lib.hid hA
        have hne : g ≠ g5 := fun e => by have := HD8.out.lt; omega
        have HNE := Lib.hid hne
        have k0 : W9.cell? ⟨g5, 0, none⟩ = some (.int .i64 (j : Int)) := by rw [← hj]; exact HD9.out.cell 0
        have k1 := HD9.out.cell 1
        have k2 := HD9.out.cell 2
        have k3 := HD9.out.cell 3
        have f0 := HD9.out.free 0
        have f1 := HD9.out.free 1
        have f2 := HD9.out.free 2
        have f3 := HD9.out.free 3
        have f4 := HD9.out.free 4
        have k4 := HD9.out.cell 4
        have c0 : W9.cell? ⟨w.heap.size, 0, none⟩ = some (.slice (some ab) n c) := by rw [← hA]; exact HC9.out.cell 0
        have d1 : decide ((j : Int) < 0) = false := by simp
        have d2 : decide ((n : Int) ≤ (j : Int)) = false := by simp; omega
        have HREL := Lib.hid (show ∀ (q : Nat) (y0 y1 y2 y3 y4 : Value), y0 = .int .i64 t.step → y1 = .int .i64 t.visit → y2 = .int .i64 t.tries → y3 = .int .i64 t.off → y4 = .slice AT ut.length cT → Below w.heap.size w (fw5 (W9.drewN q) g5 y0 y1 y2 y3 y4) ∧ Cel (fw5 (W9.drewN q) g5 y0 y1 y2 y3 y4) w.heap.size 25 [.slice A n c, .slice A1 nv c1, .int .i64 most] ∧ Cel (fw5 (W9.drewN q) g5 y0 y1 y2 y3 y4) g5 31 [.int .i64 t.step, .int .i64 t.visit, .int .i64 t.tries, .int .i64 t.off, .slice AT ut.length cT] ∧ (Tvs (fw5 (W9.drewN q) g5 y0 y1 y2 y3 y4) T AT ut ∧ Trow (fw5 (W9.drewN q) g5 y0 y1 y2 y3 y4) T AT ut ∧ txt ut = t.vars) from fun q y0 y1 y2 y3 y4 e0 e1 e2 e3 e4 => by
         subst e0 e1 e2 e3 e4
         have hd : Cel (W9.drewN q) g5 31 [.int .i64 s.step, .int .i64 s.visit, .int .i64 s.tries, .int .i64 s.off, .slice AS us.length cS] := HD9.out
         have hfx := fw5_frm (W9.drewN q) g5 (.int .i64 t.step) (.int .i64 t.visit) (.int .i64 t.tries) (.int .i64 t.off) (.slice AT ut.length cT)
         have hbq : Below w.heap.size w (W9.drewN q) := fbelow_drew HB9.out q
         have htq : Tvs (W9.drewN q) T AT ut := ⟨HUT.out.1.cr, fun v hv => ⟨HUT.out.1.tx v hv |>.1, (HUT.out.1.tx v hv).2⟩⟩
         have hcq : Cel (W9.drewN q) w.heap.size 25 [.slice A n c, .slice A1 nv c1, .int .i64 most] := HC9.out
         have hg5 : w.heap.size ≤ g5 := HG5.out
         obtain ⟨q1, q2⟩ := htq.frm HUT.out.2.1 hfx (fun z hz => by
          simp at hz
          subst hz
          exact ⟨by have := HTE.out; omega, hd.not_ty (by decide), hd.not_ty (by decide)⟩)
         exact ⟨hbq.trans (hfx.below hbq.size (by simp; exact hg5)), hcq.frm hfx (by simp; exact hcq.ne hd (by decide)), fw5_cel hd, q1, q2, HUT.out.2.2⟩)
        have hkk : v.r.kind = 2 ∨ v.r.kind = 3 := hkind.resolve_left hk1
        subst hA
        clear hb9 hg9 HB8 HC8 HD8 HU8 hright hmay hk1 hkind hut hurt huxt hrt hnx hne hs0 hs1
        rcases hkk with hk | hk
        ·obtain ⟨e1, e2, e3, e4, p, hp, hle⟩ := hi2 hk
         rw [hbs] at hp
         injection hp with hp
         subst hp
         have hle2 : s.tries ≤ f.try_ := by have : f.m.try_ = f.try_ := rfl; omega
         rw [e1, e2, e3, e4] at hct
         rw [hk] at kkk
         have x0 : W9.cell? ⟨g, 0, none⟩ = some (.int .i64 (j : Int)) := by rw [← hj]; exact hct.cell 0
         have x1 := hct.cell 1
         have x2 := hct.cell 2
         have x3 := hct.cell 3
         have x4 := hct.cell 4
         have d3 : decide (f.try_ + 1 < s.tries + 1) = false := by simp; omega
         have HREL2 := Lib.hid (fun q => HREL.out q (.int .i64 (j : Int)) (.int .i64 s.visit) (.int .i64 (s.tries + 1)) (.int .i64 s.off) (.slice AT ut.length cT) (by rw [e3, hj]) (by rw [e1]) (by rw [e2]) (by rw [e4]) rfl)
         clear hi2 hi3 hk e1 e2 e3 e4 hbs hct hle HREL hj hlen hf
         generalize s.tries = str_ at *
         generalize f.try_ = ftr at *
         have w1 : IntKind.i64.wrap (str_ + 1) = str_ + 1 := by rw [IntKind.wrap_i64]; omega
         have w2 : IntKind.i64.wrap (ftr + 1) = ftr + 1 := by rw [IntKind.wrap_i64]; omega
         have w3 : wrap64 (str_ + 1) = str_ + 1 := by unfold wrap64; omega
         have w4 : wrap64 (ftr + 1) = ftr + 1 := by unfold wrap64; omega
         go_wp2_with fail
         go_quiet (fail)
         go_wp2_with fail
         obtain ⟨r1, r2, r3, r4⟩ := HREL2.out nq
         unfold fw5 at r1 r2 r3 r4
         exact ⟨⟨i + 1, t, AT, cT, ut, by omega, by rw [show ((i + 1 : Nat) : Int) = (i : Int) + 1 by omega], Lib.hid r1, Lib.hid r2, Lib.hid r3, Lib.hid r4, HZT⟩, by simp [intOf]; omega⟩
        ·obtain ⟨e1, e2, e3, e4⟩ := hi3 hk
         rw [e1, e2] at hct
         rw [hk] at kkk
         have x0 := hct.cell 0
         have x1 := hct.cell 1
         have x2 := hct.cell 2
         have x3 := hct.cell 3
         have x4 := hct.cell 4
         have d3 : decide (t.off < s.off) = false := by simp; omega
         have d4 : decide (s.tries < 1) = false := by simp; omega
         have HREL2 := Lib.hid (fun q => HREL.out q (.int .i64 t.step) (.int .i64 (s.visit + 1)) (.int .i64 0) (.int .i64 t.off) (.slice AT ut.length cT) rfl (by rw [e1]) (by rw [e2]) rfl rfl)
         clear hi2 hi3 hk e1 e2 hbs hct HREL hj hlen hf kt
         generalize s.visit = svi at *
         generalize s.tries = str_ at *
         generalize s.off = sof at *
         have w1 : IntKind.i64.wrap (svi + 1) = svi + 1 := by rw [IntKind.wrap_i64]; omega
         have w3 : wrap64 (svi + 1) = svi + 1 := by unfold wrap64; omega
         go_wp2_with fail
         go_quiet (fail)
         go_wp2_with fail
         obtain ⟨r1, r2, r3, r4⟩ := HREL2.out nq
         unfold fw5 at r1 r2 r3 r4
         exact ⟨⟨i + 1, t, AT, cT, ut, by omega, by rw [show ((i + 1 : Nat) : Int) = (i : Int) + 1 by omega], Lib.hid r1, Lib.hid r2, Lib.hid r3, Lib.hid r4, HZT⟩, by simp [intOf]; omega⟩
end Go.Proofs.Ytfmkkklcgiaacaa.Fold
