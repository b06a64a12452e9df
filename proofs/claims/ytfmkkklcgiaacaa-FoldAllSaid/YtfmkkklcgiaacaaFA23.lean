/-
Texts: FoldPall FoldAllW OrdersTwo
-/
import Derived.Test.YtfmkkklcgiaacaaFA0
import Derived.Test.YtfmkkklcgiaacaaFA1
import Derived.Test.YtfmkkklcgiaacaaFA2
import Derived.Test.YtfmkkklcgiaacaaFA3
import Derived.Test.YtfmkkklcgiaacaaFA4
import Derived.Test.YtfmkkklcgiaacaaFA5
import Derived.Test.YtfmkkklcgiaacaaFA6
import Derived.Test.YtfmkkklcgiaacaaFA8
import Derived.Test.YtfmkkklcgiaacaaFA9
import Derived.Test.YtfmkkklcgiaacaaFA10
import Derived.Test.YtfmkkklcgiaacaaFA13
import Derived.Test.YtfmkkklcgiaacaaFA15
import Derived.Test.YtfmkkklcgiaacaaFA16
import Derived.Test.YtfmkkklcgiaacaaFA21
import Derived.Test.YtfmkkklcgiaacaaFA22
set_option linter.unusedVariables false
set_option linter.unusedSimpArgs false
set_option maxRecDepth 100000
set_option maxHeartbeats 4000000
section
namespace Go.Proofs.Ytfmkkklcgiaacaa.Fold
open Go.RowKit Go.Proofs.Ytfmkkklcgiaacaa.Ord
open Lex (Tx)
open Rec (Stt Rc Rv Rok Vt Tvs Trow txt may get)
theorem may_small {r : Rc} (h : may r = true) : r.s.visit < 9223372036854775808 ∧ r.s.tries < 9223372036854775808 := by
 rcases Rec.may_kind h with hk | hk | hk
 ·obtain ⟨_, _, h2, h3, _⟩ := Rec.may1 h hk
  omega
 ·obtain ⟨e, _⟩ := Rec.may2 h hk
  have e1 : r.s = Rec.rc0.s := by rw [e]
  rw [e1]
  decide
 ·obtain ⟨e, _⟩ := Rec.may3 h hk
  have e1 : r.s = Rec.rc0.s := by rw [e]
  rw [e1]
  decide
def AllAt (W : World) (g : Nat) (A : Option Addr) (n c : Nat) (A1 : Option Addr) (nv c1 : Nat) (most : Int) (vs : List Fs) (T : Option Stt) (i : Nat) (l : List (List B)) : Prop :=
 (i = 0 ∧ Cel W g 54 (rcells A n c A1 nv c1 most false 0 0 0 0 none 0 0) ∧ T = allR (bok vs nv most) l) ∨
 (i ≠ 0 ∧ ∃ s, RunIs W g g A n c A1 nv c1 most s ∧ s.visit < 9223372036854775808 ∧ s.tries < 9223372036854775808 ∧ s.vars.length = nv ∧ T = allF (bok vs nv most) s l)
theorem AllAt.below {W V : World} {g : Nat} {A : Option Addr} {n c : Nat} {A1 : Option Addr} {nv c1 : Nat} {most : Int} {vs : List Fs} {T : Option Stt} {i : Nat} {l : List (List B)} (h : AllAt W g A n c A1 nv c1 most vs T i l) (hb : Below W.heap.size W V) : AllAt V g A n c A1 nv c1 most vs T i l := by
 rcases h with ⟨h1, h2, h3⟩ | ⟨h1, s, h2, h3⟩
 ·exact .inl ⟨h1, h2.below hb h2.lt, h3⟩
 ·exact .inr ⟨h1, s, h2.below hb, h3⟩
theorem AllAt.lt {W : World} {g : Nat} {A : Option Addr} {n c : Nat} {A1 : Option Addr} {nv c1 : Nat} {most : Int} {vs : List Fs} {T : Option Stt} {i : Nat} {l : List (List B)} (h : AllAt W g A n c A1 nv c1 most vs T i l) : g < W.heap.size := by
 rcases h with ⟨h1, h2, h3⟩ | ⟨h1, s, ⟨q, cL, us, _, hc, _⟩, h3⟩
 ·exact h2.lt
 ·exact hc.lt
theorem all_bad {W : World} {g : Nat} {A : Option Addr} {n c : Nat} {A1 : Option Addr} {nv c1 : Nat} {most : Int} {vs : List Fs} {T : Option Stt} {i : Nat} {x : List B} {l : List (List B)} (h : AllAt W g A n c A1 nv c1 most vs T i (x :: l)) (hg : get x = none) : T = none := by
 rcases h with ⟨_, _, h3⟩ | ⟨_, s, _, _, _, _, h3⟩
 ·rw [h3, allR_cons, hg]; rfl
 ·rw [h3, allF_cons, hg]; rfl
theorem all_meet (w : World) (g : Nat) (A : Option Addr) (n c : Nat) (A1 : Option Addr) (nv c1 : Nat) (most : Int) (vs : List Fs) (hf : Fbk w A vs) (hfit : Bfit vs n nv most) (T : Option Stt) (i : Nat) (x : List B) (l : List (List B)) (h : AllAt w g A n c A1 nv c1 most vs T i (x :: l)) (v : Rv) (hg : get x = some v.r) (hr : Rok w 0 v) :
  Calls Try.prog 16 #[pp g 0, .agg v.cells.toArray] w fun e w' => ∃ b, e = .returned (.bool b) ∧ Below g w w' ∧ (b = false → T = none) ∧ (b = true → AllAt w' g A n c A1 nv c1 most vs T (i + 1) l) := by
 have hm := (Rec.put_get hg).2
 rcases h with ⟨h1, h2, h3⟩ | ⟨h1, s, h2, h4, h5, h6, h3⟩
 ·refine (meet_off w g g A n c A1 nv c1 most 0 (Nat.zero_le _) (Nat.le_refl _) h2 vs hf hfit v hr hm (may_small hm).1 (may_small hm).2).mono ?_
  rintro e w' ⟨b, rfl, hb, hno, hyes⟩
  rw [allR_cons, hg] at h3
  change T = (if v.r.kind = 1 ∧ right (bok vs nv most) v.r.s = true then allF (bok vs nv most) v.r.s l else none) at h3
  refine ⟨b, rfl, hb, fun q => ?_, fun q => ?_⟩
  ·by_cases hc : v.r.kind = 1 ∧ right (bok vs nv most) v.r.s = true
   ·have := (hno q).1
    rw [if_pos hc] at this
    cases this
   ·rw [h3, if_neg hc]
  ·obtain ⟨t, ht, hrun⟩ := hyes q
   by_cases hc : v.r.kind = 1 ∧ right (bok vs nv most) v.r.s = true
   ·rw [if_pos hc] at ht h3
    injection ht with ht
    subst ht
    exact .inr ⟨by omega, _, hrun, (may_small hm).1, (may_small hm).2, (right_nums hc.2).2.2.2.2.2.2.1, h3⟩
   ·rw [if_neg hc] at ht
    cases ht
 ·refine (meet_on w g g A n c A1 nv c1 most 0 (Nat.zero_le _) (Nat.le_refl _) s h2 vs hf hfit h4 h5 (by have := hfit.vars; omega) v hr hm).mono ?_
  rintro e w' ⟨b, rfl, hb, hno, hyes⟩
  rw [allF_cons, hg] at h3
  change T = (nextR (bok vs nv most) s v.r).bind _ at h3
  refine ⟨b, rfl, hb, fun q => by rw [h3, (hno q).1]; rfl, fun q => ?_⟩
  obtain ⟨t, ht, hrun⟩ := hyes q
  rw [ht] at h3
  have hsm := next_most ht hfit.most.2 (fun p hp => by
   obtain ⟨y, hy, rfl⟩ := List.mem_map.1 (show p ∈ vs.map Fs.m from hp)
   exact (hfit.try_ y hy).2)
  exact .inr ⟨by omega, t, hrun, hsm.1, hsm.2, next_len ht, h3⟩
theorem drop_cons' {ls : List Vt} {i : Nat} {v : Vt} (h : ls[i]? = some v) : (txt ls).drop i = v.t :: (txt ls).drop (i + 1) := by
 have h1 : (txt ls)[i]? = some v.t := by unfold txt; rw [List.getElem?_map, h]; rfl
 obtain ⟨hl2, he⟩ := List.getElem?_eq_some_iff.1 h1
 rw [← he]
 exact List.drop_eq_getElem_cons hl2
theorem pall_ : PAll := by
 intro w A n c vs hf A1 nv c1 most hfit AL m cL ls hls hlc hll hlm hlx
 obtain ⟨T, hT⟩ : ∃ T, T = allR (bok vs nv most) (txt ls) := ⟨_, rfl⟩
 rw [← hT]
 unfold bval
 obtain ⟨w1, hw1⟩ : ∃ w1, w1 = (w.alloc (.cells #[.slice A n c, .slice A1 nv c1, .int .i64 most] 25)).alloc (.cells #[.int .i64 0, .int .i64 0, .int .i64 0, .int .i64 0, .slice none 0 0] 31) := ⟨_, rfl⟩
 have hb1 : Below w.heap.size w w1 := by rw [hw1]; exact ((Below.refl _ _).alloc (Nat.le_refl _) _).alloc (by simp) _
 have hs1 : w1.heap.size = w.heap.size + 1 + 1 := by rw [hw1]; simp
 have cb1 : Cel w1 w.heap.size 25 (bcells A n c A1 nv c1 most) := by rw [hw1]; exact (Cel.new w _ _).alloc _
 have cz1 : Cel w1 (w.heap.size + 1) 31 zst := by rw [hw1]; exact (by simpa using Cel.new (w.alloc (.cells #[.slice A n c, .slice A1 nv c1, .int .i64 most] 25)) 31 zst)
 have HB1 := Lib.hid hb1
 have HZw1 := Lib.hid cz1
 have HF := Lib.hid (show ∀ V, Below w.heap.size w V → Fbk V A vs from fun V h => hf.below h)
 have HLS := Lib.hid (show ∀ V, Below w.heap.size w V → Tvs V w.heap.size AL ls from fun V h => hls.below (Nat.le_refl _) h)
 have HFIT := Lib.hid hfit
 have HLL := Lib.hid hll
 have HLX := Lib.hid hlx
 have HT := Lib.hid hT
 have k0 := cb1.cell 0
 have k1 := cb1.cell 1
 have k2 := cb1.cell 2
 by_cases h0 : m = 0
 ·subst h0
  have hnil : ls = [] := List.eq_nil_of_length_eq_zero hll
  have HTN := Lib.hid (show T = some (startR (bok vs nv most)) by rw [hT, hnil]; rfl)
  have con := pst_ w1 A n c A1 nv c1 most (by have := hfit.vars; omega) vs 0
  clear hT HT hll hlc hls hlx hf hfit hnil hb1 cb1 cz1
  unfold bval at con
  go_enter Try.func8, Try.ntmps8
  go_upto_region 1 with fail
  rw [← hw1]
  clear hw1
  go_wp2_with fail
  refine con.mono ?_
  clear con k0 k1 k2
  rintro e w2 ⟨hb2, v, rfl, A2, c2, us, rfl, htv, htr, htx⟩
  have HB2 := Lib.hid (HB1.out.trans (hb2.mono HB1.out.size))
  have HZw2 := Lib.hid (HZw1.out.below hb2 HZw1.out.lt)
  have HTV := Lib.hid htv
  have HTRW := Lib.hid htr
  have HTX := Lib.hid htx
  clear hb2 htv htr htx
  unfold stval
  generalize hst : startR (bok vs nv most) = st at *
  clear hst
  have kz := HZw2.out
  have z0 : w2.cell? ⟨w.heap.size + 1, 0, none⟩ = some (.int .i64 0) := kz.cell 0
  have z1 : w2.cell? ⟨w.heap.size + 1, 1, none⟩ = some (.int .i64 0) := kz.cell 1
  have z2 : w2.cell? ⟨w.heap.size + 1, 2, none⟩ = some (.int .i64 0) := kz.cell 2
  have z3 : w2.cell? ⟨w.heap.size + 1, 3, none⟩ = some (.int .i64 0) := kz.cell 3
  have z4 : w2.cell? ⟨w.heap.size + 1, 4, none⟩ = some (.slice none 0 0) := kz.cell 4
  have y0 := kz.free 0
  have y1 := kz.free 1
  have y2 := kz.free 2
  have y3 := kz.free 3
  have y4 := kz.free 4
  have hzl := kz.lt
  clear kz
  have HFX := Lib.hid (fw5_frm w2 (w.heap.size + 1) (.int .i64 st.step) (.int .i64 st.visit) (.int .i64 st.tries) (.int .i64 st.off) (.slice A2 us.length c2))
  have HX := Lib.hid (fw5_cel (a := .int .i64 st.step) (b := .int .i64 st.visit) (c := .int .i64 st.tries) (d := .int .i64 st.off) (e := .slice A2 us.length c2) HZw2.out)
  unfold fw5 at HFX HX
  go_wp2_with fail
  refine bodyPost_ret (v := .tuple #[stval st.step st.visit st.tries st.off A2 us.length c2, .int .i64 0]) (Rec.results_recget 4 31 5 Try.results8 ⟨w.heap.size + 1, 0, none⟩ rfl _ _ rfl (load_st HX.out)) rfl ?_
  have hk := Tvs.frm HTV.out HTRW.out HFX.out (fun k hk => by rw [List.mem_singleton.1 hk]; exact ⟨Nat.zero_le _, fun cs fz => HZw2.out.not_ty (by decide) cs fz, fun cs fz => HZw2.out.not_ty (by decide) cs fz⟩)
  exact pn_yes HTN.out (HB2.out.trans (HFX.out.below HB2.out.size (by intro k hk; simp at hk; omega))) ⟨_, _, us, rfl, hk.1, hk.2, HTX.out⟩
 have hm0 : ((m : Int) == 0) = false := by simp; omega
 obtain ⟨W2, hW2⟩ : ∃ W, W = w1.alloc (.cells #[.slice A n c, .slice A1 nv c1, .int .i64 most, .bool false, .int .i64 0, .int .i64 0, .int .i64 0, .int .i64 0, .slice none 0 0] 54) := ⟨_, rfl⟩
 obtain ⟨g, hg⟩ : ∃ g, g = w1.heap.size := ⟨_, rfl⟩
 have hb2 : Below w1.heap.size w1 W2 := by rw [hW2]; exact (Below.refl _ _).alloc (Nat.le_refl _) _
 have hg2 : w.heap.size + 1 < g := by omega
 have HB2 := Lib.hid (hb1.trans (hb2.mono hb1.size))
 have HZ2 := Lib.hid (cz1.below hb2 cz1.lt)
 have HAT := Lib.hid (show AllAt W2 g A n c A1 nv c1 most vs T 0 ((txt ls).drop 0) from .inl ⟨rfl, by rw [hW2, hg]; exact Cel.new w1 _ _, hT⟩)
 have HM0 := Lib.hid h0
 clear hT HT hll hlc hls hlx hf hfit hb1 hb2 cb1 cz1 hs1 h0
 go_enter Try.func8, Try.ntmps8
 go_upto_region 1 with fail
 rw [← hw1]
 clear hw1
 go_upto_region 4 with fail
 rw [← hW2, ← hg]
 clear hW2 hg k0 k1 k2
 go_wp2_with fail
 go_loopw [21] (fun v21 wr => ∃ (i : Nat), i ≤ m ∧ v21 = .int .i64 (i : Int) ∧ Hid (Below w.heap.size w wr) ∧ Hid (Cel wr (w.heap.size + 1) 31 zst) ∧ Hid (AllAt wr g A n c A1 nv c1 most vs T i ((txt ls).drop i))) (fun v21 _ => m - (intOf v21).toNat)
 case atStart => exact ⟨0, Nat.zero_le _, rfl, HB2, HZ2, HAT⟩
 case round =>
  clear HB2 HZ2 HAT HB1 HZw1
  obtain ⟨i, hi, rfl, HB, HZ, HAT⟩ := hrel
  obtain ⟨W, hW⟩ : ∃ W, W = wr := ⟨_, rfl⟩
  rw [← hW] at HB HZ HAT ⊢
  clear hW
  rcases Nat.lt_or_ge i m with hlt | hge
  ·obtain ⟨lv, hlv⟩ : ∃ lv, ls[i]? = some lv := ⟨_, List.getElem?_eq_getElem (by rw [HLL.out]; exact hlt)⟩
   have hlm' := List.mem_of_getElem? hlv
   have hts := HLS.out _ HB.out
   obtain ⟨ad, rfl, a0⟩ := hts.cr i lv hlv
   change _ = some (Value.slice lv.A lv.t.length lv.c) at a0
   have con := Rec.pget_ W lv.A lv.t.length lv.c lv.t (tx_low (hts.tx lv hlm').1 HB.out.size) (by have := HLX.out lv hlm'; omega)
   have hat := HAT.out
   rw [drop_cons' hlv] at hat
   have HA1 := Lib.hid hat
   clear hat HAT hlv hlm' hts
   go_wp2_with fail
   refine con.mono ?_
   clear con a0
   rintro e W4 ⟨hb4, hget⟩
   have HB4 := Lib.hid (HB.out.trans (hb4.mono HB.out.size))
   have HZW4 := Lib.hid (HZ.out.below hb4 HZ.out.lt)
   have HA4 := Lib.hid (HA1.out.below hb4)
   clear hb4 HB HZ HA1
   cases hgr : get lv.t with
   | none =>
    rw [hgr] at hget
    unfold Rec.zeros at hget
    subst hget
    have HE := Lib.hid (show T = none from all_bad HA4.out hgr)
    obtain ⟨W5, hW5⟩ : ∃ W, W = W4.alloc (.cells #[.int .i64 0, .int .i64 0, .int .i64 0, .int .i64 0, .int .i64 0, .slice none 0 0, .int .i64 0, .int .i64 0, .int .i64 0, .int .i64 0, .int .i64 0, .int .i64 0, .slice none 0 0] 42) := ⟨_, rfl⟩
    have hb5 : Below W4.heap.size W4 W5 := by rw [hW5]; exact (Below.refl _ _).alloc (Nat.le_refl _) _
    have HZW5 := Lib.hid (HZW4.out.below hb5 HZW4.out.lt)
    have HB5 := Lib.hid (HB4.out.trans (hb5.mono HB4.out.size))
    clear hgr hb5
    go_upto_region 8 with fail
    rw [← hW5]
    clear hW5
    have kz := HZW5.out
    have z0 : W5.cell? ⟨w.heap.size + 1, 0, none⟩ = some (.int .i64 0) := kz.cell 0
    have z1 : W5.cell? ⟨w.heap.size + 1, 1, none⟩ = some (.int .i64 0) := kz.cell 1
    have z2 : W5.cell? ⟨w.heap.size + 1, 2, none⟩ = some (.int .i64 0) := kz.cell 2
    have z3 : W5.cell? ⟨w.heap.size + 1, 3, none⟩ = some (.int .i64 0) := kz.cell 3
    have z4 : W5.cell? ⟨w.heap.size + 1, 4, none⟩ = some (.slice none 0 0) := kz.cell 4
    have y0 := kz.free 0
    have y1 := kz.free 1
    have y2 := kz.free 2
    have y3 := kz.free 3
    have y4 := kz.free 4
    have hzl := kz.lt
    clear kz
    have HF := Lib.hid (fw5_frm W5 (w.heap.size + 1) (.int .i64 0) (.int .i64 0) (.int .i64 0) (.int .i64 0) (.slice none 0 0))
    have HX := Lib.hid (fw5_cel (a := .int .i64 0) (b := .int .i64 0) (c := .int .i64 0) (d := .int .i64 0) (e := .slice none 0 0) HZW5.out)
    unfold fw5 at HF HX
    go_wp2_with fail
    refine bodyPost_ret (v := .tuple #[stval 0 0 0 0 none 0 0, .int .i64 7]) (Rec.results_recget 4 31 5 Try.results8 ⟨w.heap.size + 1, 0, none⟩ rfl _ _ rfl (load_st HX.out)) rfl ?_
    exact pn_no HE.out (HB5.out.trans (HF.out.below (by have := HB5.out.size; omega) (by intro k hk; simp at hk; omega)))
   | some r =>
    rw [hgr] at hget
    obtain ⟨v, rfl, rfl, hrok, hrow⟩ := hget
    rw [show v.cells.toArray = #[.int .i64 v.r.kind, .int .i64 v.r.s.step, .int .i64 v.r.s.visit, .int .i64 v.r.s.tries, .int .i64 v.r.s.off, .slice v.AL v.vs.length v.cL, .int .i64 v.r.visit, .int .i64 v.r.step, .int .i64 v.r.try_, .int .i64 v.r.to, .int .i64 v.r.off, .int .i64 v.r.var, .slice v.AV v.r.value.length v.cV] from rfl]
    obtain ⟨W5, hW5⟩ : ∃ W5, W5 = W4.alloc (.cells #[.int .i64 v.r.kind, .int .i64 v.r.s.step, .int .i64 v.r.s.visit, .int .i64 v.r.s.tries, .int .i64 v.r.s.off, .slice v.AL v.vs.length v.cL, .int .i64 v.r.visit, .int .i64 v.r.step, .int .i64 v.r.try_, .int .i64 v.r.to, .int .i64 v.r.off, .int .i64 v.r.var, .slice v.AV v.r.value.length v.cV] 42) := ⟨_, rfl⟩
    have hb5 : Below W4.heap.size W4 W5 := by rw [hW5]; exact (Below.refl _ _).alloc (Nat.le_refl _) _
    have kv : Cel W5 W4.heap.size 42 [.int .i64 v.r.kind, .int .i64 v.r.s.step, .int .i64 v.r.s.visit, .int .i64 v.r.s.tries, .int .i64 v.r.s.off, .slice v.AL v.vs.length v.cL, .int .i64 v.r.visit, .int .i64 v.r.step, .int .i64 v.r.try_, .int .i64 v.r.to, .int .i64 v.r.off, .int .i64 v.r.var, .slice v.AV v.r.value.length v.cV] := by rw [hW5]; exact Cel.new W4 _ _
    have r0 : W5.cell? ⟨W4.heap.size, 0, none⟩ = some (.int .i64 v.r.kind) := kv.cell 0
    have r1 : W5.cell? ⟨W4.heap.size, 1, none⟩ = some (.int .i64 v.r.s.step) := kv.cell 1
    have r2 : W5.cell? ⟨W4.heap.size, 2, none⟩ = some (.int .i64 v.r.s.visit) := kv.cell 2
    have r3 : W5.cell? ⟨W4.heap.size, 3, none⟩ = some (.int .i64 v.r.s.tries) := kv.cell 3
    have r4 : W5.cell? ⟨W4.heap.size, 4, none⟩ = some (.int .i64 v.r.s.off) := kv.cell 4
    have r5 : W5.cell? ⟨W4.heap.size, 5, none⟩ = some (.slice v.AL v.vs.length v.cL) := kv.cell 5
    have r6 : W5.cell? ⟨W4.heap.size, 6, none⟩ = some (.int .i64 v.r.visit) := kv.cell 6
    have r7 : W5.cell? ⟨W4.heap.size, 7, none⟩ = some (.int .i64 v.r.step) := kv.cell 7
    have r8 : W5.cell? ⟨W4.heap.size, 8, none⟩ = some (.int .i64 v.r.try_) := kv.cell 8
    have r9 : W5.cell? ⟨W4.heap.size, 9, none⟩ = some (.int .i64 v.r.to) := kv.cell 9
    have r10 : W5.cell? ⟨W4.heap.size, 10, none⟩ = some (.int .i64 v.r.off) := kv.cell 10
    have r11 : W5.cell? ⟨W4.heap.size, 11, none⟩ = some (.int .i64 v.r.var) := kv.cell 11
    have r12 : W5.cell? ⟨W4.heap.size, 12, none⟩ = some (.slice v.AV v.r.value.length v.cV) := kv.cell 12
    have HB5 := Lib.hid (HB4.out.trans (hb5.mono HB4.out.size))
    have HZ5 := Lib.hid (HZW4.out.below hb5 HZW4.out.lt)
    have con := all_meet W5 g A n c A1 nv c1 most vs (HF.out _ HB5.out) HFIT.out T i lv.t _ (HA4.out.below hb5) v hgr (hrok.below (Nat.zero_le _) hb5)
    rw [show v.cells.toArray = #[.int .i64 v.r.kind, .int .i64 v.r.s.step, .int .i64 v.r.s.visit, .int .i64 v.r.s.tries, .int .i64 v.r.s.off, .slice v.AL v.vs.length v.cL, .int .i64 v.r.visit, .int .i64 v.r.step, .int .i64 v.r.try_, .int .i64 v.r.to, .int .i64 v.r.off, .int .i64 v.r.var, .slice v.AV v.r.value.length v.cV] from rfl] at con
    have HGL := Lib.hid HA4.out.lt
    clear hgr hb5 kv hrok hrow HA4
    go_upto_region 8 with fail
    rw [← hW5]
    clear hW5
    generalize W4.heap.size = G at *
    go_wp2_with fail
    refine con.mono ?_
    clear con r0 r1 r2 r3 r4 r5 r6 r7 r8 r9 r10 r11 r12
    rintro e W6 ⟨b, rfl, hb6, hno, hyes⟩
    have HB6 := Lib.hid (HB5.out.trans (hb6.mono (show w.heap.size ≤ g by omega)))
    have HZW6 := Lib.hid (HZ5.out.below hb6 (by omega))
    have HNO := Lib.hid hno
    have HYES := Lib.hid hyes
    clear hb6 hno hyes
    cases b with
    | false =>
     have HE := Lib.hid (show T = none from by first | exact HNO.out rfl | exact HNO.out trivial)
     have kz := HZW6.out
     have z0 : W6.cell? ⟨w.heap.size + 1, 0, none⟩ = some (.int .i64 0) := kz.cell 0
     have z1 : W6.cell? ⟨w.heap.size + 1, 1, none⟩ = some (.int .i64 0) := kz.cell 1
     have z2 : W6.cell? ⟨w.heap.size + 1, 2, none⟩ = some (.int .i64 0) := kz.cell 2
     have z3 : W6.cell? ⟨w.heap.size + 1, 3, none⟩ = some (.int .i64 0) := kz.cell 3
     have z4 : W6.cell? ⟨w.heap.size + 1, 4, none⟩ = some (.slice none 0 0) := kz.cell 4
     have y0 := kz.free 0
     have y1 := kz.free 1
     have y2 := kz.free 2
     have y3 := kz.free 3
     have y4 := kz.free 4
     have hzl := kz.lt
     clear kz
     have HF := Lib.hid (fw5_frm W6 (w.heap.size + 1) (.int .i64 0) (.int .i64 0) (.int .i64 0) (.int .i64 0) (.slice none 0 0))
     have HX := Lib.hid (fw5_cel (a := .int .i64 0) (b := .int .i64 0) (c := .int .i64 0) (d := .int .i64 0) (e := .slice none 0 0) HZW6.out)
     unfold fw5 at HF HX
     go_wp2_with fail
     refine bodyPost_ret (v := .tuple #[stval 0 0 0 0 none 0 0, .int .i64 7]) (Rec.results_recget 4 31 5 Try.results8 ⟨w.heap.size + 1, 0, none⟩ rfl _ _ rfl (load_st HX.out)) rfl ?_
     exact pn_no HE.out (HB6.out.trans (HF.out.below (by have := HB6.out.size; omega) (by intro k hk; simp at hk; omega)))
    | true =>
     have HA6 := Lib.hid (show AllAt W6 g A n c A1 nv c1 most vs T (i + 1) ((txt ls).drop (i + 1)) from by first | exact HYES.out rfl | exact HYES.out trivial)
     go_wp2_with fail
     exact ⟨⟨i + 1, by omega, by rw [show ((i + 1 : Nat) : Int) = (i : Int) + 1 by omega], HB6, HZW6, HA6⟩, by simp [intOf]; omega⟩
  ·have zi : decide ((i : Int) < (m : Int)) = false := by simp; omega
   obtain ⟨s, ⟨h', cL', us2, hh', hc', hr', hx'⟩, hTs⟩ : ∃ s, RunIs W g g A n c A1 nv c1 most s ∧ T = some s := by
    rcases HAT.out with ⟨q, _, _⟩ | ⟨_, s, hrun, _, _, _, q⟩
    ·have := HM0.out
     omega
    ·refine ⟨s, hrun, ?_⟩
     rw [q, List.drop_of_length_le (by unfold txt; rw [List.length_map, HLL.out]; exact hge)]
     rfl
   have k4 : W.cell? ⟨g, 4, none⟩ = some (.int .i64 s.step) := hc'.cell 4
   have k5 : W.cell? ⟨g, 5, none⟩ = some (.int .i64 s.visit) := hc'.cell 5
   have k6 : W.cell? ⟨g, 6, none⟩ = some (.int .i64 s.tries) := hc'.cell 6
   have k7 : W.cell? ⟨g, 7, none⟩ = some (.int .i64 s.off) := hc'.cell 7
   have k8 : W.cell? ⟨g, 8, none⟩ = some (.slice (some ⟨h', 0, none⟩) us2.length cL') := hc'.cell 8
   have kz := HZ.out
   have z0 : W.cell? ⟨w.heap.size + 1, 0, none⟩ = some (.int .i64 0) := kz.cell 0
   have z1 : W.cell? ⟨w.heap.size + 1, 1, none⟩ = some (.int .i64 0) := kz.cell 1
   have z2 : W.cell? ⟨w.heap.size + 1, 2, none⟩ = some (.int .i64 0) := kz.cell 2
   have z3 : W.cell? ⟨w.heap.size + 1, 3, none⟩ = some (.int .i64 0) := kz.cell 3
   have z4 : W.cell? ⟨w.heap.size + 1, 4, none⟩ = some (.slice none 0 0) := kz.cell 4
   have y0 := kz.free 0
   have y1 := kz.free 1
   have y2 := kz.free 2
   have y3 := kz.free 3
   have y4 := kz.free 4
   have hzl := kz.lt
   clear kz
   have HF7 := Lib.hid (fw5_frm W (w.heap.size + 1) (.int .i64 s.step) (.int .i64 s.visit) (.int .i64 s.tries) (.int .i64 s.off) (.slice (some ⟨h', 0, none⟩) us2.length cL'))
   have HX7 := Lib.hid (fw5_cel (a := .int .i64 s.step) (b := .int .i64 s.visit) (c := .int .i64 s.tries) (d := .int .i64 s.off) (e := .slice (some ⟨h', 0, none⟩) us2.length cL') HZ.out)
   have HTS := Lib.hid hTs
   have HR7 := Lib.hid hr'
   have HTX7 := Lib.hid hx'
   have HHH7 := Lib.hid (show h' ≠ w.heap.size + 1 by omega)
   clear hTs hc' hr' hx' hh' HAT
   unfold fw5 at HF7 HX7
   go_wp2_with fail
   refine bodyPost_ret (v := .tuple #[stval s.step s.visit s.tries s.off (some ⟨h', 0, none⟩) us2.length cL', .int .i64 0]) (Rec.results_recget 4 31 5 Try.results8 ⟨w.heap.size + 1, 0, none⟩ rfl _ _ rfl (load_st HX7.out)) rfl ?_
   exact pn_yes HTS.out (HB.out.trans (HF7.out.below HB.out.size (by intro k hk; simp at hk; omega))) (run_says HR7.out HTX7.out HF7.out (by simpa using HHH7.out) (fun k hk => by simp at hk; subst hk; exact HZ.out.not_ty (by decide)))
end Go.Proofs.Ytfmkkklcgiaacaa.Fold
end
section
namespace Go.Proofs.Ytfmkkklcgiaacaa.Fold
open Go.RowKit
open Lex (Tx)
open Rec (Stt Rc Rv Rok Vt Tvs Trow txt)
theorem allF_len {b : Bok} : ∀ (l : List (List B)) {s t : Stt}, s.vars.length = b.nv → allF b s l = some t → t.vars.length = b.nv
 | [], s, t, hs, h => by
  have : some s = some t := h
  injection this with this
  rw [← this]; exact hs
 | x :: l, s, t, hs, h => by
  rw [allF_cons] at h
  cases hg : Rec.get x with
  | none => rw [hg] at h; cases h
  | some r =>
   rw [hg] at h
   change (nextR b s r).bind _ = _ at h
   cases hn : nextR b s r with
   | none => rw [hn] at h; cases h
   | some u =>
    rw [hn] at h
    exact allF_len l (next_len hn) h
theorem all_len {b : Bok} {l : List (List B)} {t : Stt} (h : allR b l = some t) : t.vars.length = b.nv := by
 cases l with
 | nil =>
  have : some (startR b) = some t := h
  injection this with this
  rw [← this]
  unfold startR
  simp
 | cons x l =>
  rw [allR_cons] at h
  cases hg : Rec.get x with
  | none => rw [hg] at h; cases h
  | some r =>
   rw [hg] at h
   change (if _ then _ else _) = _ at h
   split at h
   ·rename_i hc
    exact allF_len l (right_nums hc.2).2.2.2.2.2.2.1 h
   ·cases h
theorem all_walk (HA : PAll) (HKN : Knows16) (w : World) (A : Option Addr) (n c : Nat) (vs : List Fs) (hb : Fbk w A vs) (hl : vs.length = n) (hn : n ≤ maxLen) (hf : ∀ v ∈ vs, FitS v) (A1 : Option Addr) (nv c1 : Nat) (most : Int)
  (AL : Option Addr) (m cL : Nat) (ls : List Vt) (hls : Tvs w w.heap.size AL ls) (hlc : ∀ v ∈ ls, v.t.length ≤ v.c ∧ v.c ≤ maxLen) (hll : ls.length = m) (hlm : m ≤ maxLen) :
  Calls Try.prog 3 #[bval A n c A1 nv c1 most, .slice AL m cL] w fun e w' => e = .returned (.bool true) ∧ Below w.heap.size w w' := by
 unfold maxLen at hlm
 obtain ⟨W1, hW1⟩ : ∃ w1, w1 = w.alloc (.cells #[.slice A n c, .slice A1 nv c1, .int .i64 most] 25) := ⟨_, rfl⟩
 have hb1 : Below w.heap.size w W1 := by rw [hW1]; exact (Below.refl _ _).alloc (Nat.le_refl _) _
 have hc1 : Cel W1 w.heap.size 25 [.slice A n c, .slice A1 nv c1, .int .i64 most] := by rw [hW1]; exact Cel.new w _ _
 have HB1 := Lib.hid hb1
 have HC1 := Lib.hid hc1
 have HF := Lib.hid (show ∀ V, Below w.heap.size w V → Fbk V A vs from fun V h => hb.below h)
 have HLS := Lib.hid (show ∀ V, Below w.heap.size w V → Tvs V V.heap.size AL ls from fun V h => by
  have q := hls.below (Nat.le_refl _) h
  exact ⟨q.cr, fun v hv => ⟨(q.tx v hv).1.imp (fun z => z.more h.size) id, (q.tx v hv).2⟩⟩)
 have HLT := Lib.hid (show ∀ V, Below w.heap.size w V → Tvs V w.heap.size AL ls from fun V h => hls.below (Nat.le_refl _) h)
 have HLC := Lib.hid hlc
 have HLL := Lib.hid hll
 have HK := Lib.hid HKN
 have con := few16 W1 A n c vs (hb.below hb1) hl hn A1 nv c1 most (fit_max hf)
 have con2 := fun W => fun h : Below w.heap.size w W => tries16 W A n c vs (hb.below h) hl hn A1 nv c1 most
 have CON2 := Lib.hid con2
 have HL := Lib.hid hl
 have k0 := hc1.cell 0
 have k1 := hc1.cell 1
 have k2 := hc1.cell 2
 clear hb1 hc1 hb hls hlc hf con2 HKN hll
 unfold bval at con ⊢
 go_enter Try.func3, Try.ntmps3
 go_upto_region 1 with fail
 rw [← hW1]
 clear hW1
 have kn : ∀ W : World, Below w.heap.size w W → Calls Try.prog 7 #[] W fun e w' => e = .returned (.bool true) ∧ Below w.heap.size w w' := fun W hW => (HK.out _).mono fun e w' h => ⟨h.1, hW.trans (h.2.mono hW.size)⟩
 have KN := Lib.hid kn
 clear kn
 go_wp2_with fail
 refine con.mono ?_
 clear con k0 k1 k2
 rintro e w2 ⟨b1, rfl, hb2, hx1⟩
 have HB2 := Lib.hid (HB1.out.trans (hb2.mono HB1.out.size))
 have HC2 := Lib.hid (HC1.out.below hb2 HC1.out.lt)
 have HX1 := Lib.hid hx1
 clear hb2 hx1 HC1 HB1
 cases b1 with
 | false =>
  go_wp2_with fail
  refine (KN.out _ HB2.out).mono ?_
  rintro e w3 ⟨rfl, hb3⟩
  have HB3 := Lib.hid hb3
  clear hb3
  go_wp2_with fail
  go_ret
  exact ⟨rfl, HB3.out⟩
 | true =>
  have con := CON2.out w2 HB2.out
  have k0 := HC2.out.cell 0
  have k1 := HC2.out.cell 1
  have k2 := HC2.out.cell 2
  unfold bval at con
  go_wp2_with fail
  refine con.mono ?_
  clear con k0 k1 k2
  rintro e w3 ⟨b2, rfl, hb3, hx2⟩
  have HB3 := Lib.hid (HB2.out.trans (hb3.mono HB2.out.size))
  have HC3 := Lib.hid (HC2.out.below hb3 HC2.out.lt)
  have HX2 := Lib.hid hx2
  clear hb3 hx2 HC2 HB2
  cases b2 with
  | false =>
   go_wp2_with fail
   refine (KN.out _ HB3.out).mono ?_
   rintro e w4 ⟨rfl, hb4⟩
   have HB4 := Lib.hid hb4
   clear hb4
   go_wp2_with fail
   go_ret
   exact ⟨rfl, HB4.out⟩
  | true =>
   by_cases h40 : 40 < m
   ·have d : decide ((40 : Int) < (m : Int)) = true := by simp; omega
    go_wp2_with fail
    refine (KN.out _ HB3.out).mono ?_
    rintro e w4 ⟨rfl, hb4⟩
    have HB4 := Lib.hid hb4
    clear hb4
    go_wp2_with fail
    go_ret
    exact ⟨rfl, HB4.out⟩
   ·have d : decide ((40 : Int) < (m : Int)) = false := by simp; omega
    obtain ⟨q1, q2, q3, q4, q5⟩ := HX1.out (by first | rfl | trivial)
    have HFIT : Hid (Bfit vs n nv most) := Lib.hid ⟨HL.out, q1, HX2.out (by first | rfl | trivial), q5, q2, by omega⟩
    clear q1 q2 q3 q4 q5 HX1 HX2
    go_upto_region 4 with fail
    clear d
    go_wp2_with fail
    go_loopw [5] (fun v5 wr => ∃ (i : Nat), i ≤ m ∧ v5 = .int .i64 (i : Int) ∧ w3 = wr ∧ Hid (∀ v ∈ ls.take i, v.t.length ≤ 1000)) (fun v5 _ => m - (intOf v5).toNat)
    case atStart => exact ⟨0, Nat.zero_le _, rfl, rfl, Lib.hid (by simp)⟩
    case round =>
     obtain ⟨i, hi, rfl, rfl, HI⟩ := hrel
     rcases Nat.lt_or_ge i m with hlt | hge
     ·obtain ⟨v, hv⟩ : ∃ v, ls[i]? = some v := ⟨_, List.getElem?_eq_getElem (by rw [HLL.out]; exact hlt)⟩
      obtain ⟨ad, rfl, k2⟩ := (HLT.out _ HB3.out).cr i v hv
      have HV := Lib.hid hv
      clear hv
      obtain ⟨vA, vc, vt⟩ := v
      change _ = some (Value.slice vA vt.length vc) at k2
      obtain ⟨tl, htl⟩ : ∃ tl, tl = vt.length := ⟨_, rfl⟩
      rw [← htl] at k2
      have HTL := Lib.hid htl
      clear htl
      by_cases t1 : 1000 < tl
      ·have dt1 : decide ((1000 : Int) < (tl : Int)) = true := by simp; omega
       go_wp2_with fail
       refine (KN.out _ HB3.out).mono ?_
       rintro e wk ⟨rfl, hbk⟩
       have HBK := Lib.hid hbk
       clear hbk
       go_wp2_with fail
       go_ret
       exact ⟨rfl, HBK.out⟩
      ·have dt1 : decide ((1000 : Int) < (tl : Int)) = false := by simp; omega
       go_wp2_with fail
       refine ⟨⟨i + 1, by omega, by rw [show ((i + 1 : Nat) : Int) = (i : Int) + 1 by omega], by trivial, Lib.hid fun u hu => ?_⟩, by simp [intOf]; omega⟩
       rcases Rec.mem_take HV.out hu with hu | rfl
       ·exact HI.out u hu
       ·show vt.length ≤ 1000
        rw [← HTL.out]
        omega
     ·obtain rfl : i = m := by omega
      have hln : ∀ v ∈ ls, v.t.length ≤ 1000 := by have h := HI.out; rw [← HLL.out, List.take_length] at h; exact h
      have con := HA w3 A n c vs (HF.out _ HB3.out) A1 nv c1 most HFIT.out AL i cL ls (HLS.out _ HB3.out) HLC.out HLL.out (by omega) hln
      have HLN := Lib.hid hln
      have k0 := HC3.out.cell 0
      have k1 := HC3.out.cell 1
      have k2 := HC3.out.cell 2
      unfold bval at con
      clear hln HI
      go_wp2_with fail
      refine con.mono ?_
      clear con k0 k1 k2
      intro e w4 h4
      obtain ⟨hb4, hr4⟩ := pn_split h4
      clear h4
      have HB4 := Lib.hid (HB3.out.trans (hb4.mono HB3.out.size))
      have HC4 := Lib.hid (HC3.out.below hb4 HC3.out.lt)
      clear hb4
      have CA := Lib.hid (show ∀ W, Below w.heap.size w W → Calls Try.prog 9 #[bval A n c A1 nv c1 most, .slice AL i cL] W (NxSays W 0 (allR (bok vs nv most) (txt ls))) from fun W hW => all16 W A n c vs (HF.out _ hW) HL.out (by have := HFIT.out.few; omega) HFIT.out.try_ (fun v hv => by have := HFIT.out.arms v hv; omega) A1 nv c1 (by have := HFIT.out.vars; omega) most HFIT.out.most AL i cL ls (HLS.out _ hW) HLC.out HLL.out (by omega))
      rcases hr4 with ⟨hn4, rfl⟩ | ⟨t, A4, c4, us, ht4, rfl, hu4, hut4, hux4⟩
      ·have HN4 := Lib.hid hn4
       clear hn4
       obtain ⟨W5, hW5⟩ : ∃ W, W = w4.alloc (.cells ([.int .i64 0, .int .i64 0, .int .i64 0, .int .i64 0, .slice none 0 0] : List Value).toArray 31) := ⟨_, rfl⟩
       have hb5 : Below w4.heap.size w4 W5 := by rw [hW5]; exact (Below.refl _ _).alloc (Nat.le_refl _) _
       have HB5 := Lib.hid (HB4.out.trans (hb5.mono HB4.out.size))
       have HC5 := Lib.hid (HC4.out.below hb5 HC4.out.lt)
       have HD5 := Lib.hid (show Cel W5 w4.heap.size 31 [.int .i64 0, .int .i64 0, .int .i64 0, .int .i64 0, .slice none 0 0] by rw [hW5]; exact Cel.new w4 _ _)
       clear hb5
       go_upto_region 9 with fail
       rw [← hW5]
       clear hW5
       generalize w4.heap.size = g6 at *
       have con := CA.out _ HB5.out
       have k0 := HC5.out.cell 0
       have k1 := HC5.out.cell 1
       have k2 := HC5.out.cell 2
       unfold bval at con
       go_wp2_with fail
       refine con.mono ?_
       clear con k0 k1 k2
       intro e w6 h6
       rw [HN4.out] at h6
       obtain ⟨hb6, hr6⟩ := nx_split h6
       clear h6
       have HB6 := Lib.hid (HB5.out.trans (hb6.mono HB5.out.size))
       have HD6 := Lib.hid (HD5.out.below hb6 HD5.out.lt)
       clear hb6
       rcases hr6 with ⟨_, rfl⟩ | ⟨t, A6, c6, us, hx, _⟩
       rotate_left
       ·cases hx
       obtain ⟨W7, hW7⟩ : ∃ W, W = w6.alloc (.cells ([.int .i64 0, .int .i64 0, .int .i64 0, .int .i64 0, .slice none 0 0] : List Value).toArray 31) := ⟨_, rfl⟩
       have hb7 : Below w6.heap.size w6 W7 := by rw [hW7]; exact (Below.refl _ _).alloc (Nat.le_refl _) _
       have HB7 := Lib.hid (HB6.out.trans (hb7.mono HB6.out.size))
       have HD7 := Lib.hid (HD6.out.below hb7 HD6.out.lt)
       have con := Rec.state_ W7 0 0 0 0 0 none none 0 0 0 [] [] ⟨by simp, by simp⟩ ⟨by simp, by simp⟩ (Nat.zero_le _) rfl (Nat.zero_le _) rfl
       clear hb7
       go_upto_region 11 with fail
       rw [← hW7]
       clear hW7
       have k0 := HD7.out.cell 0
       have k1 := HD7.out.cell 1
       have k2 := HD7.out.cell 2
       have k3 := HD7.out.cell 3
       have k4 := HD7.out.cell 4
       go_wp2_with fail
       refine con.mono ?_
       clear con k0 k1 k2 k3 k4
       rintro e w8 ⟨rfl, hb8⟩
       have HB8 := Lib.hid (HB7.out.trans (hb8.mono HB7.out.size))
       clear hb8
       go_wp2_with fail
       refine (KN.out _ HB8.out).mono ?_
       rintro e wk ⟨rfl, hbk⟩
       have HBK := Lib.hid hbk
       clear hbk
       go_wp2_with fail
       go_ret
       exact ⟨rfl, HBK.out⟩
      ·have HN4 := Lib.hid ht4
       have HU4 := Lib.hid hu4
       have HX4 := Lib.hid hux4
       clear ht4 hu4 hut4 hux4
       obtain ⟨W5, hW5⟩ : ∃ W, W = w4.alloc (.cells ([.int .i64 t.step, .int .i64 t.visit, .int .i64 t.tries, .int .i64 t.off, .slice A4 us.length c4] : List Value).toArray 31) := ⟨_, rfl⟩
       have hb5 : Below w4.heap.size w4 W5 := by rw [hW5]; exact (Below.refl _ _).alloc (Nat.le_refl _) _
       have HB5 := Lib.hid (HB4.out.trans (hb5.mono HB4.out.size))
       have HC5 := Lib.hid (HC4.out.below hb5 HC4.out.lt)
       have HD5 := Lib.hid (show Cel W5 w4.heap.size 31 [.int .i64 t.step, .int .i64 t.visit, .int .i64 t.tries, .int .i64 t.off, .slice A4 us.length c4] by rw [hW5]; exact Cel.new w4 _ _)
       have HU5 := Lib.hid (HU4.out.below (Nat.zero_le _) hb5)
       clear hb5
       go_upto_region 9 with fail
       rw [← hW5]
       clear hW5
       generalize w4.heap.size = g6 at *
       have con := CA.out _ HB5.out
       have k0 := HC5.out.cell 0
       have k1 := HC5.out.cell 1
       have k2 := HC5.out.cell 2
       unfold bval at con
       go_wp2_with fail
       refine con.mono ?_
       clear con k0 k1 k2
       intro e w6 h6
       rw [HN4.out] at h6
       obtain ⟨hb6, hr6⟩ := nx_split h6
       clear h6
       have HB6 := Lib.hid (HB5.out.trans (hb6.mono HB5.out.size))
       have HD6 := Lib.hid (HD5.out.below hb6 HD5.out.lt)
       have HU6 := Lib.hid (HU5.out.below (Nat.zero_le _) hb6)
       clear hb6
       rcases hr6 with ⟨hx, _⟩ | ⟨t', A6, c6, us6, hx, rfl, hu6, _, hux6⟩
       ·cases hx
       injection hx with hx
       subst hx
       have hlen : us6.length = us.length := by
        have e1 := congrArg List.length HX4.out
        have e2 := congrArg List.length hux6
        unfold txt at e1 e2
        rw [List.length_map] at e1 e2
        omega
       rw [hlen]
       have HT6 := Lib.hid (show txt us = txt us6 by rw [HX4.out, hux6])
       have HV6 := Lib.hid hu6
       clear hlen hux6 hu6
       obtain ⟨W7, hW7⟩ : ∃ W, W = w6.alloc (.cells ([.int .i64 t.step, .int .i64 t.visit, .int .i64 t.tries, .int .i64 t.off, .slice A6 us.length c6] : List Value).toArray 31) := ⟨_, rfl⟩
       have hb7 : Below w6.heap.size w6 W7 := by rw [hW7]; exact (Below.refl _ _).alloc (Nat.le_refl _) _
       have HB7 := Lib.hid (HB6.out.trans (hb7.mono HB6.out.size))
       have HD7 := Lib.hid (HD6.out.below hb7 HD6.out.lt)
       have HE7 := Lib.hid (show Cel W7 w6.heap.size 31 [.int .i64 t.step, .int .i64 t.visit, .int .i64 t.tries, .int .i64 t.off, .slice A6 us.length c6] by rw [hW7]; exact Cel.new w6 _ _)
       have hul : us.length ≤ maxLen := by
        have h := HU6.out
        have e1 := congrArg List.length HX4.out
        have e2 := all_len HN4.out
        unfold txt at e1
        rw [List.length_map] at e1
        have e3 : (bok vs nv most).nv = nv := rfl
        have := HFIT.out.vars
        unfold maxLen
        omega
       have con := Rec.state_ W7 0 t.step t.visit t.tries t.off A4 A6 us.length c4 c6 us us6 (HU6.out.below (Nat.zero_le _) hb7) (HV6.out.below (Nat.zero_le _) hb7) (Nat.zero_le _) rfl hul HT6.out
       clear hb7
       go_upto_region 12 with fail
       rw [← hW7]
       clear hW7
       have k0 := HD7.out.cell 0
       have k1 := HD7.out.cell 1
       have k2 := HD7.out.cell 2
       have k3 := HD7.out.cell 3
       have k4 := HD7.out.cell 4
       have j0 := HE7.out.cell 0
       have j1 := HE7.out.cell 1
       have j2 := HE7.out.cell 2
       have j3 := HE7.out.cell 3
       have j4 := HE7.out.cell 4
       go_wp2_with fail
       refine con.mono ?_
       clear con k0 k1 k2 k3 k4 j0 j1 j2 j3 j4
       rintro e w8 ⟨rfl, hb8⟩
       have HB8 := Lib.hid (HB7.out.trans (hb8.mono HB7.out.size))
       clear hb8
       go_wp2_with fail
       refine (KN.out _ HB8.out).mono ?_
       rintro e wk ⟨rfl, hbk⟩
       have HBK := Lib.hid hbk
       clear hbk
       go_wp2_with fail
       go_ret
       exact ⟨rfl, HBK.out⟩
end Go.Proofs.Ytfmkkklcgiaacaa.Fold
end
section
namespace Go.Proofs.Ytfmkkklcgiaacaa.Ord
open Go.RowKit
section
variable {P : Program} {ops : Array Oper} {Q : Exit → Act → World → Prop} {md : Region.Mode} {S : World → Prop} {N : List Nat}
theorem wpAnyN_two {i j : Nat} {oi oj : Oper} {fuel : Nat} {listed : Array Bool} {a : Act} {w : World} (hr : Region.ready md ops listed = [i, j]) (hi : ops[i]? = some oi) (hj : ops[j]? = some oj)
  (h1 : ∀ K' : Act → World → Prop, Shut (∀ a w, (i ∈ N ∨ S w) → wpAnyN P md ops Q S N fuel (listed.setIfInBounds i true) a w → K' a w) → if Region.wanted oi (yielded ops a.tmps) = true then Oper.wp P oi a w K' Q else K' (a.put oi.dst undef) w)
  (h2 : ∀ K' : Act → World → Prop, Shut (∀ a w, (j ∈ N ∨ S w) → wpAnyN P md ops Q S N fuel (listed.setIfInBounds j true) a w → K' a w) → if Region.wanted oj (yielded ops a.tmps) = true then Oper.wp P oj a w K' Q else K' (a.put oj.dst undef) w) :
  wpAnyN P md ops Q S N (fuel + 1) listed a w :=
 ⟨fun h0 => (by rw [hr] at h0; cases h0), fun k hk => by
  rw [hr] at hk
  simp only [List.mem_cons, List.not_mem_nil, or_false] at hk
  rcases hk with rfl | rfl
  ·exact wpOp_step hi (fun K' hK => h1 K' (fun a w hS hW => hK a w ⟨fun hn => hS.resolve_left hn, hW⟩))
  ·exact wpOp_step hj (fun K' hK => h2 K' (fun a w hS hW => hK a w ⟨fun hn => hS.resolve_left hn, hW⟩))⟩
end
end Go.Proofs.Ytfmkkklcgiaacaa.Ord
end
