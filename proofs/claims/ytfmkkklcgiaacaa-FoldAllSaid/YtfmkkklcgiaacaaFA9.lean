/-
Texts: FoldAll FoldFew RecOpen FoldOpen
-/
import Derived.Test.YtfmkkklcgiaacaaFA0
import Derived.Test.YtfmkkklcgiaacaaFA1
import Derived.Test.YtfmkkklcgiaacaaFA2
import Derived.Test.YtfmkkklcgiaacaaFA3
import Derived.Test.YtfmkkklcgiaacaaFA4
import Derived.Test.YtfmkkklcgiaacaaFA5
import Derived.Test.YtfmkkklcgiaacaaFA6
import Derived.Test.YtfmkkklcgiaacaaFA8
set_option linter.unusedVariables false
set_option linter.unusedSimpArgs false
set_option maxRecDepth 100000
set_option maxHeartbeats 8000000
section
namespace Go.Proofs.Ytfmkkklcgiaacaa.Fold
open Go.RowKit
open Lex (Tx)
open Rec (Stt Vt Tvs txt Rv Rok Rc Trow Tvs.frm get GetSays)
theorem next_len {b : Bok} {s t : Stt} {r : Rc} (h : nextR b s r = some t) : t.vars.length = b.nv := by
 obtain ⟨h1, _, _, _, _, p, _, ht⟩ := next_some h
 have hn := (right_nums h1).2.2.2.2.2.2.1
 split at ht
 ·unfold intentR at ht
  split at ht
  ·cases ht
  ·injection ht with ht; subst ht; exact hn
 ·unfold outcomeR at ht
  split at ht
  ·cases ht
  ·split at ht
   ·injection ht with ht
    subst ht
    show (setV s.vars r.var r.value).length = _
    unfold setV
    rw [List.length_map, List.length_range]; exact hn
   ·cases ht
theorem bind_s {X Y : Type} (x : X) (f : X → Option Y) : (some x).bind f = f x := rfl
theorem bind_n {X Y : Type} (f : X → Option Y) : (none : Option X).bind f = none := rfl
theorem nx_split {w w' : World} {K : Nat} {r : Option Stt} {e : Ending} (h : NxSays w K r e w') : Below w.heap.size w w' ∧ ((r = none ∧ e = .returned (.tuple #[stval 0 0 0 0 none 0 0, .bool false])) ∨ ∃ (t : Stt) (A : Option Addr) (c : Nat) (us : List Vt), r = some t ∧ e = .returned (.tuple #[stval t.step t.visit t.tries t.off A us.length c, .bool true]) ∧ Tvs w' K A us ∧ Trow w' K A us ∧ txt us = t.vars) := by
 obtain ⟨hb, h⟩ := h
 refine ⟨hb, ?_⟩
 cases r with
 | none => exact .inl ⟨rfl, h⟩
 | some t =>
  obtain ⟨_, he, A, c, us, rfl, h1, h2, h3⟩ := h
  exact .inr ⟨t, A, c, us, rfl, he, h1, h2, h3⟩
def allG (b : Bok) (i : Nat) (s : Stt) (l : List (List B)) : Option Stt := if i = 0 then allR b l else allF b s l
theorem allG_none {b : Bok} {i : Nat} {s : Stt} {x : List B} {l : List (List B)} (h : get x = none) : allG b i s (x :: l) = none := by
 unfold allG
 split
 ·rw [allR_cons, h, bind_n]
 ·rw [allF_cons, h, bind_n]
theorem allG_first {b : Bok} {s : Stt} {x : List B} {l : List (List B)} {r : Rc} (h : get x = some r) : allG b 0 s (x :: l) = if r.kind = 1 ∧ right b r.s = true then allF b r.s l else none := by
 unfold allG; rw [if_pos rfl, allR_cons, h, bind_s]
theorem allG_next {b : Bok} {i : Nat} {s : Stt} {x : List B} {l : List (List B)} {r : Rc} (hi : i ≠ 0) (h : get x = some r) : allG b i s (x :: l) = (nextR b s r).bind fun t => allF b t l := by
 unfold allG; rw [if_neg hi, allF_cons, h, bind_s]
theorem allG_pos {b : Bok} {i : Nat} {s : Stt} {l : List (List B)} (hi : i ≠ 0) : allG b i s l = allF b s l := by unfold allG; rw [if_neg hi]
theorem allG_end {b : Bok} {i : Nat} {s : Stt} (h : i = 0 → s = startR b) : allG b i s [] = some s := by
 unfold allG
 split
 ·rename_i hi; rw [h hi]; rfl
 ·rfl
structure Aw (w W : World) (g : Nat) (bc : List Value) (s : Stt) (A : Option Addr) (us : List Vt) (c : Nat) : Prop where
 b : Cel W w.heap.size 25 bc
 z : Cel W (w.heap.size + 1) 31 zst
 st : Cel W g 31 [.int .i64 s.step, .int .i64 s.visit, .int .i64 s.tries, .int .i64 s.off, .slice A us.length c]
 tv : Tvs W 0 A us
 tr : Trow W 0 A us
 tx : txt us = s.vars
 low : Below w.heap.size w W
theorem Aw.below {w W V : World} {g : Nat} {bc : List Value} {s : Stt} {A : Option Addr} {us : List Vt} {c : Nat} (h : Aw w W g bc s A us c) (hb : Below W.heap.size W V) : Aw w V g bc s A us c :=
 ⟨h.b.below hb h.b.lt, h.z.below hb h.z.lt, h.st.below hb h.st.lt, h.tv.below (Nat.zero_le _) hb, h.tr.below hb, h.tx, h.low.trans (hb.mono h.low.size)⟩
theorem Aw.put {w W : World} {g : Nat} {bc : List Value} {s t : Stt} {A A' : Option Addr} {us vs : List Vt} {c c' : Nat} (h : Aw w W g bc s A us c) (hg : w.heap.size + 1 < g) (hv : Tvs W 0 A' vs) (hr : Trow W 0 A' vs) (hx : txt vs = t.vars) :
  Aw w (fw5 W g (.int .i64 t.step) (.int .i64 t.visit) (.int .i64 t.tries) (.int .i64 t.off) (.slice A' vs.length c')) g bc t A' vs c' := by
 have hf := fw5_frm W g (.int .i64 t.step) (.int .i64 t.visit) (.int .i64 t.tries) (.int .i64 t.off) (.slice A' vs.length c')
 obtain ⟨h1, h2⟩ := Tvs.frm hv hr hf (fun k hk => by rw [List.mem_singleton.1 hk]; exact ⟨Nat.zero_le _, fun cs fz => h.st.not_ty (by decide) cs fz, fun cs fz => h.st.not_ty (by decide) cs fz⟩)
 exact ⟨(hf.block _ h.b.lt (by simp; omega)).trans h.b, (hf.block _ h.z.lt (by simp; omega)).trans h.z, fw5_cel h.st, h1, h2, hx, h.low.trans (hf.below h.low.size (by intro q hq; simp at hq; omega))⟩
theorem all16 (w : World) (A : Option Addr) (n c : Nat) (vs : List Fs) (hb : Fbk w A vs) (hl : vs.length = n) (hn : n ≤ 100000) (ht : ∀ v ∈ vs, -1000000 ≤ v.try_ ∧ v.try_ ≤ 1000000) (har : ∀ v ∈ vs, v.arms.length ≤ 100000) (A1 : Option Addr) (nv c1 : Nat) (hnv : nv ≤ 100000) (most : Int) (hm : -1000000 ≤ most ∧ most ≤ 1000000)
  (AL : Option Addr) (m cL : Nat) (ls : List Vt) (hls : Tvs w w.heap.size AL ls) (hlc : ∀ v ∈ ls, v.t.length ≤ v.c ∧ v.c ≤ maxLen) (hll : ls.length = m) (hlm : m ≤ 100000) :
  Calls Try.prog 9 #[bval A n c A1 nv c1 most, .slice AL m cL] w (NxSays w 0 (allR (bok vs nv most) (txt ls))) := by
 obtain ⟨T, hT⟩ : ∃ T, T = allR (bok vs nv most) (txt ls) := ⟨_, rfl⟩
 rw [← hT]
 unfold bval
 obtain ⟨w1, hw1⟩ : ∃ w1, w1 = (w.alloc (.cells #[.slice A n c, .slice A1 nv c1, .int .i64 most] 25)).alloc (.cells #[.int .i64 0, .int .i64 0, .int .i64 0, .int .i64 0, .slice none 0 0] 31) := ⟨_, rfl⟩
 have hb1 : Below w.heap.size w w1 := by rw [hw1]; exact ((Below.refl _ _).alloc (Nat.le_refl _) _).alloc (by simp) _
 have cb1 : Cel w1 w.heap.size 25 [.slice A n c, .slice A1 nv c1, .int .i64 most] := by rw [hw1]; exact (Cel.new w _ _).alloc _
 have cz1 : Cel w1 (w.heap.size + 1) 31 zst := by rw [hw1]; exact (by simpa using Cel.new (w.alloc (.cells #[.slice A n c, .slice A1 nv c1, .int .i64 most] 25)) 31 zst)
 have con := start_ w1 A n c A1 nv c1 most (by omega) vs 0
 have HB1 := Lib.hid hb1
 have HCB := Lib.hid cb1
 have HCZ := Lib.hid cz1
 have HBK := Lib.hid hb
 have HL := Lib.hid hl
 have HTR := Lib.hid ht
 have HAR := Lib.hid har
 have HLS := Lib.hid hls
 have HLC := Lib.hid hlc
 have HLL := Lib.hid hll
 have HT := Lib.hid hT
 clear hb1 cb1 cz1 hb hl ht har hls hlc hll hT
 go_enter Try.func9, Try.ntmps9
 go_wp2_with fail
 rw [← hw1]
 clear hw1
 refine con.mono ?_
 clear con
 rintro e w2 ⟨hb2, _, rfl, A0, c0, us0, rfl, htv, htr, htx⟩
 have hul0 : us0.length = nv := by have := congrArg List.length htx; unfold startR bok at this; simp at this; unfold txt at this; rw [List.length_map] at this; exact this
 obtain ⟨W3, hW3⟩ : ∃ W3, W3 = w2.alloc (.cells #[.int .i64 (startR (bok vs nv most)).step, .int .i64 (startR (bok vs nv most)).visit, .int .i64 (startR (bok vs nv most)).tries, .int .i64 (startR (bok vs nv most)).off, .slice A0 us0.length c0] 31) := ⟨_, rfl⟩
 have hb3 : Below w2.heap.size w2 W3 := by rw [hW3]; exact (Below.refl _ _).alloc (Nat.le_refl _) _
 have HA3 := Lib.hid (show Aw w W3 w2.heap.size [.slice A n c, .slice A1 nv c1, .int .i64 most] (startR (bok vs nv most)) A0 us0 c0 from
  ⟨(HCB.out.below hb2 HCB.out.lt).below hb3 (HCB.out.below hb2 HCB.out.lt).lt, (HCZ.out.below hb2 HCZ.out.lt).below hb3 (HCZ.out.below hb2 HCZ.out.lt).lt, by rw [hW3]; exact Cel.new w2 _ _, htv.below (Nat.zero_le _) hb3, htr.below hb3, htx, (HB1.out.trans (hb2.mono HB1.out.size)).trans (hb3.mono (Nat.le_trans HB1.out.size hb2.size))⟩)
 have hg2 : w.heap.size + 1 < w2.heap.size := by have := (HCZ.out.below hb2 HCZ.out.lt).lt; omega
 have HG0 := Lib.hid (show T = allG (bok vs nv most) 0 (startR (bok vs nv most)) ((txt ls).drop 0) from by rw [HT.out]; rfl)
 obtain ⟨g, hg⟩ : ∃ g, g = w2.heap.size := ⟨_, rfl⟩
 have HU0 := Lib.hid hul0
 clear hb2 hb3 htv htr htx hul0
 go_wp2_with fail
 rw [← hW3, ← hg]
 rw [← hg] at HA3 hg2
 clear hW3 hg HCB HCZ HB1
 go_loopw [7] (fun v7 wr => ∃ (i : Nat) (s : Stt) (A' : Option Addr) (us : List Vt) (c' : Nat), i ≤ m ∧ v7 = .int .i64 (i : Int) ∧ Hid (Aw w wr g [.slice A n c, .slice A1 nv c1, .int .i64 most] s A' us c') ∧ Hid (us.length = nv) ∧ Hid (i = 0 → s = startR (bok vs nv most)) ∧ Hid (T = allG (bok vs nv most) i s ((txt ls).drop i))) (fun v7 _ => m - (intOf v7).toNat)
 case atStart => exact ⟨0, _, A0, us0, c0, Nat.zero_le _, rfl, HA3, HU0, Lib.hid (fun _ => rfl), HG0⟩
 case round =>
  clear HA3 HU0 HG0
  obtain ⟨i, s, A', us, c', hi, rfl, HA, HUN, HZS, HG⟩ := hrel
  obtain ⟨W, rfl⟩ : ∃ W, W = wr := ⟨_, rfl⟩
  rcases Nat.lt_or_ge i m with hlt | hge
  ·obtain ⟨lv, hlv⟩ : ∃ lv, ls[i]? = some lv := ⟨_, List.getElem?_eq_getElem (by rw [HLL.out]; exact hlt)⟩
   have hlm' := List.mem_of_getElem? hlv
   obtain ⟨ad, rfl, a0⟩ := (HLS.out.below (Nat.le_refl _) HA.out.low).cr i lv hlv
   change _ = some (Value.slice lv.A lv.t.length lv.c) at a0
   have con := Rec.get_ W lv.A lv.t.length lv.c lv.t (Rec.tx_bs ((HLS.out.below (Nat.le_refl _) HA.out.low).tx lv hlm').1 HA.out.low.size) (HLC.out lv hlm').1 (HLC.out lv hlm').2
   have HDR := Lib.hid (show (txt ls).drop i = lv.t :: (txt ls).drop (i + 1) from by
    have h1 : (txt ls)[i]? = some lv.t := by unfold txt; rw [List.getElem?_map, hlv]; rfl
    obtain ⟨hl2, he⟩ := List.getElem?_eq_some_iff.1 h1
    rw [← he]
    exact List.drop_eq_getElem_cons hl2)
   clear hlv hlm'
   go_wp2_with fail
   refine con.mono ?_
   clear con
   rintro e w4 ⟨hb4, hget⟩
   have HA4 := Lib.hid (HA.out.below hb4)
   have y0 := HA4.out.z.cell 0
   have y1 := HA4.out.z.cell 1
   have y2 := HA4.out.z.cell 2
   have y3 := HA4.out.z.cell 3
   have y4 := HA4.out.z.cell 4
   have l0 := HA4.out.z.free 0
   have l1 := HA4.out.z.free 1
   have l2 := HA4.out.z.free 2
   have l3 := HA4.out.z.free 3
   have l4 := HA4.out.z.free 4
   have hzl := HA4.out.z.lt
   have hgl := HA4.out.st.lt
   have hbl := HA4.out.b.lt
   have hs4 := hb4.size
   cases hgr : get lv.t with
   | none =>
    rw [hgr] at hget
    unfold Rec.zeros at hget
    subst hget
    have HE := Lib.hid (show T = none by rw [HG.out, HDR.out]; exact allG_none hgr)
    clear hgr hb4
    go_wp2_with fail
    refine bodyPost_ret (v := .tuple #[stval 0 0 0 0 none 0 0, .bool false]) (Rec.results_recget 4 31 5 Try.results9 ⟨w.heap.size + 1, 0, none⟩ rfl _ _ rfl (load_st ((fw5_cel (a := .int .i64 0) (b := .int .i64 0) (c := .int .i64 0) (d := .int .i64 0) (e := .slice none 0 0) HA4.out.z).alloc _))) rfl ?_
    exact nx_noA HE.out HA4.out.low (by omega) _ _ _ _ _ _
   | some r =>
    rw [hgr] at hget
    obtain ⟨v, rfl, rfl, hrok, hrow⟩ := hget
    rw [show v.cells.toArray = #[.int .i64 v.r.kind, .int .i64 v.r.s.step, .int .i64 v.r.s.visit, .int .i64 v.r.s.tries, .int .i64 v.r.s.off, .slice v.AL v.vs.length v.cL, .int .i64 v.r.visit, .int .i64 v.r.step, .int .i64 v.r.try_, .int .i64 v.r.to, .int .i64 v.r.off, .int .i64 v.r.var, .slice v.AV v.r.value.length v.cV] from rfl]
    obtain ⟨W5, hW5⟩ : ∃ W5, W5 = w4.alloc (.cells #[.int .i64 v.r.kind, .int .i64 v.r.s.step, .int .i64 v.r.s.visit, .int .i64 v.r.s.tries, .int .i64 v.r.s.off, .slice v.AL v.vs.length v.cL, .int .i64 v.r.visit, .int .i64 v.r.step, .int .i64 v.r.try_, .int .i64 v.r.to, .int .i64 v.r.off, .int .i64 v.r.var, .slice v.AV v.r.value.length v.cV] 58) := ⟨_, rfl⟩
    have hb5 : Below w4.heap.size w4 W5 := by rw [hW5]; exact (Below.refl _ _).alloc (Nat.le_refl _) _
    have HA5 := Lib.hid (HA4.out.below hb5)
    have HCR := Lib.hid (show Cel W5 w4.heap.size 58 [.int .i64 v.r.kind, .int .i64 v.r.s.step, .int .i64 v.r.s.visit, .int .i64 v.r.s.tries, .int .i64 v.r.s.off, .slice v.AL v.vs.length v.cL, .int .i64 v.r.visit, .int .i64 v.r.step, .int .i64 v.r.try_, .int .i64 v.r.to, .int .i64 v.r.off, .int .i64 v.r.var, .slice v.AV v.r.value.length v.cV] by rw [hW5]; exact Cel.new w4 _ _)
    have HRK := Lib.hid (hrok.below (Nat.zero_le _) hb5)
    have HRW := Lib.hid (hrow.below hb5)
    have HGR := Lib.hid hgr
    have hs5 := hb5.size
    have q0 := HA4.out.b.cell 0
    have q1 := HA4.out.b.cell 1
    have q2 := HA4.out.b.cell 2
    clear hb4 hb5 hrok hrow hgr a0
    by_cases h0 : i = 0
    ·subst h0
     have con := right_ W5 0 (Nat.zero_le _) A n c vs (HBK.out.below HA5.out.low) HL.out hn HTR.out A1 nv c1 most hm v.r.s.step v.r.s.visit v.r.s.tries v.r.s.off v.AL v.vs.length v.cL v.vs HRK.out.vs rfl HRK.out.vl
     rw [show (⟨v.r.s.step, v.r.s.visit, v.r.s.tries, v.r.s.off, txt v.vs⟩ : Stt) = v.r.s by rw [← HRK.out.eq]] at con
     have HF := Lib.hid (show T = if v.r.kind = 1 ∧ right (bok vs nv most) v.r.s = true then allF (bok vs nv most) v.r.s ((txt ls).drop 1) else none by rw [HG.out, HDR.out]; exact allG_first HGR.out)
     obtain ⟨RI, hRI⟩ : ∃ RI, RI = right (bok vs nv most) v.r.s := ⟨_, rfl⟩
     rw [← hRI] at con HF
     have HRI := Lib.hid hRI
     clear hRI
     go_wp2_with fail
     rw [← hW5]
     refine con.mono ?_
     clear con
     rintro e w6 ⟨rfl, hb6⟩
     have HA6 := Lib.hid (HA5.out.below hb6)
     have HR6 := HCR.out.below hb6 HCR.out.lt
     have r0 := HR6.cell 0
     have r1 := HR6.cell 1
     have r2 := HR6.cell 2
     have r3 := HR6.cell 3
     have r4 := HR6.cell 4
     have r5 := HR6.cell 5
     have hs6 := hb6.size
     have HVS := Lib.hid (HRK.out.vs.below (Nat.zero_le _) hb6)
     have HVR := Lib.hid (HRW.out.below hb6)
     clear hb6 HR6 q0 q1 q2 hW5 y0 y1 y2 y3 y4 l0 l1 l2 l3 l4
     have y0 := HA6.out.z.cell 0
     have y1 := HA6.out.z.cell 1
     have y2 := HA6.out.z.cell 2
     have y3 := HA6.out.z.cell 3
     have y4 := HA6.out.z.cell 4
     have l0 := HA6.out.z.free 0
     have l1 := HA6.out.z.free 1
     have l2 := HA6.out.z.free 2
     have l3 := HA6.out.z.free 3
     have l4 := HA6.out.z.free 4
     by_cases h2 : v.r.kind = 1
     case neg =>
      have z2 : (v.r.kind != 1) = true := by simpa using h2
      have HE := Lib.hid (show T = none by rw [HF.out, if_neg (fun h => h2 h.1)])
      clear h2
      go_wp2_with fail
      refine bodyPost_ret (v := .tuple #[stval 0 0 0 0 none 0 0, .bool false]) (Rec.results_recget 4 31 5 Try.results9 ⟨w.heap.size + 1, 0, none⟩ rfl _ _ rfl (load_st (fw5_cel (a := .int .i64 0) (b := .int .i64 0) (c := .int .i64 0) (d := .int .i64 0) (e := .slice none 0 0) HA6.out.z))) rfl ?_
      exact nx_no HE.out HA6.out.low (by omega) _ _ _ _ _
     have z2 : (v.r.kind != 1) = false := by simpa using h2
     cases RI
     ·have HE := Lib.hid (show T = none by rw [HF.out, if_neg (fun h => by cases h.2)])
      clear h2
      go_wp2_with fail
      refine bodyPost_ret (v := .tuple #[stval 0 0 0 0 none 0 0, .bool false]) (Rec.results_recget 4 31 5 Try.results9 ⟨w.heap.size + 1, 0, none⟩ rfl _ _ rfl (load_st (fw5_cel (a := .int .i64 0) (b := .int .i64 0) (c := .int .i64 0) (d := .int .i64 0) (e := .slice none 0 0) HA6.out.z))) rfl ?_
      exact nx_no HE.out HA6.out.low (by omega) _ _ _ _ _
     ·have HE := Lib.hid (show T = allF (bok vs nv most) v.r.s ((txt ls).drop 1) by rw [HF.out, if_pos ⟨h2, rfl⟩])
      have hvn : v.vs.length = nv := by
       have := (right_nums HRI.out.symm).2.2.2.2.2.2.1
       rw [HRK.out.eq] at this
       unfold txt at this
       rw [List.length_map] at this
       exact this
      clear h2
      have HP := Lib.hid (HA6.out.put (c' := v.cL) hg2 HVS.out HVR.out HRK.out.eq.symm)
      have HVN := Lib.hid hvn
      clear hvn
      have s0 := HA6.out.st.cell 0
      have s1 := HA6.out.st.cell 1
      have s2 := HA6.out.st.cell 2
      have s3 := HA6.out.st.cell 3
      have s4 := HA6.out.st.cell 4
      have f0 := HA6.out.st.free 0
      have f1 := HA6.out.st.free 1
      have f2 := HA6.out.st.free 2
      have f3 := HA6.out.st.free 3
      have f4 := HA6.out.st.free 4
      unfold fw5 at HP
      go_wp2_with fail
      exact ⟨⟨1, _, _, _, _, hlt, rfl, HP, HVN, Lib.hid (fun h => by cases h), Lib.hid (by rw [allG_pos (by decide)]; exact HE.out)⟩, by simp [intOf]; omega⟩
    ·have con := next16 W5 0 (Nat.zero_le _) A n c vs (HBK.out.below HA5.out.low) HL.out hn HTR.out HAR.out A1 nv c1 hnv most hm s.step s.visit s.tries s.off A' us.length c' us HA5.out.tv HA5.out.tr rfl (by have := HUN.out; unfold maxLen; omega) v HRK.out
     rw [show (⟨s.step, s.visit, s.tries, s.off, txt us⟩ : Stt) = s by rw [HA5.out.tx]] at con
     rw [show v.cells.toArray = #[.int .i64 v.r.kind, .int .i64 v.r.s.step, .int .i64 v.r.s.visit, .int .i64 v.r.s.tries, .int .i64 v.r.s.off, .slice v.AL v.vs.length v.cL, .int .i64 v.r.visit, .int .i64 v.r.step, .int .i64 v.r.try_, .int .i64 v.r.to, .int .i64 v.r.off, .int .i64 v.r.var, .slice v.AV v.r.value.length v.cV] from rfl] at con
     have HF := Lib.hid (show T = (nextR (bok vs nv most) s v.r).bind fun t => allF (bok vs nv most) t ((txt ls).drop (i + 1)) by rw [HG.out, HDR.out]; exact allG_next h0 HGR.out)
     obtain ⟨NX, hNX⟩ : ∃ NX, NX = nextR (bok vs nv most) s v.r := ⟨_, rfl⟩
     have HNX := Lib.hid hNX
     rw [← hNX] at con HF
     clear hNX
     have zi0 : ((i : Int) == 0) = false := by simp; omega
     have HI0 := Lib.hid h0
     clear h0
     have s0 := HA4.out.st.cell 0
     have s1 := HA4.out.st.cell 1
     have s2 := HA4.out.st.cell 2
     have s3 := HA4.out.st.cell 3
     have s4 := HA4.out.st.cell 4
     go_wp2_with fail
     rw [← hW5]
     unfold bval stval at con
     refine con.mono ?_
     clear con
     intro e w6 hnx0
     obtain ⟨hb6, hnx⟩ := nx_split hnx0
     clear hnx0
     have HA6 := Lib.hid (HA5.out.below hb6)
     have hs6 := hb6.size
     have hz6 := HA6.out.z.lt
     have hg6 := HA6.out.st.lt
     clear hb6 q0 q1 q2 hW5 y0 y1 y2 y3 y4 l0 l1 l2 l3 l4 s0 s1 s2 s3 s4
     have y0 := HA6.out.z.cell 0
     have y1 := HA6.out.z.cell 1
     have y2 := HA6.out.z.cell 2
     have y3 := HA6.out.z.cell 3
     have y4 := HA6.out.z.cell 4
     have l0 := HA6.out.z.free 0
     have l1 := HA6.out.z.free 1
     have l2 := HA6.out.z.free 2
     have l3 := HA6.out.z.free 3
     have l4 := HA6.out.z.free 4
     rcases hnx with ⟨hn0, rfl⟩ | ⟨t, A6, c6, us6, hn0, rfl, htv, htr, htx⟩
     ·rw [hn0] at HF
      clear hn0 HNX
      have HE := Lib.hid (show T = none by rw [HF.out, bind_n])
      go_wp2_with fail
      refine bodyPost_ret (v := .tuple #[stval 0 0 0 0 none 0 0, .bool false]) (Rec.results_recget 4 31 5 Try.results9 ⟨w.heap.size + 1, 0, none⟩ rfl _ _ rfl (load_st ((fw5_cel (a := .int .i64 0) (b := .int .i64 0) (c := .int .i64 0) (d := .int .i64 0) (e := .slice none 0 0) HA6.out.z).alloc _))) rfl ?_
      exact nx_noA HE.out HA6.out.low (by omega) _ _ _ _ _ _
     ·rw [hn0] at HF HNX
      clear hn0
      have HE := Lib.hid (show T = allF (bok vs nv most) t ((txt ls).drop (i + 1)) by rw [HF.out, bind_s])
      have hvn : us6.length = nv := by
       have h1 := next_len HNX.out.symm
       rw [← htx] at h1
       unfold txt at h1
       rw [List.length_map] at h1
       exact h1
      have hsn : us6.length ≤ maxLen := by unfold maxLen; omega
      have HP := Lib.hid (HA6.out.put (c' := c6) hg2 htv htr htx)
      have HVN := Lib.hid hvn
      clear hvn
      have s0 := HA6.out.st.cell 0
      have s1 := HA6.out.st.cell 1
      have s2 := HA6.out.st.cell 2
      have s3 := HA6.out.st.cell 3
      have s4 := HA6.out.st.cell 4
      have f0 := HA6.out.st.free 0
      have f1 := HA6.out.st.free 1
      have f2 := HA6.out.st.free 2
      have f3 := HA6.out.st.free 3
      have f4 := HA6.out.st.free 4
      clear htv htr htx
      unfold fw5 at HP
      go_wp2_with fail
      exact ⟨⟨i + 1, _, _, _, _, hlt, by rw [show ((i + 1 : Nat) : Int) = (i : Int) + 1 by omega], Lib.hid (HP.out.below ((Below.refl _ _).alloc (Nat.le_refl _) _)), HVN, Lib.hid (fun h => by omega), Lib.hid (by rw [allG_pos (by omega)]; exact HE.out)⟩, by simp [intOf]; omega⟩
  ·have zi : decide ((i : Int) < (m : Int)) = false := by simp; omega
   have s0 := HA.out.st.cell 0
   have s1 := HA.out.st.cell 1
   have s2 := HA.out.st.cell 2
   have s3 := HA.out.st.cell 3
   have s4 := HA.out.st.cell 4
   have y0 := HA.out.z.cell 0
   have y1 := HA.out.z.cell 1
   have y2 := HA.out.z.cell 2
   have y3 := HA.out.z.cell 3
   have y4 := HA.out.z.cell 4
   have l0 := HA.out.z.free 0
   have l1 := HA.out.z.free 1
   have l2 := HA.out.z.free 2
   have l3 := HA.out.z.free 3
   have l4 := HA.out.z.free 4
   have hzl := HA.out.z.lt
   have HE := Lib.hid (show T = some s by
    rw [HG.out, List.drop_of_length_le (by unfold txt; rw [List.length_map, HLL.out]; exact hge)]
    exact allG_end HZS.out)
   have hf := fw5_frm W (w.heap.size + 1) (.int .i64 s.step) (.int .i64 s.visit) (.int .i64 s.tries) (.int .i64 s.off) (.slice A' us.length c')
   have HC := Lib.hid (fw5_cel (a := .int .i64 s.step) (b := .int .i64 s.visit) (c := .int .i64 s.tries) (d := .int .i64 s.off) (e := .slice A' us.length c') HA.out.z)
   have hX := Lib.hid (HA.out.low.trans (hf.below HA.out.low.size (by intro q hq; simp at hq; omega)))
   have hTV := Lib.hid (Tvs.frm HA.out.tv HA.out.tr hf (fun k hk => by rw [List.mem_singleton.1 hk]; exact ⟨Nat.zero_le _, fun cs fz => HA.out.z.not_ty (by decide) cs fz, fun cs fz => HA.out.z.not_ty (by decide) cs fz⟩))
   unfold fw5 at HC hX hTV
   clear hf
   go_wp2_with fail
   refine bodyPost_ret (v := .tuple #[stval s.step s.visit s.tries s.off A' us.length c', .bool true]) (Rec.results_recget 4 31 5 Try.results9 ⟨w.heap.size + 1, 0, none⟩ rfl _ _ rfl (load_st HC.out)) rfl ?_
   exact nx_yes HE.out hX.out ⟨A', c', us, rfl, hTV.out.1, hTV.out.2, HA.out.tx⟩
end Go.Proofs.Ytfmkkklcgiaacaa.Fold
end
section
namespace Go.Proofs.Ytfmkkklcgiaacaa.Fold
open Go.RowKit
open Lex (Tx)
open Rec (Stt Vt Tvs txt)
def FewSays (w : World) (P : Prop) (e : Ending) (w' : World) : Prop := ∃ b, e = .returned (.bool b) ∧ Below w.heap.size w w' ∧ (b = true → P)
theorem take_all {α : Type} {l : List α} {i : Nat} {x : α} (h : l[i]? = some x) {P : α → Prop} (h1 : ∀ y ∈ l.take i, P y) (h2 : P x) : ∀ y ∈ l.take (i + 1), P y := by
 rw [List.take_add_one, h]
 intro y hy
 rcases List.mem_append.1 hy with hy | hy
 ·exact h1 y hy
 ·simp at hy; subst hy; exact h2
theorem few16 (w : World) (A : Option Addr) (n c : Nat) (vs : List Fs) (hb : Fbk w A vs) (hl : vs.length = n) (hn : n ≤ maxLen) (A1 : Option Addr) (nv c1 : Nat) (most : Int) (ha : ∀ v ∈ vs, v.arms.length ≤ maxLen) :
  Calls Try.prog 5 #[bval A n c A1 nv c1 most] w (FewSays w (n ≤ 35 ∧ nv ≤ 20 ∧ most < 1000000 ∧ -1000000 < most ∧ ∀ v ∈ vs, v.arms.length ≤ 10)) := by
 unfold bval
 unfold maxLen at hn
 obtain ⟨w1, hw1⟩ : ∃ w1, w1 = w.alloc (.cells #[.slice A n c, .slice A1 nv c1, .int .i64 most] 25) := ⟨_, rfl⟩
 have hb1 : Below w.heap.size w w1 := by rw [hw1]; exact (Below.refl _ _).alloc (Nat.le_refl _) _
 have hc1 : Cel w1 w.heap.size 25 [.slice A n c, .slice A1 nv c1, .int .i64 most] := by rw [hw1]; exact Cel.new w _ _
 have k0 := hc1.cell 0
 have k1 := hc1.cell 1
 have k2 := hc1.cell 2
 have HB1 := Lib.hid hb1
 have HBK := Lib.hid (hb.below hb1)
 have HL := Lib.hid hl
 have HA := Lib.hid ha
 clear hb hb1 hc1 hl ha
 go_enter Try.func5, Try.ntmps5
 go_wp2_with fail
 rw [← hw1]
 clear hw1
 go_loopw [3, 4] (fun v3 v4 wr => ∃ (i : Nat), i ≤ n ∧ v3 = .int .i64 (i : Int) ∧ w1 = wr ∧ Hid (∀ v ∈ vs.take i, v.arms.length ≤ 10)) (fun v3 _ _ => n - (intOf v3).toNat)
 case atStart => exact ⟨0, Nat.zero_le _, rfl, rfl, Lib.hid (by simp)⟩
 case round =>
  obtain ⟨i, hi, rfl, rfl, HK⟩ := hrel
  rcases Nat.lt_or_ge i n with hlt | hge
  ·obtain ⟨v, hv⟩ : ∃ v, vs[i]? = some v := ⟨_, List.getElem?_eq_getElem (by rw [HL.out]; exact hlt)⟩
   obtain ⟨ad, rfl, _, _, a2, a3, _⟩ := HBK.out.at_ hv
   have HFR := Lib.hid (HBK.out.ar v (List.mem_of_getElem? hv))
   have hml := HA.out v (List.mem_of_getElem? hv)
   unfold maxLen at hml
   obtain ⟨m, hm⟩ : ∃ m, m = v.arms.length := ⟨_, rfl⟩
   have HM := Lib.hid hm
   rw [← hm] at a3 hml
   generalize v.n2 = n2 at *
   generalize v.A2 = A2 at *
   generalize v.c2 = c2 at *
   obtain ⟨A3, hA3⟩ : ∃ A3, A3 = v.A3 := ⟨_, rfl⟩
   have HA3 := Lib.hid hA3
   rw [← hA3] at a3
   generalize v.c3 = c3 at *
   clear hm hA3
   by_cases h10 : 10 < m
   ·clear hv
    go_wp2_with fail
    go_ret
    exact ⟨false, rfl, HB1.out, fun h => by cases h⟩
   ·have HN := Lib.hid (show ∀ v ∈ vs.take (i + 1), v.arms.length ≤ 10 from take_all hv HK.out (by rw [← HM.out]; omega))
    clear hv
    have z10 : decide ((10 : Int) < (m : Int)) = false := by simp; omega
    by_cases h300 : 300 < n2
    ·go_wp2_with fail
     go_ret
     exact ⟨false, rfl, HB1.out, fun h => by cases h⟩
    ·have z300 : decide ((300 : Int) < (n2 : Int)) = false := by simp; omega
     go_wp2_with fail
     go_loopw [4] (fun v4 wr => ∃ (j : Nat), j ≤ m ∧ v4 = .int .i64 (j : Int) ∧ w1 = wr) (fun v4 _ => m - (intOf v4).toNat)
     case atStart => exact ⟨0, Nat.zero_le _, rfl, rfl⟩
     case round =>
      obtain ⟨j, hj, rfl, rfl⟩ := hrel
      rcases Nat.lt_or_ge j m with hlt2 | hge2
      ·obtain ⟨a, ha⟩ : ∃ a, v.arms[j]? = some a := ⟨_, List.getElem?_eq_getElem (by rw [← HM.out]; exact hlt2)⟩
       obtain ⟨bd, hbd, b0, _, _⟩ := HFR.out.at_ ha
       rw [← HA3.out] at hbd
       subst hbd
       generalize a.n = an at *
       generalize a.A = aA at *
       generalize a.c = ac at *
       clear ha
       by_cases h100 : 100 < an
       ·go_wp2_with fail
        go_ret
        exact ⟨false, rfl, HB1.out, fun h => by cases h⟩
       ·have z100 : decide ((100 : Int) < (an : Int)) = false := by simp; omega
        go_wp2_with fail
        exact ⟨⟨j + 1, by omega, by rw [show ((j + 1 : Nat) : Int) = (j : Int) + 1 by omega], by trivial⟩, by simp [intOf]; omega⟩
      ·have zj : decide ((j : Int) < (m : Int)) = false := by simp; omega
       go_wp2_with fail
       exact ⟨⟨i + 1, by omega, by rw [show ((i + 1 : Nat) : Int) = (i : Int) + 1 by omega], by trivial, HN⟩, by simp [intOf]; omega⟩
  ·have HN := Lib.hid (show ∀ v ∈ vs, v.arms.length ≤ 10 from fun v hv => HK.out v (by rw [List.take_of_length_le (by rw [HL.out]; exact hge)]; exact hv))
   have zi : decide ((i : Int) < (n : Int)) = false := by simp; omega
   by_cases h1 : n ≤ 35 ∧ nv ≤ 20 ∧ most < 1000000 ∧ -1000000 < most
   ·obtain ⟨h1, h2, h3, h4⟩ := h1
    have HALL := Lib.hid (show n ≤ 35 ∧ nv ≤ 20 ∧ most < 1000000 ∧ -1000000 < most ∧ ∀ v ∈ vs, v.arms.length ≤ 10 from ⟨h1, h2, h3, h4, HN.out⟩)
    go_wp2_with fail
    go_ret
    exact ⟨true, rfl, HB1.out, fun _ => HALL.out⟩
   ·have key : ∀ b1 b2 b3 b4 : Bool, decide ((n : Int) ≤ 35) = b1 → decide ((nv : Int) ≤ 20) = b2 → decide (most < 1000000) = b3 → decide (-1000000 < most) = b4 → (b1 && b2 && b3 && b4) = false := by
     intro b1 b2 b3 b4 e1 e2 e3 e4
     cases hq : (b1 && b2 && b3 && b4)
     ·rfl
     ·exfalso
      simp only [Bool.and_eq_true] at hq
      obtain ⟨⟨⟨q1, q2⟩, q3⟩, q4⟩ := hq
      rw [q1] at e1; rw [q2] at e2; rw [q3] at e3; rw [q4] at e4
      simp at e1 e2 e3 e4
      omega
    cases y1 : decide ((n : Int) ≤ 35) with
    | false =>
     clear h1 key
     go_wp2_with fail
     go_ret
     exact ⟨false, rfl, HB1.out, fun h => by cases h⟩
    | true =>
     cases y2 : decide ((nv : Int) ≤ 20) with
     | false =>
      clear h1 key
      go_wp2_with fail
      go_ret
      exact ⟨false, rfl, HB1.out, fun h => by cases h⟩
     | true =>
      cases y3 : decide (most < 1000000) with
      | false =>
       clear h1 key
       go_wp2_with fail
       go_ret
       exact ⟨false, rfl, HB1.out, fun h => by cases h⟩
      | true =>
       have y4 : decide (-1000000 < most) = false := by
        cases y4 : decide (-1000000 < most)
        ·rfl
        ·have := key _ _ _ _ y1 y2 y3 y4; cases this
       clear h1 key
       go_wp2_with fail
       go_ret
       exact ⟨false, rfl, HB1.out, fun h => by cases h⟩
theorem tries16 (w : World) (A : Option Addr) (n c : Nat) (vs : List Fs) (hb : Fbk w A vs) (hl : vs.length = n) (hn : n ≤ maxLen) (A1 : Option Addr) (nv c1 : Nat) (most : Int) :
  Calls Try.prog 6 #[bval A n c A1 nv c1 most] w (FewSays w (∀ v ∈ vs, -1000000 ≤ v.try_ ∧ v.try_ ≤ 1000000)) := by
 unfold bval
 unfold maxLen at hn
 obtain ⟨w1, hw1⟩ : ∃ w1, w1 = w.alloc (.cells #[.slice A n c, .slice A1 nv c1, .int .i64 most] 25) := ⟨_, rfl⟩
 have hb1 : Below w.heap.size w w1 := by rw [hw1]; exact (Below.refl _ _).alloc (Nat.le_refl _) _
 have hc1 : Cel w1 w.heap.size 25 [.slice A n c, .slice A1 nv c1, .int .i64 most] := by rw [hw1]; exact Cel.new w _ _
 have k0 := hc1.cell 0
 have HB1 := Lib.hid hb1
 have HBK := Lib.hid (hb.below hb1)
 have HL := Lib.hid hl
 clear hb hb1 hc1 hl
 go_enter Try.func6, Try.ntmps6
 go_wp2_with fail
 rw [← hw1]
 clear hw1
 go_loopw [3] (fun v3 wr => ∃ (i : Nat), i ≤ n ∧ v3 = .int .i64 (i : Int) ∧ w1 = wr ∧ Hid (∀ v ∈ vs.take i, -1000000 ≤ v.try_ ∧ v.try_ ≤ 1000000)) (fun v3 _ => n - (intOf v3).toNat)
 case atStart => exact ⟨0, Nat.zero_le _, rfl, rfl, Lib.hid (by simp)⟩
 case round =>
  obtain ⟨i, hi, rfl, rfl, HK⟩ := hrel
  rcases Nat.lt_or_ge i n with hlt | hge
  ·obtain ⟨v, hv⟩ : ∃ v, vs[i]? = some v := ⟨_, List.getElem?_eq_getElem (by rw [HL.out]; exact hlt)⟩
   obtain ⟨ad, rfl, _, _, _, _, _, a5, _⟩ := HBK.out.at_ hv
   obtain ⟨tr, htr⟩ : ∃ tr, tr = v.try_ := ⟨_, rfl⟩
   have HTR := Lib.hid htr
   rw [← htr] at a5
   by_cases h1 : 1000000 < tr
   ·clear hv htr
    go_wp2_with fail
    go_ret
    exact ⟨false, rfl, HB1.out, fun h => by cases h⟩
   ·have z1 : decide (1000000 < tr) = false := by simp; omega
    by_cases h2 : tr < -1000000
    ·clear hv htr
     go_wp2_with fail
     go_ret
     exact ⟨false, rfl, HB1.out, fun h => by cases h⟩
    ·have z2 : decide (tr < -1000000) = false := by simp; omega
     have HN := Lib.hid (take_all hv (P := fun v => -1000000 ≤ v.try_ ∧ v.try_ ≤ 1000000) HK.out (by rw [← HTR.out]; omega))
     clear hv htr h1 h2
     go_wp2_with fail
     exact ⟨⟨i + 1, by omega, by rw [show ((i + 1 : Nat) : Int) = (i : Int) + 1 by omega], by trivial, HN⟩, by simp [intOf]; omega⟩
  ·have HN := Lib.hid (show ∀ v ∈ vs, -1000000 ≤ v.try_ ∧ v.try_ ≤ 1000000 from fun v hv => HK.out v (by rw [List.take_of_length_le (by rw [HL.out]; exact hge)]; exact hv))
   have zi : decide ((i : Int) < (n : Int)) = false := by simp; omega
   go_wp2_with fail
   go_ret
   exact ⟨true, rfl, HB1.out, fun _ => HN.out⟩
end Go.Proofs.Ytfmkkklcgiaacaa.Fold
end
section
namespace Go.Proofs.Ytfmkkklcgiaacaa.Rec
open Go.RowKit
open Lex (Tx)
theorem u8_of {x : Int} (h : (Lit.int .u8 x).wf = true) : ∃ b : BitVec 8, x = (b.toNat : Int) := by
 simp [Lit.wf, IntKind.min, IntKind.max, IntKind.bits, IntKind.signed] at h
 refine ⟨BitVec.ofNat 8 x.toNat, ?_⟩
 rw [BitVec.toNat_ofNat, Nat.mod_eq_of_lt (by omega)]
 omega
theorem pick {α : Type} (P : Nat → α → Prop) : ∀ n, (∀ i, i < n → ∃ x, P i x) → ∃ l : List α, l.length = n ∧ ∀ i x, l[i]? = some x → P i x
 | 0, _ => ⟨[], rfl, by simp⟩
 | n + 1, h => by
  obtain ⟨l, hl, hp⟩ := pick P n (fun i hi => h i (by omega))
  obtain ⟨x, hx⟩ := h n (by omega)
  refine ⟨l ++ [x], by simp [hl], fun i y hy => ?_⟩
  rcases Nat.lt_or_ge i l.length with hi | hi
  ·rw [List.getElem?_append_left hi] at hy
   exact hp i y hy
  ·have hi2 : i = n := by have := (List.getElem?_eq_some_iff.1 hy).1; simp at this; omega
   subst hi2
   rw [List.getElem?_append_right hi, show i - l.length = 0 by omega] at hy
   simp at hy
   subst hy
   exact hx
theorem bytes_of_isv {w : World} {A : Option Addr} {l c : Nat} (h : IsV w (.slice (.int .u8)) (.slice A l c)) : ∃ bs : List (BitVec 8), bs.length = l ∧ l ≤ c ∧ l ≤ maxLen ∧ Bs w w.heap.size A l bs := by
 cases h with
 | nil => exact ⟨[], rfl, Nat.le_refl _, Nat.zero_le _, Bs.nil_⟩
 | slice U hl hc hcell hU =>
  rename_i x
  obtain ⟨bs, hbl, hp⟩ := pick (fun i (b : BitVec 8) => U i = v8 b) l (fun i hi => by
   have u0 := hU i hi
   generalize U i = a0 at *
   cases u0 with | int h0 =>
   obtain ⟨b, rfl⟩ := u8_of h0
   exact ⟨b, rfl⟩)
  refine ⟨bs, hbl, hl, by omega, hbl, fun hn => ⟨x, rfl, ?_, fun j hj => ?_⟩⟩
  ·have := cell_lt (hcell 0 hn)
   rwa [add_block] at this
  ·have hj2 : j < bs.length := by omega
   rw [hcell j hj, hp j _ (List.getElem?_eq_getElem hj2), List.getD_eq_getElem?_getD, List.getElem?_eq_getElem hj2]
   rfl
end Go.Proofs.Ytfmkkklcgiaacaa.Rec
end
section
namespace Go.Proofs.Ytfmkkklcgiaacaa.Fold
open Go.RowKit
open Rec (pick Rv Rok Vt txt bytes_of_isv)
theorem i64_of {x : Int} (h : (Lit.int .i64 x).wf = true) : -9223372036854775808 ≤ x ∧ x < 9223372036854775808 := by
 simp [Lit.wf, IntKind.min, IntKind.max, IntKind.bits, IntKind.signed] at h
 omega
theorem isv_len {w : World} {e : Kd} {A : Option Addr} {l c : Nat} (h : IsV w (.slice e) (.slice A l c)) : l ≤ c ∧ l ≤ maxLen := by
 cases h with
 | nil => exact ⟨Nat.le_refl _, Nat.zero_le _⟩
 | slice U hl hc hcell hU => exact ⟨hl, by omega⟩
def FitA (a : Fa) : Prop := a.n ≤ a.c ∧ a.n ≤ maxLen ∧ (-9223372036854775808 ≤ a.var ∧ a.var < 9223372036854775808) ∧ (-9223372036854775808 ≤ a.to_ ∧ a.to_ < 9223372036854775808)
def FitS (v : Fs) : Prop := v.nm.size ≤ maxLen ∧ v.n2 ≤ v.c2 ∧ v.n2 ≤ maxLen ∧ v.arms.length ≤ maxLen ∧ (-9223372036854775808 ≤ v.tag ∧ v.tag < 9223372036854775808) ∧ (-9223372036854775808 ≤ v.time ∧ v.time < 9223372036854775808) ∧
 (-9223372036854775808 ≤ v.try_ ∧ v.try_ < 9223372036854775808) ∧ (-9223372036854775808 ≤ v.els ∧ v.els < 9223372036854775808) ∧ ∀ a ∈ v.arms, FitA a
theorem farms_of_isv {w : World} {A : Option Addr} {l c : Nat} (h : IsV w (.recs [.slice (.int .u8), .int .i64, .int .i64]) (.slice A l c)) :
  ∃ us : List Fa, us.length = l ∧ l ≤ maxLen ∧ (∀ j a, us[j]? = some a → ∃ ad, A = some ad ∧ ∀ k u, a.cells[k]? = some u → w.cell? (ad.add (j * 3 + k)) = some u) ∧ ∀ a ∈ us, FitA a := by
 cases h with
 | rnil => exact ⟨[], rfl, Nat.zero_le _, by simp, by simp⟩
 | recs U hl hc hcell hU =>
  rename_i x
  obtain ⟨us, hsl, hp⟩ := pick (fun i (a : Fa) => (∀ k u, a.cells[k]? = some u → U i k = u) ∧ FitA a) l (fun i hi => by
   have u0 := hU i 0 _ hi rfl
   have u1 := hU i 1 _ hi rfl
   have u2 := hU i 2 _ hi rfl
   obtain ⟨F, hF⟩ : ∃ F : Nat → Value, F = U i := ⟨_, rfl⟩
   rw [← hF] at u0 u1 u2 ⊢
   clear hU hcell hF
   generalize h0 : F 0 = a0 at *
   generalize h1 : F 1 = a1 at *
   generalize h2 : F 2 = a2 at *
   obtain ⟨A0, l0, c0, rfl⟩ : ∃ A l c, a0 = .slice A l c := by cases u0 <;> exact ⟨_, _, _, rfl⟩
   cases u1 with | int f1 =>
   cases u2 with | int f2 =>
   have hn := isv_len u0
   refine ⟨⟨A0, l0, c0, _, _⟩, fun k u hu => ?_, hn.1, hn.2, i64_of f1, i64_of f2⟩
   have hk : k < 3 := (List.getElem?_eq_some_iff.1 hu).1
   match k, hk with
   | 0, _ => cases hu; exact h0
   | 1, _ => cases hu; exact h1
   | 2, _ => cases hu; exact h2)
  refine ⟨us, hsl, by omega, fun j a hj => ⟨x, rfl, fun k u hu => ?_⟩, fun a ha => ?_⟩
  ·have hil : j < l := by have := (List.getElem?_eq_some_iff.1 hj).1; omega
   have hk : k < 3 := (List.getElem?_eq_some_iff.1 hu).1
   have c0 := hcell j k hil hk
   rw [(hp j a hj).1 k u hu] at c0
   exact c0
  ·obtain ⟨i, hi⟩ := List.mem_iff_getElem?.1 ha
   exact (hp i a hi).2
theorem fbk_of_isv {w : World} {A : Option Addr} {l c : Nat} (h : IsV w (.recs [.string, .int .i64, .slice (.int .u8), .recs [.slice (.int .u8), .int .i64, .int .i64], .int .i64, .int .i64, .int .i64]) (.slice A l c)) :
  ∃ vs : List Fs, vs.length = l ∧ l ≤ maxLen ∧ Fbk w A vs ∧ ∀ v ∈ vs, FitS v := by
 cases h with
 | rnil => exact ⟨[], rfl, Nat.zero_le _, ⟨by simp, by simp⟩, by simp⟩
 | recs U hl hc hcell hU =>
  rename_i x
  obtain ⟨vs, hsl, hp⟩ := pick (fun i (v : Fs) => (∀ k u, v.cells[k]? = some u → U i k = u) ∧ Far w v ∧ FitS v) l (fun i hi => by
   have u0 := hU i 0 _ hi rfl
   have u1 := hU i 1 _ hi rfl
   have u2 := hU i 2 _ hi rfl
   have u3 := hU i 3 _ hi rfl
   have u4 := hU i 4 _ hi rfl
   have u5 := hU i 5 _ hi rfl
   have u6 := hU i 6 _ hi rfl
   obtain ⟨F, hF⟩ : ∃ F : Nat → Value, F = U i := ⟨_, rfl⟩
   rw [← hF] at u0 u1 u2 u3 u4 u5 u6 ⊢
   clear hU hcell hF
   generalize h0 : F 0 = a0 at *
   generalize h1 : F 1 = a1 at *
   generalize h2 : F 2 = a2 at *
   generalize h3 : F 3 = a3 at *
   generalize h4 : F 4 = a4 at *
   generalize h5 : F 5 = a5 at *
   generalize h6 : F 6 = a6 at *
   cases u0 with | string f0 =>
   cases u1 with | int f1 =>
   obtain ⟨A2, l2, c2, rfl⟩ : ∃ A l c, a2 = .slice A l c := by cases u2 <;> exact ⟨_, _, _, rfl⟩
   obtain ⟨A3, l3, c3, rfl⟩ : ∃ A l c, a3 = .slice A l c := by cases u3 <;> exact ⟨_, _, _, rfl⟩
   cases u4 with | int f4 =>
   cases u5 with | int f5 =>
   cases u6 with | int f6 =>
   have hn := isv_len u2
   obtain ⟨us, rfl, hum, hcr, hus⟩ := farms_of_isv u3
   refine ⟨⟨_, _, A2, l2, c2, A3, c3, us, _, _, _⟩, fun k u hu => ?_, hcr, f0, hn.1, hn.2, hum, i64_of f1, i64_of f4, i64_of f5, i64_of f6, hus⟩
   have hk : k < 7 := (List.getElem?_eq_some_iff.1 hu).1
   match k, hk with
   | 0, _ => cases hu; exact h0
   | 1, _ => cases hu; exact h1
   | 2, _ => cases hu; exact h2
   | 3, _ => cases hu; exact h3
   | 4, _ => cases hu; exact h4
   | 5, _ => cases hu; exact h5
   | 6, _ => cases hu; exact h6)
  refine ⟨vs, hsl, by omega, ⟨fun i v hi => ⟨x, rfl, fun k u hu => ?_⟩, fun v hv => ?_⟩, fun v hv => ?_⟩
  ·have hil : i < l := by have := (List.getElem?_eq_some_iff.1 hi).1; omega
   have hk : k < 7 := (List.getElem?_eq_some_iff.1 hu).1
   have c0 := hcell i k hil hk
   rw [(hp i v hi).1 k u hu] at c0
   exact c0
  ·obtain ⟨i, hi⟩ := List.mem_iff_getElem?.1 hv
   exact (hp i v hi).2.1
  ·obtain ⟨i, hi⟩ := List.mem_iff_getElem?.1 hv
   exact (hp i v hi).2.2
theorem isv_cap {w : World} {e : Kd} {A : Option Addr} {l c : Nat} (h : IsV w (.slice e) (.slice A l c)) : c ≤ maxLen := by
 cases h with
 | nil => exact Nat.zero_le _
 | slice U hl hc hcell hU => exact hc
theorem caps_of_isv {w : World} {A : Option Addr} {l c : Nat} (h : IsV w (.slice (.slice (.int .u8))) (.slice A l c)) : ∃ vs : List Vt, vs.length = l ∧ l ≤ maxLen ∧ Rec.Tvs w w.heap.size A vs ∧ ∀ v ∈ vs, v.t.length ≤ v.c ∧ v.c ≤ maxLen := by
 cases h with
 | nil => exact ⟨[], rfl, Nat.zero_le _, ⟨by simp, by simp⟩, by simp⟩
 | slice U hl hc hcell hU =>
  rename_i x
  obtain ⟨vs, hvl, hp⟩ := pick (fun i (v : Vt) => U i = v.cell ∧ (Lex.Tx w w.heap.size v.A v.t ∧ v.t.length ≤ maxLen) ∧ v.t.length ≤ v.c ∧ v.c ≤ maxLen) l (fun i hi => by
   have u0 := hU i hi
   generalize U i = a0 at *
   obtain ⟨kA, kl, kc, rfl⟩ : ∃ A l c, a0 = .slice A l c := by cases u0 <;> exact ⟨_, _, _, rfl⟩
   have hcc := isv_cap u0
   obtain ⟨bs, rfl, hpc, hpm, hbs⟩ := bytes_of_isv u0
   exact ⟨⟨kA, kc, bs⟩, rfl, ⟨.inl hbs, hpm⟩, hpc, hcc⟩)
  refine ⟨vs, hvl, by omega, ⟨fun i v hi => ⟨x, rfl, ?_⟩, fun v hv => ?_⟩, fun v hv => ?_⟩
  ·have hil : i < l := by have := (List.getElem?_eq_some_iff.1 hi).1; omega
   rw [hcell i hil, (hp i v hi).1]
  ·obtain ⟨i, hi⟩ := List.mem_iff_getElem?.1 hv
   exact (hp i v hi).2.1
  ·obtain ⟨i, hi⟩ := List.mem_iff_getElem?.1 hv
   exact (hp i v hi).2.2
end Go.Proofs.Ytfmkkklcgiaacaa.Fold
end
