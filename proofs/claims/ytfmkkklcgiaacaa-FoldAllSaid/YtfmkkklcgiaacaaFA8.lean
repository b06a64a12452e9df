/-
The document's fold (layer 16): what follows a state. (Written by gen_foldnext.py.)
-/
import Derived.Test.YtfmkkklcgiaacaaFA0
import Derived.Test.YtfmkkklcgiaacaaFA1
import Derived.Test.YtfmkkklcgiaacaaFA2
import Derived.Test.YtfmkkklcgiaacaaFA3
import Derived.Test.YtfmkkklcgiaacaaFA4
import Derived.Test.YtfmkkklcgiaacaaFA5
import Derived.Test.YtfmkkklcgiaacaaFA6
import Derived.Test.YtfmkkklcgiaacaaFA7
set_option linter.unusedVariables false
set_option linter.unusedSimpArgs false
set_option maxRecDepth 100000
set_option maxHeartbeats 8000000
namespace Go.Proofs.Ytfmkkklcgiaacaa.Fold
open Go.RowKit
open Lex (Tx)
open Rec (Stt Vt Tvs txt Rv Rok Rc Trow Tvs.frm)
abbrev zst : List Value := [.int .i64 0, .int .i64 0, .int .i64 0, .int .i64 0, .slice none 0 0]
structure Nw (w W : World) (bc sc rc : List Value) : Prop where
 b : Cel W w.heap.size 25 bc
 s : Cel W (w.heap.size + 1) 31 sc
 r : Cel W (w.heap.size + 1 + 1) 58 rc
 z : Cel W (w.heap.size + 1 + 1 + 1) 31 zst
 low : Below w.heap.size w W
theorem Nw.below {w W V : World} {bc sc rc : List Value} (h : Nw w W bc sc rc) (hb : Below W.heap.size W V) : Nw w V bc sc rc :=
 ⟨h.b.below hb h.b.lt, h.s.below hb h.s.lt, h.r.below hb h.r.lt, h.z.below hb h.z.lt, h.low.trans (hb.mono h.low.size)⟩
def NxSays (w : World) (K : Nat) (r : Option Stt) (e : Ending) (w' : World) : Prop := Below w.heap.size w w' ∧ match r with
 | none => e = .returned (.tuple #[stval 0 0 0 0 none 0 0, .bool false])
 | some t => ∃ v, e = .returned (.tuple #[v, .bool true]) ∧ StSays w' K t v
def fw5 (W : World) (g : Nat) (a b c d e : Value) : World := ((((W.setCell ⟨g, 0, none⟩ a).setCell ⟨g, 1, none⟩ b).setCell ⟨g, 2, none⟩ c).setCell ⟨g, 3, none⟩ d).setCell ⟨g, 4, none⟩ e
theorem fw5_cel {W : World} {g : Nat} {t : TypeId} {x y z u q a b c d e : Value} (h : Cel W g t [x, y, z, u, q]) : Cel (fw5 W g a b c d e) g t [a, b, c, d, e] := ((((h.set 0 a).set 1 b).set 2 c).set 3 d).set 4 e
theorem fw5_frm (W : World) (g : Nat) (a b c d e : Value) : Frm [g] W (fw5 W g a b c d e) := (((((Frm.refl [g] W).set (p := ⟨g, 0, none⟩) (by simp) a).set (p := ⟨g, 1, none⟩) (by simp) b).set (p := ⟨g, 2, none⟩) (by simp) c).set (p := ⟨g, 3, none⟩) (by simp) d).set (p := ⟨g, 4, none⟩) (by simp) e
theorem nx_no {w W : World} {g K : Nat} {T : Option Stt} (hT : T = none) (hl : Below w.heap.size w W) (hg : w.heap.size ≤ g) (a b c d e : Value) : NxSays w K T (.returned (.tuple #[stval 0 0 0 0 none 0 0, .bool false])) (fw5 W g a b c d e) :=
 ⟨hl.trans ((fw5_frm W g a b c d e).below hl.size (by intro q hq; simp at hq; omega)), by rw [hT]⟩
theorem nx_noA {w W : World} {g K : Nat} {T : Option Stt} (hT : T = none) (hl : Below w.heap.size w W) (hg : w.heap.size ≤ g) (a b c d e : Value) (o : Obj) : NxSays w K T (.returned (.tuple #[stval 0 0 0 0 none 0 0, .bool false])) ((fw5 W g a b c d e).alloc o) := by
 have h := hl.trans ((fw5_frm W g a b c d e).below hl.size (by intro q hq; simp at hq; omega))
 exact ⟨h.alloc h.size o, by rw [hT]⟩
theorem nx_yes {w X : World} {K : Nat} {T : Option Stt} {t : Stt} {v : Value} (hT : T = some t) (hX : Below w.heap.size w X) (hs : StSays X K t v) : NxSays w K T (.returned (.tuple #[v, .bool true])) X := ⟨hX, by rw [hT]; exact ⟨v, rfl, hs⟩⟩
theorem next16 (w : World) (K : Nat) (hK : K ≤ w.heap.size) (A : Option Addr) (n c : Nat) (vs : List Fs) (hb : Fbk w A vs) (hl : vs.length = n) (hn : n ≤ 100000) (ht : ∀ v ∈ vs, -1000000 ≤ v.try_ ∧ v.try_ ≤ 1000000) (har : ∀ v ∈ vs, v.arms.length ≤ 100000) (A1 : Option Addr) (nv c1 : Nat) (hnv : nv ≤ 100000) (most : Int) (hm : -1000000 ≤ most ∧ most ≤ 1000000)
  (s1 s2 s3 s4 : Int) (AL : Option Addr) (m cL : Nat) (us : List Vt) (hu : Tvs w K AL us) (hut : Trow w K AL us) (hul : us.length = m) (hum : m ≤ maxLen) (v : Rv) (hr : Rok w K v) :
  Calls Try.prog 20 #[bval A n c A1 nv c1 most, stval s1 s2 s3 s4 AL m cL, .agg v.cells.toArray] w (NxSays w K (nextR (bok vs nv most) ⟨s1, s2, s3, s4, txt us⟩ v.r)) := by
 obtain ⟨kd, hkd⟩ : ∃ kd, kd = v.r.kind := ⟨_, rfl⟩
 obtain ⟨rv, hrv⟩ : ∃ rv, rv = v.r.visit := ⟨_, rfl⟩
 obtain ⟨rs, hrs⟩ : ∃ rs, rs = v.r.step := ⟨_, rfl⟩
 obtain ⟨rt, hrt⟩ : ∃ rt, rt = v.r.try_ := ⟨_, rfl⟩
 obtain ⟨ro, hro⟩ : ∃ ro, ro = v.r.to := ⟨_, rfl⟩
 obtain ⟨rf, hrf⟩ : ∃ rf, rf = v.r.off := ⟨_, rfl⟩
 obtain ⟨ra, hra⟩ : ∃ ra, ra = v.r.var := ⟨_, rfl⟩
 have hcs : v.cells = [.int .i64 kd, .int .i64 v.r.s.step, .int .i64 v.r.s.visit, .int .i64 v.r.s.tries, .int .i64 v.r.s.off, .slice v.AL v.vs.length v.cL, .int .i64 rv, .int .i64 rs, .int .i64 rt, .int .i64 ro, .int .i64 rf, .int .i64 ra, .slice v.AV v.r.value.length v.cV] := by rw [hkd, hrv, hrs, hrt, hro, hrf, hra]; rfl
 obtain ⟨T, hT⟩ : ∃ T, T = nextR (bok vs nv most) ⟨s1, s2, s3, s4, txt us⟩ v.r := ⟨_, rfl⟩
 rw [← hT, hcs]
 have hT2 : T = (if !right (bok vs nv most) ⟨s1, s2, s3, s4, txt us⟩ || !Rec.may v.r || decide (s1 < 0) || !decide (rv = s2) || decide (kd = 1) then none
  else match (vs.map Fs.m)[s1.toNat]? with
   | none => none
   | some p => if kd = 2 then (if rs ≠ s1 ∨ rt ≠ s3 ∨ p.try_ < rt then none else some ⟨s1, s2, s3 + 1, s4, txt us⟩)
    else if s3 = 0 ∨ ((vs.map Fs.m).length : Int) ≤ ro ∨ (nv : Int) ≤ ra then none
    else if (armR p ro ra && decide (s4 ≤ rf)) || (decide (rf = s4) && decide (ra < 0) && (decide (ro = p.els) || decide (ro = -2))) then some (goR (bok vs nv most) ⟨s1, s2, s3, s4, txt us⟩ ro rf ra v.r.value) else none) := by
  rw [hT, hkd, hrv, hrs, hrt, hro, hrf, hra]; rfl
 obtain ⟨w1, hw1⟩ : ∃ w1, w1 = (((w.alloc (.cells #[.slice A n c, .slice A1 nv c1, .int .i64 most] 25)).alloc (.cells #[.int .i64 s1, .int .i64 s2, .int .i64 s3, .int .i64 s4, .slice AL m cL] 31)).alloc (.cells #[.int .i64 kd, .int .i64 v.r.s.step, .int .i64 v.r.s.visit, .int .i64 v.r.s.tries, .int .i64 v.r.s.off, .slice v.AL v.vs.length v.cL, .int .i64 rv, .int .i64 rs, .int .i64 rt, .int .i64 ro, .int .i64 rf, .int .i64 ra, .slice v.AV v.r.value.length v.cV] 58)).alloc (.cells #[.int .i64 0, .int .i64 0, .int .i64 0, .int .i64 0, .slice none 0 0] 31) := ⟨_, rfl⟩
 have hN1 : Nw w w1 [.slice A n c, .slice A1 nv c1, .int .i64 most] [.int .i64 s1, .int .i64 s2, .int .i64 s3, .int .i64 s4, .slice AL m cL] [.int .i64 kd, .int .i64 v.r.s.step, .int .i64 v.r.s.visit, .int .i64 v.r.s.tries, .int .i64 v.r.s.off, .slice v.AL v.vs.length v.cL, .int .i64 rv, .int .i64 rs, .int .i64 rt, .int .i64 ro, .int .i64 rf, .int .i64 ra, .slice v.AV v.r.value.length v.cV] := by
  refine ⟨?_, ?_, ?_, ?_, ?_⟩
  ·rw [hw1]; exact (((Cel.new w _ _).alloc _).alloc _).alloc _
  ·have := Cel.new (w.alloc (.cells #[.slice A n c, .slice A1 nv c1, .int .i64 most] 25)) 31 [.int .i64 s1, .int .i64 s2, .int .i64 s3, .int .i64 s4, .slice AL m cL]
   rw [World.size_alloc] at this
   rw [hw1]; exact (this.alloc _).alloc _
  ·have := Cel.new ((w.alloc (.cells #[.slice A n c, .slice A1 nv c1, .int .i64 most] 25)).alloc (.cells #[.int .i64 s1, .int .i64 s2, .int .i64 s3, .int .i64 s4, .slice AL m cL] 31)) 58 [.int .i64 kd, .int .i64 v.r.s.step, .int .i64 v.r.s.visit, .int .i64 v.r.s.tries, .int .i64 v.r.s.off, .slice v.AL v.vs.length v.cL, .int .i64 rv, .int .i64 rs, .int .i64 rt, .int .i64 ro, .int .i64 rf, .int .i64 ra, .slice v.AV v.r.value.length v.cV]
   simp only [World.size_alloc] at this
   rw [hw1]; exact this.alloc _
  ·have := Cel.new (((w.alloc (.cells #[.slice A n c, .slice A1 nv c1, .int .i64 most] 25)).alloc (.cells #[.int .i64 s1, .int .i64 s2, .int .i64 s3, .int .i64 s4, .slice AL m cL] 31)).alloc (.cells #[.int .i64 kd, .int .i64 v.r.s.step, .int .i64 v.r.s.visit, .int .i64 v.r.s.tries, .int .i64 v.r.s.off, .slice v.AL v.vs.length v.cL, .int .i64 rv, .int .i64 rs, .int .i64 rt, .int .i64 ro, .int .i64 rf, .int .i64 ra, .slice v.AV v.r.value.length v.cV] 58)) 31 zst
   simp only [World.size_alloc] at this
   rw [hw1]; exact this
  ·rw [hw1]; exact ((((Below.refl _ _).alloc (Nat.le_refl _) _).alloc (by simp) _).alloc (by simp; omega) _).alloc (by simp; omega) _
 have con := right_ w1 K (Nat.le_trans hK hN1.low.size) A n c vs (hb.below hN1.low) hl hn ht A1 nv c1 most hm s1 s2 s3 s4 AL m cL us (hu.below hK hN1.low) hul hum
 have HN1 := Lib.hid hN1
 have HBK := Lib.hid hb
 have HL := Lib.hid hl
 have HTR := Lib.hid ht
 have HAR := Lib.hid har
 have HU := Lib.hid hu
 have HUT := Lib.hid hut
 have HUL := Lib.hid hul
 have HR := Lib.hid hr
 have HT := Lib.hid hT2
 have HCS := Lib.hid hcs
 clear hN1 hb hl ht har hu hut hul hr hT hT2 hcs hkd hrv hrs hrt hro hrf hra
 go_enter Try.func20, Try.ntmps20
 go_wp2_with fail
 rw [← hw1]
 clear hw1
 refine con.mono ?_
 clear con
 rintro e w2 ⟨rfl, hb2⟩
 obtain ⟨R, hR⟩ : ∃ R, R = right (bok vs nv most) ⟨s1, s2, s3, s4, txt us⟩ := ⟨_, rfl⟩
 rw [← hR]
 have HN2 := Lib.hid (HN1.out.below hb2)
 have con := Rec.may_ w2 K v (HR.out.below hK HN2.out.low) (Nat.le_trans hK HN2.out.low.size)
 rw [HCS.out] at con
 have HRR := Lib.hid hR
 have j0 := HN2.out.r.cell 0
 have j1 := HN2.out.r.cell 1
 have j2 := HN2.out.r.cell 2
 have j3 := HN2.out.r.cell 3
 have j4 := HN2.out.r.cell 4
 have j5 := HN2.out.r.cell 5
 have j6 := HN2.out.r.cell 6
 have j7 := HN2.out.r.cell 7
 have j8 := HN2.out.r.cell 8
 have j9 := HN2.out.r.cell 9
 have j10 := HN2.out.r.cell 10
 have j11 := HN2.out.r.cell 11
 have j12 := HN2.out.r.cell 12
 clear hb2 hR
 go_wp2_with fail
 refine con.mono ?_
 clear con j0 j1 j2 j3 j4 j5 j6 j7 j8 j9 j10 j11 j12
 rintro e w3 ⟨rfl, hb3⟩
 obtain ⟨M, hM⟩ : ∃ M, M = Rec.may v.r := ⟨_, rfl⟩
 rw [← hM]
 have HN3 := Lib.hid (HN2.out.below hb3)
 have HT3 := Lib.hid (show T = (if !R || !M || decide (s1 < 0) || !decide (rv = s2) || decide (kd = 1) then none
  else match (vs.map Fs.m)[s1.toNat]? with
   | none => none
   | some p => if kd = 2 then (if rs ≠ s1 ∨ rt ≠ s3 ∨ p.try_ < rt then none else some ⟨s1, s2, s3 + 1, s4, txt us⟩)
    else if s3 = 0 ∨ ((vs.map Fs.m).length : Int) ≤ ro ∨ (nv : Int) ≤ ra then none
    else if (armR p ro ra && decide (s4 ≤ rf)) || (decide (rf = s4) && decide (ra < 0) && (decide (ro = p.els) || decide (ro = -2))) then some (goR (bok vs nv most) ⟨s1, s2, s3, s4, txt us⟩ ro rf ra v.r.value) else none) by rw [HT.out, HRR.out, hM])
 clear HT hb3 hM
 have q0 := HN3.out.s.cell 0
 have q1 := HN3.out.s.cell 1
 have j0 := HN3.out.r.cell 0
 have j6 := HN3.out.r.cell 6
 have y0 := HN3.out.z.cell 0
 have y1 := HN3.out.z.cell 1
 have y2 := HN3.out.z.cell 2
 have y3 := HN3.out.z.cell 3
 have y4 := HN3.out.z.cell 4
 have l0 := HN3.out.z.free 0
 have l1 := HN3.out.z.free 1
 have l2 := HN3.out.z.free 2
 have l3 := HN3.out.z.free 3
 have l4 := HN3.out.z.free 4
 cases hRc : R with
 | false =>
  rw [hRc] at HT3
  have HE := Lib.hid (show T = none by rw [HT3.out]; rfl)
  go_wp2_with fail
  refine bodyPost_ret (v := .tuple #[stval 0 0 0 0 none 0 0, .bool false]) (Rec.results_recget 6 31 7 Try.results20 ⟨w.heap.size + 1 + 1 + 1, 0, none⟩ rfl _ _ rfl (load_st (fw5_cel (a := .int .i64 0) (b := .int .i64 0) (c := .int .i64 0) (d := .int .i64 0) (e := .slice none 0 0) HN3.out.z))) rfl ?_
  exact nx_no HE.out HN3.out.low (by omega) _ _ _ _ _
 | true =>
  cases hMc : M with
  | false =>
   rw [hRc, hMc] at HT3
   have HE := Lib.hid (show T = none by rw [HT3.out]; rfl)
   go_wp2_with fail
   refine bodyPost_ret (v := .tuple #[stval 0 0 0 0 none 0 0, .bool false]) (Rec.results_recget 6 31 7 Try.results20 ⟨w.heap.size + 1 + 1 + 1, 0, none⟩ rfl _ _ rfl (load_st (fw5_cel (a := .int .i64 0) (b := .int .i64 0) (c := .int .i64 0) (d := .int .i64 0) (e := .slice none 0 0) HN3.out.z))) rfl ?_
   exact nx_no HE.out HN3.out.low (by omega) _ _ _ _ _
  | true =>
   rw [hRc, hMc] at HT3
   rw [hRc] at HRR
   by_cases h1 : s1 < 0
   ·have HE := Lib.hid (show T = none by rw [HT3.out]; simp [h1])
    have z1 : decide (s1 < 0) = true := by simpa using h1
    go_wp2_with fail
    refine bodyPost_ret (v := .tuple #[stval 0 0 0 0 none 0 0, .bool false]) (Rec.results_recget 6 31 7 Try.results20 ⟨w.heap.size + 1 + 1 + 1, 0, none⟩ rfl _ _ rfl (load_st (fw5_cel (a := .int .i64 0) (b := .int .i64 0) (c := .int .i64 0) (d := .int .i64 0) (e := .slice none 0 0) HN3.out.z))) rfl ?_
    exact nx_no HE.out HN3.out.low (by omega) _ _ _ _ _
   by_cases h2 : rv = s2
   case neg =>
    have HE := Lib.hid (show T = none by rw [HT3.out]; simp [h2])
    have z2 : (rv != s2) = true := by simpa using h2
    go_wp2_with fail
    refine bodyPost_ret (v := .tuple #[stval 0 0 0 0 none 0 0, .bool false]) (Rec.results_recget 6 31 7 Try.results20 ⟨w.heap.size + 1 + 1 + 1, 0, none⟩ rfl _ _ rfl (load_st (fw5_cel (a := .int .i64 0) (b := .int .i64 0) (c := .int .i64 0) (d := .int .i64 0) (e := .slice none 0 0) HN3.out.z))) rfl ?_
    exact nx_no HE.out HN3.out.low (by omega) _ _ _ _ _
   have z2 : (rv != s2) = false := by simpa using h2
   by_cases h3 : kd = 1
   ·have HE := Lib.hid (show T = none by rw [HT3.out]; simp [h3])
    have z3 : (kd == 1) = true := by simpa using h3
    go_wp2_with fail
    refine bodyPost_ret (v := .tuple #[stval 0 0 0 0 none 0 0, .bool false]) (Rec.results_recget 6 31 7 Try.results20 ⟨w.heap.size + 1 + 1 + 1, 0, none⟩ rfl _ _ rfl (load_st (fw5_cel (a := .int .i64 0) (b := .int .i64 0) (c := .int .i64 0) (d := .int .i64 0) (e := .slice none 0 0) HN3.out.z))) rfl ?_
    exact nx_no HE.out HN3.out.low (by omega) _ _ _ _ _
   have z3 : (kd == 1) = false := by simpa using h3
   obtain ⟨j, rfl⟩ := Int.eq_ofNat_of_zero_le (show 0 ≤ s1 by omega)
   have hrn := right_nums HRR.out.symm
   obtain ⟨hvm, p, hp, htp⟩ := (right_more HRR.out.symm).2 (by show (0 : Int) ≤ (j : Int); omega)
   have hjn : j < n := by
    have := hrn.2.1
    change ((j : Nat) : Int) < (((vs.map Fs.m).length : Nat) : Int) at this
    rw [List.length_map, HL.out] at this
    omega
   obtain ⟨st, hst⟩ : ∃ st, vs[j]? = some st := ⟨_, List.getElem?_eq_getElem (by rw [HL.out]; exact hjn)⟩
   have hpm : p = st.m := by
    change (vs.map Fs.m)[(j : Int).toNat]? = some p at hp
    rw [Int.toNat_natCast, List.getElem?_map, hst] at hp
    exact (Option.some.inj hp).symm
   have htb := HTR.out st (List.mem_of_getElem? hst)
   change s2 ≤ most at hvm
   have hs3 : 0 ≤ s3 := hrn.2.2.2.1
   have hs2 : 1 ≤ s2 := hrn.2.2.1
   have hmn : nv = m := by symm; have := hrn.2.2.2.2.2.2.1; change (us.map (·.t)).length = nv at this; rw [List.length_map, HUL.out] at this; exact this
   subst hmn
   rw [hpm] at htp
   change s3 ≤ st.try_ + 1 at htp
   have HT4 := Lib.hid (show T = (if kd = 2 then (if rs ≠ (j : Int) ∨ rt ≠ s3 ∨ st.try_ < rt then none else some ⟨(j : Int), s2, s3 + 1, s4, txt us⟩)
    else if s3 = 0 ∨ (n : Int) ≤ ro ∨ (nv : Int) ≤ ra then none
    else if (armR st.m ro ra && decide (s4 ≤ rf)) || (decide (rf = s4) && decide (ra < 0) && (decide (ro = st.els) || decide (ro = -2))) then some (goR (bok vs nv most) ⟨(j : Int), s2, s3, s4, txt us⟩ ro rf ra v.r.value) else none) by
     rw [HT3.out, if_neg (by simp [h2, h3]), Int.toNat_natCast, List.getElem?_map, hst, List.length_map, HL.out]; rfl)
   have HFR := Lib.hid (HBK.out.ar st (List.mem_of_getElem? hst))
   have HSM := Lib.hid (HAR.out st (List.mem_of_getElem? hst))
   obtain ⟨ad, rfl, a0, a1, a2, a3, a4, a5, a6⟩ := (HBK.out.below HN3.out.low).at_ hst
   have z0 : decide ((j : Int) < 0) = false := by simp
   obtain ⟨W4, hW4⟩ : ∃ W4, W4 = w3.alloc (.cells #[.string st.nm, .int .i64 st.tag, .slice st.A2 st.n2 st.c2, .slice st.A3 st.arms.length st.c3, .int .i64 st.time, .int .i64 st.try_, .int .i64 st.els] 47) := ⟨_, rfl⟩
   have hb4 : Below w3.heap.size w3 W4 := by rw [hW4]; exact (Below.refl _ _).alloc (Nat.le_refl _) _
   have hc4 : Cel W4 w3.heap.size 47 [.string st.nm, .int .i64 st.tag, .slice st.A2 st.n2 st.c2, .slice st.A3 st.arms.length st.c3, .int .i64 st.time, .int .i64 st.try_, .int .i64 st.els] := by rw [hW4]; exact Cel.new w3 _ _
   have HN4 := Lib.hid (HN3.out.below hb4)
   have HC4 := Lib.hid hc4
   have b0 := HN3.out.b.cell 0
   have b1 := HN3.out.b.cell 1
   have q2 := HN3.out.s.cell 2
   have q3 := HN3.out.s.cell 3
   have q4 := HN3.out.s.cell 4
   have j5 := HN3.out.r.cell 5
   have j7 := HN3.out.r.cell 7
   have j8 := HN3.out.r.cell 8
   have j9 := HN3.out.r.cell 9
   have j10 := HN3.out.r.cell 10
   have j11 := HN3.out.r.cell 11
   have hs3s := hb4.size
   clear HT3 hRc hMc hp hpm hst hb4 hc4 hrn
   have hzl := HN3.out.z.lt
   have hsl := HN3.out.s.lt
   have hrl := HN3.out.r.lt
   have hbl := HN3.out.b.lt
   by_cases h4 : kd = 2
   ·have z4 : (kd == 2) = true := by simpa using h4
    have HT5 := Lib.hid (show T = (if rs ≠ (j : Int) ∨ rt ≠ s3 ∨ st.try_ < rt then none else some ⟨(j : Int), s2, s3 + 1, s4, txt us⟩) by rw [HT4.out, if_pos h4])
    by_cases h5 : rs = (j : Int)
    case neg =>
     have HE := Lib.hid (show T = none by rw [HT5.out]; simp [h5])
     have z5 : (rs != (j : Int)) = true := by simpa using h5
     go_wp2_with fail
     refine bodyPost_ret (v := .tuple #[stval 0 0 0 0 none 0 0, .bool false]) (Rec.results_recget 6 31 7 Try.results20 ⟨w.heap.size + 1 + 1 + 1, 0, none⟩ rfl _ _ rfl (load_st ((fw5_cel (a := .int .i64 0) (b := .int .i64 0) (c := .int .i64 0) (d := .int .i64 0) (e := .slice none 0 0) HN3.out.z).alloc _))) rfl ?_
     exact nx_noA HE.out HN3.out.low (by omega) _ _ _ _ _ _
    have z5 : (rs != (j : Int)) = false := by simpa using h5
    by_cases h6 : rt = s3
    case neg =>
     have HE := Lib.hid (show T = none by rw [HT5.out]; simp [h6])
     have z6 : (rt != s3) = true := by simpa using h6
     clear h5
     go_wp2_with fail
     refine bodyPost_ret (v := .tuple #[stval 0 0 0 0 none 0 0, .bool false]) (Rec.results_recget 6 31 7 Try.results20 ⟨w.heap.size + 1 + 1 + 1, 0, none⟩ rfl _ _ rfl (load_st ((fw5_cel (a := .int .i64 0) (b := .int .i64 0) (c := .int .i64 0) (d := .int .i64 0) (e := .slice none 0 0) HN3.out.z).alloc _))) rfl ?_
     exact nx_noA HE.out HN3.out.low (by omega) _ _ _ _ _ _
    have z6 : (rt != s3) = false := by simpa using h6
    by_cases h7 : st.try_ < rt
    ·have HE := Lib.hid (show T = none by rw [HT5.out]; simp [h7])
     have z7 : decide (st.try_ < rt) = true := by simpa using h7
     clear h5 h6
     go_wp2_with fail
     refine bodyPost_ret (v := .tuple #[stval 0 0 0 0 none 0 0, .bool false]) (Rec.results_recget 6 31 7 Try.results20 ⟨w.heap.size + 1 + 1 + 1, 0, none⟩ rfl _ _ rfl (load_st ((fw5_cel (a := .int .i64 0) (b := .int .i64 0) (c := .int .i64 0) (d := .int .i64 0) (e := .slice none 0 0) HN3.out.z).alloc _))) rfl ?_
     exact nx_noA HE.out HN3.out.low (by omega) _ _ _ _ _ _
    ·have HE := Lib.hid (show T = some ⟨(j : Int), s2, s3 + 1, s4, txt us⟩ by rw [HT5.out, if_neg (by simp [h5, h6] at h7 ⊢; omega)])
     have z7 : decide (st.try_ < rt) = false := by simpa using h7
     have f2 := HN3.out.s.free 2
     clear h5 h6 h7
     have hX := Lib.hid (show Below w.heap.size w ((fw5 (w3.setCell ⟨w.heap.size + 1, 2, none⟩ (.int .i64 (s3 + 1))) (w.heap.size + 1 + 1 + 1) (.int .i64 (j : Int)) (.int .i64 s2) (.int .i64 (s3 + 1)) (.int .i64 s4) (.slice AL nv cL)).alloc (.cells #[.string st.nm, .int .i64 st.tag, .slice st.A2 st.n2 st.c2, .slice st.A3 st.arms.length st.c3, .int .i64 st.time, .int .i64 st.try_, .int .i64 st.els] 47)) from by
      have h1 := HN3.out.low.setCell (p := ⟨w.heap.size + 1, 2, none⟩) (by simp) (.int .i64 (s3 + 1))
      have h2 := h1.trans ((fw5_frm (w3.setCell ⟨w.heap.size + 1, 2, none⟩ (.int .i64 (s3 + 1))) (w.heap.size + 1 + 1 + 1) (.int .i64 (j : Int)) (.int .i64 s2) (.int .i64 (s3 + 1)) (.int .i64 s4) (.slice AL nv cL)).below h1.size (by intro q hq; simp at hq; omega))
      exact h2.alloc h2.size _)
     have HC := Lib.hid ((fw5_cel (a := .int .i64 (j : Int)) (b := .int .i64 s2) (c := .int .i64 (s3 + 1)) (d := .int .i64 s4) (e := .slice AL nv cL) (HN3.out.z.far (p := ⟨w.heap.size + 1, 2, none⟩) (by simp <;> omega) (.int .i64 (s3 + 1)))).alloc (.cells #[.string st.nm, .int .i64 st.tag, .slice st.A2 st.n2 st.c2, .slice st.A3 st.arms.length st.c3, .int .i64 st.time, .int .i64 st.try_, .int .i64 st.els] 47))
     unfold fw5 at HC hX
     go_wp2_with fail
     refine bodyPost_ret (v := .tuple #[stval (j : Int) s2 (s3 + 1) s4 AL nv cL, .bool true]) (Rec.results_recget 6 31 7 Try.results20 ⟨w.heap.size + 1 + 1 + 1, 0, none⟩ rfl _ _ rfl (load_st HC.out)) rfl ?_
     exact nx_yes HE.out hX.out ⟨AL, cL, us, by rw [HUL.out], HU.out.below hK hX.out, HUT.out.below hX.out, rfl⟩
   ·have z4 : (kd == 2) = false := by simpa using h4
    have HT5 := Lib.hid (show T = (if s3 = 0 ∨ (n : Int) ≤ ro ∨ (nv : Int) ≤ ra then none
     else if (armR st.m ro ra && decide (s4 ≤ rf)) || (decide (rf = s4) && decide (ra < 0) && (decide (ro = st.els) || decide (ro = -2))) then some (goR (bok vs nv most) ⟨(j : Int), s2, s3, s4, txt us⟩ ro rf ra v.r.value) else none) by rw [HT4.out, if_neg h4])
    by_cases h5 : s3 = 0
    ·have HE := Lib.hid (show T = none by rw [HT5.out]; simp [h5])
     have z5 : (s3 == 0) = true := by simpa using h5
     clear h4
     go_wp2_with fail
     refine bodyPost_ret (v := .tuple #[stval 0 0 0 0 none 0 0, .bool false]) (Rec.results_recget 6 31 7 Try.results20 ⟨w.heap.size + 1 + 1 + 1, 0, none⟩ rfl _ _ rfl (load_st ((fw5_cel (a := .int .i64 0) (b := .int .i64 0) (c := .int .i64 0) (d := .int .i64 0) (e := .slice none 0 0) HN3.out.z).alloc _))) rfl ?_
     exact nx_noA HE.out HN3.out.low (by omega) _ _ _ _ _ _
    have z5 : (s3 == 0) = false := by simpa using h5
    by_cases h6 : (n : Int) ≤ ro
    ·have HE := Lib.hid (show T = none by rw [HT5.out]; simp [h6])
     have z6 : decide ((n : Int) ≤ ro) = true := by simpa using h6
     clear h4 h5
     go_wp2_with fail
     refine bodyPost_ret (v := .tuple #[stval 0 0 0 0 none 0 0, .bool false]) (Rec.results_recget 6 31 7 Try.results20 ⟨w.heap.size + 1 + 1 + 1, 0, none⟩ rfl _ _ rfl (load_st ((fw5_cel (a := .int .i64 0) (b := .int .i64 0) (c := .int .i64 0) (d := .int .i64 0) (e := .slice none 0 0) HN3.out.z).alloc _))) rfl ?_
     exact nx_noA HE.out HN3.out.low (by omega) _ _ _ _ _ _
    have z6 : decide ((n : Int) ≤ ro) = false := by simpa using h6
    by_cases h7 : (nv : Int) ≤ ra
    ·have HE := Lib.hid (show T = none by rw [HT5.out]; simp [h7])
     have z7 : decide ((nv : Int) ≤ ra) = true := by simpa using h7
     clear h4 h5 h6
     go_wp2_with fail
     refine bodyPost_ret (v := .tuple #[stval 0 0 0 0 none 0 0, .bool false]) (Rec.results_recget 6 31 7 Try.results20 ⟨w.heap.size + 1 + 1 + 1, 0, none⟩ rfl _ _ rfl (load_st ((fw5_cel (a := .int .i64 0) (b := .int .i64 0) (c := .int .i64 0) (d := .int .i64 0) (e := .slice none 0 0) HN3.out.z).alloc _))) rfl ?_
     exact nx_noA HE.out HN3.out.low (by omega) _ _ _ _ _ _
    have z7 : decide ((nv : Int) ≤ ra) = false := by simpa using h7
    have HT6 := Lib.hid (show T = (if (armR st.m ro ra && decide (s4 ≤ rf)) || (decide (rf = s4) && decide (ra < 0) && (decide (ro = st.els) || decide (ro = -2))) then some (goR (bok vs nv most) ⟨(j : Int), s2, s3, s4, txt us⟩ ro rf ra v.r.value) else none) by rw [HT5.out, if_neg (by simp [h5]; omega)])
    clear h4 h5 h6 h7 HT4 HT5
    obtain ⟨ME, hME⟩ : ∃ ME, ME = (armR st.m ro ra && decide (s4 ≤ rf)) := ⟨_, rfl⟩
    obtain ⟨LA, hLA⟩ : ∃ LA, LA = (decide (rf = s4) && decide (ra < 0) && (decide (ro = st.els) || decide (ro = -2))) := ⟨_, rfl⟩
    have HT7 := Lib.hid (show T = (if ME || LA then some (goR (bok vs nv most) ⟨(j : Int), s2, s3, s4, txt us⟩ ro rf ra v.r.value) else none) by rw [HT6.out, hME, hLA])
    have HME := Lib.hid hME
    have HLA := Lib.hid hLA
    have con := arm16 W4 st (HFR.out.below HN4.out.low) HSM.out ro ra
    clear hME hLA HT6
    go_upto_region 13 with fail
    go_cut [11] from 96 to 108 (fun s11 wx => s11 = .bool ME ∧ Below W4.heap.size W4 wx)
    case first =>
     go_wp2_with fail
     rw [← hW4]
     refine con.mono ?_
     clear con
     rintro e w5 ⟨rfl, hb5⟩
     have hn5 := HN4.out.below hb5
     have p10 := hn5.r.cell 10
     have p3 := hn5.s.cell 3
     have HB5 := Lib.hid hb5
     have hME := HME.out
     clear hb5 hn5 hW4
     generalize armR st.m ro ra = AR at *
     cases AR
     ·rw [Bool.false_and] at hME
      subst hME
      go_wp2_with fail
      go_meet
      case rel => exact ⟨rfl, HB5.out⟩
     ·by_cases hle : s4 ≤ rf
      ·have zl : decide (s4 ≤ rf) = true := by simpa using hle
       rw [zl] at hME
       subst hME
       go_wp2_with fail
       go_meet
       case rel => exact ⟨rfl, HB5.out⟩
      ·have zl : decide (s4 ≤ rf) = false := by simpa using hle
       rw [zl] at hME
       subst hME
       clear hle
       go_wp2_with fail
       go_meet
       case rel => exact ⟨rfl, HB5.out⟩
    case rest =>
     clear con
     obtain ⟨rfl, hb5⟩ := hcut
     obtain ⟨W5, rfl⟩ : ∃ W5, W5 = wc := ⟨_, rfl⟩
     have HN5 := Lib.hid (HN4.out.below hb5)
     have hc5 := HC4.out.below hb5 HC4.out.lt
     have p9 := HN5.out.r.cell 9
     have p10 := HN5.out.r.cell 10
     have p11 := HN5.out.r.cell 11
     have p12 := HN5.out.r.cell 12
     have o0 := HN5.out.s.cell 0
     have o1 := HN5.out.s.cell 1
     have o2 := HN5.out.s.cell 2
     have o3 := HN5.out.s.cell 3
     have o4 := HN5.out.s.cell 4
     have e6 := hc5.cell 6
     have c0 := HN5.out.b.cell 0
     have c1' := HN5.out.b.cell 1
     have c2 := HN5.out.b.cell 2
     have hs5 := hb5.size
     clear hb5 hc5 b0 b1 q0 q1 q2 q3 q4 j0 j5 j6 j7 j8 j9 j10 j11 a0 a1 a2 a3 a4 a5 a6 y0 y1 y2 y3 y4 l0 l1 l2 l3 l4 hW4
     generalize st.els = el at *
     go_upto_region 14 with fail
     go_cut [12] from 109 to 130 (fun s12 wx => s12 = .bool LA ∧ wx = W5)
     case first =>
      by_cases k1 : rf = s4
      ·have x1 : (rf == s4) = true := by simpa using k1
       by_cases k2 : ra < 0
       ·have x2 : decide (ra < 0) = true := by simpa using k2
        by_cases k3 : ro = el
        ·have x3 : (ro == el) = true := by simpa using k3
         have HL : LA = true := by rw [HLA.out]; simp [k1, k2, k3]
         clear k1 k2 k3
         subst HL
         go_wp2_with fail
         go_meet
         case rel => exact ⟨rfl, rfl⟩
        ·have x3 : (ro == el) = false := by simpa using k3
         by_cases k4 : ro = -2
         ·have x4 : (ro == -2) = true := by simpa using k4
          have HL : LA = true := by rw [HLA.out]; simp [k1, k2, k4]
          clear k1 k2 k3 k4
          subst HL
          go_wp2_with fail
          go_meet
          case rel => exact ⟨rfl, rfl⟩
         ·have x4 : (ro == -2) = false := by simpa using k4
          have HL : LA = false := by rw [HLA.out]; simp [k1, k2, k3, k4]
          clear k1 k2 k3 k4
          subst HL
          go_wp2_with fail
          go_meet
          case rel => exact ⟨rfl, rfl⟩
       ·have x2 : decide (ra < 0) = false := by simpa using k2
        have HL : LA = false := by rw [HLA.out]; simp [k1, k2]
        clear k1 k2
        subst HL
        go_wp2_with fail
        go_meet
        case rel => exact ⟨rfl, rfl⟩
      ·have x1 : (rf == s4) = false := by simpa using k1
       have HL : LA = false := by rw [HLA.out]; simp [k1]
       clear k1
       subst HL
       go_wp2_with fail
       go_meet
       case rel => exact ⟨rfl, rfl⟩
     case rest =>
      obtain ⟨rfl, rfl⟩ := hcut
      have HRV := Lib.hid (HR.out.below hK HN5.out.low)
      have con := go16 wc K (Nat.le_trans hK HN5.out.low.size) (some ad) n c vs A1 nv c1 most (j : Int) s2 s3 s4 ⟨by omega, by omega⟩ AL nv cL us (HU.out.below hK HN5.out.low) HUL.out (by omega) ro rf ra ⟨v.AV, v.cV, v.r.value⟩ ⟨HRV.out.val, HRV.out.ml⟩
      change Calls _ _ #[bval (some ad) n c A1 nv c1 most, stval (j : Int) s2 s3 s4 AL nv cL, .int .i64 ro, .int .i64 rf, .int .i64 ra, .slice v.AV v.r.value.length v.cV] _ _ at con
      obtain ⟨G, hG⟩ : ∃ G, G = goR (bok vs nv most) ⟨(j : Int), s2, s3, s4, txt us⟩ ro rf ra v.r.value := ⟨_, rfl⟩
      rw [← hG] at HT7
      rw [show goR (bok vs nv most) ⟨(j : Int), s2, s3, s4, txt us⟩ ro rf ra (⟨v.AV, v.cV, v.r.value⟩ : Vt).t = G from hG.symm] at con
      clear hG
      obtain ⟨g1, g2, g3, g4, gv⟩ := G
      cases ME
      ·cases LA
       ·have HE := Lib.hid (show T = none by rw [HT7.out]; rfl)
        clear con
        have y0 := HN5.out.z.cell 0
        have y1 := HN5.out.z.cell 1
        have y2 := HN5.out.z.cell 2
        have y3 := HN5.out.z.cell 3
        have y4 := HN5.out.z.cell 4
        have l0 := HN5.out.z.free 0
        have l1 := HN5.out.z.free 1
        have l2 := HN5.out.z.free 2
        have l3 := HN5.out.z.free 3
        have l4 := HN5.out.z.free 4
        go_wp2_with fail
        refine bodyPost_ret (v := .tuple #[stval 0 0 0 0 none 0 0, .bool false]) (Rec.results_recget 6 31 7 Try.results20 ⟨w.heap.size + 1 + 1 + 1, 0, none⟩ rfl _ _ rfl (load_st (fw5_cel (a := .int .i64 0) (b := .int .i64 0) (c := .int .i64 0) (d := .int .i64 0) (e := .slice none 0 0) HN5.out.z))) rfl ?_
        exact nx_no HE.out HN5.out.low (by omega) _ _ _ _ _
       ·have HE := Lib.hid (show T = some ⟨g1, g2, g3, g4, gv⟩ by rw [HT7.out]; rfl)
        go_wp2_with fail
        refine con.mono ?_
        clear con
        rintro e w6 ⟨hb6, _, rfl, A6, c6, us6, rfl, htv, htr, htx⟩
        have HN6 := Lib.hid (HN5.out.below hb6)
        have y0 := HN6.out.z.cell 0
        have y1 := HN6.out.z.cell 1
        have y2 := HN6.out.z.cell 2
        have y3 := HN6.out.z.cell 3
        have y4 := HN6.out.z.cell 4
        have l0 := HN6.out.z.free 0
        have l1 := HN6.out.z.free 1
        have l2 := HN6.out.z.free 2
        have l3 := HN6.out.z.free 3
        have l4 := HN6.out.z.free 4
        have HC := Lib.hid (fw5_cel (a := .int .i64 g1) (b := .int .i64 g2) (c := .int .i64 g3) (d := .int .i64 g4) (e := .slice A6 us6.length c6) HN6.out.z)
        have hf := fw5_frm w6 (w.heap.size + 1 + 1 + 1) (.int .i64 g1) (.int .i64 g2) (.int .i64 g3) (.int .i64 g4) (.slice A6 us6.length c6)
        have hX := Lib.hid (HN6.out.low.trans (hf.below HN6.out.low.size (by intro q hq; simp at hq; omega)))
        have hTV := Lib.hid (Tvs.frm htv htr hf (fun k hk => by rw [List.mem_singleton.1 hk]; exact ⟨by omega, fun cs fz => HN6.out.z.not_ty (by decide) cs fz, fun cs fz => HN6.out.z.not_ty (by decide) cs fz⟩))
        have HTX := Lib.hid htx
        unfold fw5 at HC hX hTV
        clear hb6 htv htr htx hf
        dsimp only
        go_wp2_with fail
        refine bodyPost_ret (v := .tuple #[stval g1 g2 g3 g4 A6 us6.length c6, .bool true]) (Rec.results_recget 6 31 7 Try.results20 ⟨w.heap.size + 1 + 1 + 1, 0, none⟩ rfl _ _ rfl (load_st HC.out)) rfl ?_
        exact nx_yes HE.out hX.out ⟨A6, c6, us6, rfl, hTV.out.1, hTV.out.2, HTX.out⟩
      ·have HE := Lib.hid (show T = some ⟨g1, g2, g3, g4, gv⟩ by rw [HT7.out]; rfl)
       go_wp2_with fail
       refine con.mono ?_
       clear con
       rintro e w6 ⟨hb6, _, rfl, A6, c6, us6, rfl, htv, htr, htx⟩
       have HN6 := Lib.hid (HN5.out.below hb6)
       have y0 := HN6.out.z.cell 0
       have y1 := HN6.out.z.cell 1
       have y2 := HN6.out.z.cell 2
       have y3 := HN6.out.z.cell 3
       have y4 := HN6.out.z.cell 4
       have l0 := HN6.out.z.free 0
       have l1 := HN6.out.z.free 1
       have l2 := HN6.out.z.free 2
       have l3 := HN6.out.z.free 3
       have l4 := HN6.out.z.free 4
       have HC := Lib.hid (fw5_cel (a := .int .i64 g1) (b := .int .i64 g2) (c := .int .i64 g3) (d := .int .i64 g4) (e := .slice A6 us6.length c6) HN6.out.z)
       have hf := fw5_frm w6 (w.heap.size + 1 + 1 + 1) (.int .i64 g1) (.int .i64 g2) (.int .i64 g3) (.int .i64 g4) (.slice A6 us6.length c6)
       have hX := Lib.hid (HN6.out.low.trans (hf.below HN6.out.low.size (by intro q hq; simp at hq; omega)))
       have hTV := Lib.hid (Tvs.frm htv htr hf (fun k hk => by rw [List.mem_singleton.1 hk]; exact ⟨by omega, fun cs fz => HN6.out.z.not_ty (by decide) cs fz, fun cs fz => HN6.out.z.not_ty (by decide) cs fz⟩))
       have HTX := Lib.hid htx
       unfold fw5 at HC hX hTV
       clear hb6 htv htr htx hf
       dsimp only
       go_wp2_with fail
       refine bodyPost_ret (v := .tuple #[stval g1 g2 g3 g4 A6 us6.length c6, .bool true]) (Rec.results_recget 6 31 7 Try.results20 ⟨w.heap.size + 1 + 1 + 1, 0, none⟩ rfl _ _ rfl (load_st HC.out)) rfl ?_
       exact nx_yes HE.out hX.out ⟨A6, c6, us6, rfl, hTV.out.1, hTV.out.2, HTX.out⟩
end Go.Proofs.Ytfmkkklcgiaacaa.Fold
