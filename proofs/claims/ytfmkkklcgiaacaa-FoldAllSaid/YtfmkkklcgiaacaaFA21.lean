/-
Texts: FoldPnx RecWriter RecReader
-/
import Derived.Test.YtfmkkklcgiaacaaFA0
import Derived.Test.YtfmkkklcgiaacaaFA1
import Derived.Test.YtfmkkklcgiaacaaFA2
import Derived.Test.YtfmkkklcgiaacaaFA3
import Derived.Test.YtfmkkklcgiaacaaFA4
import Derived.Test.YtfmkkklcgiaacaaFA5
import Derived.Test.YtfmkkklcgiaacaaFA6
import Derived.Test.YtfmkkklcgiaacaaFA8
import Derived.Test.YtfmkkklcgiaacaaFA10
import Derived.Test.YtfmkkklcgiaacaaFA13
import Derived.Test.YtfmkkklcgiaacaaFA15
import Derived.Test.YtfmkkklcgiaacaaFA16
import Derived.Test.YtfmkkklcgiaacaaFA17
import Derived.Test.YtfmkkklcgiaacaaFA20
set_option linter.unusedVariables false
set_option linter.unusedSimpArgs false
set_option maxRecDepth 100000
set_option maxHeartbeats 4000000
section
namespace Go.Proofs.Ytfmkkklcgiaacaa.Fold
open Go.RowKit Go.Proofs.Ytfmkkklcgiaacaa.Ord
open Lex (Tx)
open Rec (Stt Rc Rv Rok Vt Tvs Trow txt may)
theorem pst_ (w : World) (A : Option Addr) (n c : Nat) (A1 : Option Addr) (nv c1 : Nat) (most : Int) (hv : nv ≤ 1000000) (vs : List Fs) (K : Nat) :
  Calls Try.prog 11 #[bval A n c A1 nv c1 most] w fun e w' => Below w.heap.size w w' ∧ ∃ v, e = .returned v ∧ StSays w' K (startR (bok vs nv most)) v := by
 unfold bval
 obtain ⟨w1, hw1⟩ : ∃ w1, w1 = (w.alloc (.cells #[.slice A n c, .slice A1 nv c1, .int .i64 most] 25)).alloc (.cells #[.int .i64 0, .int .i64 0, .int .i64 0, .int .i64 0, .slice none 0 0] 31) := ⟨_, rfl⟩
 have hmk := run_make_rows w1 nv hv
 rw [hw1] at hmk
 go_enter Try.func11, Try.ntmps11
 go_wp2_with fail
 clear hmk hw1
 obtain ⟨W, hW⟩ : ∃ W, W = ((w.alloc (.cells #[.slice A n c, .slice A1 nv c1, .int .i64 most] 25)).alloc (.cells #[.int .i64 0, .int .i64 1, .int .i64 0, .int .i64 0, .slice (some ⟨w.heap.size + 1 + 1, 0, none⟩) nv nv] 31)).alloc (.cells (Array.replicate nv (Value.slice none 0 0)) 29) := ⟨_, rfl⟩
 rw [← hW]
 have hb : Below w.heap.size w W := by rw [hW]; exact (((Below.refl _ _).alloc (Nat.le_refl _) _).alloc (by simp) _).alloc (by simp; omega) _
 have c2 : Cel W (w.heap.size + 1) 31 [.int .i64 0, .int .i64 1, .int .i64 0, .int .i64 0, .slice (some ⟨w.heap.size + 1 + 1, 0, none⟩) nv nv] := by
  rw [hW]
  exact (by simpa using Cel.new (w.alloc (.cells #[.slice A n c, .slice A1 nv c1, .int .i64 most] 25)) 31 [.int .i64 0, .int .i64 1, .int .i64 0, .int .i64 0, .slice (some ⟨w.heap.size + 1 + 1, 0, none⟩) nv nv] : Cel _ (w.heap.size + 1) _ _).alloc _
 have c3 : Cel W (w.heap.size + 1 + 1) 29 (List.replicate nv (Value.slice none 0 0)) := by
  have := Cel.new ((w.alloc (.cells #[.slice A n c, .slice A1 nv c1, .int .i64 most] 25)).alloc (.cells #[.int .i64 0, .int .i64 1, .int .i64 0, .int .i64 0, .slice (some ⟨w.heap.size + 1 + 1, 0, none⟩) nv nv] 31)) 29 (List.replicate nv (Value.slice none 0 0))
  simp only [World.size_alloc] at this
  rw [hW]
  simpa using this
 refine bodyPost_ret (v := .agg #[.int .i64 0, .int .i64 1, .int .i64 0, .int .i64 0, .slice (some ⟨w.heap.size + 1 + 1, 0, none⟩) nv nv]) (Rec.results_cell_ 2 31 Try.results11 ⟨w.heap.size + 1, 0, none⟩ rfl _ (load_st c2)) rfl ?_
 refine ⟨hb, _, rfl, some ⟨w.heap.size + 1 + 1, 0, none⟩, nv, List.replicate nv ⟨none, 0, []⟩, ?_, ⟨fun i v hi => ⟨_, rfl, ?_⟩, fun v hv => ?_⟩, fun _ => ⟨_, rfl, .inr ⟨_, _, c3⟩⟩, ?_⟩
 ·show stval 0 1 0 0 _ nv nv = stval 0 1 0 0 _ (List.replicate nv _).length nv
  rw [List.length_replicate]
 ·have hlt := (List.getElem?_eq_some_iff.1 hi).1
  rw [List.length_replicate] at hlt
  rw [List.getElem?_replicate, if_pos hlt] at hi
  injection hi with hi
  subst hi
  rw [add_row, c3.cell i, List.getElem?_replicate, if_pos hlt]
  rfl
 ·rw [List.eq_of_mem_replicate hv]
  exact ⟨.inl Bs.nil_, Nat.zero_le _⟩
 ·unfold txt
  rw [List.map_replicate]
  rfl
theorem pstart_ : PStart := fun w A n c A1 nv c1 most vs K hf => pst_ w A n c A1 nv c1 most (by have := hf.vars; omega) vs K
theorem pn_no {w w' : World} {K : Nat} {R : Option Stt} (hR : R = none) (hb : Below w.heap.size w w') : PnSays w K R (.returned (.tuple #[stval 0 0 0 0 none 0 0, .int .i64 7])) w' := ⟨hb, by rw [hR]⟩
theorem pn_yes {w w' : World} {K : Nat} {R : Option Stt} {t : Stt} {v : Value} (hR : R = some t) (hb : Below w.heap.size w w') (hs : StSays w' K t v) : PnSays w K R (.returned (.tuple #[v, .int .i64 0])) w' := ⟨hb, by rw [hR]; exact ⟨v, rfl, hs⟩⟩
theorem run_says {w w' : World} {h K : Nat} {us : List Vt} {t : Stt} {c : Nat} {l : List Nat} (hr : Rrow w h us) (hx : txt us = t.vars) (hf : Frm l w w') (hh : h ∉ l) (hl : ∀ k ∈ l, ∀ cs fz, w.heap[k]? ≠ some (Obj.cells cs 5 fz)) : StSays w' K t (stval t.step t.visit t.tries t.off (some ⟨h, 0, none⟩) us.length c) :=
 ⟨_, _, us, rfl, (hr.frm hf hh hl).tvs K, (hr.frm hf hh hl).trow K, hx⟩
theorem pnext_ : PNext := by
 intro w K hK A n c vs hf A1 nv c1 most hfit s1 s2 s3 s4 h2 h3 AL m cL us hu hut hul hum hu3 v hr hrt hvl hvt hvv
 obtain ⟨Q, hQ⟩ : ∃ Q, Q = nextR (bok vs nv most) ⟨s1, s2, s3, s4, txt us⟩ v.r := ⟨_, rfl⟩
 rw [← hQ]
 have HQ := Lib.hid hQ
 unfold bval stval
 obtain ⟨wa, hwa⟩ : ∃ W, W = w.alloc (.cells #[.slice A n c, .slice A1 nv c1, .int .i64 most] 25) := ⟨_, rfl⟩
 obtain ⟨wb, hwb⟩ : ∃ W, W = wa.alloc (.cells #[.int .i64 s1, .int .i64 s2, .int .i64 s3, .int .i64 s4, .slice AL m cL] 31) := ⟨_, rfl⟩
 obtain ⟨wc, hwc⟩ : ∃ W, W = wb.alloc (.cells v.cells.toArray 42) := ⟨_, rfl⟩
 obtain ⟨wd, hwd⟩ : ∃ W, W = wc.alloc (.cells #[.int .i64 0, .int .i64 0, .int .i64 0, .int .i64 0, .slice none 0 0] 31) := ⟨_, rfl⟩
 have sa : wa.heap.size = w.heap.size + 1 := by rw [hwa]; simp
 have sb : wb.heap.size = w.heap.size + 1 + 1 := by rw [hwb]; simp [sa]
 have sc : wc.heap.size = w.heap.size + 1 + 1 + 1 := by rw [hwc]; simp [sb]
 have sd : wd.heap.size = w.heap.size + 1 + 1 + 1 + 1 := by rw [hwd]; simp [sc]
 have b1 : Below w.heap.size w wa := by rw [hwa]; exact (Below.refl _ _).alloc (Nat.le_refl _) _
 have b2 : Below w.heap.size w wb := by rw [hwb]; exact b1.alloc (by omega) _
 have b3 : Below w.heap.size w wc := by rw [hwc]; exact b2.alloc (by omega) _
 have b4 : Below w.heap.size w wd := by rw [hwd]; exact b3.alloc (by omega) _
 have ca : Cel wd w.heap.size 25 (bcells A n c A1 nv c1 most) := by rw [hwd, hwc, hwb, hwa]; exact (((Cel.new w _ _).alloc _).alloc _).alloc _
 have cb : Cel wd (w.heap.size + 1) 31 (scells s1 s2 s3 s4 AL m cL) := by rw [hwd, hwc, hwb, ← sa]; exact ((Cel.new wa _ _).alloc _).alloc _
 have cc : Cel wd (w.heap.size + 1 + 1) 42 v.cells := by rw [hwd, hwc, ← sb]; exact (Cel.new wb _ _).alloc _
 have cd : Cel wd (w.heap.size + 1 + 1 + 1) 31 (scells 0 0 0 0 none 0 0) := by rw [hwd, ← sc]; exact Cel.new wc _ _
 have HD := Lib.hid (show wd = (((w.alloc (.cells #[.slice A n c, .slice A1 nv c1, .int .i64 most] 25)).alloc (.cells #[.int .i64 s1, .int .i64 s2, .int .i64 s3, .int .i64 s4, .slice AL m cL] 31)).alloc (.cells v.cells.toArray 42)).alloc (.cells #[.int .i64 0, .int .i64 0, .int .i64 0, .int .i64 0, .slice none 0 0] 31) by rw [hwd, hwc, hwb, hwa])
 obtain ⟨W, hW⟩ : ∃ W, W = wd.drew := ⟨_, rfl⟩
 have hbw : Below w.heap.size w W := by rw [hW]; exact b4.drew
 have HBW := Lib.hid hbw
 have HSZ := Lib.hid (show W.heap.size = w.heap.size + 1 + 1 + 1 + 1 by rw [hW]; exact sd)
 have HCA := Lib.hid (show Cel W w.heap.size 25 (bcells A n c A1 nv c1 most) by rw [hW]; exact ca.drew)
 have HCB := Lib.hid (show Cel W (w.heap.size + 1) 31 (scells s1 s2 s3 s4 AL m cL) by rw [hW]; exact cb.drew)
 have HCC := Lib.hid (show Cel W (w.heap.size + 1 + 1) 42 v.cells by rw [hW]; exact cc.drew)
 have HCD := Lib.hid (show Cel W (w.heap.size + 1 + 1 + 1) 31 (scells 0 0 0 0 none 0 0) by rw [hW]; exact cd.drew)
 have HK := Lib.hid (show ∀ V, Below W.heap.size W V → K ≤ V.heap.size ∧ Tvs V K AL us ∧ Fbk V A vs ∧ Rok V K v ∧ Trow V K v.AL v.vs from fun V h => by
  have hV : Below w.heap.size w V := hbw.trans (h.mono hbw.size)
  exact ⟨Nat.le_trans hK hV.size, hu.below hK hV, hf.below hV, hr.below hK hV, hrt.below hV⟩)
 have HKW := Lib.hid hK
 have HFIT := Lib.hid hfit
 have HUL := Lib.hid hul
 have HUM := Lib.hid hum
 have HU3 := Lib.hid hu3
 have H2 := Lib.hid h2
 have H3 := Lib.hid h3
 clear hf hfit h2 h3 hu hut hul hum hu3 hr hrt hvl hvt hvv hQ hK sa sb sc sd b1 b2 b3 b4 ca cb cc cd hwa hwb hwc hwd hbw
 go_enter Try.func13, Try.ntmps13
 go_upto_region 1 with fail
 rw [← HD.out]
 clear HD
 refine wp_region_N [] (fun V => Below W.heap.size W V) (by kernel_rfl) ?_
 rw [← hW]
 have hH : Below W.heap.size W W := Below.refl _ _
 clear hW
 refine tk_ 0 (.agg #[.slice A n c, .slice A1 nv c1, .int .i64 most]) [] rfl hH ?_ ?_
 ·intro V hV; have hc := HCA.out.below hV HCA.out.lt; have k0 : V.cell? ⟨w.heap.size, 0, none⟩ = some (.slice A n c) := hc.cell 0; have k1 : V.cell? ⟨w.heap.size, 1, none⟩ = some (.slice A1 nv c1) := hc.cell 1; have k2 : V.cell? ⟨w.heap.size, 2, none⟩ = some (.int .i64 most) := hc.cell 2; clear hc; go_simp
 try simp only [Act.put, lay_]
 refine tk_ 1 (.agg #[.int .i64 s1, .int .i64 s2, .int .i64 s3, .int .i64 s4, .slice AL m cL]) [] rfl hH ?_ ?_
 ·intro V hV; have hc := HCB.out.below hV HCB.out.lt; have k0 : V.cell? ⟨w.heap.size + 1, 0, none⟩ = some (.int .i64 s1) := hc.cell 0; have k1 : V.cell? ⟨w.heap.size + 1, 1, none⟩ = some (.int .i64 s2) := hc.cell 1; have k2 : V.cell? ⟨w.heap.size + 1, 2, none⟩ = some (.int .i64 s3) := hc.cell 2; have k3 : V.cell? ⟨w.heap.size + 1, 3, none⟩ = some (.int .i64 s4) := hc.cell 3; have k4 : V.cell? ⟨w.heap.size + 1, 4, none⟩ = some (.slice AL m cL) := hc.cell 4; clear hc; go_simp
 try simp only [Act.put, lay_]
 refine wpAnyN_one (i := 2) (by kernel_rfl) rfl (fun Kq hKq => ?_)
 go_simp
 refine (copied_ _ K (HK.out _ hH).1 s1 s2 s3 s4 AL m cL us (HK.out _ hH).2.1 HUL.out (by have := HUM.out; omega) (fun u hu => by have := HU3.out u hu; omega)).mono ?_
 rintro e V1 ⟨h, us', rfl, hh, hrow, hlen, htx, hb⟩
 have HHH := Lib.hid (show W.heap.size ≤ h from Nat.le_trans hH.size hh)
 have HRW := Lib.hid hrow
 have HLEN := Lib.hid hlen
 have HTX := Lib.hid htx
 replace hH := hH.trans (hb.mono hH.size)
 clear hb hh hrow hlen htx
 go_wp2_with fail
 refine hKq.out _ _ (.inr hH) ?_
 clear hKq Kq
 try simp only [Act.put, lay_]
 refine tk_ 3 (.agg #[.slice A n c, .slice A1 nv c1, .int .i64 most, .bool true, .int .i64 s1, .int .i64 s2, .int .i64 s3, .int .i64 s4, .slice (some ⟨h, 0, none⟩) m m]) [] rfl hH ?_ ?_
 ·intro V hV; go_simp
 try simp only [Act.put, lay_]
 refine wpAnyN_one (i := 4) (by kernel_rfl) rfl (fun Kq hKq => ?_)
 have hbz : Below V1.heap.size V1 (V1.alloc (.cells #[.slice A n c, .slice A1 nv c1, .int .i64 most, .bool true, .int .i64 s1, .int .i64 s2, .int .i64 s3, .int .i64 s4, .slice (some ⟨h, 0, none⟩) m m] 54)) := (Below.refl _ _).alloc (Nat.le_refl _) _
 have HCR := Lib.hid (Cel.new V1 54 [.slice A n c, .slice A1 nv c1, .int .i64 most, .bool true, .int .i64 s1, .int .i64 s2, .int .i64 s3, .int .i64 s4, .slice (some ⟨h, 0, none⟩) m m])
 go_simp
 refine hKq.out _ _ (.inr (hH.trans (hbz.mono hH.size))) ?_
 clear hKq Kq
 try simp only [Act.put, lay_]
 have HZV := Lib.hid hH.size
 replace hH := hH.trans (hbz.mono hH.size)
 have HR5 := Lib.hid (HRW.out.below hbz)
 obtain ⟨W5, hW5⟩ : ∃ U, U = V1.alloc (.cells #[.slice A n c, .slice A1 nv c1, .int .i64 most, .bool true, .int .i64 s1, .int .i64 s2, .int .i64 s3, .int .i64 s4, .slice (some ⟨h, 0, none⟩) m m] 54) := ⟨_, rfl⟩
 rw [← hW5] at hH HR5 HCR ⊢
 clear hW5 hbz
 generalize V1.heap.size = g at *
 refine tk_ 5 (.pointer (some ⟨g, 0, none⟩)) [] rfl hH ?_ ?_
 ·intro V hV; go_simp
 try simp only [Act.put, lay_]
 refine wpAnyN_done (by kernel_rfl) ?_ _
 have HH5 := Lib.hid hH
 have HBV := Lib.hid (HBW.out.trans (hH.mono HBW.out.size))
 have HRUN : Hid (RunIs W5 W.heap.size g A n c A1 nv c1 most ⟨s1, s2, s3, s4, txt us⟩) := Lib.hid ⟨h, m, us', HHH.out, by rw [HLEN.out]; exact HCR.out, HR5.out, HTX.out⟩
 have kv := HCC.out.below hH HCC.out.lt
 have r0 : W5.cell? ⟨w.heap.size + 1 + 1, 0, none⟩ = some (.int .i64 v.r.kind) := kv.cell 0
 have r1 : W5.cell? ⟨w.heap.size + 1 + 1, 1, none⟩ = some (.int .i64 v.r.s.step) := kv.cell 1
 have r2 : W5.cell? ⟨w.heap.size + 1 + 1, 2, none⟩ = some (.int .i64 v.r.s.visit) := kv.cell 2
 have r3 : W5.cell? ⟨w.heap.size + 1 + 1, 3, none⟩ = some (.int .i64 v.r.s.tries) := kv.cell 3
 have r4 : W5.cell? ⟨w.heap.size + 1 + 1, 4, none⟩ = some (.int .i64 v.r.s.off) := kv.cell 4
 have r5 : W5.cell? ⟨w.heap.size + 1 + 1, 5, none⟩ = some (.slice v.AL v.vs.length v.cL) := kv.cell 5
 have r6 : W5.cell? ⟨w.heap.size + 1 + 1, 6, none⟩ = some (.int .i64 v.r.visit) := kv.cell 6
 have r7 : W5.cell? ⟨w.heap.size + 1 + 1, 7, none⟩ = some (.int .i64 v.r.step) := kv.cell 7
 have r8 : W5.cell? ⟨w.heap.size + 1 + 1, 8, none⟩ = some (.int .i64 v.r.try_) := kv.cell 8
 have r9 : W5.cell? ⟨w.heap.size + 1 + 1, 9, none⟩ = some (.int .i64 v.r.to) := kv.cell 9
 have r10 : W5.cell? ⟨w.heap.size + 1 + 1, 10, none⟩ = some (.int .i64 v.r.off) := kv.cell 10
 have r11 : W5.cell? ⟨w.heap.size + 1 + 1, 11, none⟩ = some (.int .i64 v.r.var) := kv.cell 11
 have r12 : W5.cell? ⟨w.heap.size + 1 + 1, 12, none⟩ = some (.slice v.AV v.r.value.length v.cV) := kv.cell 12
 clear kv hH
 have con := Rec.pmay_ W5 K v (HK.out _ HH5.out).2.2.2.1 (HK.out _ HH5.out).2.2.2.2 (HK.out _ HH5.out).1
 obtain ⟨b, hb⟩ : ∃ b, b = may v.r := ⟨_, rfl⟩
 rw [← hb] at con
 have HMY := Lib.hid hb
 clear hb
 rw [show v.cells.toArray = #[.int .i64 v.r.kind, .int .i64 v.r.s.step, .int .i64 v.r.s.visit, .int .i64 v.r.s.tries, .int .i64 v.r.s.off, .slice v.AL v.vs.length v.cL, .int .i64 v.r.visit, .int .i64 v.r.step, .int .i64 v.r.try_, .int .i64 v.r.to, .int .i64 v.r.off, .int .i64 v.r.var, .slice v.AV v.r.value.length v.cV] from rfl] at con
 go_wp2_with fail
 refine con.mono ?_
 clear con
 clear r0 r1 r2 r3 r4 r5 r6 r7 r8 r9 r10 r11 r12
 rintro e W6 ⟨rfl, hb6⟩
 have HH6 := Lib.hid (HH5.out.trans (hb6.mono HH5.out.size))
 have HRUN6 := Lib.hid (HRUN.out.below hb6)
 clear hb6
 cases b with
 | false =>
  have kz := HCD.out.below HH6.out HCD.out.lt
  have z0 : W6.cell? ⟨w.heap.size + 1 + 1 + 1, 0, none⟩ = some (.int .i64 0) := kz.cell 0
  have z1 : W6.cell? ⟨w.heap.size + 1 + 1 + 1, 1, none⟩ = some (.int .i64 0) := kz.cell 1
  have z2 : W6.cell? ⟨w.heap.size + 1 + 1 + 1, 2, none⟩ = some (.int .i64 0) := kz.cell 2
  have z3 : W6.cell? ⟨w.heap.size + 1 + 1 + 1, 3, none⟩ = some (.int .i64 0) := kz.cell 3
  have z4 : W6.cell? ⟨w.heap.size + 1 + 1 + 1, 4, none⟩ = some (.slice none 0 0) := kz.cell 4
  have y0 := kz.free 0
  have y1 := kz.free 1
  have y2 := kz.free 2
  have y3 := kz.free 3
  have y4 := kz.free 4
  clear kz
  have HF := Lib.hid (fw5_frm W6 (w.heap.size + 1 + 1 + 1) (.int .i64 0) (.int .i64 0) (.int .i64 0) (.int .i64 0) (.slice none 0 0))
  have HX := Lib.hid (fw5_cel (a := .int .i64 0) (b := .int .i64 0) (c := .int .i64 0) (d := .int .i64 0) (e := .slice none 0 0) (HCD.out.below HH6.out HCD.out.lt))
  go_wp2_with fail
  refine bodyPost_ret (v := .tuple #[stval 0 0 0 0 none 0 0, .int .i64 7]) (Rec.results_recget 6 31 7 Try.results13 ⟨w.heap.size + 1 + 1 + 1, 0, none⟩ rfl _ _ rfl (load_st HX.out)) rfl ?_
  exact pn_no (by rw [HQ.out]; unfold nextR; rw [← HMY.out]; simp) ((HBW.out.trans (HH6.out.mono HBW.out.size)).trans (HF.out.below (by have := HBW.out.size; have := HH6.out.size; omega) (by intro k hk; simp at hk; omega)))
 | true =>
  have kv := HCC.out.below HH6.out HCC.out.lt
  have r0 : W6.cell? ⟨w.heap.size + 1 + 1, 0, none⟩ = some (.int .i64 v.r.kind) := kv.cell 0
  have r1 : W6.cell? ⟨w.heap.size + 1 + 1, 1, none⟩ = some (.int .i64 v.r.s.step) := kv.cell 1
  have r2 : W6.cell? ⟨w.heap.size + 1 + 1, 2, none⟩ = some (.int .i64 v.r.s.visit) := kv.cell 2
  have r3 : W6.cell? ⟨w.heap.size + 1 + 1, 3, none⟩ = some (.int .i64 v.r.s.tries) := kv.cell 3
  have r4 : W6.cell? ⟨w.heap.size + 1 + 1, 4, none⟩ = some (.int .i64 v.r.s.off) := kv.cell 4
  have r5 : W6.cell? ⟨w.heap.size + 1 + 1, 5, none⟩ = some (.slice v.AL v.vs.length v.cL) := kv.cell 5
  have r6 : W6.cell? ⟨w.heap.size + 1 + 1, 6, none⟩ = some (.int .i64 v.r.visit) := kv.cell 6
  have r7 : W6.cell? ⟨w.heap.size + 1 + 1, 7, none⟩ = some (.int .i64 v.r.step) := kv.cell 7
  have r8 : W6.cell? ⟨w.heap.size + 1 + 1, 8, none⟩ = some (.int .i64 v.r.try_) := kv.cell 8
  have r9 : W6.cell? ⟨w.heap.size + 1 + 1, 9, none⟩ = some (.int .i64 v.r.to) := kv.cell 9
  have r10 : W6.cell? ⟨w.heap.size + 1 + 1, 10, none⟩ = some (.int .i64 v.r.off) := kv.cell 10
  have r11 : W6.cell? ⟨w.heap.size + 1 + 1, 11, none⟩ = some (.int .i64 v.r.var) := kv.cell 11
  have r12 : W6.cell? ⟨w.heap.size + 1 + 1, 12, none⟩ = some (.slice v.AV v.r.value.length v.cV) := kv.cell 12
  clear kv
  have con := meet_on W6 W.heap.size g A n c A1 nv c1 most K (by have := HSZ.out; have := HKW.out; omega) HZV.out _ HRUN6.out vs (HK.out _ HH6.out).2.2.1 HFIT.out H2.out H3.out (by show (txt us).length ≤ 1000; unfold txt; rw [List.length_map, HUL.out]; have := HUM.out; omega) v (HK.out _ HH6.out).2.2.2.1 HMY.out.symm
  rw [← HQ.out] at con
  rw [show v.cells.toArray = #[.int .i64 v.r.kind, .int .i64 v.r.s.step, .int .i64 v.r.s.visit, .int .i64 v.r.s.tries, .int .i64 v.r.s.off, .slice v.AL v.vs.length v.cL, .int .i64 v.r.visit, .int .i64 v.r.step, .int .i64 v.r.try_, .int .i64 v.r.to, .int .i64 v.r.off, .int .i64 v.r.var, .slice v.AV v.r.value.length v.cV] from rfl] at con
  go_wp2_with fail
  refine con.mono ?_
  clear con
  clear r0 r1 r2 r3 r4 r5 r6 r7 r8 r9 r10 r11 r12
  rintro e W7 ⟨b, rfl, hb7, hno, hyes⟩
  have HH7 := Lib.hid (HH6.out.trans hb7)
  have HNO := Lib.hid (fun q => (hno q).1)
  have HYES := Lib.hid hyes
  clear hb7 hno hyes
  cases b with
  | false =>
   have kz := HCD.out.below HH7.out HCD.out.lt
   have z0 : W7.cell? ⟨w.heap.size + 1 + 1 + 1, 0, none⟩ = some (.int .i64 0) := kz.cell 0
   have z1 : W7.cell? ⟨w.heap.size + 1 + 1 + 1, 1, none⟩ = some (.int .i64 0) := kz.cell 1
   have z2 : W7.cell? ⟨w.heap.size + 1 + 1 + 1, 2, none⟩ = some (.int .i64 0) := kz.cell 2
   have z3 : W7.cell? ⟨w.heap.size + 1 + 1 + 1, 3, none⟩ = some (.int .i64 0) := kz.cell 3
   have z4 : W7.cell? ⟨w.heap.size + 1 + 1 + 1, 4, none⟩ = some (.slice none 0 0) := kz.cell 4
   have y0 := kz.free 0
   have y1 := kz.free 1
   have y2 := kz.free 2
   have y3 := kz.free 3
   have y4 := kz.free 4
   clear kz
   have HF := Lib.hid (fw5_frm W7 (w.heap.size + 1 + 1 + 1) (.int .i64 0) (.int .i64 0) (.int .i64 0) (.int .i64 0) (.slice none 0 0))
   have HX := Lib.hid (fw5_cel (a := .int .i64 0) (b := .int .i64 0) (c := .int .i64 0) (d := .int .i64 0) (e := .slice none 0 0) (HCD.out.below HH7.out HCD.out.lt))
   go_wp2_with fail
   refine bodyPost_ret (v := .tuple #[stval 0 0 0 0 none 0 0, .int .i64 7]) (Rec.results_recget 6 31 7 Try.results13 ⟨w.heap.size + 1 + 1 + 1, 0, none⟩ rfl _ _ rfl (load_st HX.out)) rfl ?_
   exact pn_no (by first | exact HNO.out rfl | exact HNO.out trivial) ((HBW.out.trans (HH7.out.mono HBW.out.size)).trans (HF.out.below (by have := HBW.out.size; have := HH7.out.size; omega) (by intro k hk; simp at hk; omega)))
  | true =>
   obtain ⟨t, hQt, h', cL', us2, hh', hc', hr', hx'⟩ := (by first | exact HYES.out rfl | exact HYES.out trivial)
   have k4 : W7.cell? ⟨g, 4, none⟩ = some (.int .i64 t.step) := hc'.cell 4
   have k5 : W7.cell? ⟨g, 5, none⟩ = some (.int .i64 t.visit) := hc'.cell 5
   have k6 : W7.cell? ⟨g, 6, none⟩ = some (.int .i64 t.tries) := hc'.cell 6
   have k7 : W7.cell? ⟨g, 7, none⟩ = some (.int .i64 t.off) := hc'.cell 7
   have k8 : W7.cell? ⟨g, 8, none⟩ = some (.slice (some ⟨h', 0, none⟩) us2.length cL') := hc'.cell 8
   have kz := HCD.out.below HH7.out HCD.out.lt
   have z0 : W7.cell? ⟨w.heap.size + 1 + 1 + 1, 0, none⟩ = some (.int .i64 0) := kz.cell 0
   have z1 : W7.cell? ⟨w.heap.size + 1 + 1 + 1, 1, none⟩ = some (.int .i64 0) := kz.cell 1
   have z2 : W7.cell? ⟨w.heap.size + 1 + 1 + 1, 2, none⟩ = some (.int .i64 0) := kz.cell 2
   have z3 : W7.cell? ⟨w.heap.size + 1 + 1 + 1, 3, none⟩ = some (.int .i64 0) := kz.cell 3
   have z4 : W7.cell? ⟨w.heap.size + 1 + 1 + 1, 4, none⟩ = some (.slice none 0 0) := kz.cell 4
   have y0 := kz.free 0
   have y1 := kz.free 1
   have y2 := kz.free 2
   have y3 := kz.free 3
   have y4 := kz.free 4
   clear kz
   have HF7 := Lib.hid (fw5_frm W7 (w.heap.size + 1 + 1 + 1) (.int .i64 t.step) (.int .i64 t.visit) (.int .i64 t.tries) (.int .i64 t.off) (.slice (some ⟨h', 0, none⟩) us2.length cL'))
   have HX7 := Lib.hid (fw5_cel (a := .int .i64 t.step) (b := .int .i64 t.visit) (c := .int .i64 t.tries) (d := .int .i64 t.off) (e := .slice (some ⟨h', 0, none⟩) us2.length cL') (HCD.out.below HH7.out HCD.out.lt))
   have HQT := Lib.hid hQt
   have HR7 := Lib.hid hr'
   have HTX7 := Lib.hid hx'
   have HHH7 := Lib.hid (show h' ≠ w.heap.size + 1 + 1 + 1 by have := HSZ.out; omega)
   clear hQt hc' hr' hx' hh'
   go_wp2_with fail
   refine bodyPost_ret (v := .tuple #[stval t.step t.visit t.tries t.off (some ⟨h', 0, none⟩) us2.length cL', .int .i64 0]) (Rec.results_recget 6 31 7 Try.results13 ⟨w.heap.size + 1 + 1 + 1, 0, none⟩ rfl _ _ rfl (load_st HX7.out)) rfl ?_
   exact pn_yes HQT.out ((HBW.out.trans (HH7.out.mono HBW.out.size)).trans (HF7.out.below (by have := HBW.out.size; have := HH7.out.size; omega) (by intro k hk; simp at hk; omega))) (run_says HR7.out HTX7.out HF7.out (by simpa using HHH7.out) (fun k hk => by simp at hk; subst hk; exact (HCD.out.below HH7.out HCD.out.lt).not_ty (by decide)))
end Go.Proofs.Ytfmkkklcgiaacaa.Fold
end
section
namespace Go.Proofs.Ytfmkkklcgiaacaa.Rec
open Go.RowKit Go.Proofs.Ytfmkkklcgiaacaa.Ord
open Lex (Tx)
open Pack (num text Own)
abbrev B8 := BitVec 8
section
variable {B J : Nat} {w w1 w2 : World}
end
end Go.Proofs.Ytfmkkklcgiaacaa.Rec
end
section
namespace Go.Proofs.Ytfmkkklcgiaacaa.Pack
theorem rd_small (s : Nat) (hs1 : 1 ≤ s) (hs4 : s ≤ 4) (st : St) : (rnum (s : Int) st).1.toNat < 4294967296 := by
 have h := Rec.rnum_small s hs1 (by omega) st
 have h3 : (256 : Nat) ^ s ≤ 256 ^ 4 := Nat.pow_le_pow_right (by decide) hs4
 have e : (256 : Nat) ^ 4 = 4294967296 := by decide
 omega
theorem rtext_len (st : St) : (rtext st).1.length ≤ 65535 := by
 have hx := rnum2_small st
 unfold rtext
 generalize (rnum 2 st).1.toNat = x at hx ⊢
 cases (rnum 2 st).2 with
 | none => simp [rnext]
 | some r => by_cases hkr : x ≤ r.length <;> simp [rnext, hkr] <;> omega
end Go.Proofs.Ytfmkkklcgiaacaa.Pack
namespace Go.Proofs.Ytfmkkklcgiaacaa.Rec
open Go.RowKit Go.Proofs.Ytfmkkklcgiaacaa.Ord
open Lex (Tx)
open Pack (Own Rd St rnum rtext)
theorem rm_number (J : Nat) : Meth 70 J "davit/record.number" 96 := ⟨fun m W => by kernel_rfl, fun _ _ => by kernel_rfl⟩
theorem rm_text (J : Nat) : Meth 70 J "davit/record.text" 97 := ⟨fun m W => by kernel_rfl, fun _ _ => by kernel_rfl⟩
theorem rm_texts (J : Nat) : Meth 70 J "davit/record.texts" 98 := ⟨fun m W => by kernel_rfl, fun _ _ => by kernel_rfl⟩
theorem made_rows (k : Nat) : madeCells (Value.cells (.slice none 0 0)) (k * 1) = (List.replicate k (Value.slice none 0 0)).toArray := by
 apply Array.ext
 ·simp [size_madeCells]
 ·intro i h1 h2
  simp [madeCells, Value.cells, Nat.mod_one]
theorem run_make_rows64 (w : World) (k : Nat) (hk : k ≤ 1000000) :
  (Instr.makeSlice 26 (.int .u64 (k : Int)) (.int .u64 (k : Int))).run Try.prog w = .ok (.slice (some ⟨w.heap.size, 0, none⟩) k k) (w.alloc (.cells (List.replicate k (Value.slice none 0 0)).toArray 29)) := by
 obtain ⟨i, hi, hz, hsz, hby⟩ := info_parts infoRw
 have h := run_make (P := Try.prog) w 26 29 i (.slice none 0 0) Try.underlying26 hi hz .u64 .u64 k k (by omega) (Int.le_refl _) (by rw [hby]; omega) (by omega)
 simp only [Int.toNat_natCast] at h
 rw [hsz, made_rows] at h
 exact h
theorem by_at {w w' : World} {A : Option Addr} {n : Nat} {bs : List B8} (h : By w A n bs) (hk : ∀ ad, A = some ad → (∃ cs fz, w.heap[ad.block]? = some (Obj.cells cs 5 fz)) → w'.heap[ad.block]? = w.heap[ad.block]?) : By w' A n bs :=
 ⟨h.1, fun hn => by
  obtain ⟨ad, e, ⟨cs, fz, hg⟩, hc⟩ := h.2 hn
  have hb := hk ad e ⟨cs, fz, hg⟩
  exact ⟨ad, e, ⟨cs, fz, hb.trans hg⟩, fun j hj => (World.cell?_of_block (by rw [add_block]; exact hb)).trans (hc j hj)⟩⟩
def Byk (K : Nat) (w : World) (vs : List Vt) : Prop := ∀ v ∈ vs, (By w v.A v.t.length v.t ∧ v.t.length ≤ 65535) ∧ ∀ ad, v.A = some ad → K ≤ ad.block
theorem Byk.frm {K : Nat} {w w' : World} {vs : List Vt} {l : List Nat} (h : Byk K w vs) (hf : Frm l w w') (hl : ∀ k ∈ l, k < K ∨ ∀ cs fz, w.heap[k]? ≠ some (Obj.cells cs 5 fz)) : Byk K w' vs := fun v hv => ⟨⟨by_at (h v hv).1.1 fun ad e ⟨cs, fz, hg⟩ => hf.block _ (Array.getElem?_eq_some_iff.1 hg).1 fun hm => by
  rcases hl _ hm with h1 | h1
  ·have := (h v hv).2 ad e
   omega
  ·exact h1 cs fz hg, (h v hv).1.2⟩, (h v hv).2⟩
theorem Byk.bys {K : Nat} {w : World} {vs : List Vt} (h : Byk K w vs) : Bys w vs := fun v hv => (h v hv).1
theorem own_at {w : World} {B n c : Nat} {ad : Addr} {bs : List B8} (h : Own w B (some ad) n c bs) : B ≤ ad.block := own_ge h _ rfl
theorem r_number (w : World) {B d g J R k s : Nat} {st : St} {t : TypeId} {cs : List Value} {z : Value} {a b c : Int} (hd : Rd w B d g st) (hJ : Cel w J 72 [pp g 0]) (hR : Cel w R t cs) (hk : cs[k]? = some z) (hgJ : g < J) (hgR : g < R) (hs1 : 1 ≤ s) (hs4 : s ≤ 4) (hc0 : 0 ≤ c) (hc1 : c ≤ 10) :
  Calls Try.prog 96 #[pp J 0, pp R k, spn a b c (s : Int)] w fun e w' => e = .returned (.tuple #[]) ∧ Rd w' B d g (rd s st).2 ∧ Cel w' R t (cs.set k (.int .i64 ((rd s st).1 - c))) ∧ Frm [d, g, R] w w' := by
 obtain ⟨w1, hw1⟩ : ∃ w1, w1 = w.alloc (.cells #[.int .i64 a, .int .i64 b, .int .i64 c, .int .i64 (s : Int)] 115) := ⟨_, rfl⟩
 obtain ⟨G, hG⟩ : ∃ G, G = w.heap.size := ⟨_, rfl⟩
 have hc1' : Cel w1 G 115 [.int .i64 a, .int .i64 b, .int .i64 c, .int .i64 (s : Int)] := by rw [hw1, hG]; exact Cel.new w 115 [.int .i64 a, .int .i64 b, .int .i64 c, .int .i64 (s : Int)]
 have hb0 : Below w.heap.size w w1 := by rw [hw1]; exact (Below.refl _ _).alloc (Nat.le_refl _) _
 have hdg : d < g := hd.2.1
 have hGg : g < G := by rw [hG]; exact Nat.lt_trans hgJ hJ.lt
 obtain ⟨W1, hW1⟩ : ∃ W, W = w1.drew := ⟨_, rfl⟩
 have hb1 : Below w.heap.size w W1 := by rw [hW1]; exact hb0.drew
 have HB1 := Lib.hid hb1
 have HJ1 := Lib.hid (hJ.below hb1 hJ.lt)
 have HR1 := Lib.hid (show Cel W1 R t cs from hR.below hb1 hR.lt)
 have HG1 := Lib.hid (show Cel W1 G 115 _ by rw [hW1]; exact hc1'.drew)
 have HD1 := Lib.hid (show Rd W1 B d g st from hd.frm (l := []) (Frm.of_below hb1) (by simp))
 have HDD := Lib.hid (show w.alloc (.cells #[.int .i64 a, .int .i64 b, .int .i64 c, .int .i64 (s : Int)] 115) = w1 from hw1.symm)
 have HK := Lib.hid hk
 have hH : (fun V => V.cell? ⟨J, 0, none⟩ = some (.pointer (some ⟨g, 0, none⟩)) ∧ V.cell? ⟨G, 2, none⟩ = some (.int .i64 c) ∧ V.cell? ⟨G, 3, none⟩ = some (.int .i64 (s : Int))) W1 := ⟨HJ1.out.cell 0, HG1.out.cell 2, HG1.out.cell 3⟩
 have HSW := Lib.hid (show ∀ V, Frm [d, g] W1 V → (fun V => V.cell? ⟨J, 0, none⟩ = some (.pointer (some ⟨g, 0, none⟩)) ∧ V.cell? ⟨G, 2, none⟩ = some (.int .i64 c) ∧ V.cell? ⟨G, 3, none⟩ = some (.int .i64 (s : Int))) V from fun V h => ⟨(HJ1.out.frm h (by simp; omega)).cell 0, (HG1.out.frm h (by simp; omega)).cell 2, (HG1.out.frm h (by simp; omega)).cell 3⟩)
 have hxb := Pack.rd_small s hs1 hs4 st
 obtain ⟨y, hy⟩ : ∃ y, y = (Pack.rnum (s : Int) st).1 := ⟨_, rfl⟩
 rw [← hy] at hxb
 have HEND := Lib.hid (show ∀ V, Frm [d, g] W1 V → Rd V B d g (Pack.rnum (s : Int) st).2 → (fun e w' => e = Ending.returned (.tuple #[]) ∧ Rd w' B d g (rd s st).2 ∧ Cel w' R t (cs.set k (.int .i64 ((rd s st).1 - c))) ∧ Frm [d, g, R] w w') (.returned (.tuple #[])) (V.setCell ⟨R, k, none⟩ (.int .i64 ((y.toNat : Int) - c))) from fun V h1 h2 => by
  unfold rd
  rw [hy]
  exact ⟨rfl, h2.frm (l := [R]) ((Frm.refl _ _).set (by simp) _) (by intro q hq; simp at hq; omega), (HR1.out.frm h1 (by simp; omega)).set k _, ((Frm.of_below HB1.out).trans (h1.mono (by intro q hq _; simp at hq ⊢; rcases hq with h | h <;> simp [h]))).set (by simp) _⟩)
 have HRW := Lib.hid (show ∀ V, Frm [d, g] W1 V → Cel V R t cs from fun V h => HR1.out.frm h (by simp; omega))
 have HY := Lib.hid hy
 have e1 : IntKind.i64.wrap (y.toNat : Int) = (y.toNat : Int) := by rw [IntKind.wrap_i64]; omega
 have e2 : IntKind.i64.wrap ((y.toNat : Int) - c) = (y.toNat : Int) - c := by rw [IntKind.wrap_i64]; omega
 clear hd hJ hc1' hb0 hb1 hR hk hw1 hy
 unfold spn pp
 go_enter Try.func96, Try.ntmps96
 go_upto_region 1 with fail
 rw [HDD.out, ← hG]
 clear HDD
 refine Ord.wp_region_N [13] (fun V => V.cell? ⟨J, 0, none⟩ = some (.pointer (some ⟨g, 0, none⟩)) ∧ V.cell? ⟨G, 2, none⟩ = some (.int .i64 c) ∧ V.cell? ⟨G, 3, none⟩ = some (.int .i64 (s : Int))) (by kernel_rfl) ?_
 rw [← hW1]
 clear hW1 hG
 refine tk_ 0 (.pointer (some ⟨R, k, none⟩)) [13] rfl hH ?_ ?_
 ·intro V hV; go_simp
 try simp only [Act.put, lay_]
 refine tk_ 1 (.pointer (some ⟨J, 0, none⟩)) [13] rfl hH ?_ ?_
 ·intro V hV; go_simp
 try simp only [Act.put, lay_]
 refine tk_ 2 (.pointer (some ⟨J, 0, none⟩)) [13] rfl hH ?_ ?_
 ·intro V hV; go_simp
 try simp only [Act.put, lay_]
 refine tk_ 3 (.pointer (some ⟨J, 0, none⟩)) [13] rfl hH ?_ ?_
 ·intro V hV; go_simp
 try simp only [Act.put, lay_]
 refine tk_ 4 (.pointer (some ⟨g, 0, none⟩)) [13] rfl hH ?_ ?_
 ·intro V hV; obtain ⟨q0, q1, q2⟩ := hV; go_simp
 try simp only [Act.put, lay_]
 refine tk_ 5 (.pointer (some ⟨G, 3, none⟩)) [13] rfl hH ?_ ?_
 ·intro V hV; go_simp
 try simp only [Act.put, lay_]
 refine tk_ 6 (.int .i64 (s : Int)) [13] rfl hH ?_ ?_
 ·intro V hV; obtain ⟨q0, q1, q2⟩ := hV; go_simp
 try simp only [Act.put, lay_]
 refine tk_ 9 (.pointer (some ⟨G, 2, none⟩)) [13] rfl hH ?_ ?_
 ·intro V hV; go_simp
 try simp only [Act.put, lay_]
 refine tk_ 10 (.int .i64 c) [13] rfl hH ?_ ?_
 ·intro V hV; obtain ⟨q0, q1, q2⟩ := hV; go_simp
 try simp only [Act.put, lay_]
 have con := Pack.rNumber B d g (s : Int) st W1 HD1.out
 rw [← HY.out] at con
 refine wpAnyN_one (i := 7) (by kernel_rfl) rfl (fun K hK => ?_)
 go_simp
 refine con.mono ?_
 clear con
 rintro e V ⟨rfl, hd2, hf⟩
 have hS := HSW.out V hf
 have HE := Lib.hid (HEND.out V hf hd2)
 have HR2 := Lib.hid (HRW.out V hf)
 clear hf hd2 hH
 go_wp2_with fail
 refine hK.out _ _ (.inr hS) ?_
 clear hK K
 try simp only [Act.put, lay_]
 refine wpAnyN_one (i := 8) (by kernel_rfl) rfl (fun K hK => ?_)
 go_simp
 refine hK.out _ _ (.inr hS) ?_
 clear hK K
 try simp only [Act.put, lay_]
 refine wpAnyN_one (i := 11) (by kernel_rfl) rfl (fun K hK => ?_)
 go_simp
 refine hK.out _ _ (.inr hS) ?_
 clear hK K
 try simp only [Act.put, lay_]
 refine wpAnyN_one (i := 12) (by kernel_rfl) rfl (fun K hK => ?_)
 go_simp
 refine hK.out _ _ (.inr hS) ?_
 clear hK K
 try simp only [Act.put, lay_]
 have d0 := (HR2.out.cell k).trans HK.out
 have f0 := HR2.out.free k
 refine wpAnyN_one (i := 13) (by kernel_rfl) rfl (fun K hK => ?_)
 go_simp
 refine hK.out _ _ (.inl (by decide)) ?_
 clear hK K d0 f0
 try simp only [Act.put, lay_]
 refine wpAnyN_done (by kernel_rfl) ?_ _
 go_wp2_with fail
 go_end0
 exact ⟨rfl, HE.out.2⟩
theorem r_text (w : World) {B d g J G k : Nat} {st : St} {t : TypeId} {cs : List Value} {z : Value} (hd : Rd w B d g st) (hJ : Cel w J 72 [pp g 0]) (hG : Cel w G t cs) (hk : cs[k]? = some z) (ht : t ≠ 5) (hgG : g < G) :
  Calls Try.prog 97 #[pp J 0, pp G k] w fun e w' => e = .returned (.tuple #[]) ∧ ∃ A c, Cel w' G t (cs.set k (.slice A (rtext st).1.length c)) ∧ By w' A (rtext st).1.length (rtext st).1 ∧ (∀ ad, A = some ad → w.heap.size ≤ ad.block) ∧ Rd w' B d g (rtext st).2 ∧ Frm [d, g, G] w w' := by
 have hdg : d < g := hd.2.1
 have j0 := hJ.cell 0
 have con := Pack.rText B d g st w hd
 have HG := Lib.hid hG
 have HK := Lib.hid hk
 clear hd hJ hG hk
 unfold pp at j0 ⊢
 go_enter Try.func97, Try.ntmps97
 go_wp2_with fail
 refine con.mono ?_
 clear con j0
 rintro e V ⟨A, c, rfl, ho, hd, hf⟩
 have hG2 := HG.out.frm hf (by simp; omega)
 have d0 := (hG2.cell k).trans HK.out
 have f0 := hG2.free k
 have HG2 := Lib.hid hG2
 have HO := Lib.hid (By.of_own ho)
 have HAD := Lib.hid (show ∀ ad, A = some ad → w.heap.size ≤ ad.block from fun ad e => by subst e; exact own_at ho)
 have HD := Lib.hid hd
 have HF := Lib.hid (hf.mono (l' := [d, g, G]) (by intro q hq _; simp at hq ⊢; rcases hq with h | h <;> simp [h]))
 clear hG2 ho hd hf
 go_wp2_with fail
 go_end0
 have hf1 : Frm [G] V (V.setCell ⟨G, k, none⟩ (.slice A (rtext st).1.length c)) := (Frm.refl _ _).set (by simp) _
 exact ⟨rfl, A, c, HG2.out.set k _, by_frm HO.out hf1 (cel_no HG2.out ht), HAD.out, HD.out.frm hf1 (by intro q hq; simp at hq; omega), HF.out.set (by simp) _⟩
theorem set_row {vs : List Vt} {i N : Nat} {v : Vt} (hl : vs.length = i) (hi : i < N) : (vs.map Vt.cell ++ List.replicate (N - i) (Value.slice none 0 0)).set i v.cell = (vs ++ [v]).map Vt.cell ++ List.replicate (N - (i + 1)) (Value.slice none 0 0) := by
 subst hl
 rw [List.set_append_right (s := vs.map Vt.cell) (t := List.replicate (N - vs.length) (Value.slice none 0 0)) vs.length v.cell (by simp)]
 simp only [List.length_map, Nat.sub_self]
 rw [show N - vs.length = (N - (vs.length + 1)) + 1 by omega, List.replicate_succ, List.set_cons_zero, List.map_append, List.append_assoc]
 rfl
def RtSays (w : World) (B d g R k : Nat) (t : TypeId) (cs : List Value) (st : St) (e : Ending) (w' : World) : Prop := e = .returned (.tuple #[]) ∧ ∃ (L : Nat) (vs : List Vt) (st' : St), rtexts (rd 1 st).1.toNat (rd 1 st).2 = (txt vs, st') ∧ vs.length = (rd 1 st).1.toNat ∧ vs.length < 256 ∧ Rd w' B d g st' ∧ Cel w' R t (cs.set k (.slice (some ⟨L, 0, none⟩) vs.length vs.length)) ∧ Cel w' L 29 (vs.map Vt.cell) ∧ Bys w' vs ∧ Frm [d, g, R] w w'
theorem r_texts (w : World) {B d g J R k : Nat} {st : St} {t : TypeId} {cs : List Value} {z : Value} (hd : Rd w B d g st) (hJ : Cel w J 72 [pp g 0]) (hR : Cel w R t cs) (hk : cs[k]? = some z) (ht : t ≠ 5) (hgJ : g < J) (hgR : g < R) :
  Calls Try.prog 98 #[pp J 0, pp R k] w (RtSays w B d g R k t cs st) := by
 have hdg : d < g := hd.2.1
 have j0 := hJ.cell 0
 have con := Pack.rNumber B d g 1 st w hd
 have hn := rnum_small 1 (by decide) (by decide) st
 have HEND := Lib.hid (show ∀ (N : Nat) (st1 : St), N < 256 → N = (rnum 1 st).1.toNat → st1 = (rnum 1 st).2 → ∀ (L : Nat) (vs : List Vt) (st' : St) (V : World), rtexts N st1 = (txt vs, st') → vs.length = N → L ≠ R → Rd V B d g st' → Cel V R t cs → Cel V L 29 (vs.map Vt.cell) → Bys V vs → Frm [d, g] w V → RtSays w B d g R k t cs st (.returned (.tuple #[])) (V.setCell ⟨R, k, none⟩ (.slice (some ⟨L, 0, none⟩) N N)) from fun N st1 hN2 e1 e2 L vs st' V h1 h2 h3 h4 h5 h6 h7 h8 => by
  subst e2
  have hf1 : Frm [R] V (V.setCell ⟨R, k, none⟩ (.slice (some ⟨L, 0, none⟩) N N)) := (Frm.refl _ _).set (by simp) _
  refine ⟨rfl, L, vs, st', ?_, ?_, by omega, h4.frm hf1 (by intro q hq; simp at hq; omega), by rw [h2]; exact h5.set k _, h6.frm hf1 (by simp; exact h3), h7.frm hf1 (cel_no h5 ht), (h8.mono (by intro q hq _; simp at hq ⊢; rcases hq with h | h <;> simp [h])).trans (hf1.mono (by intro q hq _; simp at hq ⊢; simp [hq]))⟩
  ·show rtexts (((rnum 1 st).1.toNat : Int)).toNat (rnum 1 st).2 = _
   rw [Int.toNat_natCast, ← e1]
   exact h1
  ·show _ = (((rnum 1 st).1.toNat : Int)).toNat
   rw [Int.toNat_natCast, ← e1]
   exact h2)
 have HJ := Lib.hid hJ
 have HR := Lib.hid hR
 have HK := Lib.hid hk
 clear hd hJ hR hk
 obtain ⟨y, hy⟩ : ∃ y, y = (rnum 1 st).1 := ⟨_, rfl⟩
 obtain ⟨st1, hst1⟩ : ∃ s, s = (rnum 1 st).2 := ⟨_, rfl⟩
 change (rnum 1 st).1.toNat < _ at hn
 rw [← hy] at con hn
 rw [← hst1] at con
 obtain ⟨N, hN⟩ : ∃ N, N = y.toNat := ⟨_, rfl⟩
 have HEND := Lib.hid (HEND.out N st1 (by rw [hN]; exact hn) (by rw [hN, hy]) hst1)
 change Hid _ at HEND
 unfold Pack.v64 at con
 rw [← hN] at con hn
 clear hy hst1 hN
 have hn : N < 256 := hn
 unfold pp at j0 ⊢
 go_enter Try.func98, Try.ntmps98
 go_wp2_with fail
 refine con.mono ?_
 clear con j0
 rintro e V1 ⟨rfl, hd, hf⟩
 have hmk := run_make_rows64 V1 N (by omega)
 obtain ⟨L, hL⟩ : ∃ L, L = V1.heap.size := ⟨_, rfl⟩
 obtain ⟨W2, hW2⟩ : ∃ W, W = V1.alloc (.cells (List.replicate N (Value.slice none 0 0)).toArray 29) := ⟨_, rfl⟩
 have hf2 : Frm [] V1 W2 := by rw [hW2]; exact (Frm.refl _ _).alloc _
 have HL2 := Lib.hid (show Cel W2 L 29 (List.replicate N (Value.slice none 0 0)) by rw [hW2, hL]; exact Cel.new V1 _ _)
 have HD2 := Lib.hid (hd.frm hf2 (by simp))
 have HF2 := Lib.hid (hf.trans (hf2.mono (l' := [d, g]) (by simp)))
 have HLW := Lib.hid (show w.heap.size ≤ L by rw [hL]; exact hf.size)
 have hRL := HR.out.lt
 rw [← hW2, ← hL] at hmk
 clear hd hf hf2 hW2
 go_wp2_with fail
 clear hmk
 rw [← hL]
 clear hL
 go_loopw [14] (fun v14 wr => ∃ (i : Nat) (vs : List Vt) (s : St), i ≤ N ∧ v14 = .int .i64 (i : Int) ∧ Hid (vs.length = i) ∧ Hid (Rd wr B d g s) ∧ Hid (Cel wr L 29 (vs.map Vt.cell ++ List.replicate (N - i) (Value.slice none 0 0))) ∧ Hid (Byk w.heap.size wr vs) ∧ Hid (rtexts N st1 = (txt vs ++ (rtexts (N - i) s).1, (rtexts (N - i) s).2)) ∧ Hid (Frm [d, g] w wr)) (fun v14 _ => N - (intOf v14).toNat)
 case atStart => exact ⟨0, [], st1, Nat.zero_le _, rfl, Lib.hid rfl, HD2, HL2, Lib.hid (by intro v hv; simp at hv), Lib.hid rfl, HF2⟩
 case round =>
  obtain ⟨i, vs, s, hi, rfl, HVL, HDW, HLW2, HBW, HRT, HFW⟩ := hrel
  obtain ⟨W5, rfl⟩ : ∃ W, W = wr := ⟨_, rfl⟩
  rcases Nat.lt_or_ge i N with hlt | hge
  ·have hj5 := HJ.out.frm HFW.out (by simp; omega)
   have con := r_text W5 (J := J) (G := L) (k := i) (z := .slice none 0 0) HDW.out hj5 HLW2.out (by rw [List.getElem?_append_right (by rw [List.length_map, HVL.out]; exact Nat.le_refl _), List.length_map, HVL.out, Nat.sub_self, List.getElem?_replicate, if_pos (by omega)]) (by decide) (by have := HJ.out.lt; have := HLW.out; omega)
   have HNX := Lib.hid (rtexts_step (t := []) HRT.out hlt rfl)
   clear hj5
   unfold pp at con
   go_wp2_with fail
   refine con.mono ?_
   clear con
   rintro e W6 ⟨rfl, A6, c6, hl6, hb6, ha6, hd6, hf6⟩
   have hlen : (rtext s).1.length ≤ 65535 := Pack.rtext_len s
   have HL6 := Lib.hid (show Cel W6 L 29 ((vs ++ [(⟨A6, c6, (rtext s).1⟩ : Vt)]).map Vt.cell ++ List.replicate (N - (i + 1)) (Value.slice none 0 0)) by rw [← set_row HVL.out hlt]; exact hl6)
   have HB6 := Lib.hid (show Byk w.heap.size W6 (vs ++ [(⟨A6, c6, (rtext s).1⟩ : Vt)]) from by
    intro v hv
    rcases List.mem_append.1 hv with hv | hv
    ·refine HBW.out.frm hf6 (fun q hq => ?_) v hv
     simp at hq
     rcases hq with h | h | h
     ·left; omega
     ·left; omega
     ·right; subst h; exact HLW2.out.not_ty (by decide)
    ·simp at hv
     subst hv
     exact ⟨⟨hb6, hlen⟩, fun ad e => Nat.le_trans HFW.out.size (ha6 ad e)⟩)
   have HD6 := Lib.hid hd6
   have HF6 := Lib.hid (HFW.out.then_ hf6 (by intro q hq hl; simp at hq ⊢; have := HLW.out; rcases hq with h | h | h <;> first | (simp [h]; done) | (exfalso; omega)))
   have HVL6 := Lib.hid (show (vs ++ [(⟨A6, c6, (rtext s).1⟩ : Vt)]).length = i + 1 by rw [List.length_append, HVL.out]; rfl)
   have HRT6 := Lib.hid (show rtexts N st1 = (txt (vs ++ [(⟨A6, c6, (rtext s).1⟩ : Vt)]) ++ (rtexts (N - (i + 1)) (rtext s).2).1, (rtexts (N - (i + 1)) (rtext s).2).2) by rw [HNX.out]; unfold txt; rw [List.map_append]; rfl)
   generalize vs ++ [(⟨A6, c6, (rtext s).1⟩ : Vt)] = vs6 at *
   generalize (rtext s).2 = s6 at *
   clear hl6 hb6 ha6 hd6 hf6 hlen HNX
   go_wp2_with fail
   exact ⟨⟨i + 1, vs6, s6, by omega, by rw [show ((i + 1 : Nat) : Int) = (i : Int) + 1 by omega], HVL6, HD6, HL6, HB6, HRT6, HF6⟩, by simp [intOf]; omega⟩
  ·obtain rfl : i = N := by omega
   have hr5 := HR.out.frm HFW.out (by simp; omega)
   have d0 := (hr5.cell k).trans HK.out
   have f0 := hr5.free k
   have HE := Lib.hid (HEND.out L vs s W5 (by have h := HRT.out; rw [Nat.sub_self] at h; rw [h]; show (txt vs ++ [], s) = _; rw [List.append_nil]) HVL.out (by have := HLW.out; omega) HDW.out hr5 (by have h := HLW2.out; rw [Nat.sub_self] at h; simpa using h) HBW.out.bys HFW.out)
   clear hr5
   go_wp2_with fail
   go_end0
   exact HE.out
end Go.Proofs.Ytfmkkklcgiaacaa.Rec
end
