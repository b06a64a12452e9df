/-
Texts: FoldPnx OrdersTwo
-/
import Derived.Test.YtfmkkklcgiaacaaFR0
import Derived.Test.YtfmkkklcgiaacaaFR1
import Derived.Test.YtfmkkklcgiaacaaFR2
import Derived.Test.YtfmkkklcgiaacaaFR3
import Derived.Test.YtfmkkklcgiaacaaFR5
import Derived.Test.YtfmkkklcgiaacaaFR7
import Derived.Test.YtfmkkklcgiaacaaFR8
import Derived.Test.YtfmkkklcgiaacaaFR12
set_option linter.unusedVariables false
set_option linter.unusedSimpArgs false
set_option maxRecDepth 100000
set_option maxHeartbeats 4000000
section
namespace Go.Proofs.Ytfmkkklcgiaacaa.Fold
open Go.RowKit Go.Proofs.Ytfmkkklcgiaacaa.Ord
open Lex (Tx)
open Rec (Stt Rc Rv Rok Vt Tvs Trow txt may)
theorem pst_ (w : World) (A : Option Addr) (n c : Nat) (A1 : Option Addr) (nv c1 : Nat) (most : Int) (hv : nv ≤ 1000000) (vs : List Fs) (K : Nat) :
  Calls Try.prog 11 #[bval A n c A1 nv c1 most] w fun e w' => Below w.heap.size w w' ∧ ∃ v, e = .returned v ∧ StSays w' K (startR (bok vs nv most)) v := by
 unfold bval
 obtain ⟨w1, hw1⟩ : ∃ w1, w1 = (w.alloc (.cells #[.slice A n c, .slice A1 nv c1, .int .i64 most] 25)).alloc (.cells #[.int .i64 0, .int .i64 0, .int .i64 0, .int .i64 0, .slice none 0 0] 31) := ⟨_, rfl⟩
 have hmk := run_make_rows w1 nv hv
 rw [hw1] at hmk
 go_enter Try.func11, Try.ntmps11
 go_wp2_with fail
 clear hmk hw1
 obtain ⟨W, hW⟩ : ∃ W, W = ((w.alloc (.cells #[.slice A n c, .slice A1 nv c1, .int .i64 most] 25)).alloc (.cells #[.int .i64 0, .int .i64 1, .int .i64 0, .int .i64 0, .slice (some ⟨w.heap.size + 1 + 1, 0, none⟩) nv nv] 31)).alloc (.cells (Array.replicate nv (Value.slice none 0 0)) 29) := ⟨_, rfl⟩
 rw [← hW]
 have hb : Below w.heap.size w W := by rw [hW]; exact (((Below.refl _ _).alloc (Nat.le_refl _) _).alloc (by simp) _).alloc (by simp; omega) _
 have c2 : Cel W (w.heap.size + 1) 31 [.int .i64 0, .int .i64 1, .int .i64 0, .int .i64 0, .slice (some ⟨w.heap.size + 1 + 1, 0, none⟩) nv nv] := by
  rw [hW]
  exact (by simpa using Cel.new (w.alloc (.cells #[.slice A n c, .slice A1 nv c1, .int .i64 most] 25)) 31 [.int .i64 0, .int .i64 1, .int .i64 0, .int .i64 0, .slice (some ⟨w.heap.size + 1 + 1, 0, none⟩) nv nv] : Cel _ (w.heap.size + 1) _ _).alloc _
 have c3 : Cel W (w.heap.size + 1 + 1) 29 (List.replicate nv (Value.slice none 0 0)) := by
  have := Cel.new ((w.alloc (.cells #[.slice A n c, .slice A1 nv c1, .int .i64 most] 25)).alloc (.cells #[.int .i64 0, .int .i64 1, .int .i64 0, .int .i64 0, .slice (some ⟨w.heap.size + 1 + 1, 0, none⟩) nv nv] 31)) 29 (List.replicate nv (Value.slice none 0 0))
  simp only [World.size_alloc] at this
  rw [hW]
  simpa using this
 refine bodyPost_ret (v := .agg #[.int .i64 0, .int .i64 1, .int .i64 0, .int .i64 0, .slice (some ⟨w.heap.size + 1 + 1, 0, none⟩) nv nv]) (Rec.results_cell_ 2 31 Try.results11 ⟨w.heap.size + 1, 0, none⟩ rfl _ (load_st c2)) rfl ?_
 refine ⟨hb, _, rfl, some ⟨w.heap.size + 1 + 1, 0, none⟩, nv, List.replicate nv ⟨none, 0, []⟩, ?_, ⟨fun i v hi => ⟨_, rfl, ?_⟩, fun v hv => ?_⟩, fun _ => ⟨_, rfl, .inr ⟨_, _, c3⟩⟩, ?_⟩
 ·show stval 0 1 0 0 _ nv nv = stval 0 1 0 0 _ (List.replicate nv _).length nv
  rw [List.length_replicate]
 ·have hlt := (List.getElem?_eq_some_iff.1 hi).1
  rw [List.length_replicate] at hlt
  rw [List.getElem?_replicate, if_pos hlt] at hi
  injection hi with hi
  subst hi
  rw [add_row, c3.cell i, List.getElem?_replicate, if_pos hlt]
  rfl
 ·rw [List.eq_of_mem_replicate hv]
  exact ⟨.inl Bs.nil_, Nat.zero_le _⟩
 ·unfold txt
  rw [List.map_replicate]
  rfl
theorem pstart_ : PStart := fun w A n c A1 nv c1 most vs K hf => pst_ w A n c A1 nv c1 most (by have := hf.vars; omega) vs K
theorem pn_no {w w' : World} {K : Nat} {R : Option Stt} (hR : R = none) (hb : Below w.heap.size w w') : PnSays w K R (.returned (.tuple #[stval 0 0 0 0 none 0 0, .int .i64 7])) w' := ⟨hb, by rw [hR]⟩
theorem pn_yes {w w' : World} {K : Nat} {R : Option Stt} {t : Stt} {v : Value} (hR : R = some t) (hb : Below w.heap.size w w') (hs : StSays w' K t v) : PnSays w K R (.returned (.tuple #[v, .int .i64 0])) w' := ⟨hb, by rw [hR]; exact ⟨v, rfl, hs⟩⟩
theorem run_says {w w' : World} {h K : Nat} {us : List Vt} {t : Stt} {c : Nat} {l : List Nat} (hr : Rrow w h us) (hx : txt us = t.vars) (hf : Frm l w w') (hh : h ∉ l) (hl : ∀ k ∈ l, ∀ cs fz, w.heap[k]? ≠ some (Obj.cells cs 5 fz)) : StSays w' K t (stval t.step t.visit t.tries t.off (some ⟨h, 0, none⟩) us.length c) :=
 ⟨_, _, us, rfl, (hr.frm hf hh hl).tvs K, (hr.frm hf hh hl).trow K, hx⟩
theorem pnext_ : PNext := by
 intro w K hK A n c vs hf A1 nv c1 most hfit s1 s2 s3 s4 h2 h3 AL m cL us hu hut hul hum hu3 v hr hrt hvl hvt hvv
 obtain ⟨Q, hQ⟩ : ∃ Q, Q = nextR (bok vs nv most) ⟨s1, s2, s3, s4, txt us⟩ v.r := ⟨_, rfl⟩
 rw [← hQ]
 have HQ := Lib.hid hQ
 unfold bval stval
 obtain ⟨wa, hwa⟩ : ∃ W, W = w.alloc (.cells #[.slice A n c, .slice A1 nv c1, .int .i64 most] 25) := ⟨_, rfl⟩
 obtain ⟨wb, hwb⟩ : ∃ W, W = wa.alloc (.cells #[.int .i64 s1, .int .i64 s2, .int .i64 s3, .int .i64 s4, .slice AL m cL] 31) := ⟨_, rfl⟩
 obtain ⟨wc, hwc⟩ : ∃ W, W = wb.alloc (.cells v.cells.toArray 42) := ⟨_, rfl⟩
 obtain ⟨wd, hwd⟩ : ∃ W, W = wc.alloc (.cells #[.int .i64 0, .int .i64 0, .int .i64 0, .int .i64 0, .slice none 0 0] 31) := ⟨_, rfl⟩
 have sa : wa.heap.size = w.heap.size + 1 := by rw [hwa]; simp
 have sb : wb.heap.size = w.heap.size + 1 + 1 := by rw [hwb]; simp [sa]
 have sc : wc.heap.size = w.heap.size + 1 + 1 + 1 := by rw [hwc]; simp [sb]
 have sd : wd.heap.size = w.heap.size + 1 + 1 + 1 + 1 := by rw [hwd]; simp [sc]
 have b1 : Below w.heap.size w wa := by rw [hwa]; exact (Below.refl _ _).alloc (Nat.le_refl _) _
 have b2 : Below w.heap.size w wb := by rw [hwb]; exact b1.alloc (by omega) _
 have b3 : Below w.heap.size w wc := by rw [hwc]; exact b2.alloc (by omega) _
 have b4 : Below w.heap.size w wd := by rw [hwd]; exact b3.alloc (by omega) _
 have ca : Cel wd w.heap.size 25 (bcells A n c A1 nv c1 most) := by rw [hwd, hwc, hwb, hwa]; exact (((Cel.new w _ _).alloc _).alloc _).alloc _
 have cb : Cel wd (w.heap.size + 1) 31 (scells s1 s2 s3 s4 AL m cL) := by rw [hwd, hwc, hwb, ← sa]; exact ((Cel.new wa _ _).alloc _).alloc _
 have cc : Cel wd (w.heap.size + 1 + 1) 42 v.cells := by rw [hwd, hwc, ← sb]; exact (Cel.new wb _ _).alloc _
 have cd : Cel wd (w.heap.size + 1 + 1 + 1) 31 (scells 0 0 0 0 none 0 0) := by rw [hwd, ← sc]; exact Cel.new wc _ _
 have HD := Lib.hid (show wd = (((w.alloc (.cells #[.slice A n c, .slice A1 nv c1, .int .i64 most] 25)).alloc (.cells #[.int .i64 s1, .int .i64 s2, .int .i64 s3, .int .i64 s4, .slice AL m cL] 31)).alloc (.cells v.cells.toArray 42)).alloc (.cells #[.int .i64 0, .int .i64 0, .int .i64 0, .int .i64 0, .slice none 0 0] 31) by rw [hwd, hwc, hwb, hwa])
 obtain ⟨W, hW⟩ : ∃ W, W = wd.drew := ⟨_, rfl⟩
 have hbw : Below w.heap.size w W := by rw [hW]; exact b4.drew
 have HBW := Lib.hid hbw
 have HSZ := Lib.hid (show W.heap.size = w.heap.size + 1 + 1 + 1 + 1 by rw [hW]; exact sd)
 have HCA := Lib.hid (show Cel W w.heap.size 25 (bcells A n c A1 nv c1 most) by rw [hW]; exact ca.drew)
 have HCB := Lib.hid (show Cel W (w.heap.size + 1) 31 (scells s1 s2 s3 s4 AL m cL) by rw [hW]; exact cb.drew)
 have HCC := Lib.hid (show Cel W (w.heap.size + 1 + 1) 42 v.cells by rw [hW]; exact cc.drew)
 have HCD := Lib.hid (show Cel W (w.heap.size + 1 + 1 + 1) 31 (scells 0 0 0 0 none 0 0) by rw [hW]; exact cd.drew)
 have HK := Lib.hid (show ∀ V, Below W.heap.size W V → K ≤ V.heap.size ∧ Tvs V K AL us ∧ Fbk V A vs ∧ Rok V K v ∧ Trow V K v.AL v.vs from fun V h => by
  have hV : Below w.heap.size w V := hbw.trans (h.mono hbw.size)
  exact ⟨Nat.le_trans hK hV.size, hu.below hK hV, hf.below hV, hr.below hK hV, hrt.below hV⟩)
 have HKW := Lib.hid hK
 have HFIT := Lib.hid hfit
 have HUL := Lib.hid hul
 have HUM := Lib.hid hum
 have HU3 := Lib.hid hu3
 have H2 := Lib.hid h2
 have H3 := Lib.hid h3
 clear hf hfit h2 h3 hu hut hul hum hu3 hr hrt hvl hvt hvv hQ hK sa sb sc sd b1 b2 b3 b4 ca cb cc cd hwa hwb hwc hwd hbw
 go_enter Try.func13, Try.ntmps13
 go_upto_region 1 with fail
 rw [← HD.out]
 clear HD
 refine wp_region_N [] (fun V => Below W.heap.size W V) (by kernel_rfl) ?_
 rw [← hW]
 have hH : Below W.heap.size W W := Below.refl _ _
 clear hW
 refine tk_ 0 (.agg #[.slice A n c, .slice A1 nv c1, .int .i64 most]) [] rfl hH ?_ ?_
 ·intro V hV; have hc := HCA.out.below hV HCA.out.lt; have k0 : V.cell? ⟨w.heap.size, 0, none⟩ = some (.slice A n c) := hc.cell 0; have k1 : V.cell? ⟨w.heap.size, 1, none⟩ = some (.slice A1 nv c1) := hc.cell 1; have k2 : V.cell? ⟨w.heap.size, 2, none⟩ = some (.int .i64 most) := hc.cell 2; clear hc; go_simp
 try simp only [Act.put, lay_]
 refine tk_ 1 (.agg #[.int .i64 s1, .int .i64 s2, .int .i64 s3, .int .i64 s4, .slice AL m cL]) [] rfl hH ?_ ?_
 ·intro V hV; have hc := HCB.out.below hV HCB.out.lt; have k0 : V.cell? ⟨w.heap.size + 1, 0, none⟩ = some (.int .i64 s1) := hc.cell 0; have k1 : V.cell? ⟨w.heap.size + 1, 1, none⟩ = some (.int .i64 s2) := hc.cell 1; have k2 : V.cell? ⟨w.heap.size + 1, 2, none⟩ = some (.int .i64 s3) := hc.cell 2; have k3 : V.cell? ⟨w.heap.size + 1, 3, none⟩ = some (.int .i64 s4) := hc.cell 3; have k4 : V.cell? ⟨w.heap.size + 1, 4, none⟩ = some (.slice AL m cL) := hc.cell 4; clear hc; go_simp
 try simp only [Act.put, lay_]
 refine wpAnyN_one (i := 2) (by kernel_rfl) rfl (fun Kq hKq => ?_)
 go_simp
 refine (copied_ _ K (HK.out _ hH).1 s1 s2 s3 s4 AL m cL us (HK.out _ hH).2.1 HUL.out (by have := HUM.out; omega) (fun u hu => by have := HU3.out u hu; omega)).mono ?_
 rintro e V1 ⟨h, us', rfl, hh, hrow, hlen, htx, hb⟩
 have HHH := Lib.hid (show W.heap.size ≤ h from Nat.le_trans hH.size hh)
 have HRW := Lib.hid hrow
 have HLEN := Lib.hid hlen
 have HTX := Lib.hid htx
 replace hH := hH.trans (hb.mono hH.size)
 clear hb hh hrow hlen htx
 go_wp2_with fail
 refine hKq.out _ _ (.inr hH) ?_
 clear hKq Kq
 try simp only [Act.put, lay_]
 refine tk_ 3 (.agg #[.slice A n c, .slice A1 nv c1, .int .i64 most, .bool true, .int .i64 s1, .int .i64 s2, .int .i64 s3, .int .i64 s4, .slice (some ⟨h, 0, none⟩) m m]) [] rfl hH ?_ ?_
 ·intro V hV; go_simp
 try simp only [Act.put, lay_]
 refine wpAnyN_one (i := 4) (by kernel_rfl) rfl (fun Kq hKq => ?_)
 have hbz : Below V1.heap.size V1 (V1.alloc (.cells #[.slice A n c, .slice A1 nv c1, .int .i64 most, .bool true, .int .i64 s1, .int .i64 s2, .int .i64 s3, .int .i64 s4, .slice (some ⟨h, 0, none⟩) m m] 54)) := (Below.refl _ _).alloc (Nat.le_refl _) _
 have HCR := Lib.hid (Cel.new V1 54 [.slice A n c, .slice A1 nv c1, .int .i64 most, .bool true, .int .i64 s1, .int .i64 s2, .int .i64 s3, .int .i64 s4, .slice (some ⟨h, 0, none⟩) m m])
 go_simp
 refine hKq.out _ _ (.inr (hH.trans (hbz.mono hH.size))) ?_
 clear hKq Kq
 try simp only [Act.put, lay_]
 have HZV := Lib.hid hH.size
 replace hH := hH.trans (hbz.mono hH.size)
 have HR5 := Lib.hid (HRW.out.below hbz)
 obtain ⟨W5, hW5⟩ : ∃ U, U = V1.alloc (.cells #[.slice A n c, .slice A1 nv c1, .int .i64 most, .bool true, .int .i64 s1, .int .i64 s2, .int .i64 s3, .int .i64 s4, .slice (some ⟨h, 0, none⟩) m m] 54) := ⟨_, rfl⟩
 rw [← hW5] at hH HR5 HCR ⊢
 clear hW5 hbz
 generalize V1.heap.size = g at *
 refine tk_ 5 (.pointer (some ⟨g, 0, none⟩)) [] rfl hH ?_ ?_
 ·intro V hV; go_simp
 try simp only [Act.put, lay_]
 refine wpAnyN_done (by kernel_rfl) ?_ _
 have HH5 := Lib.hid hH
 have HBV := Lib.hid (HBW.out.trans (hH.mono HBW.out.size))
 have HRUN : Hid (RunIs W5 W.heap.size g A n c A1 nv c1 most ⟨s1, s2, s3, s4, txt us⟩) := Lib.hid ⟨h, m, us', HHH.out, by rw [HLEN.out]; exact HCR.out, HR5.out, HTX.out⟩
 have kv := HCC.out.below hH HCC.out.lt
 have r0 : W5.cell? ⟨w.heap.size + 1 + 1, 0, none⟩ = some (.int .i64 v.r.kind) := kv.cell 0
 have r1 : W5.cell? ⟨w.heap.size + 1 + 1, 1, none⟩ = some (.int .i64 v.r.s.step) := kv.cell 1
 have r2 : W5.cell? ⟨w.heap.size + 1 + 1, 2, none⟩ = some (.int .i64 v.r.s.visit) := kv.cell 2
 have r3 : W5.cell? ⟨w.heap.size + 1 + 1, 3, none⟩ = some (.int .i64 v.r.s.tries) := kv.cell 3
 have r4 : W5.cell? ⟨w.heap.size + 1 + 1, 4, none⟩ = some (.int .i64 v.r.s.off) := kv.cell 4
 have r5 : W5.cell? ⟨w.heap.size + 1 + 1, 5, none⟩ = some (.slice v.AL v.vs.length v.cL) := kv.cell 5
 have r6 : W5.cell? ⟨w.heap.size + 1 + 1, 6, none⟩ = some (.int .i64 v.r.visit) := kv.cell 6
 have r7 : W5.cell? ⟨w.heap.size + 1 + 1, 7, none⟩ = some (.int .i64 v.r.step) := kv.cell 7
 have r8 : W5.cell? ⟨w.heap.size + 1 + 1, 8, none⟩ = some (.int .i64 v.r.try_) := kv.cell 8
 have r9 : W5.cell? ⟨w.heap.size + 1 + 1, 9, none⟩ = some (.int .i64 v.r.to) := kv.cell 9
 have r10 : W5.cell? ⟨w.heap.size + 1 + 1, 10, none⟩ = some (.int .i64 v.r.off) := kv.cell 10
 have r11 : W5.cell? ⟨w.heap.size + 1 + 1, 11, none⟩ = some (.int .i64 v.r.var) := kv.cell 11
 have r12 : W5.cell? ⟨w.heap.size + 1 + 1, 12, none⟩ = some (.slice v.AV v.r.value.length v.cV) := kv.cell 12
 clear kv hH
 have con := Rec.pmay_ W5 K v (HK.out _ HH5.out).2.2.2.1 (HK.out _ HH5.out).2.2.2.2 (HK.out _ HH5.out).1
 obtain ⟨b, hb⟩ : ∃ b, b = may v.r := ⟨_, rfl⟩
 rw [← hb] at con
 have HMY := Lib.hid hb
 clear hb
 rw [show v.cells.toArray = #[.int .i64 v.r.kind, .int .i64 v.r.s.step, .int .i64 v.r.s.visit, .int .i64 v.r.s.tries, .int .i64 v.r.s.off, .slice v.AL v.vs.length v.cL, .int .i64 v.r.visit, .int .i64 v.r.step, .int .i64 v.r.try_, .int .i64 v.r.to, .int .i64 v.r.off, .int .i64 v.r.var, .slice v.AV v.r.value.length v.cV] from rfl] at con
 go_wp2_with fail
 refine con.mono ?_
 clear con
 clear r0 r1 r2 r3 r4 r5 r6 r7 r8 r9 r10 r11 r12
 rintro e W6 ⟨rfl, hb6⟩
 have HH6 := Lib.hid (HH5.out.trans (hb6.mono HH5.out.size))
 have HRUN6 := Lib.hid (HRUN.out.below hb6)
 clear hb6
 cases b with
 | false =>
  have kz := HCD.out.below HH6.out HCD.out.lt
  have z0 : W6.cell? ⟨w.heap.size + 1 + 1 + 1, 0, none⟩ = some (.int .i64 0) := kz.cell 0
  have z1 : W6.cell? ⟨w.heap.size + 1 + 1 + 1, 1, none⟩ = some (.int .i64 0) := kz.cell 1
  have z2 : W6.cell? ⟨w.heap.size + 1 + 1 + 1, 2, none⟩ = some (.int .i64 0) := kz.cell 2
  have z3 : W6.cell? ⟨w.heap.size + 1 + 1 + 1, 3, none⟩ = some (.int .i64 0) := kz.cell 3
  have z4 : W6.cell? ⟨w.heap.size + 1 + 1 + 1, 4, none⟩ = some (.slice none 0 0) := kz.cell 4
  have y0 := kz.free 0
  have y1 := kz.free 1
  have y2 := kz.free 2
  have y3 := kz.free 3
  have y4 := kz.free 4
  clear kz
  have HF := Lib.hid (fw5_frm W6 (w.heap.size + 1 + 1 + 1) (.int .i64 0) (.int .i64 0) (.int .i64 0) (.int .i64 0) (.slice none 0 0))
  have HX := Lib.hid (fw5_cel (a := .int .i64 0) (b := .int .i64 0) (c := .int .i64 0) (d := .int .i64 0) (e := .slice none 0 0) (HCD.out.below HH6.out HCD.out.lt))
  go_wp2_with fail
  refine bodyPost_ret (v := .tuple #[stval 0 0 0 0 none 0 0, .int .i64 7]) (Rec.results_recget 6 31 7 Try.results13 ⟨w.heap.size + 1 + 1 + 1, 0, none⟩ rfl _ _ rfl (load_st HX.out)) rfl ?_
  exact pn_no (by rw [HQ.out]; unfold nextR; rw [← HMY.out]; simp) ((HBW.out.trans (HH6.out.mono HBW.out.size)).trans (HF.out.below (by have := HBW.out.size; have := HH6.out.size; omega) (by intro k hk; simp at hk; omega)))
 | true =>
  have kv := HCC.out.below HH6.out HCC.out.lt
  have r0 : W6.cell? ⟨w.heap.size + 1 + 1, 0, none⟩ = some (.int .i64 v.r.kind) := kv.cell 0
  have r1 : W6.cell? ⟨w.heap.size + 1 + 1, 1, none⟩ = some (.int .i64 v.r.s.step) := kv.cell 1
  have r2 : W6.cell? ⟨w.heap.size + 1 + 1, 2, none⟩ = some (.int .i64 v.r.s.visit) := kv.cell 2
  have r3 : W6.cell? ⟨w.heap.size + 1 + 1, 3, none⟩ = some (.int .i64 v.r.s.tries) := kv.cell 3
  have r4 : W6.cell? ⟨w.heap.size + 1 + 1, 4, none⟩ = some (.int .i64 v.r.s.off) := kv.cell 4
  have r5 : W6.cell? ⟨w.heap.size + 1 + 1, 5, none⟩ = some (.slice v.AL v.vs.length v.cL) := kv.cell 5
  have r6 : W6.cell? ⟨w.heap.size + 1 + 1, 6, none⟩ = some (.int .i64 v.r.visit) := kv.cell 6
  have r7 : W6.cell? ⟨w.heap.size + 1 + 1, 7, none⟩ = some (.int .i64 v.r.step) := kv.cell 7
  have r8 : W6.cell? ⟨w.heap.size + 1 + 1, 8, none⟩ = some (.int .i64 v.r.try_) := kv.cell 8
  have r9 : W6.cell? ⟨w.heap.size + 1 + 1, 9, none⟩ = some (.int .i64 v.r.to) := kv.cell 9
  have r10 : W6.cell? ⟨w.heap.size + 1 + 1, 10, none⟩ = some (.int .i64 v.r.off) := kv.cell 10
  have r11 : W6.cell? ⟨w.heap.size + 1 + 1, 11, none⟩ = some (.int .i64 v.r.var) := kv.cell 11
  have r12 : W6.cell? ⟨w.heap.size + 1 + 1, 12, none⟩ = some (.slice v.AV v.r.value.length v.cV) := kv.cell 12
  clear kv
  have con := meet_on W6 W.heap.size g A n c A1 nv c1 most K (by have := HSZ.out; have := HKW.out; omega) HZV.out _ HRUN6.out vs (HK.out _ HH6.out).2.2.1 HFIT.out H2.out H3.out (by show (txt us).length ≤ 1000; unfold txt; rw [List.length_map, HUL.out]; have := HUM.out; omega) v (HK.out _ HH6.out).2.2.2.1 HMY.out.symm
  rw [← HQ.out] at con
  rw [show v.cells.toArray = #[.int .i64 v.r.kind, .int .i64 v.r.s.step, .int .i64 v.r.s.visit, .int .i64 v.r.s.tries, .int .i64 v.r.s.off, .slice v.AL v.vs.length v.cL, .int .i64 v.r.visit, .int .i64 v.r.step, .int .i64 v.r.try_, .int .i64 v.r.to, .int .i64 v.r.off, .int .i64 v.r.var, .slice v.AV v.r.value.length v.cV] from rfl] at con
  go_wp2_with fail
  refine con.mono ?_
  clear con
  clear r0 r1 r2 r3 r4 r5 r6 r7 r8 r9 r10 r11 r12
  rintro e W7 ⟨b, rfl, hb7, hno, hyes⟩
  have HH7 := Lib.hid (HH6.out.trans hb7)
  have HNO := Lib.hid (fun q => (hno q).1)
  have HYES := Lib.hid hyes
  clear hb7 hno hyes
  cases b with
  | false =>
   have kz := HCD.out.below HH7.out HCD.out.lt
   have z0 : W7.cell? ⟨w.heap.size + 1 + 1 + 1, 0, none⟩ = some (.int .i64 0) := kz.cell 0
   have z1 : W7.cell? ⟨w.heap.size + 1 + 1 + 1, 1, none⟩ = some (.int .i64 0) := kz.cell 1
   have z2 : W7.cell? ⟨w.heap.size + 1 + 1 + 1, 2, none⟩ = some (.int .i64 0) := kz.cell 2
   have z3 : W7.cell? ⟨w.heap.size + 1 + 1 + 1, 3, none⟩ = some (.int .i64 0) := kz.cell 3
   have z4 : W7.cell? ⟨w.heap.size + 1 + 1 + 1, 4, none⟩ = some (.slice none 0 0) := kz.cell 4
   have y0 := kz.free 0
   have y1 := kz.free 1
   have y2 := kz.free 2
   have y3 := kz.free 3
   have y4 := kz.free 4
   clear kz
   have HF := Lib.hid (fw5_frm W7 (w.heap.size + 1 + 1 + 1) (.int .i64 0) (.int .i64 0) (.int .i64 0) (.int .i64 0) (.slice none 0 0))
   have HX := Lib.hid (fw5_cel (a := .int .i64 0) (b := .int .i64 0) (c := .int .i64 0) (d := .int .i64 0) (e := .slice none 0 0) (HCD.out.below HH7.out HCD.out.lt))
   go_wp2_with fail
   refine bodyPost_ret (v := .tuple #[stval 0 0 0 0 none 0 0, .int .i64 7]) (Rec.results_recget 6 31 7 Try.results13 ⟨w.heap.size + 1 + 1 + 1, 0, none⟩ rfl _ _ rfl (load_st HX.out)) rfl ?_
   exact pn_no (by first | exact HNO.out rfl | exact HNO.out trivial) ((HBW.out.trans (HH7.out.mono HBW.out.size)).trans (HF.out.below (by have := HBW.out.size; have := HH7.out.size; omega) (by intro k hk; simp at hk; omega)))
  | true =>
   obtain ⟨t, hQt, h', cL', us2, hh', hc', hr', hx'⟩ := (by first | exact HYES.out rfl | exact HYES.out trivial)
   have k4 : W7.cell? ⟨g, 4, none⟩ = some (.int .i64 t.step) := hc'.cell 4
   have k5 : W7.cell? ⟨g, 5, none⟩ = some (.int .i64 t.visit) := hc'.cell 5
   have k6 : W7.cell? ⟨g, 6, none⟩ = some (.int .i64 t.tries) := hc'.cell 6
   have k7 : W7.cell? ⟨g, 7, none⟩ = some (.int .i64 t.off) := hc'.cell 7
   have k8 : W7.cell? ⟨g, 8, none⟩ = some (.slice (some ⟨h', 0, none⟩) us2.length cL') := hc'.cell 8
   have kz := HCD.out.below HH7.out HCD.out.lt
   have z0 : W7.cell? ⟨w.heap.size + 1 + 1 + 1, 0, none⟩ = some (.int .i64 0) := kz.cell 0
   have z1 : W7.cell? ⟨w.heap.size + 1 + 1 + 1, 1, none⟩ = some (.int .i64 0) := kz.cell 1
   have z2 : W7.cell? ⟨w.heap.size + 1 + 1 + 1, 2, none⟩ = some (.int .i64 0) := kz.cell 2
   have z3 : W7.cell? ⟨w.heap.size + 1 + 1 + 1, 3, none⟩ = some (.int .i64 0) := kz.cell 3
   have z4 : W7.cell? ⟨w.heap.size + 1 + 1 + 1, 4, none⟩ = some (.slice none 0 0) := kz.cell 4
   have y0 := kz.free 0
   have y1 := kz.free 1
   have y2 := kz.free 2
   have y3 := kz.free 3
   have y4 := kz.free 4
   clear kz
   have HF7 := Lib.hid (fw5_frm W7 (w.heap.size + 1 + 1 + 1) (.int .i64 t.step) (.int .i64 t.visit) (.int .i64 t.tries) (.int .i64 t.off) (.slice (some ⟨h', 0, none⟩) us2.length cL'))
   have HX7 := Lib.hid (fw5_cel (a := .int .i64 t.step) (b := .int .i64 t.visit) (c := .int .i64 t.tries) (d := .int .i64 t.off) (e := .slice (some ⟨h', 0, none⟩) us2.length cL') (HCD.out.below HH7.out HCD.out.lt))
   have HQT := Lib.hid hQt
   have HR7 := Lib.hid hr'
   have HTX7 := Lib.hid hx'
   have HHH7 := Lib.hid (show h' ≠ w.heap.size + 1 + 1 + 1 by have := HSZ.out; omega)
   clear hQt hc' hr' hx' hh'
   go_wp2_with fail
   refine bodyPost_ret (v := .tuple #[stval t.step t.visit t.tries t.off (some ⟨h', 0, none⟩) us2.length cL', .int .i64 0]) (Rec.results_recget 6 31 7 Try.results13 ⟨w.heap.size + 1 + 1 + 1, 0, none⟩ rfl _ _ rfl (load_st HX7.out)) rfl ?_
   exact pn_yes HQT.out ((HBW.out.trans (HH7.out.mono HBW.out.size)).trans (HF7.out.below (by have := HBW.out.size; have := HH7.out.size; omega) (by intro k hk; simp at hk; omega))) (run_says HR7.out HTX7.out HF7.out (by simpa using HHH7.out) (fun k hk => by simp at hk; subst hk; exact (HCD.out.below HH7.out HCD.out.lt).not_ty (by decide)))
end Go.Proofs.Ytfmkkklcgiaacaa.Fold
end
section
namespace Go.Proofs.Ytfmkkklcgiaacaa.Ord
open Go.RowKit
section
variable {P : Program} {ops : Array Oper} {Q : Exit → Act → World → Prop} {md : Region.Mode} {S : World → Prop} {N : List Nat}
theorem wpAnyN_two {i j : Nat} {oi oj : Oper} {fuel : Nat} {listed : Array Bool} {a : Act} {w : World} (hr : Region.ready md ops listed = [i, j]) (hi : ops[i]? = some oi) (hj : ops[j]? = some oj)
  (h1 : ∀ K' : Act → World → Prop, Shut (∀ a w, (i ∈ N ∨ S w) → wpAnyN P md ops Q S N fuel (listed.setIfInBounds i true) a w → K' a w) → if Region.wanted oi (yielded ops a.tmps) = true then Oper.wp P oi a w K' Q else K' (a.put oi.dst undef) w)
  (h2 : ∀ K' : Act → World → Prop, Shut (∀ a w, (j ∈ N ∨ S w) → wpAnyN P md ops Q S N fuel (listed.setIfInBounds j true) a w → K' a w) → if Region.wanted oj (yielded ops a.tmps) = true then Oper.wp P oj a w K' Q else K' (a.put oj.dst undef) w) :
  wpAnyN P md ops Q S N (fuel + 1) listed a w :=
 ⟨fun h0 => (by rw [hr] at h0; cases h0), fun k hk => by
  rw [hr] at hk
  simp only [List.mem_cons, List.not_mem_nil, or_false] at hk
  rcases hk with rfl | rfl
  ·exact wpOp_step hi (fun K' hK => h1 K' (fun a w hS hW => hK a w ⟨fun hn => hS.resolve_left hn, hW⟩))
  ·exact wpOp_step hj (fun K' hK => h2 K' (fun a w hS hW => hK a w ⟨fun hn => hS.resolve_left hn, hW⟩))⟩
end
end Go.Proofs.Ytfmkkklcgiaacaa.Ord
end
