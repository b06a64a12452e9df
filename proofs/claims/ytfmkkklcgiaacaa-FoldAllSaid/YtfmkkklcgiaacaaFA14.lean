/-
The program's fold (layer 16): a possible outcome changes the state. (Written by gen_foldpleave.py.)
-/
import Derived.Test.YtfmkkklcgiaacaaFA0
import Derived.Test.YtfmkkklcgiaacaaFA1
import Derived.Test.YtfmkkklcgiaacaaFA2
import Derived.Test.YtfmkkklcgiaacaaFA3
import Derived.Test.YtfmkkklcgiaacaaFA4
import Derived.Test.YtfmkkklcgiaacaaFA10
import Derived.Test.YtfmkkklcgiaacaaFA13
set_option linter.unusedVariables false
set_option linter.unusedSimpArgs false
set_option maxRecDepth 100000
set_option maxHeartbeats 4000000
namespace Go.Proofs.Ytfmkkklcgiaacaa.Fold
open Go.RowKit Go.Proofs.Ytfmkkklcgiaacaa.Ord
open Lex (Tx)
open Rec (Stt Rc Rv Rok Vt Tvs Trow txt)
def fr4 (W : World) (g : Nat) (a b c d : Value) : World := (((W.setCell ⟨g, 4, none⟩ a).setCell ⟨g, 5, none⟩ b).setCell ⟨g, 6, none⟩ c).setCell ⟨g, 7, none⟩ d
def fr3 (W : World) (g : Nat) (b c d : Value) : World := ((W.setCell ⟨g, 5, none⟩ b).setCell ⟨g, 6, none⟩ c).setCell ⟨g, 7, none⟩ d
section
variable {W : World} {g : Nat} {t : TypeId} {x0 x1 x2 x3 x4 x5 x6 x7 x8 : Value}
theorem fr4_cel (h : Cel W g t [x0, x1, x2, x3, x4, x5, x6, x7, x8]) (a b c d : Value) : Cel (fr4 W g a b c d) g t [x0, x1, x2, x3, a, b, c, d, x8] := (((h.set 4 a).set 5 b).set 6 c).set 7 d
theorem fr3_cel (h : Cel W g t [x0, x1, x2, x3, x4, x5, x6, x7, x8]) (b c d : Value) : Cel (fr3 W g b c d) g t [x0, x1, x2, x3, x4, b, c, d, x8] := ((h.set 5 b).set 6 c).set 7 d
theorem fr4_frm (W : World) (g : Nat) (a b c d : Value) : Frm [g] W (fr4 W g a b c d) := ((((Frm.refl [g] W).set (p := ⟨g, 4, none⟩) (by simp) a).set (p := ⟨g, 5, none⟩) (by simp) b).set (p := ⟨g, 6, none⟩) (by simp) c).set (p := ⟨g, 7, none⟩) (by simp) d
theorem fr3_frm (W : World) (g : Nat) (b c d : Value) : Frm [g] W (fr3 W g b c d) := (((Frm.refl [g] W).set (p := ⟨g, 5, none⟩) (by simp) b).set (p := ⟨g, 6, none⟩) (by simp) c).set (p := ⟨g, 7, none⟩) (by simp) d
end
def LvSays (w : World) (g h : Nat) (A : Option Addr) (n c : Nat) (A1 : Option Addr) (nv c1 : Nat) (most : Int) (bg : Bool) (t : Stt) (m cL : Nat) (e : Ending) (w' : World) : Prop :=
 e = .returned (.tuple #[]) ∧ Frm [g, h] w w' ∧ ∃ us, Cel w' g 54 (rcells A n c A1 nv c1 most bg t.step t.visit t.tries t.off (some ⟨h, 0, none⟩) m cL) ∧ Rrow w' h us ∧ us.length = m ∧ txt us = t.vars
theorem goR_form (b : Bok) (s : Stt) (to_ off v : Int) (x : List B) (hto : -3 ≤ to_) (d : Bool) (hd : d = ((s.visit == b.most) && !endB to_)) : goR b s to_ off v x = ⟨if d = true then -2 else to_, s.visit + 1, 0, off, setV s.vars v x⟩ := by
 unfold goR
 congr 1
 have he : endB to_ = true ↔ to_ < 0 := by rw [endB_iff]; omega
 by_cases h1 : 0 ≤ to_
 ·have : endB to_ = false := by cases q : endB to_ with
   | false => rfl
   | true => have := he.1 q; omega
  rw [hd, this]
  by_cases h2 : s.visit = b.most
  ·rw [if_pos ⟨h1, h2⟩, if_pos (by simp [h2])]
  ·rw [if_neg (fun q => h2 q.2), if_neg (by simp [h2])]
 ·rw [if_neg (fun q => h1 q.1), hd, he.2 (by omega), if_neg (by simp)]
section
variable (w : World) (g h K : Nat) (A : Option Addr) (n c : Nat) (A1 : Option Addr) (nv c1 : Nat) (most : Int) (bg : Bool) (s1 s2 s3 s4 : Int) (m cL : Nat)
theorem leave_ (hc : Cel w g 54 (rcells A n c A1 nv c1 most bg s1 s2 s3 s4 (some ⟨h, 0, none⟩) m cL)) (us : List Vt) (hr : Rrow w h us) (hl : us.length = m) (hm : m ≤ 100000) (hs2 : 1 ≤ s2 ∧ s2 ≤ 1000000) (v : Rv) (hv : Tx w K v.AV v.r.value) (hvl : v.r.value.length ≤ 1000) (hK : K ≤ g ∧ K ≤ h) (hto : -3 ≤ v.r.to) (hva : -1 ≤ v.r.var ∧ v.r.var < (m : Int)) (b : Bok) (hb : b.most = most) :
  Calls Try.prog 65 #[pp g 0, .agg v.cells.toArray] w (LvSays w g h A n c A1 nv c1 most bg (goR b ⟨s1, s2, s3, s4, txt us⟩ v.r.to v.r.off v.r.var v.r.value) m cL) := by
 have hne : h ≠ g := hr.row.ne hc (by decide)
 obtain ⟨W1, hW1⟩ : ∃ W, W = w.alloc (.cells v.cells.toArray 42) := ⟨_, rfl⟩
 have hb1 : Below w.heap.size w W1 := by rw [hW1]; exact (Below.refl _ _).alloc (Nat.le_refl _) _
 have hv1 : Cel W1 w.heap.size 42 v.cells := by rw [hW1]; exact Cel.new w _ _
 have hc1 := hc.below hb1 hc.lt
 have k4 := hc1.cell 4
 have f4 := hc1.free 4
 have r9 : W1.cell? ⟨w.heap.size, 9, none⟩ = some (.int .i64 v.r.to) := hv1.cell 9
 obtain ⟨W2, hW2⟩ : ∃ W, W = W1.setCell ⟨g, 4, none⟩ (.int .i64 v.r.to) := ⟨_, rfl⟩
 have hf12 : Frm [g] W1 W2 := by rw [hW2]; exact (Frm.refl _ _).set (by simp) _
 have hgw : g ≠ w.heap.size := Nat.ne_of_lt hc.lt
 have hhw : h ≠ w.heap.size := Nat.ne_of_lt hr.row.lt
 have hf2 : Frm [g] w W2 := (Frm.of_below hb1).trans hf12
 obtain ⟨W, hW⟩ : ∃ W, W = W2.drew := ⟨_, rfl⟩
 have HG := Lib.hid (show Frm [g] w W by rw [hW]; exact hf2.drew)
 have HC := Lib.hid (show Cel W g 54 (rcells A n c A1 nv c1 most bg v.r.to s2 s3 s4 (some ⟨h, 0, none⟩) m cL) by rw [hW, hW2]; exact (hc1.set 4 _).drew)
 have HV := Lib.hid (show Cel W w.heap.size 42 v.cells by rw [hW]; exact (hv1.frm hf12 (by simp; exact fun e => hgw e.symm)).drew)
 have hgl : ∀ k ∈ [g], ∀ cs fz, w.heap[k]? ≠ some (Obj.cells cs 5 fz) := fun k hk => by
  simp at hk
  subst hk
  exact hc.not_ty (by decide)
 have HR := Lib.hid (show Rrow W h us from hr.frm HG.out (by simpa using hne) hgl)
 have HX := Lib.hid (show Tx W K v.AV v.r.value from tx_frm hv HG.out fun k hk => ⟨by simp at hk; subst hk; exact hK.1, hgl k hk⟩)
 have HKK := Lib.hid hK
 have HL := Lib.hid hl
 have HVL := Lib.hid hvl
 have HNE := Lib.hid hne
 have HGW := Lib.hid hgw
 have HTO := Lib.hid hto
 have HB := Lib.hid hb
 have HGS := Lib.hid hc.lt
 have HRL := Lib.hid hr.row.lt
 obtain ⟨b1, hb_1⟩ : ∃ b, b = endB v.r.to := ⟨_, rfl⟩
 have E1 := Lib.hid hb_1
 have w3 : wrap64 (s2 + 1) = s2 + 1 := by unfold wrap64; omega
 have w4 : IntKind.i64.wrap (s2 + 1) = s2 + 1 := by rw [IntKind.wrap_i64]; omega
 clear hc hr hl hv hvl hb1 hv1 hc1 hf12 hf2 hgl hb_1 hne hgw hhw hto hb hK
 go_enter Try.func65, Try.ntmps65
 have HW2 := Lib.hid hW2
 clear hW2
 go_upto_region 1 with fail
 rw [← hW1]
 clear hW1
 go_upto_region 3 with fail
 rw [← HW2.out]
 clear k4 f4 r9 HW2
 refine wp_region_N [] (fun V => Below W.heap.size W V) (by kernel_rfl) ?_
 rw [← hW]
 have hH : Below W.heap.size W W := Below.refl _ _
 clear hW
 refine tk_ 0 (.pointer (some ⟨g, 4, none⟩)) [] rfl hH ?_ ?_
 ·intro V hV; go_simp
 try simp only [Act.put, lay_]
 refine tk_ 1 (.pointer (some ⟨g, 4, none⟩)) [] rfl hH ?_ ?_
 ·intro V hV; go_simp
 try simp only [Act.put, lay_]
 refine tk_ 2 (.pointer (some ⟨g, 5, none⟩)) [] rfl hH ?_ ?_
 ·intro V hV; go_simp
 try simp only [Act.put, lay_]
 refine tk_ 3 (.int .i64 s2) [] rfl hH ?_ ?_
 ·intro V hV; have hc := HC.out.below hV HC.out.lt; have k0 : V.cell? ⟨g, 5, none⟩ = some (.int .i64 s2) := hc.cell 5; clear hc; go_simp
 try simp only [Act.put, lay_]
 refine tk_ 4 (.pointer (some ⟨g, 0, none⟩)) [] rfl hH ?_ ?_
 ·intro V hV; go_simp
 try simp only [Act.put, lay_]
 refine tk_ 5 (.pointer (some ⟨g, 0, none⟩)) [] rfl hH ?_ ?_
 ·intro V hV; go_simp
 try simp only [Act.put, lay_]
 refine tk_ 6 (.pointer (some ⟨g, 0, none⟩)) [] rfl hH ?_ ?_
 ·intro V hV; go_simp
 try simp only [Act.put, lay_]
 refine tk_ 7 (.pointer (some ⟨g, 2, none⟩)) [] rfl hH ?_ ?_
 ·intro V hV; go_simp
 try simp only [Act.put, lay_]
 refine tk_ 8 (.int .i64 most) [] rfl hH ?_ ?_
 ·intro V hV; have hc := HC.out.below hV HC.out.lt; have k0 : V.cell? ⟨g, 2, none⟩ = some (.int .i64 most) := hc.cell 2; clear hc; go_simp
 try simp only [Act.put, lay_]
 cases hz9 : (s2 == most) with
 | true =>
  refine tk_ 9 (.bool true) [] rfl hH ?_ ?_
  ·intro V hV; go_simp
  try simp only [Act.put, lay_]
  refine tk_ 10 (.bool true) [] rfl hH ?_ ?_
  ·intro V hV; go_simp
  try simp only [Act.put, lay_]
  refine tk_ 11 (.pointer (some ⟨w.heap.size, 9, none⟩)) [] rfl hH ?_ ?_
  ·intro V hV; go_simp
  try simp only [Act.put, lay_]
  refine tk_ 12 (.int .i64 v.r.to) [] rfl hH ?_ ?_
  ·intro V hV; have hc := HV.out.below hV HV.out.lt; have k0 : V.cell? ⟨w.heap.size, 9, none⟩ = some (.int .i64 v.r.to) := hc.cell 9; clear hc; go_simp
  try simp only [Act.put, lay_]
  refine wpAnyN_one (i := 13) (by kernel_rfl) rfl (fun Kq hKq => ?_)
  go_simp
  refine ((show Calls Try.prog 74 #[.int .i64 v.r.to] _ (fun e w' => e = .returned (.bool b1) ∧ _ = w') by rw [E1.out]; exact end_ _ v.r.to)).mono ?_
  rintro e V2 ⟨rfl, rfl⟩
  go_wp2_with fail
  refine hKq.out _ _ (.inr hH) ?_
  clear hKq Kq
  try simp only [Act.put, lay_]
  cases b1 with
  | true =>
   refine tk_ 14 (.bool false) [] rfl hH ?_ ?_
   ·intro V hV; go_simp
   try simp only [Act.put, lay_]
   refine tk_ 15 (.bool false) [] rfl hH ?_ ?_
   ·intro V hV; go_simp
   try simp only [Act.put, lay_]
   refine wpAnyN_done (by kernel_rfl) ?_ _
   have k4 := HC.out.cell 4
   have k5 := HC.out.cell 5
   have k6 := HC.out.cell 6
   have k7 := HC.out.cell 7
   have f4 := HC.out.free 4
   have f5 := HC.out.free 5
   have f6 := HC.out.free 6
   have f7 := HC.out.free 7
   have r10 : W.cell? ⟨w.heap.size, 10, none⟩ = some (.int .i64 v.r.off) := HV.out.cell 10
   have r11 : W.cell? ⟨w.heap.size, 11, none⟩ = some (.int .i64 v.r.var) := HV.out.cell 11
   have hne2 : g ≠ w.heap.size := HGW.out
   have HCN := Lib.hid (fr3_cel HC.out (.int .i64 (s2 + 1)) (.int .i64 0) (.int .i64 v.r.off))
   have HFN := Lib.hid (fr3_frm W g (.int .i64 (s2 + 1)) (.int .i64 0) (.int .i64 v.r.off))
   have HGF := Lib.hid (HG.out.trans HFN.out)
   have HRN := Lib.hid (HR.out.frm HFN.out (by simpa using HNE.out) (fun k hk => by simp at hk; subst hk; exact HC.out.not_ty (by decide)))
   have HGO := Lib.hid (goR_form b ⟨s1, s2, s3, s4, txt us⟩ v.r.to v.r.off v.r.var v.r.value HTO.out false (by rw [← E1.out, HB.out]; dsimp only; rw [hz9]; rfl))
   cases zv : (v.r.var == -1) with
   | true =>
    have HVN := Lib.hid (show v.r.var < 0 by have : v.r.var = -1 := by simpa using zv
                                             omega)
    go_wp2_with fail
    go_end0
    refine ⟨rfl, HGF.out.mono (by intro k hk _; simp at hk; simp [hk]), us, ?_, HRN.out, HL.out, ?_⟩
    ·rw [HGO.out]; exact HCN.out
    ·rw [HGO.out]; exact (txt_none us HVN.out _).symm
   | false =>
    obtain ⟨i, hi⟩ : ∃ i : Nat, v.r.var = (i : Int) := ⟨v.r.var.toNat, by have : v.r.var ≠ -1 := by simpa using zv
                                                                          omega⟩
    have him : i < m := by omega
    go_upto_region 9 with fail
    obtain ⟨ad, had⟩ : ∃ ad : Addr, ad = ⟨h, 0, none⟩ := ⟨_, rfl⟩
    obtain ⟨W6, hW6⟩ : ∃ U, U = (((W.setCell ⟨g, 5, none⟩ (.int .i64 (s2 + 1))).setCell ⟨g, 6, none⟩ (.int .i64 0)).setCell ⟨g, 7, none⟩ (.int .i64 v.r.off)).drew := ⟨_, rfl⟩
    have HAD := Lib.hid had
    have HC6 := Lib.hid (show Cel W6 g 54 [.slice A n c, .slice A1 nv c1, .int .i64 most, .bool bg, .int .i64 v.r.to, .int .i64 (s2 + 1), .int .i64 0, .int .i64 v.r.off, .slice (some ad) m cL] by rw [hW6, had]; exact HCN.out.drew)
    have HF6 := Lib.hid (show Frm [g] W W6 by rw [hW6]; exact HFN.out.drew)
    have HR6 := Lib.hid (show Rrow W6 h us by rw [hW6]; exact HRN.out.below (Below.refl _ _).drew)
    have HV6 := Lib.hid (show Cel W6 w.heap.size 42 [.int .i64 v.r.kind, .int .i64 v.r.s.step, .int .i64 v.r.s.visit, .int .i64 v.r.s.tries, .int .i64 v.r.s.off, .slice v.AL v.vs.length v.cL, .int .i64 v.r.visit, .int .i64 v.r.step, .int .i64 v.r.try_, .int .i64 v.r.to, .int .i64 v.r.off, .int .i64 (i : Int), .slice v.AV v.r.value.length v.cV] by rw [← hi]; exact HV.out.frm HF6.out (by simp; exact fun e => HGW.out e.symm))
    have HX6 := Lib.hid (show ∀ V, Below W6.heap.size W6 V → K ≤ V.heap.size ∧ Tx V K v.AV v.r.value from fun V hV => by
     have h1 : K ≤ W6.heap.size := Nat.le_trans HKK.out.1 (Nat.le_of_lt HC6.out.lt)
     exact ⟨Nat.le_trans h1 hV.size, (tx_frm HX.out HF6.out (fun k hk => ⟨by simp at hk; subst hk; exact HKK.out.1, by simp at hk; subst hk; exact HC.out.not_ty (by decide)⟩)).below h1 hV⟩)
    have HI := Lib.hid hi
    clear k4 k5 k6 k7 f4 f5 f6 f7 r10 r11 hH zv hi had
    refine wp_region_N [10] (fun V => Below W6.heap.size W6 V) (by kernel_rfl) ?_
    rw [← hW6]
    have hH : Below W6.heap.size W6 W6 := Below.refl _ _
    clear hW6
    refine tk_ 0 (.pointer (some ⟨g, 4, none⟩)) [10] rfl hH ?_ ?_
    ·intro V hV; go_simp
    try simp only [Act.put, lay_]
    refine tk_ 1 (.pointer (some ⟨g, 4, none⟩)) [10] rfl hH ?_ ?_
    ·intro V hV; go_simp
    try simp only [Act.put, lay_]
    refine tk_ 2 (.pointer (some ⟨g, 8, none⟩)) [10] rfl hH ?_ ?_
    ·intro V hV; go_simp
    try simp only [Act.put, lay_]
    refine tk_ 3 (.slice (some ad) m cL) [10] rfl hH ?_ ?_
    ·intro V hV; have hc := HC6.out.below hV HC6.out.lt; have k0 : V.cell? ⟨g, 8, none⟩ = some (.slice (some ad) m cL) := hc.cell 8; clear hc; go_simp
    try simp only [Act.put, lay_]
    refine tk_ 4 (.pointer (some ⟨w.heap.size, 11, none⟩)) [10] rfl hH ?_ ?_
    ·intro V hV; go_simp
    try simp only [Act.put, lay_]
    refine tk_ 5 (.int .i64 (i : Int)) [10] rfl hH ?_ ?_
    ·intro V hV; have hc := HV6.out.below hV HV6.out.lt; have k0 : V.cell? ⟨w.heap.size, 11, none⟩ = some (.int .i64 (i : Int)) := hc.cell 11; clear hc; go_simp
    try simp only [Act.put, lay_]
    refine tk_ 6 (.pointer (some ⟨w.heap.size, 12, none⟩)) [10] rfl hH ?_ ?_
    ·intro V hV; go_simp
    try simp only [Act.put, lay_]
    refine tk_ 7 (.slice v.AV v.r.value.length v.cV) [10] rfl hH ?_ ?_
    ·intro V hV; have hc := HV6.out.below hV HV6.out.lt; have k0 : V.cell? ⟨w.heap.size, 12, none⟩ = some (.slice v.AV v.r.value.length v.cV) := hc.cell 12; clear hc; go_simp
    try simp only [Act.put, lay_]
    refine wpAnyN_one (i := 8) (by kernel_rfl) rfl (fun Kq hKq => ?_)
    go_simp
    refine (clone_ _ v.AV v.r.value.length v.cV v.r.value (tx_low (HX6.out _ hH).2 (HX6.out _ hH).1) (by have := HVL.out; omega)).mono ?_
    rintro e V1 ⟨A', c', rfl, hby, hb⟩
    have hrv := (HR6.out.below hH).below hb
    have HBY := Lib.hid hby
    replace hH := hH.trans (hb.mono hH.size)
    have HRV := Lib.hid hrv
    have kr : V1.cell? (ad.add i) = some (us[i]'(by rw [HL.out]; exact him)).cell := by rw [HAD.out, add_row, hrv.row.cell i, List.getElem?_map, List.getElem?_eq_getElem (by rw [HL.out]; exact him)]; rfl
    have fr : V1.frozen? (ad.add i) = false := by rw [HAD.out, add_row]; exact hrv.row.free i
    clear hb hby hrv
    go_wp2_with fail
    refine hKq.out _ _ (.inr hH) ?_
    clear hKq Kq
    try simp only [Act.put, lay_]
    refine tk_ 9 (.pointer (some (ad.add i))) [10] rfl hH ?_ ?_
    ·intro V hV; go_simp
    try simp only [Act.put, lay_]
    refine wpAnyN_one (i := 10) (by kernel_rfl) rfl (fun Kq hKq => ?_)
    go_simp
    refine hKq.out _ _ (.inl (by simp)) ?_
    clear hKq Kq
    refine wpAnyN_done (by kernel_rfl) ?_ _
    have HFZ := Lib.hid (show Frm [h] V1 (V1.setCell (ad.add i) (.slice A' v.r.value.length c')) by rw [HAD.out, add_row]; exact (Frm.refl _ _).set (by simp) _)
    have HRZ := Lib.hid (show Cel (V1.setCell (ad.add i) (.slice A' v.r.value.length c')) h 29 ((us.set i ⟨A', c', v.r.value⟩).map Vt.cell) by rw [HAD.out, add_row, List.map_set]; exact HRV.out.row.set i _)
    clear kr fr
    go_wp2_with fail
    go_end0
    have hgg : g < W6.heap.size := HC6.out.lt
    have hcz := (HC6.out.below hH hgg).frm HFZ.out (by simp; exact fun e => HNE.out e.symm)
    refine ⟨rfl, ?_, us.set i ⟨A', c', v.r.value⟩, ?_, ⟨HRZ.out, fun u hu => ?_⟩, by rw [List.length_set]; exact HL.out, ?_⟩
    ·exact (HG.out.mono (by intro k hk _; simp at hk; simp [hk])).trans ((HF6.out.mono (by intro k hk _; simp at hk; simp [hk])).trans ((Frm.of_below hH).trans (HFZ.out.mono (by intro k hk _; simp at hk; simp [hk]))))
    ·rw [HGO.out, ← HAD.out]; exact hcz
    ·have hkeep : ∀ (k : Nat) cs fz, V1.heap[k]? = some (Obj.cells cs 5 fz) → (V1.setCell (ad.add i) (.slice A' v.r.value.length c')).heap[k]? = V1.heap[k]? := fun k cs fz hk => HFZ.out.block k (Array.getElem?_eq_some_iff.1 hk).1 (fun hm => by
      simp at hm
      subst hm
      exact HRV.out.row.not_ty (by decide) cs fz hk)
     rcases List.mem_or_eq_of_mem_set hu with hu | rfl
     ·exact ⟨(HRV.out.tx u hu).1.keep hkeep, (HRV.out.tx u hu).2⟩
     ·exact ⟨HBY.out.keep hkeep, by have := HVL.out; unfold maxLen; dsimp only; omega⟩
    ·rw [HGO.out, txt_set us i _ (by rw [HL.out]; exact him)]
     show _ = setV (txt us) v.r.var v.r.value
     rw [HI.out]
  | false =>
   refine tk_ 14 (.bool true) [] rfl hH ?_ ?_
   ·intro V hV; go_simp
   try simp only [Act.put, lay_]
   refine tk_ 15 (.bool true) [] rfl hH ?_ ?_
   ·intro V hV; go_simp
   try simp only [Act.put, lay_]
   refine wpAnyN_done (by kernel_rfl) ?_ _
   have k4 := HC.out.cell 4
   have k5 := HC.out.cell 5
   have k6 := HC.out.cell 6
   have k7 := HC.out.cell 7
   have f4 := HC.out.free 4
   have f5 := HC.out.free 5
   have f6 := HC.out.free 6
   have f7 := HC.out.free 7
   have r10 : W.cell? ⟨w.heap.size, 10, none⟩ = some (.int .i64 v.r.off) := HV.out.cell 10
   have r11 : W.cell? ⟨w.heap.size, 11, none⟩ = some (.int .i64 v.r.var) := HV.out.cell 11
   have hne2 : g ≠ w.heap.size := HGW.out
   have HCN := Lib.hid (fr4_cel HC.out (.int .i64 (-2)) (.int .i64 (s2 + 1)) (.int .i64 0) (.int .i64 v.r.off))
   have HFN := Lib.hid (fr4_frm W g (.int .i64 (-2)) (.int .i64 (s2 + 1)) (.int .i64 0) (.int .i64 v.r.off))
   have HGF := Lib.hid (HG.out.trans HFN.out)
   have HRN := Lib.hid (HR.out.frm HFN.out (by simpa using HNE.out) (fun k hk => by simp at hk; subst hk; exact HC.out.not_ty (by decide)))
   have HGO := Lib.hid (goR_form b ⟨s1, s2, s3, s4, txt us⟩ v.r.to v.r.off v.r.var v.r.value HTO.out true (by rw [← E1.out, HB.out]; dsimp only; rw [hz9]; rfl))
   cases zv : (v.r.var == -1) with
   | true =>
    have HVN := Lib.hid (show v.r.var < 0 by have : v.r.var = -1 := by simpa using zv
                                             omega)
    go_wp2_with fail
    go_end0
    refine ⟨rfl, HGF.out.mono (by intro k hk _; simp at hk; simp [hk]), us, ?_, HRN.out, HL.out, ?_⟩
    ·rw [HGO.out]; exact HCN.out
    ·rw [HGO.out]; exact (txt_none us HVN.out _).symm
   | false =>
    obtain ⟨i, hi⟩ : ∃ i : Nat, v.r.var = (i : Int) := ⟨v.r.var.toNat, by have : v.r.var ≠ -1 := by simpa using zv
                                                                          omega⟩
    have him : i < m := by omega
    go_upto_region 9 with fail
    obtain ⟨ad, had⟩ : ∃ ad : Addr, ad = ⟨h, 0, none⟩ := ⟨_, rfl⟩
    obtain ⟨W6, hW6⟩ : ∃ U, U = ((((W.setCell ⟨g, 4, none⟩ (.int .i64 (-2))).setCell ⟨g, 5, none⟩ (.int .i64 (s2 + 1))).setCell ⟨g, 6, none⟩ (.int .i64 0)).setCell ⟨g, 7, none⟩ (.int .i64 v.r.off)).drew := ⟨_, rfl⟩
    have HAD := Lib.hid had
    have HC6 := Lib.hid (show Cel W6 g 54 [.slice A n c, .slice A1 nv c1, .int .i64 most, .bool bg, .int .i64 (-2), .int .i64 (s2 + 1), .int .i64 0, .int .i64 v.r.off, .slice (some ad) m cL] by rw [hW6, had]; exact HCN.out.drew)
    have HF6 := Lib.hid (show Frm [g] W W6 by rw [hW6]; exact HFN.out.drew)
    have HR6 := Lib.hid (show Rrow W6 h us by rw [hW6]; exact HRN.out.below (Below.refl _ _).drew)
    have HV6 := Lib.hid (show Cel W6 w.heap.size 42 [.int .i64 v.r.kind, .int .i64 v.r.s.step, .int .i64 v.r.s.visit, .int .i64 v.r.s.tries, .int .i64 v.r.s.off, .slice v.AL v.vs.length v.cL, .int .i64 v.r.visit, .int .i64 v.r.step, .int .i64 v.r.try_, .int .i64 v.r.to, .int .i64 v.r.off, .int .i64 (i : Int), .slice v.AV v.r.value.length v.cV] by rw [← hi]; exact HV.out.frm HF6.out (by simp; exact fun e => HGW.out e.symm))
    have HX6 := Lib.hid (show ∀ V, Below W6.heap.size W6 V → K ≤ V.heap.size ∧ Tx V K v.AV v.r.value from fun V hV => by
     have h1 : K ≤ W6.heap.size := Nat.le_trans HKK.out.1 (Nat.le_of_lt HC6.out.lt)
     exact ⟨Nat.le_trans h1 hV.size, (tx_frm HX.out HF6.out (fun k hk => ⟨by simp at hk; subst hk; exact HKK.out.1, by simp at hk; subst hk; exact HC.out.not_ty (by decide)⟩)).below h1 hV⟩)
    have HI := Lib.hid hi
    clear k4 k5 k6 k7 f4 f5 f6 f7 r10 r11 hH zv hi had
    refine wp_region_N [10] (fun V => Below W6.heap.size W6 V) (by kernel_rfl) ?_
    rw [← hW6]
    have hH : Below W6.heap.size W6 W6 := Below.refl _ _
    clear hW6
    refine tk_ 0 (.pointer (some ⟨g, 4, none⟩)) [10] rfl hH ?_ ?_
    ·intro V hV; go_simp
    try simp only [Act.put, lay_]
    refine tk_ 1 (.pointer (some ⟨g, 4, none⟩)) [10] rfl hH ?_ ?_
    ·intro V hV; go_simp
    try simp only [Act.put, lay_]
    refine tk_ 2 (.pointer (some ⟨g, 8, none⟩)) [10] rfl hH ?_ ?_
    ·intro V hV; go_simp
    try simp only [Act.put, lay_]
    refine tk_ 3 (.slice (some ad) m cL) [10] rfl hH ?_ ?_
    ·intro V hV; have hc := HC6.out.below hV HC6.out.lt; have k0 : V.cell? ⟨g, 8, none⟩ = some (.slice (some ad) m cL) := hc.cell 8; clear hc; go_simp
    try simp only [Act.put, lay_]
    refine tk_ 4 (.pointer (some ⟨w.heap.size, 11, none⟩)) [10] rfl hH ?_ ?_
    ·intro V hV; go_simp
    try simp only [Act.put, lay_]
    refine tk_ 5 (.int .i64 (i : Int)) [10] rfl hH ?_ ?_
    ·intro V hV; have hc := HV6.out.below hV HV6.out.lt; have k0 : V.cell? ⟨w.heap.size, 11, none⟩ = some (.int .i64 (i : Int)) := hc.cell 11; clear hc; go_simp
    try simp only [Act.put, lay_]
    refine tk_ 6 (.pointer (some ⟨w.heap.size, 12, none⟩)) [10] rfl hH ?_ ?_
    ·intro V hV; go_simp
    try simp only [Act.put, lay_]
    refine tk_ 7 (.slice v.AV v.r.value.length v.cV) [10] rfl hH ?_ ?_
    ·intro V hV; have hc := HV6.out.below hV HV6.out.lt; have k0 : V.cell? ⟨w.heap.size, 12, none⟩ = some (.slice v.AV v.r.value.length v.cV) := hc.cell 12; clear hc; go_simp
    try simp only [Act.put, lay_]
    refine wpAnyN_one (i := 8) (by kernel_rfl) rfl (fun Kq hKq => ?_)
    go_simp
    refine (clone_ _ v.AV v.r.value.length v.cV v.r.value (tx_low (HX6.out _ hH).2 (HX6.out _ hH).1) (by have := HVL.out; omega)).mono ?_
    rintro e V1 ⟨A', c', rfl, hby, hb⟩
    have hrv := (HR6.out.below hH).below hb
    have HBY := Lib.hid hby
    replace hH := hH.trans (hb.mono hH.size)
    have HRV := Lib.hid hrv
    have kr : V1.cell? (ad.add i) = some (us[i]'(by rw [HL.out]; exact him)).cell := by rw [HAD.out, add_row, hrv.row.cell i, List.getElem?_map, List.getElem?_eq_getElem (by rw [HL.out]; exact him)]; rfl
    have fr : V1.frozen? (ad.add i) = false := by rw [HAD.out, add_row]; exact hrv.row.free i
    clear hb hby hrv
    go_wp2_with fail
    refine hKq.out _ _ (.inr hH) ?_
    clear hKq Kq
    try simp only [Act.put, lay_]
    refine tk_ 9 (.pointer (some (ad.add i))) [10] rfl hH ?_ ?_
    ·intro V hV; go_simp
    try simp only [Act.put, lay_]
    refine wpAnyN_one (i := 10) (by kernel_rfl) rfl (fun Kq hKq => ?_)
    go_simp
    refine hKq.out _ _ (.inl (by simp)) ?_
    clear hKq Kq
    refine wpAnyN_done (by kernel_rfl) ?_ _
    have HFZ := Lib.hid (show Frm [h] V1 (V1.setCell (ad.add i) (.slice A' v.r.value.length c')) by rw [HAD.out, add_row]; exact (Frm.refl _ _).set (by simp) _)
    have HRZ := Lib.hid (show Cel (V1.setCell (ad.add i) (.slice A' v.r.value.length c')) h 29 ((us.set i ⟨A', c', v.r.value⟩).map Vt.cell) by rw [HAD.out, add_row, List.map_set]; exact HRV.out.row.set i _)
    clear kr fr
    go_wp2_with fail
    go_end0
    have hgg : g < W6.heap.size := HC6.out.lt
    have hcz := (HC6.out.below hH hgg).frm HFZ.out (by simp; exact fun e => HNE.out e.symm)
    refine ⟨rfl, ?_, us.set i ⟨A', c', v.r.value⟩, ?_, ⟨HRZ.out, fun u hu => ?_⟩, by rw [List.length_set]; exact HL.out, ?_⟩
    ·exact (HG.out.mono (by intro k hk _; simp at hk; simp [hk])).trans ((HF6.out.mono (by intro k hk _; simp at hk; simp [hk])).trans ((Frm.of_below hH).trans (HFZ.out.mono (by intro k hk _; simp at hk; simp [hk]))))
    ·rw [HGO.out, ← HAD.out]; exact hcz
    ·have hkeep : ∀ (k : Nat) cs fz, V1.heap[k]? = some (Obj.cells cs 5 fz) → (V1.setCell (ad.add i) (.slice A' v.r.value.length c')).heap[k]? = V1.heap[k]? := fun k cs fz hk => HFZ.out.block k (Array.getElem?_eq_some_iff.1 hk).1 (fun hm => by
      simp at hm
      subst hm
      exact HRV.out.row.not_ty (by decide) cs fz hk)
     rcases List.mem_or_eq_of_mem_set hu with hu | rfl
     ·exact ⟨(HRV.out.tx u hu).1.keep hkeep, (HRV.out.tx u hu).2⟩
     ·exact ⟨HBY.out.keep hkeep, by have := HVL.out; unfold maxLen; dsimp only; omega⟩
    ·rw [HGO.out, txt_set us i _ (by rw [HL.out]; exact him)]
     show _ = setV (txt us) v.r.var v.r.value
     rw [HI.out]
 | false =>
  refine tk_ 9 (.bool false) [] rfl hH ?_ ?_
  ·intro V hV; go_simp
  try simp only [Act.put, lay_]
  refine tk_ 10 (.bool false) [] rfl hH ?_ ?_
  ·intro V hV; go_simp
  try simp only [Act.put, lay_]
  refine wpAnyN_take (i := 11) (v := undef) [] (by kernel_rfl) rfl (by kernel_rfl) (by kernel_rfl) (by kernel_rfl) (fun _ _ _ h => h) (Or.inr ⟨by rfl, rfl⟩) hH ?_
  try simp only [Act.put, lay_]
  refine wpAnyN_take (i := 12) (v := undef) [] (by kernel_rfl) rfl (by kernel_rfl) (by kernel_rfl) (by kernel_rfl) (fun _ _ _ h => h) (Or.inr ⟨by rfl, rfl⟩) hH ?_
  try simp only [Act.put, lay_]
  refine wpAnyN_take (i := 13) (v := undef) [] (by kernel_rfl) rfl (by kernel_rfl) (by kernel_rfl) (by kernel_rfl) (fun _ _ _ h => h) (Or.inr ⟨by rfl, rfl⟩) hH ?_
  try simp only [Act.put, lay_]
  refine wpAnyN_take (i := 14) (v := undef) [] (by kernel_rfl) rfl (by kernel_rfl) (by kernel_rfl) (by kernel_rfl) (fun _ _ _ h => h) (Or.inr ⟨by rfl, rfl⟩) hH ?_
  try simp only [Act.put, lay_]
  refine tk_ 15 (.bool false) [] rfl hH ?_ ?_
  ·intro V hV; go_simp
  try simp only [Act.put, lay_]
  refine wpAnyN_done (by kernel_rfl) ?_ _
  have k4 := HC.out.cell 4
  have k5 := HC.out.cell 5
  have k6 := HC.out.cell 6
  have k7 := HC.out.cell 7
  have f4 := HC.out.free 4
  have f5 := HC.out.free 5
  have f6 := HC.out.free 6
  have f7 := HC.out.free 7
  have r10 : W.cell? ⟨w.heap.size, 10, none⟩ = some (.int .i64 v.r.off) := HV.out.cell 10
  have r11 : W.cell? ⟨w.heap.size, 11, none⟩ = some (.int .i64 v.r.var) := HV.out.cell 11
  have hne2 : g ≠ w.heap.size := HGW.out
  have HCN := Lib.hid (fr3_cel HC.out (.int .i64 (s2 + 1)) (.int .i64 0) (.int .i64 v.r.off))
  have HFN := Lib.hid (fr3_frm W g (.int .i64 (s2 + 1)) (.int .i64 0) (.int .i64 v.r.off))
  have HGF := Lib.hid (HG.out.trans HFN.out)
  have HRN := Lib.hid (HR.out.frm HFN.out (by simpa using HNE.out) (fun k hk => by simp at hk; subst hk; exact HC.out.not_ty (by decide)))
  have HGO := Lib.hid (goR_form b ⟨s1, s2, s3, s4, txt us⟩ v.r.to v.r.off v.r.var v.r.value HTO.out false (by rw [← E1.out, HB.out]; dsimp only; rw [hz9]; rfl))
  cases zv : (v.r.var == -1) with
  | true =>
   have HVN := Lib.hid (show v.r.var < 0 by have : v.r.var = -1 := by simpa using zv
                                            omega)
   go_wp2_with fail
   go_end0
   refine ⟨rfl, HGF.out.mono (by intro k hk _; simp at hk; simp [hk]), us, ?_, HRN.out, HL.out, ?_⟩
   ·rw [HGO.out]; exact HCN.out
   ·rw [HGO.out]; exact (txt_none us HVN.out _).symm
  | false =>
   obtain ⟨i, hi⟩ : ∃ i : Nat, v.r.var = (i : Int) := ⟨v.r.var.toNat, by have : v.r.var ≠ -1 := by simpa using zv
                                                                         omega⟩
   have him : i < m := by omega
   go_upto_region 9 with fail
   obtain ⟨ad, had⟩ : ∃ ad : Addr, ad = ⟨h, 0, none⟩ := ⟨_, rfl⟩
   obtain ⟨W6, hW6⟩ : ∃ U, U = (((W.setCell ⟨g, 5, none⟩ (.int .i64 (s2 + 1))).setCell ⟨g, 6, none⟩ (.int .i64 0)).setCell ⟨g, 7, none⟩ (.int .i64 v.r.off)).drew := ⟨_, rfl⟩
   have HAD := Lib.hid had
   have HC6 := Lib.hid (show Cel W6 g 54 [.slice A n c, .slice A1 nv c1, .int .i64 most, .bool bg, .int .i64 v.r.to, .int .i64 (s2 + 1), .int .i64 0, .int .i64 v.r.off, .slice (some ad) m cL] by rw [hW6, had]; exact HCN.out.drew)
   have HF6 := Lib.hid (show Frm [g] W W6 by rw [hW6]; exact HFN.out.drew)
   have HR6 := Lib.hid (show Rrow W6 h us by rw [hW6]; exact HRN.out.below (Below.refl _ _).drew)
   have HV6 := Lib.hid (show Cel W6 w.heap.size 42 [.int .i64 v.r.kind, .int .i64 v.r.s.step, .int .i64 v.r.s.visit, .int .i64 v.r.s.tries, .int .i64 v.r.s.off, .slice v.AL v.vs.length v.cL, .int .i64 v.r.visit, .int .i64 v.r.step, .int .i64 v.r.try_, .int .i64 v.r.to, .int .i64 v.r.off, .int .i64 (i : Int), .slice v.AV v.r.value.length v.cV] by rw [← hi]; exact HV.out.frm HF6.out (by simp; exact fun e => HGW.out e.symm))
   have HX6 := Lib.hid (show ∀ V, Below W6.heap.size W6 V → K ≤ V.heap.size ∧ Tx V K v.AV v.r.value from fun V hV => by
    have h1 : K ≤ W6.heap.size := Nat.le_trans HKK.out.1 (Nat.le_of_lt HC6.out.lt)
    exact ⟨Nat.le_trans h1 hV.size, (tx_frm HX.out HF6.out (fun k hk => ⟨by simp at hk; subst hk; exact HKK.out.1, by simp at hk; subst hk; exact HC.out.not_ty (by decide)⟩)).below h1 hV⟩)
   have HI := Lib.hid hi
   clear k4 k5 k6 k7 f4 f5 f6 f7 r10 r11 hH zv hi had
   refine wp_region_N [10] (fun V => Below W6.heap.size W6 V) (by kernel_rfl) ?_
   rw [← hW6]
   have hH : Below W6.heap.size W6 W6 := Below.refl _ _
   clear hW6
   refine tk_ 0 (.pointer (some ⟨g, 4, none⟩)) [10] rfl hH ?_ ?_
   ·intro V hV; go_simp
   try simp only [Act.put, lay_]
   refine tk_ 1 (.pointer (some ⟨g, 4, none⟩)) [10] rfl hH ?_ ?_
   ·intro V hV; go_simp
   try simp only [Act.put, lay_]
   refine tk_ 2 (.pointer (some ⟨g, 8, none⟩)) [10] rfl hH ?_ ?_
   ·intro V hV; go_simp
   try simp only [Act.put, lay_]
   refine tk_ 3 (.slice (some ad) m cL) [10] rfl hH ?_ ?_
   ·intro V hV; have hc := HC6.out.below hV HC6.out.lt; have k0 : V.cell? ⟨g, 8, none⟩ = some (.slice (some ad) m cL) := hc.cell 8; clear hc; go_simp
   try simp only [Act.put, lay_]
   refine tk_ 4 (.pointer (some ⟨w.heap.size, 11, none⟩)) [10] rfl hH ?_ ?_
   ·intro V hV; go_simp
   try simp only [Act.put, lay_]
   refine tk_ 5 (.int .i64 (i : Int)) [10] rfl hH ?_ ?_
   ·intro V hV; have hc := HV6.out.below hV HV6.out.lt; have k0 : V.cell? ⟨w.heap.size, 11, none⟩ = some (.int .i64 (i : Int)) := hc.cell 11; clear hc; go_simp
   try simp only [Act.put, lay_]
   refine tk_ 6 (.pointer (some ⟨w.heap.size, 12, none⟩)) [10] rfl hH ?_ ?_
   ·intro V hV; go_simp
   try simp only [Act.put, lay_]
   refine tk_ 7 (.slice v.AV v.r.value.length v.cV) [10] rfl hH ?_ ?_
   ·intro V hV; have hc := HV6.out.below hV HV6.out.lt; have k0 : V.cell? ⟨w.heap.size, 12, none⟩ = some (.slice v.AV v.r.value.length v.cV) := hc.cell 12; clear hc; go_simp
   try simp only [Act.put, lay_]
   refine wpAnyN_one (i := 8) (by kernel_rfl) rfl (fun Kq hKq => ?_)
   go_simp
   refine (clone_ _ v.AV v.r.value.length v.cV v.r.value (tx_low (HX6.out _ hH).2 (HX6.out _ hH).1) (by have := HVL.out; omega)).mono ?_
   rintro e V1 ⟨A', c', rfl, hby, hb⟩
   have hrv := (HR6.out.below hH).below hb
   have HBY := Lib.hid hby
   replace hH := hH.trans (hb.mono hH.size)
   have HRV := Lib.hid hrv
   have kr : V1.cell? (ad.add i) = some (us[i]'(by rw [HL.out]; exact him)).cell := by rw [HAD.out, add_row, hrv.row.cell i, List.getElem?_map, List.getElem?_eq_getElem (by rw [HL.out]; exact him)]; rfl
   have fr : V1.frozen? (ad.add i) = false := by rw [HAD.out, add_row]; exact hrv.row.free i
   clear hb hby hrv
   go_wp2_with fail
   refine hKq.out _ _ (.inr hH) ?_
   clear hKq Kq
   try simp only [Act.put, lay_]
   refine tk_ 9 (.pointer (some (ad.add i))) [10] rfl hH ?_ ?_
   ·intro V hV; go_simp
   try simp only [Act.put, lay_]
   refine wpAnyN_one (i := 10) (by kernel_rfl) rfl (fun Kq hKq => ?_)
   go_simp
   refine hKq.out _ _ (.inl (by simp)) ?_
   clear hKq Kq
   refine wpAnyN_done (by kernel_rfl) ?_ _
   have HFZ := Lib.hid (show Frm [h] V1 (V1.setCell (ad.add i) (.slice A' v.r.value.length c')) by rw [HAD.out, add_row]; exact (Frm.refl _ _).set (by simp) _)
   have HRZ := Lib.hid (show Cel (V1.setCell (ad.add i) (.slice A' v.r.value.length c')) h 29 ((us.set i ⟨A', c', v.r.value⟩).map Vt.cell) by rw [HAD.out, add_row, List.map_set]; exact HRV.out.row.set i _)
   clear kr fr
   go_wp2_with fail
   go_end0
   have hgg : g < W6.heap.size := HC6.out.lt
   have hcz := (HC6.out.below hH hgg).frm HFZ.out (by simp; exact fun e => HNE.out e.symm)
   refine ⟨rfl, ?_, us.set i ⟨A', c', v.r.value⟩, ?_, ⟨HRZ.out, fun u hu => ?_⟩, by rw [List.length_set]; exact HL.out, ?_⟩
   ·exact (HG.out.mono (by intro k hk _; simp at hk; simp [hk])).trans ((HF6.out.mono (by intro k hk _; simp at hk; simp [hk])).trans ((Frm.of_below hH).trans (HFZ.out.mono (by intro k hk _; simp at hk; simp [hk]))))
   ·rw [HGO.out, ← HAD.out]; exact hcz
   ·have hkeep : ∀ (k : Nat) cs fz, V1.heap[k]? = some (Obj.cells cs 5 fz) → (V1.setCell (ad.add i) (.slice A' v.r.value.length c')).heap[k]? = V1.heap[k]? := fun k cs fz hk => HFZ.out.block k (Array.getElem?_eq_some_iff.1 hk).1 (fun hm => by
     simp at hm
     subst hm
     exact HRV.out.row.not_ty (by decide) cs fz hk)
    rcases List.mem_or_eq_of_mem_set hu with hu | rfl
    ·exact ⟨(HRV.out.tx u hu).1.keep hkeep, (HRV.out.tx u hu).2⟩
    ·exact ⟨HBY.out.keep hkeep, by have := HVL.out; unfold maxLen; dsimp only; omega⟩
   ·rw [HGO.out, txt_set us i _ (by rw [HL.out]; exact him)]
    show _ = setV (txt us) v.r.var v.r.value
    rw [HI.out]
end
end Go.Proofs.Ytfmkkklcgiaacaa.Fold
