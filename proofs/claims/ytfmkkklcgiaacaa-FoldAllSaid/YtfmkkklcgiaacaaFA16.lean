/-
Texts: FoldPmap FoldPtop
-/
import Derived.Test.YtfmkkklcgiaacaaFA0
import Derived.Test.YtfmkkklcgiaacaaFA1
import Derived.Test.YtfmkkklcgiaacaaFA2
import Derived.Test.YtfmkkklcgiaacaaFA3
import Derived.Test.YtfmkkklcgiaacaaFA4
import Derived.Test.YtfmkkklcgiaacaaFA10
import Derived.Test.YtfmkkklcgiaacaaFA12
import Derived.Test.YtfmkkklcgiaacaaFA13
import Derived.Test.YtfmkkklcgiaacaaFA14
import Derived.Test.YtfmkkklcgiaacaaFA15
import Derived.Maps.OwnSet
import Derived.Maps.Views
import Derived.Shelf.Abstract
set_option linter.unusedVariables false
set_option linter.unusedSimpArgs false
set_option maxRecDepth 100000
set_option maxHeartbeats 4000000
section
namespace Go.Proofs.Ytfmkkklcgiaacaa.Fold
open Go.RowKit Go.Proofs.Ytfmkkklcgiaacaa.Ord Go.Maps
def Ra (v : Value) : Option (DataW Value × List MemPlace) := some (.held v, [])
def kyI (f : Int) : Lit := .int .i64 f
def fv (j : FuncId) : Value := .func (.func j) #[] #[]
theorem wf_kyI {f : Int} (h : -9223372036854775808 ≤ f ∧ f < 9223372036854775808) : (Lit.int .i64 f).wf = true := by
 simp [Lit.wf, IntKind.min, IntKind.max, IntKind.bits, IntKind.signed]; omega
theorem keyedI : Keyed Try.prog 3 := int_keyed Try.underlying3
theorem keyOfI {f : Int} (h : -9223372036854775808 ≤ f ∧ f < 9223372036854775808) : keyOf Try.prog 3 (.int .i64 f) = some (kyI f) := keyOf_int_mk Try.underlying3 (wf_kyI h)
theorem keyI_lit (f : Int) : WideAt.IsKeyLit (kyI f) := trivial
theorem keyI_ne {f g : Int} (h : f ≠ g) : kyI f ≠ kyI g := fun e => h (by unfold kyI at e; injection e)
def Mk (w : World) (b n : Nat) (f : Int → Option FuncId) : Prop := ∃ D, w.ownsMap Try.prog 3 Ra b n D ∧ (∀ k, Maps.has D (kyI k) = (f k).isSome) ∧ ∀ k j, f k = some j → ∀ z, D.atKey (kyI k) z = .held (fv j)
theorem Mk.made (w : World) : Mk (w.alloc (.map #[] 0)) w.heap.size 0 (fun _ => none) := ⟨_, World.ownsMap_made w Try.prog 3 Ra, fun _ => rfl, fun _ _ h => by cases h⟩
theorem Mk.store {w : World} {b n : Nat} {f : Int → Option FuncId} (h : Mk w b n f) (k : Int) (hk : -9223372036854775808 ≤ k ∧ k < 9223372036854775808) (hn : n ≤ 1000) (j : FuncId) :
  ∃ w', (Instr.mapUpdate 76 (.map (some b)) (.int .i64 k) (fv j)).run Try.prog w = .ok () w' ∧ Mk w' b (n + 1) (fun i => if i = k then some j else f i) ∧ w.grownBy w' (some b) := by
 obtain ⟨D, ho, h1, h2⟩ := h
 obtain ⟨w', hr, ho', hg⟩ := World.ownsMap.update ho keyedI Try.underlying76 (by unfold maxLen; omega) (keyOfI hk) (val := fv j) (d := .held (fv j)) (ps := []) rfl
 refine ⟨w', hr, ⟨_, ho', fun i => ?_, fun i j' hj z => ?_⟩, hg⟩
 ·by_cases e : i = k
  ·subst e
   rw [show (fun i' => if i' = i then some j else f i') i = some j from if_pos rfl, has_put_same ho.isMap (keyI_lit _)]; rfl
  ·rw [show (fun i' => if i' = k then some j else f i') i = f i from if_neg e, has_put_other (keyI_ne e)]; exact h1 i
 ·by_cases e : i = k
  ·subst e
   rw [show (fun i' => if i' = i then some j else f i') i = some j from if_pos rfl] at hj
   cases hj
   exact atKey_put_same ho.isMap (keyI_lit _) _ _
  ·rw [show (fun i' => if i' = k then some j else f i') i = f i from if_neg e] at hj
   rw [atKey_put_other (keyI_ne e)]; exact h2 i j' hj z
theorem Mk.look {w : World} {b n : Nat} {f : Int → Option FuncId} (h : Mk w b n f) (k : Int) (hk : -9223372036854775808 ≤ k ∧ k < 9223372036854775808) :
  (Instr.lookup 76 (.map (some b)) (.int .i64 k) true).run Try.prog w = .ok (.tuple #[match f k with | some j => fv j | none => .nilFunc, .bool (f k).isSome]) w := by
 obtain ⟨D, ho, h1, h2⟩ := h
 obtain ⟨v, ps, hr, hv⟩ := World.ownsMap.look_ok ho keyedI Try.underlying76 (Try.zeroValue74 w) (zd := .held .nilFunc) (zp := []) rfl (keyOfI hk)
 have hat : D.atKey (kyI k) (.held .nilFunc) = .held v := by
  have e : (DataW.held v, ([] : List MemPlace)) = (D.atKey (kyI k) (.held .nilFunc), ps) := Option.some.inj hv
  exact (Prod.mk.inj e).1.symm
 rw [hr, h1]
 cases hf : f k with
 | none =>
  have := h1 k
  rw [hf] at this
  rw [atKey_of_not_has this] at hat
  cases hat
  rfl
 | some j =>
  rw [h2 k j hf] at hat
  cases hat
  rfl
def mtF (k : Int) : Option FuncId := if k = 3 then some 46 else if k = 2 then some 45 else if k = 1 then some 44 else none
theorem meetings_ (w : World) : Calls Try.prog 27 #[] w fun e w' => ∃ M, e = .returned (.map (some M)) ∧ Mk w' M 3 mtF ∧ Below w.heap.size w w' := by
 have hmm := @run_makeMap Try.prog
 obtain ⟨w1, r1, m1, g1⟩ := (Mk.made w).store 1 (by decide) (by decide) 44
 obtain ⟨w2, r2, m2, g2⟩ := m1.store 2 (by decide) (by decide) 45
 obtain ⟨w3, r3, m3, g3⟩ := m2.store 3 (by decide) (by decide) 46
 have HM := Lib.hid m3
 have hgb : ∀ {a b : World}, Below w.heap.size w a → a.grownBy b (some w.heap.size) → Below w.heap.size w b := fun ha hg => ha.trans ⟨hg.os, hg.tape, hg.output, hg.size, fun k hk => hg.block k (Nat.lt_of_lt_of_le hk ha.size) (fun e => by cases e; omega)⟩
 have HB := Lib.hid (hgb (hgb (hgb ((Below.refl _ _).alloc (Nat.le_refl _) _) g1) g2) g3)
 clear m1 m2 m3 g1 g2 g3 hgb
 simp only [fv] at r1 r2 r3
 go_enter Try.func27, Try.ntmps27
 go_wp2_with fail
 go_ret
 exact ⟨w.heap.size, rfl, HM.out, HB.out⟩
end Go.Proofs.Ytfmkkklcgiaacaa.Fold
end
section
namespace Go.Proofs.Ytfmkkklcgiaacaa.Fold
open Go.RowKit Go.Proofs.Ytfmkkklcgiaacaa.Ord
open Lex (Tx)
open Rec (Stt Rc Rv Rok Vt Tvs Trow txt may may3 may_kind)
theorem rok_state {w : World} {K : Nat} {v : Rv} (h : Rok w K v) : (⟨v.r.s.step, v.r.s.visit, v.r.s.tries, v.r.s.off, txt v.vs⟩ : Stt) = v.r.s := by rw [← h.eq]
def fr6 (W : World) (g : Nat) (b a0 a1 a2 a3 a4 : Value) : World := (((((W.setCell ⟨g, 3, none⟩ b).setCell ⟨g, 4, none⟩ a0).setCell ⟨g, 5, none⟩ a1).setCell ⟨g, 6, none⟩ a2).setCell ⟨g, 7, none⟩ a3).setCell ⟨g, 8, none⟩ a4
theorem fr6_cel {W : World} {g : Nat} {t : TypeId} {x0 x1 x2 x3 x4 x5 x6 x7 x8 : Value} (h : Cel W g t [x0, x1, x2, x3, x4, x5, x6, x7, x8]) (b a0 a1 a2 a3 a4 : Value) : Cel (fr6 W g b a0 a1 a2 a3 a4) g t [x0, x1, x2, b, a0, a1, a2, a3, a4] := (((((h.set 3 b).set 4 a0).set 5 a1).set 6 a2).set 7 a3).set 8 a4
theorem fr6_frm (W : World) (g : Nat) (b a0 a1 a2 a3 a4 : Value) : Frm [g] W (fr6 W g b a0 a1 a2 a3 a4) := ((((((Frm.refl [g] W).set (p := ⟨g, 3, none⟩) (by simp) b).set (p := ⟨g, 4, none⟩) (by simp) a0).set (p := ⟨g, 5, none⟩) (by simp) a1).set (p := ⟨g, 6, none⟩) (by simp) a2).set (p := ⟨g, 7, none⟩) (by simp) a3).set (p := ⟨g, 8, none⟩) (by simp) a4
section
variable (w : World) (B g : Nat) (A : Option Addr) (n c : Nat) (A1 : Option Addr) (nv c1 : Nat) (most : Int)
theorem point_on (s1 s2 s3 s4 : Int) (AL : Option Addr) (m cL : Nat) (hc : Cel w g 54 (rcells A n c A1 nv c1 most true s1 s2 s3 s4 AL m cL)) (v : Rv) :
  Calls Try.prog 44 #[pp g 0, .agg v.cells.toArray] w fun e w' => e = .returned (.bool false) ∧ Below w.heap.size w w' := by
 obtain ⟨W1, hW1⟩ : ∃ W, W = w.alloc (.cells v.cells.toArray 42) := ⟨_, rfl⟩
 have hb1 : Below w.heap.size w W1 := by rw [hW1]; exact (Below.refl _ _).alloc (Nat.le_refl _) _
 have hv1 : Cel W1 w.heap.size 42 v.cells := by rw [hW1]; exact Cel.new w _ _
 obtain ⟨W, hW⟩ : ∃ W, W = W1.drew := ⟨_, rfl⟩
 have hbw : Below w.heap.size w W := by rw [hW]; exact hb1.drew
 have HBW := Lib.hid hbw
 have HC := Lib.hid (hc.below hbw hc.lt)
 have HV := Lib.hid (show Cel W w.heap.size 42 v.cells by rw [hW]; exact hv1.drew)
 clear hc hb1 hv1 hbw
 go_enter Try.func44, Try.ntmps44
 go_upto_region 1 with fail
 rw [← hW1]
 clear hW1
 refine wp_region_N [] (fun V => Below W.heap.size W V) (by kernel_rfl) ?_
 rw [← hW]
 have hH : Below W.heap.size W W := Below.refl _ _
 clear hW
 refine tk_ 0 (.pointer (some ⟨g, 0, none⟩)) [] rfl hH ?_ ?_
 ·intro V hV; go_simp
 try simp only [Act.put, lay_]
 refine tk_ 1 (.pointer (some ⟨g, 0, none⟩)) [] rfl hH ?_ ?_
 ·intro V hV; go_simp
 try simp only [Act.put, lay_]
 refine tk_ 2 (.pointer (some ⟨g, 3, none⟩)) [] rfl hH ?_ ?_
 ·intro V hV; go_simp
 try simp only [Act.put, lay_]
 refine tk_ 3 (.bool true) [] rfl hH ?_ ?_
 ·intro V hV; have hc := HC.out.below hV HC.out.lt; have k0 : V.cell? ⟨g, 3, none⟩ = some (.bool true) := hc.cell 3; clear hc; go_simp
 try simp only [Act.put, lay_]
 refine tk_ 4 (.bool true) [] rfl hH ?_ ?_
 ·intro V hV; go_simp
 try simp only [Act.put, lay_]
 refine wpAnyN_take (i := 5) (v := undef) [] (by kernel_rfl) rfl (by kernel_rfl) (by kernel_rfl) (by kernel_rfl) (fun _ _ _ h => h) (Or.inr ⟨by rfl, rfl⟩) hH ?_
 try simp only [Act.put, lay_]
 refine wpAnyN_take (i := 6) (v := undef) [] (by kernel_rfl) rfl (by kernel_rfl) (by kernel_rfl) (by kernel_rfl) (fun _ _ _ h => h) (Or.inr ⟨by rfl, rfl⟩) hH ?_
 try simp only [Act.put, lay_]
 refine wpAnyN_take (i := 7) (v := undef) [] (by kernel_rfl) rfl (by kernel_rfl) (by kernel_rfl) (by kernel_rfl) (fun _ _ _ h => h) (Or.inr ⟨by rfl, rfl⟩) hH ?_
 try simp only [Act.put, lay_]
 refine wpAnyN_take (i := 8) (v := undef) [] (by kernel_rfl) rfl (by kernel_rfl) (by kernel_rfl) (by kernel_rfl) (fun _ _ _ h => h) (Or.inr ⟨by rfl, rfl⟩) hH ?_
 try simp only [Act.put, lay_]
 refine wpAnyN_take (i := 9) (v := undef) [] (by kernel_rfl) rfl (by kernel_rfl) (by kernel_rfl) (by kernel_rfl) (fun _ _ _ h => h) (Or.inr ⟨by rfl, rfl⟩) hH ?_
 try simp only [Act.put, lay_]
 refine wpAnyN_take (i := 10) (v := undef) [] (by kernel_rfl) rfl (by kernel_rfl) (by kernel_rfl) (by kernel_rfl) (fun _ _ _ h => h) (Or.inr ⟨by rfl, rfl⟩) hH ?_
 try simp only [Act.put, lay_]
 refine wpAnyN_take (i := 11) (v := undef) [] (by kernel_rfl) rfl (by kernel_rfl) (by kernel_rfl) (by kernel_rfl) (fun _ _ _ h => h) (Or.inr ⟨by rfl, rfl⟩) hH ?_
 try simp only [Act.put, lay_]
 refine wpAnyN_take (i := 12) (v := undef) [] (by kernel_rfl) rfl (by kernel_rfl) (by kernel_rfl) (by kernel_rfl) (fun _ _ _ h => h) (Or.inr ⟨by rfl, rfl⟩) hH ?_
 try simp only [Act.put, lay_]
 refine tk_ 13 (.bool true) [] rfl hH ?_ ?_
 ·intro V hV; go_simp
 try simp only [Act.put, lay_]
 refine wpAnyN_done (by kernel_rfl) ?_ _
 go_wp2_with fail
 go_ret
 exact ⟨rfl, HBW.out.trans (hH.mono HBW.out.size)⟩
theorem point_off (K : Nat) (hK : K ≤ w.heap.size) (hB : B ≤ g) (s1 s2 s3 s4 : Int) (AL : Option Addr) (m cL : Nat) (hc : Cel w g 54 (rcells A n c A1 nv c1 most false s1 s2 s3 s4 AL m cL)) (vs : List Fs) (hf : Fbk w A vs) (hfit : Bfit vs n nv most) (v : Rv) (hr : Rok w K v) (hv2 : v.r.s.visit < 9223372036854775808) (hv3 : v.r.s.tries < 9223372036854775808) :
  Calls Try.prog 44 #[pp g 0, .agg v.cells.toArray] w (MtSays w B g A n c A1 nv c1 most (if right (bok vs nv most) v.r.s = true then some v.r.s else none)) := by
 obtain ⟨b1, hb_1⟩ : ∃ b, b = right (bok vs nv most) v.r.s := ⟨_, rfl⟩
 rw [← hb_1]
 have E1 := Lib.hid hb_1
 obtain ⟨Q, hQ⟩ : ∃ Q, Q = (if b1 = true then some v.r.s else none) := ⟨_, rfl⟩
 rw [← hQ]
 have HQ := Lib.hid hQ
 clear hQ
 have HBW0 := Lib.hid (show B ≤ w.heap.size from Nat.le_trans hB (Nat.le_of_lt hc.lt))
 have HBG := Lib.hid hB
 obtain ⟨W1, hW1⟩ : ∃ W, W = w.alloc (.cells v.cells.toArray 42) := ⟨_, rfl⟩
 have hb1 : Below w.heap.size w W1 := by rw [hW1]; exact (Below.refl _ _).alloc (Nat.le_refl _) _
 have hv1 : Cel W1 w.heap.size 42 v.cells := by rw [hW1]; exact Cel.new w _ _
 obtain ⟨W, hW⟩ : ∃ W, W = W1.drew := ⟨_, rfl⟩
 have hbw : Below w.heap.size w W := by rw [hW]; exact hb1.drew
 have HBW := Lib.hid hbw
 have HC := Lib.hid (hc.below hbw hc.lt)
 have HV := Lib.hid (show Cel W w.heap.size 42 v.cells by rw [hW]; exact hv1.drew)
 have HF := Lib.hid (show ∀ V, Below W.heap.size W V → Fbk V A vs from fun V h => (hf.below hbw).below h)
 have HR := Lib.hid (show ∀ V, Below W.heap.size W V → K ≤ V.heap.size ∧ Rok V K v from fun V h => ⟨Nat.le_trans (Nat.le_trans hK hbw.size) h.size, (hr.below hK hbw).below (Nat.le_trans hK hbw.size) h⟩)
 have HFIT := Lib.hid hfit
 have H2 := Lib.hid hv2
 have H3 := Lib.hid hv3
 clear hc hb1 hv1 hbw hf hfit hr hv2 hv3 hb_1 hB hK
 go_enter Try.func44, Try.ntmps44
 go_upto_region 1 with fail
 rw [← hW1]
 clear hW1
 refine wp_region_N [] (fun V => Below W.heap.size W V) (by kernel_rfl) ?_
 rw [← hW]
 have hH : Below W.heap.size W W := Below.refl _ _
 clear hW
 refine tk_ 0 (.pointer (some ⟨g, 0, none⟩)) [] rfl hH ?_ ?_
 ·intro V hV; go_simp
 try simp only [Act.put, lay_]
 refine tk_ 1 (.pointer (some ⟨g, 0, none⟩)) [] rfl hH ?_ ?_
 ·intro V hV; go_simp
 try simp only [Act.put, lay_]
 refine tk_ 2 (.pointer (some ⟨g, 3, none⟩)) [] rfl hH ?_ ?_
 ·intro V hV; go_simp
 try simp only [Act.put, lay_]
 refine tk_ 3 (.bool false) [] rfl hH ?_ ?_
 ·intro V hV; have hc := HC.out.below hV HC.out.lt; have k0 : V.cell? ⟨g, 3, none⟩ = some (.bool false) := hc.cell 3; clear hc; go_simp
 try simp only [Act.put, lay_]
 refine tk_ 4 (.bool false) [] rfl hH ?_ ?_
 ·intro V hV; go_simp
 try simp only [Act.put, lay_]
 refine tk_ 5 (.pointer (some ⟨g, 0, none⟩)) [] rfl hH ?_ ?_
 ·intro V hV; go_simp
 try simp only [Act.put, lay_]
 refine tk_ 6 (.pointer (some ⟨g, 0, none⟩)) [] rfl hH ?_ ?_
 ·intro V hV; go_simp
 try simp only [Act.put, lay_]
 refine tk_ 7 (.pointer (some ⟨g, 0, none⟩)) [] rfl hH ?_ ?_
 ·intro V hV; go_simp
 try simp only [Act.put, lay_]
 refine tk_ 8 (.agg #[.slice A n c, .slice A1 nv c1, .int .i64 most]) [] rfl hH ?_ ?_
 ·intro V hV; have hc := HC.out.below hV HC.out.lt; have k0 : V.cell? ⟨g, 0, none⟩ = some (.slice A n c) := hc.cell 0; have k1 : V.cell? ⟨g, 1, none⟩ = some (.slice A1 nv c1) := hc.cell 1; have k2 : V.cell? ⟨g, 2, none⟩ = some (.int .i64 most) := hc.cell 2; clear hc; go_simp
 try simp only [Act.put, lay_]
 refine tk_ 9 (.pointer (some ⟨w.heap.size, 1, none⟩)) [] rfl hH ?_ ?_
 ·intro V hV; go_simp
 try simp only [Act.put, lay_]
 refine tk_ 10 (.agg #[.int .i64 v.r.s.step, .int .i64 v.r.s.visit, .int .i64 v.r.s.tries, .int .i64 v.r.s.off, .slice v.AL v.vs.length v.cL]) [] rfl hH ?_ ?_
 ·intro V hV; have hc := HV.out.below hV HV.out.lt; have k0 : V.cell? ⟨w.heap.size, 1, none⟩ = some (.int .i64 v.r.s.step) := hc.cell 1; have k1 : V.cell? ⟨w.heap.size, 2, none⟩ = some (.int .i64 v.r.s.visit) := hc.cell 2; have k2 : V.cell? ⟨w.heap.size, 3, none⟩ = some (.int .i64 v.r.s.tries) := hc.cell 3; have k3 : V.cell? ⟨w.heap.size, 4, none⟩ = some (.int .i64 v.r.s.off) := hc.cell 4; have k4 : V.cell? ⟨w.heap.size, 5, none⟩ = some (.slice v.AL v.vs.length v.cL) := hc.cell 5; clear hc; go_simp
 try simp only [Act.put, lay_]
 refine wpAnyN_one (i := 11) (by kernel_rfl) rfl (fun Kq hKq => ?_)
 go_simp
 refine ((show Calls Try.prog 61 #[.agg #[.slice A n c, .slice A1 nv c1, .int .i64 most], .agg #[.int .i64 v.r.s.step, .int .i64 v.r.s.visit, .int .i64 v.r.s.tries, .int .i64 v.r.s.off, .slice v.AL v.vs.length v.cL]] _ (fun e w' => e = .returned (.bool b1) ∧ Below _ _ w') by have R := HR.out _ hH; have q := pright_ _ K R.1 A n c vs (HF.out _ hH) HFIT.out.len A1 nv c1 most v.r.s.step v.r.s.visit v.r.s.tries v.r.s.off H2.out H3.out v.AL v.vs.length v.cL v.vs R.2.vs rfl R.2.vl; rw [rok_state R.2, ← E1.out] at q; exact q)).mono ?_
 rintro e V1 ⟨rfl, hb⟩
 replace hH := hH.trans (hb.mono hH.size)
 clear hb
 go_wp2_with fail
 refine hKq.out _ _ (.inr hH) ?_
 clear hKq Kq
 try simp only [Act.put, lay_]
 cases b1 with
 | true =>
  refine tk_ 12 (.bool false) [] rfl hH ?_ ?_
  ·intro V hV; go_simp
  try simp only [Act.put, lay_]
  refine tk_ 13 (.bool false) [] rfl hH ?_ ?_
  ·intro V hV; go_simp
  try simp only [Act.put, lay_]
  refine wpAnyN_done (by kernel_rfl) ?_ _
  have kv := HV.out.below hH HV.out.lt
  have r1 : V1.cell? ⟨w.heap.size, 1, none⟩ = some (.int .i64 v.r.s.step) := kv.cell 1
  have r2 : V1.cell? ⟨w.heap.size, 2, none⟩ = some (.int .i64 v.r.s.visit) := kv.cell 2
  have r3 : V1.cell? ⟨w.heap.size, 3, none⟩ = some (.int .i64 v.r.s.tries) := kv.cell 3
  have r4 : V1.cell? ⟨w.heap.size, 4, none⟩ = some (.int .i64 v.r.s.off) := kv.cell 4
  have r5 : V1.cell? ⟨w.heap.size, 5, none⟩ = some (.slice v.AL v.vs.length v.cL) := kv.cell 5
  have hR := (HR.out _ hH).2
  have hn := right_nums E1.out.symm
  have con := copied_ V1 K (HR.out _ hH).1 v.r.s.step v.r.s.visit v.r.s.tries v.r.s.off v.AL v.vs.length v.cL v.vs hR.vs rfl (by
   have q := hn.2.2.2.2.2.2.1
   rw [hR.eq] at q
   unfold txt at q
   rw [List.length_map] at q
   have q2 : v.vs.length = nv := q
   have := HFIT.out.vars
   omega) (fun u hu => by
   have q := hn.2.2.2.2.2.2.2 u.t (by rw [hR.eq]; exact List.mem_map.2 ⟨u, hu, rfl⟩)
   omega)
  have HEQ := Lib.hid hR.eq
  clear kv hR hn
  unfold stval at con
  go_wp2_with fail
  refine con.mono ?_
  clear con r1 r2 r3 r4 r5
  rintro e V2 ⟨h, us', rfl, hh, hrow, hlen, htx, hb2⟩
  have kc := (HC.out.below hH HC.out.lt).below hb2 (HC.out.below hH HC.out.lt).lt
  have k3 : V2.cell? ⟨g, 3, none⟩ = some (.bool false) := kc.cell 3
  have k4 : V2.cell? ⟨g, 4, none⟩ = some (.int .i64 s1) := kc.cell 4
  have k5 : V2.cell? ⟨g, 5, none⟩ = some (.int .i64 s2) := kc.cell 5
  have k6 : V2.cell? ⟨g, 6, none⟩ = some (.int .i64 s3) := kc.cell 6
  have k7 : V2.cell? ⟨g, 7, none⟩ = some (.int .i64 s4) := kc.cell 7
  have k8 : V2.cell? ⟨g, 8, none⟩ = some (.slice AL m cL) := kc.cell 8
  have f3 := kc.free 3
  have f4 := kc.free 4
  have f5 := kc.free 5
  have f6 := kc.free 6
  have f7 := kc.free 7
  have f8 := kc.free 8
  have HKC := Lib.hid (fr6_cel kc (.bool true) (.int .i64 v.r.s.step) (.int .i64 v.r.s.visit) (.int .i64 v.r.s.tries) (.int .i64 v.r.s.off) (.slice (some ⟨h, 0, none⟩) v.vs.length v.vs.length))
  have HFR := Lib.hid (fr6_frm V2 g (.bool true) (.int .i64 v.r.s.step) (.int .i64 v.r.s.visit) (.int .i64 v.r.s.tries) (.int .i64 v.r.s.off) (.slice (some ⟨h, 0, none⟩) v.vs.length v.vs.length))
  have hne : h ≠ g := hrow.row.ne kc (by decide)
  have HRW := Lib.hid (hrow.frm HFR.out (by simpa using hne) (fun k hk => by simp at hk; subst hk; exact kc.not_ty (by decide)))
  have hBB : Below B w V2 := (((HBW.out.trans (hH.mono HBW.out.size)).trans (hb2.mono (Nat.le_trans HBW.out.size hH.size))).mono HBW0.out)
  have HBB := Lib.hid hBB
  have HLEN := Lib.hid hlen
  have HTX := Lib.hid htx
  have HHB := Lib.hid (show B ≤ h from Nat.le_trans HBW0.out (Nat.le_trans (Nat.le_trans HBW.out.size hH.size) hh))
  clear kc hrow hlen htx hb2 hh hne hBB hH
  go_upto_region 4 with fail
  clear k3 k4 k5 k6 k7 k8 f3 f4 f5 f6 f7 f8
  go_wp2_with fail
  go_ret
  refine mt_yes (t := v.r.s) (by rw [HQ.out]; first | exact if_pos trivial | exact if_pos rfl) (HBB.out.trans (HFR.out.below (Nat.le_trans HBW0.out HBB.out.size) (by intro k hk; simp at hk; subst hk; exact HBG.out))) ⟨h, v.vs.length, us', HHB.out, ?_, HRW.out, by rw [HTX.out, ← HEQ.out]⟩
  rw [HLEN.out]
  exact HKC.out
 | false =>
  refine tk_ 12 (.bool true) [] rfl hH ?_ ?_
  ·intro V hV; go_simp
  try simp only [Act.put, lay_]
  refine tk_ 13 (.bool true) [] rfl hH ?_ ?_
  ·intro V hV; go_simp
  try simp only [Act.put, lay_]
  refine wpAnyN_done (by kernel_rfl) ?_ _
  go_wp2_with fail
  go_ret
  exact mt_no (by rw [HQ.out, if_neg (by decide)]) HBW0.out (HBW.out.trans (hH.mono HBW.out.size))
def Enters (k : Nat) : Prop := ∀ args W, (callFunc k args).run Try.prog W = .ok (.enter k args) W
theorem point_e : Enters 44 := enters_of Try.func44 (by kernel_rfl) rfl
theorem intent_e : Enters 45 := enters_of Try.func45 (by kernel_rfl) rfl
theorem outcome_e : Enters 46 := enters_of Try.func46 (by kernel_rfl) rfl
theorem mt_up {w V w' : World} {B g : Nat} {A : Option Addr} {n c : Nat} {A1 : Option Addr} {nv c1 : Nat} {most : Int} {R : Option Stt} {e : Ending} (hB : B ≤ w.heap.size) (hb : Below w.heap.size w V) (h : MtSays V B g A n c A1 nv c1 most R e w') : MtSays w B g A n c A1 nv c1 most R e w' := by
 obtain ⟨b, h1, h2, h3, h4⟩ := h
 exact ⟨b, h1, (hb.mono hB).trans h2, fun q => ⟨(h3 q).1, hb.trans ((h3 q).2.mono hb.size)⟩, h4⟩
theorem meet_go (hB : B ≤ w.heap.size) (v : Rv) (kd : Int) (hkd : v.r.kind = kd) (hk64 : -9223372036854775808 ≤ kd ∧ kd < 9223372036854775808) (F : Nat) (hF : mtF kd = some F) (he : Enters F) (R : Option Stt)
  (Q : ∀ V, Below w.heap.size w V → Calls Try.prog F #[pp g 0, .agg v.cells.toArray] V (MtSays V B g A n c A1 nv c1 most R)) :
  Calls Try.prog 16 #[pp g 0, .agg v.cells.toArray] w (MtSays w B g A n c A1 nv c1 most R) := by
 have HQ := Lib.hid Q
 have HE := Lib.hid he
 have HF := Lib.hid hF
 have HK := Lib.hid hk64
 have HKD := Lib.hid hkd
 have HBB := Lib.hid hB
 have hc : True := trivial
 obtain ⟨W1, hW1⟩ : ∃ W, W = w.alloc (.cells v.cells.toArray 42) := ⟨_, rfl⟩
 have hb1 : Below w.heap.size w W1 := by rw [hW1]; exact (Below.refl _ _).alloc (Nat.le_refl _) _
 have hv1 : Cel W1 w.heap.size 42 v.cells := by rw [hW1]; exact Cel.new w _ _
 obtain ⟨W, hW⟩ : ∃ W, W = W1.drew := ⟨_, rfl⟩
 have hbw : Below w.heap.size w W := by rw [hW]; exact hb1.drew
 have HBW := Lib.hid hbw
 have HV := Lib.hid (show Cel W w.heap.size 42 [.int .i64 kd, .int .i64 v.r.s.step, .int .i64 v.r.s.visit, .int .i64 v.r.s.tries, .int .i64 v.r.s.off, .slice v.AL v.vs.length v.cL, .int .i64 v.r.visit, .int .i64 v.r.step, .int .i64 v.r.try_, .int .i64 v.r.to, .int .i64 v.r.off, .int .i64 v.r.var, .slice v.AV v.r.value.length v.cV] by rw [hW, ← hkd]; exact hv1.drew)
 clear hc hb1 hv1 hbw Q he hF hk64 hkd hB
 go_enter Try.func16, Try.ntmps16
 go_upto_region 1 with fail
 rw [← hW1]
 clear hW1
 refine wp_region_N [] (fun V => Below W.heap.size W V) (by kernel_rfl) ?_
 rw [← hW]
 have hH : Below W.heap.size W W := Below.refl _ _
 clear hW
 refine tk_ 1 (.pointer (some ⟨w.heap.size, 0, none⟩)) [] rfl hH ?_ ?_
 ·intro V hV; go_simp
 try simp only [Act.put, lay_]
 refine tk_ 2 (.int .i64 kd) [] rfl hH ?_ ?_
 ·intro V hV; have hc := HV.out.below hV HV.out.lt; have k0 : V.cell? ⟨w.heap.size, 0, none⟩ = some (.int .i64 kd) := hc.cell 0; clear hc; go_simp
 try simp only [Act.put, lay_]
 refine wpAnyN_one (i := 0) (by kernel_rfl) rfl (fun Kq hKq => ?_)
 go_simp
 refine (meetings_ _).mono ?_
 rintro e V1 ⟨M, rfl, hm, hb⟩
 have HM := Lib.hid hm
 clear hm
 replace hH := hH.trans (hb.mono hH.size)
 clear hb
 go_wp2_with fail
 refine hKq.out _ _ (.inr hH) ?_
 clear hKq Kq
 try simp only [Act.put, lay_]
 refine wpAnyN_one (i := 3) (by kernel_rfl) rfl (fun Kq hKq => ?_)
 have hlk : (Instr.lookup 76 (.map (some M)) (.int .i64 kd) true).run Try.prog V1 = .ok (.tuple #[.func (.func F) #[] #[], .bool true]) V1 := by have q := HM.out.look kd HK.out; rw [HF.out] at q; exact q
 go_simp
 refine hKq.out _ _ (.inr hH) ?_
 clear hKq Kq
 try simp only [Act.put, lay_]
 refine tk_ 4 (.tuple #[.func (.func F) #[] #[], .bool true]) [] rfl hH ?_ ?_
 ·intro V hV; go_simp
 try simp only [Act.put, lay_]
 refine tk_ 5 (.func (.func F) #[] #[]) [] rfl hH ?_ ?_
 ·intro V hV; go_simp
 try simp only [Act.put, lay_]
 refine tk_ 6 (.bool true) [] rfl hH ?_ ?_
 ·intro V hV; go_simp
 try simp only [Act.put, lay_]
 refine tk_ 7 (.func (.func F) #[] #[]) [] rfl hH ?_ ?_
 ·intro V hV; go_simp
 try simp only [Act.put, lay_]
 refine tk_ 8 (.bool true) [] rfl hH ?_ ?_
 ·intro V hV; go_simp
 try simp only [Act.put, lay_]
 refine wpAnyN_done (by kernel_rfl) ?_ _
 have kv := HV.out.below hH HV.out.lt
 have r0 : V1.cell? ⟨w.heap.size, 0, none⟩ = some (.int .i64 kd) := kv.cell 0
 have r1 : V1.cell? ⟨w.heap.size, 1, none⟩ = some (.int .i64 v.r.s.step) := kv.cell 1
 have r2 : V1.cell? ⟨w.heap.size, 2, none⟩ = some (.int .i64 v.r.s.visit) := kv.cell 2
 have r3 : V1.cell? ⟨w.heap.size, 3, none⟩ = some (.int .i64 v.r.s.tries) := kv.cell 3
 have r4 : V1.cell? ⟨w.heap.size, 4, none⟩ = some (.int .i64 v.r.s.off) := kv.cell 4
 have r5 : V1.cell? ⟨w.heap.size, 5, none⟩ = some (.slice v.AL v.vs.length v.cL) := kv.cell 5
 have r6 : V1.cell? ⟨w.heap.size, 6, none⟩ = some (.int .i64 v.r.visit) := kv.cell 6
 have r7 : V1.cell? ⟨w.heap.size, 7, none⟩ = some (.int .i64 v.r.step) := kv.cell 7
 have r8 : V1.cell? ⟨w.heap.size, 8, none⟩ = some (.int .i64 v.r.try_) := kv.cell 8
 have r9 : V1.cell? ⟨w.heap.size, 9, none⟩ = some (.int .i64 v.r.to) := kv.cell 9
 have r10 : V1.cell? ⟨w.heap.size, 10, none⟩ = some (.int .i64 v.r.off) := kv.cell 10
 have r11 : V1.cell? ⟨w.heap.size, 11, none⟩ = some (.int .i64 v.r.var) := kv.cell 11
 have r12 : V1.cell? ⟨w.heap.size, 12, none⟩ = some (.slice v.AV v.r.value.length v.cV) := kv.cell 12
 have hEn := HE.out
 unfold Enters at hEn
 have con := HQ.out V1 (HBW.out.trans (hH.mono HBW.out.size))
 rw [show v.cells.toArray = #[.int .i64 kd, .int .i64 v.r.s.step, .int .i64 v.r.s.visit, .int .i64 v.r.s.tries, .int .i64 v.r.s.off, .slice v.AL v.vs.length v.cL, .int .i64 v.r.visit, .int .i64 v.r.step, .int .i64 v.r.try_, .int .i64 v.r.to, .int .i64 v.r.off, .int .i64 v.r.var, .slice v.AV v.r.value.length v.cV] by rw [← HKD.out]; rfl] at con
 have HBV := Lib.hid (HBW.out.trans (hH.mono HBW.out.size))
 clear kv hlk
 go_wp2_with fail
 refine con.mono ?_
 clear con hEn r0 r1 r2 r3 r4 r5 r6 r7 r8 r9 r10 r11 r12
 rintro e w3 hmt
 obtain ⟨b, rfl, hmt2⟩ := hmt
 have HMT := Lib.hid hmt2
 clear hmt2
 go_wp2_with fail
 go_ret
 exact mt_up HBB.out HBV.out ⟨b, rfl, HMT.out⟩
theorem on_step {vs : List Fs} {nv : Nat} {most : Int} {s : Stt} (h : onB true (bok vs nv most) s = true) : ∃ (j : Nat) (f : Fs), s.step = (j : Int) ∧ vs[j]? = some f ∧ (bok vs nv most).steps[s.step.toNat]? = some f.m := by
 obtain ⟨h1, h2⟩ := onB_iff.1 h
 obtain ⟨_, p, hp, _⟩ := (right_more h1).2 h2
 have hp2 : (vs.map Fs.m)[s.step.toNat]? = some p := hp
 rw [List.getElem?_map] at hp2
 obtain ⟨f, hf, rfl⟩ := Option.map_eq_some_iff.1 hp2
 exact ⟨s.step.toNat, f, by omega, hf, hp⟩
theorem meet_on (K : Nat) (hKB : K ≤ B) (hBg : B ≤ g) (s : Stt) (hrun : RunIs w B g A n c A1 nv c1 most s) (vs : List Fs) (hf : Fbk w A vs) (hfit : Bfit vs n nv most) (hs2 : s.visit < 9223372036854775808) (hs3 : s.tries < 9223372036854775808) (hsl : s.vars.length ≤ 1000) (v : Rv) (hr : Rok w K v) (hm : may v.r = true) :
  Calls Try.prog 16 #[pp g 0, .agg v.cells.toArray] w (MtSays w B g A n c A1 nv c1 most (nextR (bok vs nv most) s v.r)) := by
 have hgw : g < w.heap.size := by
  obtain ⟨h, cL, us, _, hc, _⟩ := hrun
  exact hc.lt
 have hBw : B ≤ w.heap.size := by omega
 have hKw : K ≤ w.heap.size := by omega
 rcases may_kind hm with hk | hk | hk
 ·refine meet_go w B g A n c A1 nv c1 most hBw v 1 hk (by decide) _ rfl point_e _ fun V hV => ?_
  obtain ⟨h, cL, us, hBh, hc, hrow, htx⟩ := hrun.below hV
  refine (point_on V g A n c A1 nv c1 most _ _ _ _ _ _ _ hc v).mono ?_
  rintro e w' ⟨rfl, hb⟩
  exact mt_no (next_kind1 hk) (Nat.le_trans hBw hV.size) hb
 ·refine meet_go w B g A n c A1 nv c1 most hBw v 2 hk (by decide) _ rfl intent_e _ fun V hV => ?_
  obtain ⟨h, cL, us, hBh, hc, hrow, htx⟩ := hrun.below hV
  have hst : (⟨s.step, s.visit, s.tries, s.off, txt us⟩ : Stt) = s := by rw [htx]
  have hul : us.length ≤ 1000 := by
   rw [← htx] at hsl
   unfold txt at hsl
   rw [List.length_map] at hsl
   exact hsl
  have hrf : Rfit V K A n nv most vs s.visit s.tries (some ⟨h, 0, none⟩) us.length us := ⟨hf.below hV, hfit, hs2, hs3, Nat.le_trans hKw hV.size, hrow.tvs K, rfl, by unfold maxLen; omega⟩
  cases hG : onB true (bok vs nv most) s with
  | false =>
   refine (intent_off V g A n c A1 nv c1 most K true s.step s.visit s.tries s.off _ _ _ hc vs us hrf (by rw [hst]; exact hG) v).mono ?_
   rintro e w' ⟨rfl, hb⟩
   exact mt_no (next_off hG) (Nat.le_trans hBw hV.size) hb
  | true =>
   obtain ⟨j, f, hj, hff, hp⟩ := on_step hG
   have hnx := next_on2 hG hm hk hp
   have hrt := (onB_iff.1 hG).1
   have h0 := (right_nums hrt).2.2.2.1
   have h1 := ((right_more hrt).2 (onB_iff.1 hG).2).2
   obtain ⟨p, hp', h1⟩ := h1
   rw [hp] at hp'
   cases hp'
   have h2 := (hfit.try_ f (List.mem_of_getElem? hff)).2
   have h3 : f.m.try_ = f.try_ := rfl
   rw [hj] at hc
   refine (intent_on V g A n c A1 nv c1 most K h true j s.visit s.tries s.off _ _ hc vs us hrf (by rw [← hj, hst]; exact hG) f hff v ⟨by omega, by omega⟩).mono ?_
   rintro e w' ⟨b, hb, rfl, hfr, hno, hyes⟩
   have hgo : goes2 f.m s v.r = b := by rw [hb]; unfold goes2 intB; rw [hj]; rfl
   rw [hgo] at hnx
   cases b with
   | false => exact mt_no (by rw [hnx, if_neg (by decide)]) (Nat.le_trans hBw hV.size) (hno rfl)
   | true =>
    refine mt_yes (t := { s with tries := s.tries + 1 }) (by rw [hnx, if_pos rfl]) (hfr.below (Nat.le_trans hBw hV.size) (by intro k hk; simp at hk; subst hk; exact hBg)) ⟨h, cL, us, hBh, ?_, hrow.frm hfr (by simpa using hrow.row.ne hc (by decide)) (fun k hk => by simp at hk; subst hk; exact hc.not_ty (by decide)), htx⟩
    have q := hyes rfl
    rw [← hj] at q
    exact q
 ·refine meet_go w B g A n c A1 nv c1 most hBw v 3 hk (by decide) _ rfl outcome_e _ fun V hV => ?_
  obtain ⟨h, cL, us, hBh, hc, hrow, htx⟩ := hrun.below hV
  have hst : (⟨s.step, s.visit, s.tries, s.off, txt us⟩ : Stt) = s := by rw [htx]
  have hul : us.length ≤ 1000 := by
   rw [← htx] at hsl
   unfold txt at hsl
   rw [List.length_map] at hsl
   exact hsl
  have hrf : Rfit V K A n nv most vs s.visit s.tries (some ⟨h, 0, none⟩) us.length us := ⟨hf.below hV, hfit, hs2, hs3, Nat.le_trans hKw hV.size, hrow.tvs K, rfl, by unfold maxLen; omega⟩
  cases hG : onB true (bok vs nv most) s with
  | false =>
   refine (outcome_off V g A n c A1 nv c1 most K true s.step s.visit s.tries s.off _ _ _ hc vs us hrf (by rw [hst]; exact hG) v).mono ?_
   rintro e w' ⟨rfl, hb⟩
   exact mt_no (next_off hG) (Nat.le_trans hBw hV.size) hb
  | true =>
   obtain ⟨j, f, hj, hff, hp⟩ := on_step hG
   have hnx := next_on3 hG hm hk hp
   have hrt := (onB_iff.1 hG).1
   have hn := right_nums hrt
   have h1 := ((right_more hrt).2 (onB_iff.1 hG).2).1
   have h2 := hfit.most.2
   have h3 : (bok vs nv most).most = most := rfl
   have hmn : us.length = nv := by
    have q := hn.2.2.2.2.2.2.1
    rw [← htx] at q
    unfold txt at q
    rw [List.length_map] at q
    exact q
   obtain ⟨_, _, ⟨t1, _⟩, _, ⟨v1, _⟩, hvl⟩ := may3 hm hk
   rw [hj] at hc
   refine (outcome_on V g A n c A1 nv c1 most K h true j s.visit s.tries s.off _ _ hc vs us hrf (by rw [← hj, hst]; exact hG) f hff v hrow ⟨hn.2.2.1, by omega⟩ (by omega) hmn ((hr.below hKw hV).val) (by omega) ⟨by omega, by omega⟩ t1 v1).mono ?_
   rintro e w' ⟨b, hb, rfl, hno, hyes⟩
   have hgo : ((v.r.visit == s.visit) && !(s.tries == 0) && possB f (bok vs nv most).steps.length (bok vs nv most).nv s.off v) = b := by
    rw [hb]
    unfold outB
    rw [show (bok vs nv most).steps.length = n by show (vs.map Fs.m).length = n; rw [List.length_map]; exact hfit.len]
    rfl
   rw [hgo] at hnx
   cases b with
   | false => exact mt_no (by rw [hnx, if_neg (by decide)]) (Nat.le_trans hBw hV.size) (hno rfl)
   | true =>
    obtain ⟨hfr, _, _, us', hc', hrow', hl', htx'⟩ := hyes rfl
    rw [← hj, hst] at hc' htx'
    refine mt_yes (by rw [hnx, if_pos rfl]) (hfr.below (Nat.le_trans hBw hV.size) (by intro k hk; simp at hk; rcases hk with rfl | rfl <;> assumption)) ⟨h, cL, us', hBh, ?_, hrow', htx'⟩
    rw [hl']
    exact hc'
theorem meet_off (K : Nat) (hKB : K ≤ B) (hBg : B ≤ g) (hc : Cel w g 54 (rcells A n c A1 nv c1 most false 0 0 0 0 none 0 0)) (vs : List Fs) (hf : Fbk w A vs) (hfit : Bfit vs n nv most) (v : Rv) (hr : Rok w K v) (hm : may v.r = true) (hv2 : v.r.s.visit < 9223372036854775808) (hv3 : v.r.s.tries < 9223372036854775808) :
  Calls Try.prog 16 #[pp g 0, .agg v.cells.toArray] w (MtSays w B g A n c A1 nv c1 most (if v.r.kind = 1 ∧ right (bok vs nv most) v.r.s = true then some v.r.s else none)) := by
 have hBw : B ≤ w.heap.size := Nat.le_trans hBg (Nat.le_of_lt hc.lt)
 have hKw : K ≤ w.heap.size := by omega
 rcases may_kind hm with hk | hk | hk
 ·refine meet_go w B g A n c A1 nv c1 most hBw v 1 hk (by decide) _ rfl point_e _ fun V hV => ?_
  have q := point_off V B g A n c A1 nv c1 most K (Nat.le_trans hKw hV.size) hBg 0 0 0 0 none 0 0 (hc.below hV hc.lt) vs (hf.below hV) hfit v (hr.below hKw hV) hv2 hv3
  simp only [hk, true_and]
  exact q
 ·refine meet_go w B g A n c A1 nv c1 most hBw v 2 hk (by decide) _ rfl intent_e _ fun V hV => ?_
  refine (intent_off V g A n c A1 nv c1 most K false 0 0 0 0 none 0 0 (hc.below hV hc.lt) vs [] ⟨hf.below hV, hfit, by decide, by decide, Nat.le_trans hKw hV.size, ⟨by simp, by simp⟩, rfl, Nat.zero_le _⟩ rfl v).mono ?_
  rintro e w' ⟨rfl, hb⟩
  exact mt_no (if_neg (fun q => by omega)) (Nat.le_trans hBw hV.size) hb
 ·refine meet_go w B g A n c A1 nv c1 most hBw v 3 hk (by decide) _ rfl outcome_e _ fun V hV => ?_
  refine (outcome_off V g A n c A1 nv c1 most K false 0 0 0 0 none 0 0 (hc.below hV hc.lt) vs [] ⟨hf.below hV, hfit, by decide, by decide, Nat.le_trans hKw hV.size, ⟨by simp, by simp⟩, rfl, Nat.zero_le _⟩ rfl v).mono ?_
  rintro e w' ⟨rfl, hb⟩
  exact mt_no (if_neg (fun q => by omega)) (Nat.le_trans hBw hV.size) hb
end
end Go.Proofs.Ytfmkkklcgiaacaa.Fold
end
