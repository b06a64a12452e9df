/-
The program's runbook (layer 12): where a step, an arm begins and ends.
-/
import Derived.Test.YteohlpmojfjjdaaGreatR0
import Derived.Test.YteohlpmojfjjdaaGreatR1
import Derived.Test.YteohlpmojfjjdaaGreatR2
import Derived.Test.YteohlpmojfjjdaaGreatR4
import Derived.Test.YteohlpmojfjjdaaGreatR7
import Derived.Test.YteohlpmojfjjdaaGreatR8
import Derived.Test.YteohlpmojfjjdaaGreatR23
import Derived.Test.YteohlpmojfjjdaaGreatR27
import Derived.Test.YteohlpmojfjjdaaGreatR38
set_option linter.unusedVariables false
set_option linter.unusedSimpArgs false
set_option maxRecDepth 100000
set_option maxHeartbeats 4000000
namespace Go.Proofs.YteohlpmojfjjdaaGreat.Book
open Go.RowKit Go.Proofs.YteohlpmojfjjdaaGreat.Ord
open Lex (Tok Tk B cut Tv Tx tflat Cr cr_ry Ptk hmf)
theorem infoArmP : (Tryz.prog.info? 56).map (fun i => (i.zero, i.size, i.bytes)) = some (some (.agg #[.int .i64 0, .slice none 0 0, .string ⟨#[]⟩, .string ⟨#[]⟩]), 4, 64) := by kernel_rfl
theorem rowArmP : ElemRow Tryz.prog 50 56 4 64 := ElemRow.mk' Tryz.underlying50 infoArmP rfl (by decide)
theorem infoStpP : (Tryz.prog.info? 52).map (fun i => (i.zero, i.size, i.bytes)) = some (some (.agg #[.int .i64 0, .string ⟨#[]⟩, .int .i64 0, .bool false, .slice none 0 0, .slice none 0 0, .int .i64 0, .int .i64 0, .string ⟨#[]⟩]), 9, 120) := by kernel_rfl
theorem rowStpP : ElemRow Tryz.prog 22 52 9 120 := ElemRow.mk' Tryz.underlying22 infoStpP rfl (by decide)
theorem tx_nil (W : World) : Tx W 0 none [] := .inl ⟨rfl, fun h => absurd h (by simp)⟩
theorem tc_nil (W : World) : Tc W 0 none 0 [] := ⟨tx_nil W, Nat.le_refl _⟩
section
variable {W w w1 w2 : World} {g K : Nat} {o : Bool} {s s' : Ps} {x x' : Px}
theorem Pw.begun (h : Pw W w g K o s x) (hf : Frm [g] w w1) (hc : Cel w1 g 77 (pcells (uBegin s) { x with A8 := none, c8 := 0, A9 := none, c9 := 0, avs := [] })) : Pw W w1 g K true (uBegin s) { x with A8 := none, c8 := 0, A9 := none, c9 := 0, avs := [] } := by
 refine ⟨h.bel.trans (hf.below h.bel.size (by intro q hq; rw [List.mem_singleton.1 hq]; exact h.gW)), h.gW, hc, ⟨h.rest.ptk, h.rest.tok, h.rest.cap, h.rest.caps⟩, tc_nil W, h.pat, h.kW, Nat.le_trans h.kw hf.size, fun _ => ⟨World.ownsRow_nil _ _ _ _, rfl, fun v hv => (by cases hv)⟩, ⟨?_, h.stps.st, h.stps.tx, fun v hv => ?_⟩⟩
 ·exact own_frm h.stps.own hf fun k hk => by rw [List.mem_singleton.1 hk]; exact own_ty_ne h.stps.own h.cel (by decide)
 ·refine ⟨(h.stps.ar v hv).1.keep fun k o fz _ hk => hf.block k (Array.getElem?_eq_some_iff.1 hk).1 fun hm => ?_, (h.stps.ar v hv).2⟩
  rw [List.mem_singleton.1 hm] at hk
  exact Cel.not_ty h.cel (by decide) _ _ hk
theorem Pw.armed {A' : Option Addr} {c' : Nat} (h : Pw W w1 g K true s x) (hg : w1.grownBy w2 (Value.slice x.A9 s.step.arms.length x.c9).ownBlock) (ho : w2.ownsRow K 56 4 (.slice A' (s.step.arms.length + 1) c') (s.step.arms.length + 1) (aflat x.avs ++ (Av.cells ⟨s.arm, x.A14, x.c14⟩))) :
  Cel w2 g 77 (pcells s x) ∧ Pw W (w2.setCell ⟨g, 9, none⟩ (.slice A' (s.step.arms.length + 1) c')) g K true (uArm s) { x with A9 := A', c9 := c', avs := x.avs ++ [⟨s.arm, x.A14, x.c14⟩] } ∧ Chp w1 (w2.setCell ⟨g, 9, none⟩ (.slice A' (s.step.arms.length + 1) c')) := by
 have hown := (h.arms rfl).own
 have hc2 : Cel w2 g 77 (pcells s x) := Cel.grown h.cel hg (own_ty_ne hown h.cel (by decide))
 have hf1 : Frm (Value.slice x.A9 s.step.arms.length x.c9).ownBlock.toList w1 w2 := (Frm.refl _ _).grown hg (fun k e _ => by rw [e]; simp)
 have hf2 : Frm [g] w2 (w2.setCell ⟨g, 9, none⟩ (.slice A' (s.step.arms.length + 1) c')) := (Frm.refl _ w2).set (by simp) _
 have hb1 : Below W.heap.size w1 w2 := hf1.below h.bel.size fun k hk => Nat.le_trans h.kW (own_ge hown k (by simpa using hk))
 have hlen : (s.step.arms ++ [s.arm]).length = s.step.arms.length + 1 := by simp
 have hst : w2.ownsRow W.heap.size 52 9 (.slice x.A3 s.steps.length x.c3) s.steps.length (s9flat x.bvs) := own_frm h.stps.own hf1 fun k hk => own_two hown h.stps.own (by decide) k (by simpa using hk)
 refine ⟨hc2, ⟨(h.bel.trans hb1).trans (hf2.below (Nat.le_trans h.bel.size hg.size) (by intro q hq; rw [List.mem_singleton.1 hq]; exact h.gW)), h.gW, ?_, ⟨h.rest.ptk, h.rest.tok, h.rest.cap, h.rest.caps⟩, h.send, h.pat, h.kW, Nat.le_trans h.kw (Nat.le_trans hg.size hf2.size), fun _ => ⟨?_, ?_, fun v hv => ?_⟩, ⟨?_, h.stps.st, h.stps.tx, fun v hv => ?_⟩⟩, (Chp.grown hown (.inl rfl) hg).trans (Chp.frm hc2 hf2)⟩
 ·have := hc2.set 9 (.slice A' (s.step.arms.length + 1) c')
  rw [← hlen] at this ⊢
  exact this
 ·show (w2.setCell _ _).ownsRow K 56 4 (.slice A' (s.step.arms ++ [s.arm]).length c') (s.step.arms ++ [s.arm]).length (aflat (x.avs ++ [⟨s.arm, x.A14, x.c14⟩]))
  rw [hlen, aflat_app]
  exact own_frm (show w2.ownsRow K 56 4 (.slice A' (s.step.arms.length + 1) c') (s.step.arms.length + 1) (aflat x.avs ++ aflat [⟨s.arm, x.A14, x.c14⟩]) by rw [show aflat [⟨s.arm, x.A14, x.c14⟩] = Av.cells ⟨s.arm, x.A14, x.c14⟩ by simp [aflat]]; exact ho) hf2 fun k hk => by rw [List.mem_singleton.1 hk]; exact own_ty_ne ho hc2 (by decide)
 ·show List.map (fun v : Av => v.a) (x.avs ++ [_]) = s.step.arms ++ [s.arm]
  rw [List.map_append, (h.arms rfl).am]
  rfl
 ·rcases List.mem_append.1 hv with hv | hv
  ·exact (h.arms rfl).tx v hv
  ·rw [List.mem_singleton.1 hv]; exact h.pat
 ·exact own_frm hst hf2 fun k hk => by rw [List.mem_singleton.1 hk]; exact own_ty_ne hst hc2 (by decide)
 ·refine ⟨((h.stps.ar v hv).1.keep fun k o fz hK hk => hf1.block k (Array.getElem?_eq_some_iff.1 hk).1 fun hm => ?_).keep fun k o fz _ hk => hf2.block k (Array.getElem?_eq_some_iff.1 hk).1 fun hm => ?_, (h.stps.ar v hv).2⟩
  ·have := own_ge hown k (by simpa using hm)
   omega
  ·rw [List.mem_singleton.1 hm] at hk
   exact Cel.not_ty hc2 (by decide) _ _ hk
theorem Pw.stepped {A' : Option Addr} {c' : Nat} (h : Pw W w1 g K true s x) (hg : w1.grownBy w2 (Value.slice x.A3 s.steps.length x.c3).ownBlock) (ho : w2.ownsRow W.heap.size 52 9 (.slice A' (s.steps.length + 1) c') (s.steps.length + 1) (s9flat x.bvs ++ (Bv.cells ⟨s.step, x.A8, x.c8, x.A9, x.c9, x.avs⟩))) :
  Cel w2 g 77 (pcells s x) ∧ Pw W (w2.setCell ⟨g, 3, none⟩ (.slice A' (s.steps.length + 1) c')) g w2.heap.size false (uStep s) { x with A3 := A', c3 := c', bvs := x.bvs ++ [⟨s.step, x.A8, x.c8, x.A9, x.c9, x.avs⟩] } ∧ Chp w1 (w2.setCell ⟨g, 3, none⟩ (.slice A' (s.steps.length + 1) c')) := by
 have hown := h.stps.own
 have hc2 : Cel w2 g 77 (pcells s x) := Cel.grown h.cel hg (own_ty_ne hown h.cel (by decide))
 have hf1 : Frm (Value.slice x.A3 s.steps.length x.c3).ownBlock.toList w1 w2 := (Frm.refl _ _).grown hg (fun k e _ => by rw [e]; simp)
 have hf2 : Frm [g] w2 (w2.setCell ⟨g, 3, none⟩ (.slice A' (s.steps.length + 1) c')) := (Frm.refl _ w2).set (by simp) _
 have hb1 : Below W.heap.size w1 w2 := hf1.below h.bel.size fun k hk => own_ge hown k (by simpa using hk)
 have hlen : (s.steps ++ [s.step]).length = s.steps.length + 1 := by simp
 have hst : w2.ownsRow K 56 4 (.slice x.A9 s.step.arms.length x.c9) s.step.arms.length (aflat x.avs) := own_frm (h.arms rfl).own hf1 fun k hk => own_two hown (h.arms rfl).own (by decide) k (by simpa using hk)
 have rlo : ∀ {L : Nat} {A : Option Addr} {cs : List Value}, Rlo w2 L A cs → Rlo (w2.setCell ⟨g, 3, none⟩ (.slice A' (s.steps.length + 1) c')) L A cs := fun hr => hr.keep fun k o fz _ hk => hf2.block k (Array.getElem?_eq_some_iff.1 hk).1 fun hm => by
  rw [List.mem_singleton.1 hm] at hk
  exact Cel.not_ty hc2 (by decide) _ _ hk
 refine ⟨hc2, ⟨(h.bel.trans hb1).trans (hf2.below (Nat.le_trans h.bel.size hg.size) (by intro q hq; rw [List.mem_singleton.1 hq]; exact h.gW)), h.gW, ?_, ⟨h.rest.ptk, h.rest.tok, h.rest.cap, h.rest.caps⟩, h.send, h.pat, Nat.le_trans h.bel.size hg.size, hf2.size, fun e => (by cases e), ⟨?_, ?_, fun v hv => ?_, fun v hv => ?_⟩⟩, (Chp.grown hown (.inr rfl) hg).trans (Chp.frm hc2 hf2)⟩
 ·have := hc2.set 3 (.slice A' (s.steps.length + 1) c')
  rw [← hlen] at this ⊢
  exact this
 ·show (w2.setCell _ _).ownsRow W.heap.size 52 9 (.slice A' (s.steps ++ [s.step]).length c') (s.steps ++ [s.step]).length (s9flat (x.bvs ++ [⟨s.step, x.A8, x.c8, x.A9, x.c9, x.avs⟩]))
  rw [hlen, s9flat_app]
  exact own_frm (show w2.ownsRow W.heap.size 52 9 (.slice A' (s.steps.length + 1) c') (s.steps.length + 1) (s9flat x.bvs ++ s9flat [⟨s.step, x.A8, x.c8, x.A9, x.c9, x.avs⟩]) by rw [show s9flat [⟨s.step, x.A8, x.c8, x.A9, x.c9, x.avs⟩] = Bv.cells ⟨s.step, x.A8, x.c8, x.A9, x.c9, x.avs⟩ by simp [s9flat]]; exact ho) hf2 fun k hk => by rw [List.mem_singleton.1 hk]; exact own_ty_ne ho hc2 (by decide)
 ·show List.map (fun v : Bv => v.s) (x.bvs ++ [_]) = s.steps ++ [s.step]
  rw [List.map_append, h.stps.st]
  rfl
 ·rcases List.mem_append.1 hv with hv | hv
  ·exact h.stps.tx v hv
  ·rw [List.mem_singleton.1 hv]; exact h.send
 ·rcases List.mem_append.1 hv with hv | hv
  ·refine ⟨rlo (((h.stps.ar v hv).1.keep fun k o fz hK hk => hf1.block k (Array.getElem?_eq_some_iff.1 hk).1 fun hm => ?_).more (Nat.le_trans h.kw hg.size)), (h.stps.ar v hv).2⟩
   exact own_not_ty hown (by decide) k _ _ (by simpa using hm) hk
  ·rw [List.mem_singleton.1 hv]
   exact ⟨rlo (Rlo.of_own hst), (h.arms rfl).am, (h.arms rfl).tx⟩
end
section
variable {W : World} {g : Nat}
theorem beginStep_ : Contract W g false true 90 fBegin := by
 intro w s h hj
 obtain ⟨K, x, h⟩ := h
 have k1 : w.cell? ⟨g, 1, none⟩ = some (.int .i64 (s.at_ : Int)) := h.c 1
 obtain ⟨at0, ha0⟩ : ∃ a, a = (s.at_ : Int) := ⟨_, rfl⟩
 obtain ⟨u4, k4⟩ : ∃ u, w.cell? ⟨g, 4, none⟩ = some u := ⟨_, h.c 4⟩
 have f4 := h.f 4
 obtain ⟨u5, k5⟩ : ∃ u, w.cell? ⟨g, 5, none⟩ = some u := ⟨_, h.c 5⟩
 have f5 := h.f 5
 obtain ⟨u6, k6⟩ : ∃ u, w.cell? ⟨g, 6, none⟩ = some u := ⟨_, h.c 6⟩
 have f6 := h.f 6
 obtain ⟨u7, k7⟩ : ∃ u, w.cell? ⟨g, 7, none⟩ = some u := ⟨_, h.c 7⟩
 have f7 := h.f 7
 obtain ⟨u8, k8⟩ : ∃ u, w.cell? ⟨g, 8, none⟩ = some u := ⟨_, h.c 8⟩
 have f8 := h.f 8
 obtain ⟨u9, k9⟩ : ∃ u, w.cell? ⟨g, 9, none⟩ = some u := ⟨_, h.c 9⟩
 have f9 := h.f 9
 obtain ⟨u10, k10⟩ : ∃ u, w.cell? ⟨g, 10, none⟩ = some u := ⟨_, h.c 10⟩
 have f10 := h.f 10
 obtain ⟨u11, k11⟩ : ∃ u, w.cell? ⟨g, 11, none⟩ = some u := ⟨_, h.c 11⟩
 have f11 := h.f 11
 obtain ⟨u12, k12⟩ : ∃ u, w.cell? ⟨g, 12, none⟩ = some u := ⟨_, h.c 12⟩
 have f12 := h.f 12
 have hf : Frm [g] w (((((((((w.setCell ⟨g, 4, none⟩ (.int .i64 (s.at_ : Int))).setCell ⟨g, 5, none⟩ (.string ⟨#[]⟩)).setCell ⟨g, 6, none⟩ (.int .i64 0)).setCell ⟨g, 7, none⟩ (.bool false)).setCell ⟨g, 8, none⟩ (.slice none 0 0)).setCell ⟨g, 9, none⟩ (.slice none 0 0)).setCell ⟨g, 10, none⟩ (.int .i64 0)).setCell ⟨g, 11, none⟩ (.int .i64 0)).setCell ⟨g, 12, none⟩ (.string ⟨#[]⟩)) := ((((((((((Frm.refl [g] w).set (p := ⟨g, 4, none⟩) (by simp) (.int .i64 (s.at_ : Int))).set (p := ⟨g, 5, none⟩) (by simp) (.string ⟨#[]⟩)).set (p := ⟨g, 6, none⟩) (by simp) (.int .i64 0)).set (p := ⟨g, 7, none⟩) (by simp) (.bool false)).set (p := ⟨g, 8, none⟩) (by simp) (.slice none 0 0)).set (p := ⟨g, 9, none⟩) (by simp) (.slice none 0 0)).set (p := ⟨g, 10, none⟩) (by simp) (.int .i64 0)).set (p := ⟨g, 11, none⟩) (by simp) (.int .i64 0)).set (p := ⟨g, 12, none⟩) (by simp) (.string ⟨#[]⟩))
 have hc := Chp.frm h.cel hf
 have HEND := Lib.hid (show PtSays W w g true (fBegin s) (.returned (.bool true)) (((((((((w.setCell ⟨g, 4, none⟩ (.int .i64 (s.at_ : Int))).setCell ⟨g, 5, none⟩ (.string ⟨#[]⟩)).setCell ⟨g, 6, none⟩ (.int .i64 0)).setCell ⟨g, 7, none⟩ (.bool false)).setCell ⟨g, 8, none⟩ (.slice none 0 0)).setCell ⟨g, 9, none⟩ (.slice none 0 0)).setCell ⟨g, 10, none⟩ (.int .i64 0)).setCell ⟨g, 11, none⟩ (.int .i64 0)).setCell ⟨g, 12, none⟩ (.string ⟨#[]⟩)) from ⟨hc, rfl, K, _, h.begun hf (show Cel _ g _ (pcells (uBegin s) _) from (Cel.set (Cel.set (Cel.set (Cel.set (Cel.set (Cel.set (Cel.set (Cel.set (Cel.set h.cel 4 (.int .i64 (s.at_ : Int))) 5 (.string ⟨#[]⟩)) 6 (.int .i64 0)) 7 (.bool false)) 8 (.slice none 0 0)) 9 (.slice none 0 0)) 10 (.int .i64 0)) 11 (.int .i64 0)) 12 (.string ⟨#[]⟩)))⟩)
 clear h hj hf hc ha0 at0
 go_enter Tryz.func90, Tryz.ntmps90
 go_wp2_with fail
 go_ret
 exact HEND.out
theorem beginStep_e : Enters 90 := enters_of Tryz.func90 (by kernel_rfl) rfl
theorem beginArm_ : Contract W g true true 127 fBeginA := by
 intro w s h hj
 obtain ⟨K, x, h⟩ := h
 have k1 : w.cell? ⟨g, 1, none⟩ = some (.int .i64 (s.at_ : Int)) := h.c 1
 obtain ⟨at0, ha0⟩ : ∃ a, a = (s.at_ : Int) := ⟨_, rfl⟩
 obtain ⟨u13, k13⟩ : ∃ u, w.cell? ⟨g, 13, none⟩ = some u := ⟨_, h.c 13⟩
 have f13 := h.f 13
 obtain ⟨u14, k14⟩ : ∃ u, w.cell? ⟨g, 14, none⟩ = some u := ⟨_, h.c 14⟩
 have f14 := h.f 14
 obtain ⟨u15, k15⟩ : ∃ u, w.cell? ⟨g, 15, none⟩ = some u := ⟨_, h.c 15⟩
 have f15 := h.f 15
 obtain ⟨u16, k16⟩ : ∃ u, w.cell? ⟨g, 16, none⟩ = some u := ⟨_, h.c 16⟩
 have f16 := h.f 16
 have hf : Frm [g] w ((((w.setCell ⟨g, 13, none⟩ (.int .i64 (s.at_ : Int))).setCell ⟨g, 14, none⟩ (.slice none 0 0)).setCell ⟨g, 15, none⟩ (.string ⟨#[]⟩)).setCell ⟨g, 16, none⟩ (.string ⟨#[]⟩)) := (((((Frm.refl [g] w).set (p := ⟨g, 13, none⟩) (by simp) (.int .i64 (s.at_ : Int))).set (p := ⟨g, 14, none⟩) (by simp) (.slice none 0 0)).set (p := ⟨g, 15, none⟩) (by simp) (.string ⟨#[]⟩)).set (p := ⟨g, 16, none⟩) (by simp) (.string ⟨#[]⟩))
 have hc := Chp.frm h.cel hf
 have HEND := Lib.hid (show PtSays W w g true (fBeginA s) (.returned (.bool true)) ((((w.setCell ⟨g, 13, none⟩ (.int .i64 (s.at_ : Int))).setCell ⟨g, 14, none⟩ (.slice none 0 0)).setCell ⟨g, 15, none⟩ (.string ⟨#[]⟩)).setCell ⟨g, 16, none⟩ (.string ⟨#[]⟩)) from ⟨hc, rfl, K, _, h.wrote (s' := uBeginA s) (x' := { x with A14 := none, c14 := 0 }) hf (show Cel _ g _ (pcells (uBeginA s) _) from (Cel.set (Cel.set (Cel.set (Cel.set h.cel 13 (.int .i64 (s.at_ : Int))) 14 (.slice none 0 0)) 15 (.string ⟨#[]⟩)) 16 (.string ⟨#[]⟩))) ⟨h.rest.ptk, h.rest.tok, h.rest.cap, h.rest.caps⟩ h.send (tx_nil W) ⟨rfl, rfl, rfl, rfl⟩ ⟨rfl, rfl, rfl, rfl⟩⟩)
 clear h hj hf hc ha0 at0
 go_enter Tryz.func127, Tryz.ntmps127
 go_wp2_with fail
 go_ret
 exact HEND.out
theorem beginArm_e : Enters 127 := enters_of Tryz.func127 (by kernel_rfl) rfl
theorem takeTag_ : Contract W g true true 92 fTag := by
 intro w s h hj
 obtain ⟨K, x, h⟩ := h
 have HEND1 := Lib.hid (show ∀ w' x', Chp w w' → Pw W w' g K true (takeS s) x' → fTag s = .ok (uTag 1 (takeS s)) → PtSays W w g true (fTag s) (.returned (.bool true)) (w'.setCell ⟨g, 6, none⟩ (.int .i64 1)) from fun w' x' hc hp he => by
  rw [he]
  exact ⟨hc.trans (Chp.frm hp.cel ((Frm.refl [g] w').set (p := ⟨g, 6, none⟩) (by simp) _)), rfl, K, x', hp.put (by rfl) hp.rest hp.send hp.pat ⟨rfl, rfl, rfl, rfl⟩ ⟨rfl, rfl, rfl, rfl⟩⟩)
 have HEND2 := Lib.hid (show ∀ w' x', Chp w w' → Pw W w' g K true (takeS s) x' → fTag s = .ok (uTag 2 (takeS s)) → PtSays W w g true (fTag s) (.returned (.bool true)) (w'.setCell ⟨g, 6, none⟩ (.int .i64 2)) from fun w' x' hc hp he => by
  rw [he]
  exact ⟨hc.trans (Chp.frm hp.cel ((Frm.refl [g] w').set (p := ⟨g, 6, none⟩) (by simp) _)), rfl, K, x', hp.put (by rfl) hp.rest hp.send hp.pat ⟨rfl, rfl, rfl, rfl⟩ ⟨rfl, rfl, rfl, rfl⟩⟩)
 have con := hasWord_ h wOnce _ rfl
 rw [show str wOnce = ByteArray.mk #[111, 110, 99, 101] from rfl] at con
 obtain ⟨b, hb⟩ : ∃ b, b = wd wOnce s.l := ⟨_, rfl⟩
 unfold HwSays at con
 rw [← hb] at con
 cases b with
 | true =>
  have he : fTag s = .ok (uTag 1 (takeS s)) := by unfold fTag; rw [if_pos hb.symm]
  have HE := Lib.hid he
  clear h hb hj he HEND2
  go_enter Tryz.func92, Tryz.ntmps92
  go_wp2_with fail
  refine con.mono ?_
  clear con
  rintro e w1 ⟨rfl, hc, x', hp⟩
  obtain ⟨u6, k6⟩ : ∃ u, w1.cell? ⟨g, 6, none⟩ = some u := ⟨_, hp.c 6⟩
  have f6 := hp.f 6
  have HT := Lib.hid (HEND1.out w1 x' hc hp HE.out)
  clear hc hp
  go_wp2_with fail
  go_ret
  exact HT.out
 | false =>
  have h2 : ∀ w1 x', Pw W w1 g K true s x' → Calls Tryz.prog 123 #[pp g, .string (ByteArray.mk #[105, 100, 101, 109])] w1 (HwSays W w1 g K true s wIdem) := fun w1 x' hp => hasWord_ hp wIdem _ rfl
  obtain ⟨b, hb2⟩ : ∃ b, b = wd wIdem s.l := ⟨_, rfl⟩
  unfold HwSays at h2
  rw [← hb2] at h2
  have H2 := Lib.hid h2
  cases b with
  | true =>
   have he : fTag s = .ok (uTag 2 (takeS s)) := by unfold fTag; rw [if_neg (by rw [← hb]; simp), if_pos hb2.symm]
   have HE := Lib.hid he
   clear h hb hb2 hj he HEND1 h2
   go_enter Tryz.func92, Tryz.ntmps92
   go_wp2_with fail
   refine con.mono ?_
   clear con
   rintro e w1 ⟨rfl, hc, x', hp⟩
   have con2 := H2.out w1 x' hp
   have HC := Lib.hid hc
   clear hc hp
   go_wp2_with fail
   refine con2.mono ?_
   clear con2
   rintro e w2 ⟨rfl, hc2, x2, hp2⟩
   obtain ⟨u6, k6⟩ : ∃ u, w2.cell? ⟨g, 6, none⟩ = some u := ⟨_, hp2.c 6⟩
   have f6 := hp2.f 6
   have HT := Lib.hid (HEND2.out w2 x2 (HC.out.trans hc2) hp2 HE.out)
   clear hc2 hp2
   go_wp2_with fail
   go_ret
   exact HT.out
  | false =>
   have he : fTag s = .ok s := by unfold fTag; rw [if_neg (by rw [← hb]; simp), if_neg (by rw [← hb2]; simp)]
   have HE := Lib.hid he
   clear h hb hb2 hj he HEND1 HEND2 h2
   go_enter Tryz.func92, Tryz.ntmps92
   go_wp2_with fail
   refine con.mono ?_
   clear con
   rintro e w1 ⟨rfl, hc, x', hp⟩
   have con2 := H2.out w1 x' hp
   have HC := Lib.hid hc
   clear hc hp
   go_wp2_with fail
   refine con2.mono ?_
   clear con2
   rintro e w2 ⟨rfl, hc2, x2, hp2⟩
   have HT := Lib.hid (show PtSays W w g true (fTag s) (.returned (.bool true)) w2 from ⟨HC.out.trans hc2, by rw [HE.out]; exact ⟨rfl, K, x2, hp2⟩⟩)
   clear hc2 hp2
   go_wp2_with fail
   go_ret
   exact HT.out
theorem takeTag_e : Enters 92 := enters_of Tryz.func92 (by kernel_rfl) rfl
theorem endArm_ : Contract W g true true 131 fEndA := by
 intro w s h hj
 obtain ⟨L, x, h⟩ := h
 obtain ⟨a0, ha0⟩ : ∃ a, a = (.int .i64 (s.arm.at_ : Int) : Value) := ⟨_, rfl⟩
 obtain ⟨a1, ha1⟩ : ∃ a, a = (.slice x.A14 s.arm.pat.length x.c14 : Value) := ⟨_, rfl⟩
 obtain ⟨a2, ha2⟩ : ∃ a, a = (.string (str s.arm.as_) : Value) := ⟨_, rfl⟩
 obtain ⟨a3, ha3⟩ : ∃ a, a = (.string (str s.arm.go) : Value) := ⟨_, rfl⟩
 obtain ⟨A9, hA9⟩ : ∃ A, A = x.A9 := ⟨_, rfl⟩
 obtain ⟨n, hn⟩ : ∃ n, n = s.step.arms.length := ⟨_, rfl⟩
 obtain ⟨c9, hc9⟩ : ∃ c, c = x.c9 := ⟨_, rfl⟩
 have rdd : ∀ V, Cel V g 77 (pcells s x) → (fun V => V.cell? ⟨g, 9, none⟩ = some (.slice A9 n c9) ∧ V.cell? ⟨g, 13, none⟩ = some a0 ∧ V.cell? ⟨g, 14, none⟩ = some a1 ∧ V.cell? ⟨g, 15, none⟩ = some a2 ∧ V.cell? ⟨g, 16, none⟩ = some a3) V := fun V hV => ⟨by rw [hA9, hn, hc9]; exact hV.cell 9, by rw [ha0]; exact hV.cell 13, by rw [ha1]; exact hV.cell 14, by rw [ha2]; exact hV.cell 15, by rw [ha3]; exact hV.cell 16⟩
 have hb1 : Below w.heap.size w (w.drew.alloc (.cells #[a0, a1, a2, a3] 56)) := (Below.refl _ _).drew.alloc (Nat.le_refl _) _
 have h1 := Pw.below h hb1
 have HS1 := Lib.hid (rdd _ h1.cel)
 have hH := rdd w.drew h.cel
 have HRD := Lib.hid rdd
 have HO1 := Lib.hid (show World.ownsRow (w.drew.alloc (.cells #[a0, a1, a2, a3] 56)) L 56 4 (.slice A9 n c9) n (aflat x.avs) by rw [hA9, hn, hc9]; exact (h1.arms rfl).own)
 have hsrc := Lib.hid (Ry.src (m := 1) (Ry.of_cel (Cel.new w.drew 56 [a0, a1, a2, a3])) (by simp))
 have HONE := Lib.hid (show ∀ u ∈ [a0, a1, a2, a3], u.oneCell' = true by rw [ha0, ha1, ha2, ha3]; intro u hu; simp at hu; rcases hu with rfl | rfl | rfl | rfl <;> rfl)
 have HKW := Lib.hid (Nat.le_trans h.kw hb1.size)
 have HUP := Lib.hid (show ∀ A8 c8 w8, World.grownBy (w.drew.alloc (.cells #[a0, a1, a2, a3] 56)) w8 (Value.slice A9 n c9).ownBlock → w8.ownsRow L 56 4 (.slice A8 (n + 1) c8) (n + 1) (aflat x.avs ++ [a0, a1, a2, a3]) → Cel w8 g 77 (pcells s x) ∧ PtSays W w g true (fEndA s) (.returned (.bool true)) (w8.setCell ⟨g, 9, none⟩ (.slice A8 (n + 1) c8)) ∧ True from fun A8 c8 w8 hg ho => by
  rw [hn] at hg ho ⊢
  rw [hA9, hc9] at hg
  rw [ha0, ha1, ha2, ha3] at ho
  obtain ⟨q1, q2, q3⟩ := h1.armed hg ho
  exact ⟨q1, ⟨(Chp.of_below hb1).trans q3, rfl, L, _, q2⟩, trivial⟩)
 have hn2 : n ≤ 3000 := by rw [hn]; have := hj.1; omega
 clear h h1 hj rdd hb1 hA9 hn hc9 ha0 ha1 ha2 ha3
 obtain ⟨us, hus⟩ : ∃ us, us = aflat x.avs := ⟨_, rfl⟩
 rw [← hus] at HO1 HUP
 go_enter Tryz.func131, Tryz.ntmps131
 go_wp2_with fail
 refine wp_region_N [15] (fun V => V.cell? ⟨g, 9, none⟩ = some (.slice A9 n c9) ∧ V.cell? ⟨g, 13, none⟩ = some a0 ∧ V.cell? ⟨g, 14, none⟩ = some a1 ∧ V.cell? ⟨g, 15, none⟩ = some a2 ∧ V.cell? ⟨g, 16, none⟩ = some a3) (by kernel_rfl) ?_
 refine tk_ 0 ((pp g)) [15] rfl hH ?_ ?_
 ·intro V hV; go_simp
 try simp only [Act.put, lay_]
 refine tk_ 1 ((pp g)) [15] rfl hH ?_ ?_
 ·intro V hV; go_simp
 try simp only [Act.put, lay_]
 refine tk_ 2 ((pp g)) [15] rfl hH ?_ ?_
 ·intro V hV; go_simp
 try simp only [Act.put, lay_]
 refine tk_ 3 (.pointer (some ⟨g, 4, none⟩)) [15] rfl hH ?_ ?_
 ·intro V hV; go_simp
 try simp only [Act.put, lay_]
 refine tk_ 4 (.pointer (some ⟨g, 9, none⟩)) [15] rfl hH ?_ ?_
 ·intro V hV; go_simp
 try simp only [Act.put, lay_]
 refine tk_ 5 (.slice A9 n c9) [15] rfl hH ?_ ?_
 ·intro V hV; obtain ⟨k, j⟩ := hV; obtain ⟨j0, j1, j2, j3⟩ := j; go_simp
 try simp only [Act.put, lay_]
 refine tk_ 6 ((pp g)) [15] rfl hH ?_ ?_
 ·intro V hV; go_simp
 try simp only [Act.put, lay_]
 refine tk_ 7 ((pp g)) [15] rfl hH ?_ ?_
 ·intro V hV; go_simp
 try simp only [Act.put, lay_]
 refine tk_ 8 (.pointer (some ⟨g, 13, none⟩)) [15] rfl hH ?_ ?_
 ·intro V hV; go_simp
 try simp only [Act.put, lay_]
 refine tk_ 9 (.agg #[a0, a1, a2, a3]) [15] rfl hH ?_ ?_
 ·intro V hV; obtain ⟨k, j⟩ := hV; obtain ⟨j0, j1, j2, j3⟩ := j; go_simp
 try simp only [Act.put, lay_]
 refine wpAnyN_one (i := 10) (by kernel_rfl) rfl (fun K hK => ?_)
 go_simp
 refine hK.out _ _ (.inr HS1.out) ?_
 clear hK K
 try simp only [Act.put, lay_]
 refine wpAnyN_one (i := 11) (by kernel_rfl) rfl (fun K hK => ?_)
 rw [if_pos (by rfl)]
 refine wp_append_any _ _ _ 50 rfl L 56 rowArmP (.slice A9 n c9) n us rfl HO1.out (some ⟨w.drew.heap.size, 0, none⟩) 1 1 [a0, a1, a2, a3] rfl rfl hsrc.out HONE.out (n + 1) _ rfl rfl (by unfold maxLen; omega) (by omega) HKW.out ?_
 intro A8 c8 w8 ho8 hg8 _
 obtain ⟨hc8, hp8, hh8⟩ := HUP.out A8 c8 w8 hg8 ho8
 have hS8 := HRD.out w8 hc8
 have y8 := hS8.1
 have z8 := Cel.free hc8 9
 have HP8 := Lib.hid hp8
 have HH8 := Lib.hid hh8
 refine hK.out _ _ (.inr hS8) ?_
 clear hK K ho8 hg8 hc8 hp8 hh8
 try simp only [Act.put, lay_]
 refine wpAnyN_one (i := 12) (by kernel_rfl) rfl (fun K hK => ?_)
 go_simp
 refine hK.out _ _ (.inr hS8) ?_
 clear hK K
 try simp only [Act.put, lay_]
 refine wpAnyN_one (i := 13) (by kernel_rfl) rfl (fun K hK => ?_)
 go_simp
 refine hK.out _ _ (.inr hS8) ?_
 clear hK K
 try simp only [Act.put, lay_]
 refine wpAnyN_one (i := 14) (by kernel_rfl) rfl (fun K hK => ?_)
 go_simp
 refine hK.out _ _ (.inr hS8) ?_
 clear hK K
 try simp only [Act.put, lay_]
 refine wpAnyN_one (i := 15) (by kernel_rfl) rfl (fun K hK => ?_)
 go_simp
 refine hK.out _ _ (.inl (by decide)) ?_
 clear hK K
 try simp only [Act.put, lay_]
 refine wpAnyN_done (by kernel_rfl) ?_ _
 go_wp2_with fail
 go_ret
 exact HP8.out
theorem endArm_e : Enters 131 := enters_of Tryz.func131 (by kernel_rfl) rfl
theorem endStep_ : Contract W g true false 98 fEnd := by
 intro w s h hj
 obtain ⟨K, x0, h⟩ := h
 have con := hasWord_ h wEnd _ rfl
 rw [show str wEnd = ByteArray.mk #[101, 110, 100] from rfl] at con
 obtain ⟨b, hb⟩ : ∃ b, b = wd wEnd s.l := ⟨_, rfl⟩
 unfold HwSays at con
 rw [← hb] at con
 cases b with
 | false =>
  have HEND := Lib.hid (show ∀ w' x', Chp w w' → Pw W w' g K true s x' → PtSays W w g false (fEnd s) (.returned (.bool false)) w' from fun w' x' hc hp => by unfold fEnd; rw [fAfter_miss hb.symm]; exact ⟨hc, rfl, s, rfl, Pb.weak ⟨K, x', hp⟩⟩)
  clear h hb hj
  go_enter Tryz.func98, Tryz.ntmps98
  go_wp2_with fail
  refine con.mono ?_
  clear con
  rintro e w1 ⟨rfl, hc, x', hp⟩
  have HT := Lib.hid (HEND.out w1 x' hc hp)
  clear hc hp
  go_wp2_with fail
  go_ret
  exact HT.out
 | true =>
  obtain ⟨t, ht⟩ : ∃ t, t = takeS s := ⟨_, rfl⟩
  have HE := Lib.hid (show fEnd s = .ok (uStep t) by unfold fEnd; rw [fAfter_hit hb.symm, ht])
  have HN := Lib.hid (show t.steps.length ≤ 3000 by rw [ht]; have := hj.takeS.2; omega)
  have HTK := Lib.hid ht
  clear h hb hj ht
  go_enter Tryz.func98, Tryz.ntmps98
  go_wp2_with fail
  refine con.mono ?_
  clear con
  rintro e w1 ⟨rfl, hc, x, hp⟩
  replace hp : Pw W w1 g K true t x := by rw [HTK.out]; exact hp
  obtain ⟨a0, ha0⟩ : ∃ a, a = (.int .i64 (t.step.at_ : Int) : Value) := ⟨_, rfl⟩
  obtain ⟨a1, ha1⟩ : ∃ a, a = (.string (str t.step.name) : Value) := ⟨_, rfl⟩
  obtain ⟨a2, ha2⟩ : ∃ a, a = (.int .i64 t.step.tag : Value) := ⟨_, rfl⟩
  obtain ⟨a3, ha3⟩ : ∃ a, a = (.bool t.step.sends : Value) := ⟨_, rfl⟩
  obtain ⟨a4, ha4⟩ : ∃ a, a = (.slice x.A8 t.step.send.length x.c8 : Value) := ⟨_, rfl⟩
  obtain ⟨a5, ha5⟩ : ∃ a, a = (.slice x.A9 t.step.arms.length x.c9 : Value) := ⟨_, rfl⟩
  obtain ⟨a6, ha6⟩ : ∃ a, a = (.int .i64 t.step.time : Value) := ⟨_, rfl⟩
  obtain ⟨a7, ha7⟩ : ∃ a, a = (.int .i64 t.step.try_ : Value) := ⟨_, rfl⟩
  obtain ⟨a8, ha8⟩ : ∃ a, a = (.string (str t.step.els) : Value) := ⟨_, rfl⟩
  obtain ⟨A9, hA9⟩ : ∃ A, A = x.A3 := ⟨_, rfl⟩
  obtain ⟨n, hn⟩ : ∃ n, n = t.steps.length := ⟨_, rfl⟩
  obtain ⟨c9, hc9⟩ : ∃ c, c = x.c3 := ⟨_, rfl⟩
  have rdd : ∀ V, Cel V g 77 (pcells t x) → (fun V => V.cell? ⟨g, 3, none⟩ = some (.slice A9 n c9) ∧ V.cell? ⟨g, 4, none⟩ = some a0 ∧ V.cell? ⟨g, 5, none⟩ = some a1 ∧ V.cell? ⟨g, 6, none⟩ = some a2 ∧ V.cell? ⟨g, 7, none⟩ = some a3 ∧ V.cell? ⟨g, 8, none⟩ = some a4 ∧ V.cell? ⟨g, 9, none⟩ = some a5 ∧ V.cell? ⟨g, 10, none⟩ = some a6 ∧ V.cell? ⟨g, 11, none⟩ = some a7 ∧ V.cell? ⟨g, 12, none⟩ = some a8) V := fun V hV => ⟨by rw [hA9, hn, hc9]; exact hV.cell 3, by rw [ha0]; exact hV.cell 4, by rw [ha1]; exact hV.cell 5, by rw [ha2]; exact hV.cell 6, by rw [ha3]; exact hV.cell 7, by rw [ha4]; exact hV.cell 8, by rw [ha5]; exact hV.cell 9, by rw [ha6]; exact hV.cell 10, by rw [ha7]; exact hV.cell 11, by rw [ha8]; exact hV.cell 12⟩
  have hb1 : Below w1.heap.size w1 (w1.drew.alloc (.cells #[a0, a1, a2, a3, a4, a5, a6, a7, a8] 52)) := (Below.refl _ _).drew.alloc (Nat.le_refl _) _
  have h1 := Pw.below hp hb1
  have HS1 := Lib.hid (rdd _ h1.cel)
  have hH := rdd w1.drew hp.cel
  have HRD := Lib.hid rdd
  have HO1 := Lib.hid (show World.ownsRow (w1.drew.alloc (.cells #[a0, a1, a2, a3, a4, a5, a6, a7, a8] 52)) W.heap.size 52 9 (.slice A9 n c9) n (s9flat x.bvs) by rw [hA9, hn, hc9]; exact h1.stps.own)
  have hsrc := Lib.hid (Ry.src (m := 1) (Ry.of_cel (Cel.new w1.drew 52 [a0, a1, a2, a3, a4, a5, a6, a7, a8])) (by simp))
  have HONE := Lib.hid (show ∀ u ∈ [a0, a1, a2, a3, a4, a5, a6, a7, a8], u.oneCell' = true by rw [ha0, ha1, ha2, ha3, ha4, ha5, ha6, ha7, ha8]; intro u hu; simp at hu; rcases hu with rfl | rfl | rfl | rfl | rfl | rfl | rfl | rfl | rfl <;> rfl)
  have HKW := Lib.hid (Nat.le_trans hp.bel.size hb1.size)
  have HUP := Lib.hid (show ∀ A8 c8 w8, World.grownBy (w1.drew.alloc (.cells #[a0, a1, a2, a3, a4, a5, a6, a7, a8] 52)) w8 (Value.slice A9 n c9).ownBlock → w8.ownsRow W.heap.size 52 9 (.slice A8 (n + 1) c8) (n + 1) (s9flat x.bvs ++ [a0, a1, a2, a3, a4, a5, a6, a7, a8]) → Cel w8 g 77 (pcells t x) ∧ PtSays W w g false (fEnd s) (.returned (.bool true)) (w8.setCell ⟨g, 3, none⟩ (.slice A8 (n + 1) c8)) ∧ True from fun A8 c8 w8 hg ho => by
   rw [hn] at hg ho ⊢
   rw [hA9, hc9] at hg
   rw [ha0, ha1, ha2, ha3, ha4, ha5, ha6, ha7, ha8] at ho
   obtain ⟨q1, q2, q3⟩ := h1.stepped hg ho
   rw [HE.out]
   exact ⟨q1, ⟨(hc.trans (Chp.of_below hb1)).trans q3, rfl, _, _, q2⟩, trivial⟩)
  have hn2 : n ≤ 3000 := by rw [hn]; exact HN.out
  clear hp h1 hc rdd hb1 hA9 hn hc9 ha0 ha1 ha2 ha3 ha4 ha5 ha6 ha7 ha8
  obtain ⟨us, hus⟩ : ∃ us, us = s9flat x.bvs := ⟨_, rfl⟩
  rw [← hus] at HO1 HUP
  go_wp2_with fail
  refine wp_region_N [15] (fun V => V.cell? ⟨g, 3, none⟩ = some (.slice A9 n c9) ∧ V.cell? ⟨g, 4, none⟩ = some a0 ∧ V.cell? ⟨g, 5, none⟩ = some a1 ∧ V.cell? ⟨g, 6, none⟩ = some a2 ∧ V.cell? ⟨g, 7, none⟩ = some a3 ∧ V.cell? ⟨g, 8, none⟩ = some a4 ∧ V.cell? ⟨g, 9, none⟩ = some a5 ∧ V.cell? ⟨g, 10, none⟩ = some a6 ∧ V.cell? ⟨g, 11, none⟩ = some a7 ∧ V.cell? ⟨g, 12, none⟩ = some a8) (by kernel_rfl) ?_
  refine tk_ 0 ((pp g)) [15] rfl hH ?_ ?_
  ·intro V hV; go_simp
  try simp only [Act.put, lay_]
  refine tk_ 1 ((pp g)) [15] rfl hH ?_ ?_
  ·intro V hV; go_simp
  try simp only [Act.put, lay_]
  refine tk_ 2 ((pp g)) [15] rfl hH ?_ ?_
  ·intro V hV; go_simp
  try simp only [Act.put, lay_]
  refine tk_ 3 (.pointer (some ⟨g, 2, none⟩)) [15] rfl hH ?_ ?_
  ·intro V hV; go_simp
  try simp only [Act.put, lay_]
  refine tk_ 4 (.pointer (some ⟨g, 3, none⟩)) [15] rfl hH ?_ ?_
  ·intro V hV; go_simp
  try simp only [Act.put, lay_]
  refine tk_ 5 (.slice A9 n c9) [15] rfl hH ?_ ?_
  ·intro V hV; obtain ⟨k, j⟩ := hV; obtain ⟨j0, j1, j2, j3, j4, j5, j6, j7, j8⟩ := j; go_simp
  try simp only [Act.put, lay_]
  refine tk_ 6 ((pp g)) [15] rfl hH ?_ ?_
  ·intro V hV; go_simp
  try simp only [Act.put, lay_]
  refine tk_ 7 ((pp g)) [15] rfl hH ?_ ?_
  ·intro V hV; go_simp
  try simp only [Act.put, lay_]
  refine tk_ 8 (.pointer (some ⟨g, 4, none⟩)) [15] rfl hH ?_ ?_
  ·intro V hV; go_simp
  try simp only [Act.put, lay_]
  refine tk_ 9 (.agg #[a0, a1, a2, a3, a4, a5, a6, a7, a8]) [15] rfl hH ?_ ?_
  ·intro V hV; obtain ⟨k, j⟩ := hV; obtain ⟨j0, j1, j2, j3, j4, j5, j6, j7, j8⟩ := j; go_simp
  try simp only [Act.put, lay_]
  refine wpAnyN_one (i := 10) (by kernel_rfl) rfl (fun K hK => ?_)
  go_simp
  refine hK.out _ _ (.inr HS1.out) ?_
  clear hK K
  try simp only [Act.put, lay_]
  refine wpAnyN_one (i := 11) (by kernel_rfl) rfl (fun K hK => ?_)
  rw [if_pos (by rfl)]
  refine wp_append_any _ _ _ 22 rfl W.heap.size 52 rowStpP (.slice A9 n c9) n us rfl HO1.out (some ⟨w1.drew.heap.size, 0, none⟩) 1 1 [a0, a1, a2, a3, a4, a5, a6, a7, a8] rfl rfl hsrc.out HONE.out (n + 1) _ rfl rfl (by unfold maxLen; omega) (by omega) HKW.out ?_
  intro A8 c8 w8 ho8 hg8 _
  obtain ⟨hc8, hp8, hh8⟩ := HUP.out A8 c8 w8 hg8 ho8
  have hS8 := HRD.out w8 hc8
  have y8 := hS8.1
  have z8 := Cel.free hc8 3
  have HP8 := Lib.hid hp8
  have HH8 := Lib.hid hh8
  refine hK.out _ _ (.inr hS8) ?_
  clear hK K ho8 hg8 hc8 hp8 hh8
  try simp only [Act.put, lay_]
  refine wpAnyN_one (i := 12) (by kernel_rfl) rfl (fun K hK => ?_)
  go_simp
  refine hK.out _ _ (.inr hS8) ?_
  clear hK K
  try simp only [Act.put, lay_]
  refine wpAnyN_one (i := 13) (by kernel_rfl) rfl (fun K hK => ?_)
  go_simp
  refine hK.out _ _ (.inr hS8) ?_
  clear hK K
  try simp only [Act.put, lay_]
  refine wpAnyN_one (i := 14) (by kernel_rfl) rfl (fun K hK => ?_)
  go_simp
  refine hK.out _ _ (.inr hS8) ?_
  clear hK K
  try simp only [Act.put, lay_]
  refine wpAnyN_one (i := 15) (by kernel_rfl) rfl (fun K hK => ?_)
  go_simp
  refine hK.out _ _ (.inl (by decide)) ?_
  clear hK K
  try simp only [Act.put, lay_]
  refine wpAnyN_done (by kernel_rfl) ?_ _
  go_wp2_with fail
  go_ret
  exact HP8.out
theorem endStep_e : Enters 98 := enters_of Tryz.func98 (by kernel_rfl) rfl
end
end Go.Proofs.YteohlpmojfjjdaaGreat.Book
