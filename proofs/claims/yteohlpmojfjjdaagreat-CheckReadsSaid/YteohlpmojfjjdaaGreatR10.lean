/-
The document's runbook (layer 12): a step, from "within" on.
-/
import Derived.Test.YteohlpmojfjjdaaGreatR0
import Derived.Test.YteohlpmojfjjdaaGreatR1
import Derived.Test.YteohlpmojfjjdaaGreatR7
import Derived.Test.YteohlpmojfjjdaaGreatR8
import Derived.Test.YteohlpmojfjjdaaGreatR9
set_option linter.unusedVariables false
set_option linter.unusedSimpArgs false
set_option maxRecDepth 100000
set_option maxHeartbeats 4000000
namespace Go.Proofs.YteohlpmojfjjdaaGreat.Book
open Go.RowKit
open Lex (Tok Tk B cut Tv Ttk Tx Rtk tflat lbelow_drew b_ne CtSays results_at3)
theorem load_step {w : World} {g : Nat} {x0 x1 x2 x3 x4 x5 x6 x7 x8 : Value} (h : Cel w g 67 [x0, x1, x2, x3, x4, x5, x6, x7, x8]) : (loadVar 67 ⟨g, 0, none⟩).run Tryz.prog w = .ok (.agg #[x0, x1, x2, x3, x4, x5, x6, x7, x8]) w :=
 run_loadVar_mid (P := Tryz.prog) w g 0 67 [x0, x1, x2, x3, x4, x5, x6, x7, x8] _ (fun j v hv => by rw [Nat.zero_add, h.cell j, hv]) Tryz.underlying67 rfl (by kernel_rfl)
structure Am9 (w W : World) (a0 : Int) (nm : ByteArray) (tg : Int) (sd : Bool) (A4 : Option Addr) (n4 c4 : Nat) (A5 : Option Addr) (n5 c5 : Nat) (t y : Int) (e : ByteArray) : Prop where
 res : Cel W (w.heap.size + 1) 67 [.int .i64 0, .string ⟨#[]⟩, .int .i64 0, .bool false, .slice none 0 0, .slice none 0 0, .int .i64 0, .int .i64 0, .string ⟨#[]⟩]
 x : Cel W w.heap.size 67 [.int .i64 a0, .string nm, .int .i64 tg, .bool sd, .slice A4 n4 c4, .slice A5 n5 c5, .int .i64 t, .int .i64 y, .string e]
 bel : Below w.heap.size w W
section
variable {w W W' : World} {a0 : Int} {nm : ByteArray} {tg : Int} {sd : Bool} {A4 : Option Addr} {n4 c4 : Nat} {A5 : Option Addr} {n5 c5 : Nat} {t y : Int} {e : ByteArray}
theorem Am9.below (h : Am9 w W a0 nm tg sd A4 n4 c4 A5 n5 c5 t y e) (hb : Below W.heap.size W W') : Am9 w W' a0 nm tg sd A4 n4 c4 A5 n5 c5 t y e :=
 ⟨(hb.block _ h.res.lt).trans h.res, (hb.block _ h.x.lt).trans h.x, h.bel.trans (hb.mono h.bel.size)⟩
theorem Am9.frm (h : Am9 w W a0 nm tg sd A4 n4 c4 A5 n5 c5 t y e) (hf : Frm [w.heap.size] W W') {t' y' : Int} {e' : ByteArray} (hx : Cel W' w.heap.size 67 [.int .i64 a0, .string nm, .int .i64 tg, .bool sd, .slice A4 n4 c4, .slice A5 n5 c5, .int .i64 t', .int .i64 y', .string e']) : Am9 w W' a0 nm tg sd A4 n4 c4 A5 n5 c5 t' y' e' :=
 ⟨(hf.block _ h.res.lt (by simp)).trans h.res, hx, h.bel.trans (hf.below h.bel.size (by intro q hq; simp at hq; omega))⟩
theorem Am9.time (h : Am9 w W a0 nm tg sd A4 n4 c4 A5 n5 c5 t y e) (z : Int) : Am9 w (W.setCell ⟨w.heap.size, 6, none⟩ (.int .i64 z)) a0 nm tg sd A4 n4 c4 A5 n5 c5 z y e :=
 h.frm ((Frm.refl _ W).set (p := ⟨w.heap.size, 6, none⟩) (by simp) _) (h.x.set 6 _)
theorem Am9.tries (h : Am9 w W a0 nm tg sd A4 n4 c4 A5 n5 c5 t y e) (z : Int) : Am9 w (W.setCell ⟨w.heap.size, 7, none⟩ (.int .i64 z)) a0 nm tg sd A4 n4 c4 A5 n5 c5 t z e :=
 h.frm ((Frm.refl _ W).set (p := ⟨w.heap.size, 7, none⟩) (by simp) _) (h.x.set 7 _)
theorem Am9.els (h : Am9 w W a0 nm tg sd A4 n4 c4 A5 n5 c5 t y e) (z : ByteArray) : Am9 w (W.setCell ⟨w.heap.size, 8, none⟩ (.string z)) a0 nm tg sd A4 n4 c4 A5 n5 c5 t y z :=
 h.frm ((Frm.refl _ W).set (p := ⟨w.heap.size, 8, none⟩) (by simp) _) (h.x.set 8 _)
theorem Am9.out (h : Am9 w W a0 nm tg sd A4 n4 c4 A5 n5 c5 t y e) : Cel (fw9 W (w.heap.size + 1) (.int .i64 a0) (.string nm) (.int .i64 tg) (.bool sd) (.slice A4 n4 c4) (.slice A5 n5 c5) (.int .i64 t) (.int .i64 y) (.string e)) (w.heap.size + 1) 67 [.int .i64 a0, .string nm, .int .i64 tg, .bool sd, .slice A4 n4 c4, .slice A5 n5 c5, .int .i64 t, .int .i64 y, .string e] ∧ Below w.heap.size w (fw9 W (w.heap.size + 1) (.int .i64 a0) (.string nm) (.int .i64 tg) (.bool sd) (.slice A4 n4 c4) (.slice A5 n5 c5) (.int .i64 t) (.int .i64 y) (.string e)) :=
 ⟨fw9_cel h.res, h.bel.trans ((fw9_frm W (w.heap.size + 1) _ _ _ _ _ _ _ _ _).below h.bel.size (by intro q hq; simp at hq; omega))⟩
end
def TlSays (w : World) (a0 : Int) (nm : ByteArray) (tg : Int) (sd : Bool) (A4 : Option Addr) (n4 c4 : Nat) (A5 : Option Addr) (n5 c5 : Nat) (vs : List Tv) (r : Except T (Step × T)) (e : Ending) (w' : World) : Prop := Below w.heap.size w w' ∧ match r with
 | .error m => ∃ (t y : Int) (l : ByteArray) (q : Nat), e = .returned (.tuple #[.agg #[.int .i64 a0, .string nm, .int .i64 tg, .bool sd, .slice A4 n4 c4, .slice A5 n5 c5, .int .i64 t, .int .i64 y, .string l], .int .i64 (q : Int), .bool false]) ∧ q ≤ vs.length ∧ (toks vs).drop q = m
 | .ok (s, m) => ∃ (q : Nat), e = .returned (.tuple #[.agg #[.int .i64 a0, .string nm, .int .i64 tg, .bool sd, .slice A4 n4 c4, .slice A5 n5 c5, .int .i64 s.time, .int .i64 s.try_, .string (str s.els)], .int .i64 (q : Int), .bool true]) ∧ q ≤ vs.length ∧ (toks vs).drop q = m
theorem tail_ (w : World) (B : Nat) (A : Option Addr) (n c : Nat) (vs : List Tv) (h : Ttk w B A vs) (hB : B ≤ w.heap.size) (hl : vs.length = n) (hn : n ≤ 90000) (p : Nat) (hp : p ≤ n) (a0 : Int) (nm : ByteArray) (tg : Int) (sd : Bool) (A4 : Option Addr) (n4 c4 : Nat) (A5 : Option Addr) (n5 c5 : Nat) (x : Step) :
  Calls Tryz.prog 102 #[.agg #[.int .i64 a0, .string nm, .int .i64 tg, .bool sd, .slice A4 n4 c4, .slice A5 n5 c5, .int .i64 x.time, .int .i64 x.try_, .string (str x.els)], .slice A n c, .int .i64 (p : Int)] w (TlSays w a0 nm tg sd A4 n4 c4 A5 n5 c5 vs (tailR x ((toks vs).drop p))) := by
 have H := Lib.hid h
 have HL := Lib.hid hl
 obtain ⟨xt, hxt⟩ : ∃ xt, xt = x.time := ⟨_, rfl⟩
 obtain ⟨xy, hxy⟩ : ∃ xy, xy = x.try_ := ⟨_, rfl⟩
 obtain ⟨xe, hxe⟩ : ∃ xe, xe = str x.els := ⟨_, rfl⟩
 rw [← hxt, ← hxy, ← hxe]
 have HXY := Lib.hid hxy
 clear h hl hxt hxe hxy
 obtain ⟨w1, hw1⟩ : ∃ w1, w1 = w.alloc (.cells #[.int .i64 a0, .string nm, .int .i64 tg, .bool sd, .slice A4 n4 c4, .slice A5 n5 c5, .int .i64 xt, .int .i64 xy, .string xe] 67) := ⟨_, rfl⟩
 obtain ⟨w2, hw2⟩ : ∃ w2, w2 = w1.alloc (.cells #[.int .i64 0, .string ⟨#[]⟩, .int .i64 0, .bool false, .slice none 0 0, .slice none 0 0, .int .i64 0, .int .i64 0, .string ⟨#[]⟩] 67) := ⟨_, rfl⟩
 have AMw2 := Lib.hid (show Am9 w w2 a0 nm tg sd A4 n4 c4 A5 n5 c5 xt xy xe by
  have hb1 : Below w.heap.size w w1 := by rw [hw1]; exact (Below.refl _ _).alloc (Nat.le_refl _) _
  have hs : w1.heap.size = w.heap.size + 1 := by rw [hw1]; simp
  have hc1 : Cel w1 w.heap.size 67 [.int .i64 a0, .string nm, .int .i64 tg, .bool sd, .slice A4 n4 c4, .slice A5 n5 c5, .int .i64 xt, .int .i64 xy, .string xe] := by rw [hw1]; exact Cel.new w _ _
  have hb2 : Below w1.heap.size w1 w2 := by rw [hw2]; exact (Below.refl _ _).alloc (Nat.le_refl _) _
  refine ⟨?_, (hb2.block _ hc1.lt).trans hc1, hb1.trans (hb2.mono hb1.size)⟩
  rw [hw2, ← hs]; exact Cel.new w1 _ _)
 rw [hw1] at hw2
 clear hw1
 have hBw2 : B ≤ w2.heap.size := Nat.le_trans hB AMw2.out.bel.size
 obtain ⟨b1, hb1⟩ : ∃ b1, b1 = wd wWithin ((toks vs).drop (p)) := ⟨_, rfl⟩
 have con := is_ w2 B A n c vs (H.out.below hB AMw2.out.bel) hBw2 HL.out (by omega) (p) (by omega) wWithin
 rw [← hb1] at con
 rw [show str wWithin = ByteArray.mk #[119, 105, 116, 104, 105, 110] from rfl] at con
 have Hb1 := Lib.hid hb1
 clear hb1
 go_enter Tryz.func102, Tryz.ntmps102
 go_wp2_with fail
 rw [← hw2]
 clear hw2
 refine con.mono ?_
 rintro e xw2 ⟨rfl, hbw2⟩
 clear con
 have AMxw2 := Lib.hid (AMw2.out.below hbw2)
 clear hbw2
 cases b1
 ·have HE := Lib.hid (show tailR x ((toks vs).drop p) = .error ((toks vs).drop p) by exact want_no Hb1.out.symm)
  have k0 := AMxw2.out.x.cell 0
  have k1 := AMxw2.out.x.cell 1
  have k2 := AMxw2.out.x.cell 2
  have k3 := AMxw2.out.x.cell 3
  have k4 := AMxw2.out.x.cell 4
  have k5 := AMxw2.out.x.cell 5
  have k6 := AMxw2.out.x.cell 6
  have k7 := AMxw2.out.x.cell 7
  have k8 := AMxw2.out.x.cell 8
  have r0 := AMxw2.out.res.cell 0
  have r1 := AMxw2.out.res.cell 1
  have r2 := AMxw2.out.res.cell 2
  have r3 := AMxw2.out.res.cell 3
  have r4 := AMxw2.out.res.cell 4
  have r5 := AMxw2.out.res.cell 5
  have r6 := AMxw2.out.res.cell 6
  have r7 := AMxw2.out.res.cell 7
  have r8 := AMxw2.out.res.cell 8
  have l0 := AMxw2.out.res.free 0
  have l1 := AMxw2.out.res.free 1
  have l2 := AMxw2.out.res.free 2
  have l3 := AMxw2.out.res.free 3
  have l4 := AMxw2.out.res.free 4
  have l5 := AMxw2.out.res.free 5
  have l6 := AMxw2.out.res.free 6
  have l7 := AMxw2.out.res.free 7
  have l8 := AMxw2.out.res.free 8
  have HC3 := Lib.hid AMxw2.out.out.1
  have HB3 := Lib.hid AMxw2.out.out.2
  unfold fw9 at HC3 HB3
  go_wp2_with fail
  refine bodyPost_ret (v := .tuple #[.agg #[.int .i64 a0, .string nm, .int .i64 tg, .bool sd, .slice A4 n4 c4, .slice A5 n5 c5, .int .i64 xt, .int .i64 xy, .string xe], .int .i64 (p : Int), .bool false]) (results_at3 6 67 7 8 Tryz.results102 ⟨w.heap.size + 1, 0, none⟩ rfl _ _ _ rfl rfl (load_step HC3.out)) rfl ?_
  refine ⟨HB3.out, ?_⟩
  rw [HE.out]
  exact ⟨_, _, _, p, rfl, by rw [HL.out]; omega, rfl⟩
 ·obtain ⟨v1, hv1⟩ := there (c := wd wWithin) rfl (Hb1.out.symm)
  have Lv1 := (List.getElem?_eq_some_iff.1 hv1).1
  rw [HL.out] at Lv1
  have HM1 := Lib.hid (show tailR x ((toks vs).drop p) = want (kd 2) (fun u => may (wd wTries) (fun _ => want (kd 2) fun k => elseR { x with time := u.t.n, try_ := k.t.n }) (elseR { x with time := u.t.n })) ((toks vs).drop (p + 1)) by unfold tailR; exact want_yes hv1 Hb1.out.symm)
  have hBxw2 : B ≤ xw2.heap.size := Nat.le_trans hB AMxw2.out.bel.size
  obtain ⟨b2, hb2⟩ : ∃ b2, b2 = kd 2 ((toks vs).drop (p + 1)) := ⟨_, rfl⟩
  have con := kind_ xw2 B A n c vs (H.out.below hB AMxw2.out.bel) HL.out (by omega) (p + 1) (by omega) 2
  rw [show ((p + 1 : Nat) : Int) = ((p : Int) + 1) by omega] at con
  rw [← hb2] at con
  have Hb2 := Lib.hid hb2
  clear hb2
  go_wp2_with fail
  refine con.mono ?_
  rintro e w' ⟨rfl, rfl⟩
  clear con
  cases b2
  ·have HE := Lib.hid (show tailR x ((toks vs).drop p) = .error ((toks vs).drop (p + 1)) by rw [HM1.out]; exact want_no Hb2.out.symm)
   have k0 := AMxw2.out.x.cell 0
   have k1 := AMxw2.out.x.cell 1
   have k2 := AMxw2.out.x.cell 2
   have k3 := AMxw2.out.x.cell 3
   have k4 := AMxw2.out.x.cell 4
   have k5 := AMxw2.out.x.cell 5
   have k6 := AMxw2.out.x.cell 6
   have k7 := AMxw2.out.x.cell 7
   have k8 := AMxw2.out.x.cell 8
   have r0 := AMxw2.out.res.cell 0
   have r1 := AMxw2.out.res.cell 1
   have r2 := AMxw2.out.res.cell 2
   have r3 := AMxw2.out.res.cell 3
   have r4 := AMxw2.out.res.cell 4
   have r5 := AMxw2.out.res.cell 5
   have r6 := AMxw2.out.res.cell 6
   have r7 := AMxw2.out.res.cell 7
   have r8 := AMxw2.out.res.cell 8
   have l0 := AMxw2.out.res.free 0
   have l1 := AMxw2.out.res.free 1
   have l2 := AMxw2.out.res.free 2
   have l3 := AMxw2.out.res.free 3
   have l4 := AMxw2.out.res.free 4
   have l5 := AMxw2.out.res.free 5
   have l6 := AMxw2.out.res.free 6
   have l7 := AMxw2.out.res.free 7
   have l8 := AMxw2.out.res.free 8
   have HC3 := Lib.hid AMxw2.out.out.1
   have HB3 := Lib.hid AMxw2.out.out.2
   unfold fw9 at HC3 HB3
   go_wp2_with fail
   refine bodyPost_ret (v := .tuple #[.agg #[.int .i64 a0, .string nm, .int .i64 tg, .bool sd, .slice A4 n4 c4, .slice A5 n5 c5, .int .i64 xt, .int .i64 xy, .string xe], .int .i64 ((p : Int) + 1), .bool false]) (results_at3 6 67 7 8 Tryz.results102 ⟨w.heap.size + 1, 0, none⟩ rfl _ _ _ rfl rfl (load_step HC3.out)) rfl ?_
   refine ⟨HB3.out, ?_⟩
   rw [HE.out]
   exact ⟨_, _, _, p + 1, by rw [show ((p + 1 : Nat) : Int) = ((p : Int) + 1) by omega], by rw [HL.out]; omega, rfl⟩
  ·obtain ⟨v2, hv2⟩ := there (c := kd 2) rfl (Hb2.out.symm)
   obtain ⟨ad, rfl, _, _, j2, j3⟩ := (H.out.below hB AMxw2.out.bel).at_ hv2
   have TXv2 := Lib.hid (H.out.tx v2 (List.mem_of_getElem? hv2))
   have Lv2 := (List.getElem?_eq_some_iff.1 hv2).1
   rw [HL.out] at Lv2
   have HM2 := Lib.hid (show tailR x ((toks vs).drop p) = may (wd wTries) (fun _ => want (kd 2) fun k => elseR { x with time := v2.t.t.n, try_ := k.t.n }) (elseR { x with time := v2.t.t.n }) ((toks vs).drop (p + 1 + 1)) by rw [HM1.out]; exact want_yes hv2 Hb2.out.symm)
   have k6' := AMxw2.out.x.cell 6
   have f6' := AMxw2.out.x.free 6
   obtain ⟨w3, hw3⟩ : ∃ w3, w3 = xw2.setCell ⟨w.heap.size, 6, none⟩ (.int .i64 v2.t.t.n) := ⟨_, rfl⟩
   have AMw3 := Lib.hid (show Am9 w w3 a0 nm tg sd A4 n4 c4 A5 n5 c5 v2.t.t.n xy xe by rw [hw3]; exact AMxw2.out.time _)
   have hBw3 : B ≤ w3.heap.size := Nat.le_trans hB AMw3.out.bel.size
   obtain ⟨b3, hb3⟩ : ∃ b3, b3 = wd wTries ((toks vs).drop (p + 1 + 1)) := ⟨_, rfl⟩
   have con := is_ w3 B (some ad) n c vs (H.out.below hB AMw3.out.bel) hBw3 HL.out (by omega) (p + 1 + 1) (by omega) wTries
   rw [show ((p + 1 + 1 : Nat) : Int) = ((p : Int) + 1 + 1) by omega] at con
   rw [← hb3] at con
   rw [show str wTries = ByteArray.mk #[116, 114, 105, 101, 115] from rfl] at con
   have Hb3 := Lib.hid hb3
   clear hb3
   go_wp2_with fail
   rw [← hw3]
   clear hw3 k6' f6' j2 j3
   refine con.mono ?_
   rintro e xw3 ⟨rfl, hbw3⟩
   clear con
   have AMxw3 := Lib.hid (AMw3.out.below hbw3)
   clear hbw3
   cases b3
   ·have HMxw3 := Lib.hid (show tailR x ((toks vs).drop p) = elseR { x with time := v2.t.t.n } ((toks vs).drop (p + 1 + 1)) by rw [HM2.out]; exact may_no Hb3.out.symm)
    have hBxw3 : B ≤ xw3.heap.size := Nat.le_trans hB AMxw3.out.bel.size
    obtain ⟨be, hbe⟩ : ∃ be, be = wd wElse ((toks vs).drop (p + 1 + 1)) := ⟨_, rfl⟩
    have con := is_ xw3 B (some ad) n c vs (H.out.below hB AMxw3.out.bel) hBxw3 HL.out (by omega) (p + 1 + 1) (by omega) wElse
    rw [show ((p + 1 + 1 : Nat) : Int) = ((p : Int) + 1 + 1) by omega] at con
    rw [← hbe] at con
    rw [show str wElse = ByteArray.mk #[101, 108, 115, 101] from rfl] at con
    have Hbe := Lib.hid hbe
    clear hbe
    go_wp2_with fail
    refine con.mono ?_
    rintro e xxw3 ⟨rfl, hbxw3⟩
    clear con
    have AMxxw3 := Lib.hid (AMxw3.out.below hbxw3)
    clear hbxw3
    cases be
    ·have HE := Lib.hid (show tailR x ((toks vs).drop p) = .error ((toks vs).drop (p + 1 + 1)) by rw [HMxw3.out]; exact want_no Hbe.out.symm)
     have k0 := AMxxw3.out.x.cell 0
     have k1 := AMxxw3.out.x.cell 1
     have k2 := AMxxw3.out.x.cell 2
     have k3 := AMxxw3.out.x.cell 3
     have k4 := AMxxw3.out.x.cell 4
     have k5 := AMxxw3.out.x.cell 5
     have k6 := AMxxw3.out.x.cell 6
     have k7 := AMxxw3.out.x.cell 7
     have k8 := AMxxw3.out.x.cell 8
     have r0 := AMxxw3.out.res.cell 0
     have r1 := AMxxw3.out.res.cell 1
     have r2 := AMxxw3.out.res.cell 2
     have r3 := AMxxw3.out.res.cell 3
     have r4 := AMxxw3.out.res.cell 4
     have r5 := AMxxw3.out.res.cell 5
     have r6 := AMxxw3.out.res.cell 6
     have r7 := AMxxw3.out.res.cell 7
     have r8 := AMxxw3.out.res.cell 8
     have l0 := AMxxw3.out.res.free 0
     have l1 := AMxxw3.out.res.free 1
     have l2 := AMxxw3.out.res.free 2
     have l3 := AMxxw3.out.res.free 3
     have l4 := AMxxw3.out.res.free 4
     have l5 := AMxxw3.out.res.free 5
     have l6 := AMxxw3.out.res.free 6
     have l7 := AMxxw3.out.res.free 7
     have l8 := AMxxw3.out.res.free 8
     have HC3 := Lib.hid AMxxw3.out.out.1
     have HB3 := Lib.hid AMxxw3.out.out.2
     unfold fw9 at HC3 HB3
     go_wp2_with fail
     refine bodyPost_ret (v := .tuple #[.agg #[.int .i64 a0, .string nm, .int .i64 tg, .bool sd, .slice A4 n4 c4, .slice A5 n5 c5, .int .i64 v2.t.t.n, .int .i64 xy, .string xe], .int .i64 ((p : Int) + 1 + 1), .bool false]) (results_at3 6 67 7 8 Tryz.results102 ⟨w.heap.size + 1, 0, none⟩ rfl _ _ _ rfl rfl (load_step HC3.out)) rfl ?_
     refine ⟨HB3.out, ?_⟩
     rw [HE.out]
     exact ⟨_, _, _, p + 1 + 1, by rw [show ((p + 1 + 1 : Nat) : Int) = ((p : Int) + 1 + 1) by omega], by rw [HL.out]; omega, rfl⟩
    ·obtain ⟨ve, hve⟩ := there (c := wd wElse) rfl (Hbe.out.symm)
     have Lve := (List.getElem?_eq_some_iff.1 hve).1
     rw [HL.out] at Lve
     have HM6 := Lib.hid (show tailR x ((toks vs).drop p) = want (kd 1) (fun u => want (wd wEnd) fun _ r => .ok ({ { x with time := v2.t.t.n } with els := u.t.text }, r)) ((toks vs).drop (p + 1 + 1 + 1)) by rw [HMxw3.out]; unfold elseR; exact want_yes hve Hbe.out.symm)
     have hBxxw3 : B ≤ xxw3.heap.size := Nat.le_trans hB AMxxw3.out.bel.size
     obtain ⟨bk, hbk⟩ : ∃ bk, bk = kd 1 ((toks vs).drop (p + 1 + 1 + 1)) := ⟨_, rfl⟩
     have con := kind_ xxw3 B (some ad) n c vs (H.out.below hB AMxxw3.out.bel) HL.out (by omega) (p + 1 + 1 + 1) (by omega) 1
     rw [show ((p + 1 + 1 + 1 : Nat) : Int) = ((p : Int) + 1 + 1 + 1) by omega] at con
     rw [← hbk] at con
     have Hbk := Lib.hid hbk
     clear hbk
     go_wp2_with fail
     refine con.mono ?_
     rintro e w' ⟨rfl, rfl⟩
     clear con
     cases bk
     ·have HE := Lib.hid (show tailR x ((toks vs).drop p) = .error ((toks vs).drop (p + 1 + 1 + 1)) by rw [HM6.out]; exact want_no Hbk.out.symm)
      have k0 := AMxxw3.out.x.cell 0
      have k1 := AMxxw3.out.x.cell 1
      have k2 := AMxxw3.out.x.cell 2
      have k3 := AMxxw3.out.x.cell 3
      have k4 := AMxxw3.out.x.cell 4
      have k5 := AMxxw3.out.x.cell 5
      have k6 := AMxxw3.out.x.cell 6
      have k7 := AMxxw3.out.x.cell 7
      have k8 := AMxxw3.out.x.cell 8
      have r0 := AMxxw3.out.res.cell 0
      have r1 := AMxxw3.out.res.cell 1
      have r2 := AMxxw3.out.res.cell 2
      have r3 := AMxxw3.out.res.cell 3
      have r4 := AMxxw3.out.res.cell 4
      have r5 := AMxxw3.out.res.cell 5
      have r6 := AMxxw3.out.res.cell 6
      have r7 := AMxxw3.out.res.cell 7
      have r8 := AMxxw3.out.res.cell 8
      have l0 := AMxxw3.out.res.free 0
      have l1 := AMxxw3.out.res.free 1
      have l2 := AMxxw3.out.res.free 2
      have l3 := AMxxw3.out.res.free 3
      have l4 := AMxxw3.out.res.free 4
      have l5 := AMxxw3.out.res.free 5
      have l6 := AMxxw3.out.res.free 6
      have l7 := AMxxw3.out.res.free 7
      have l8 := AMxxw3.out.res.free 8
      have HC3 := Lib.hid AMxxw3.out.out.1
      have HB3 := Lib.hid AMxxw3.out.out.2
      unfold fw9 at HC3 HB3
      go_wp2_with fail
      refine bodyPost_ret (v := .tuple #[.agg #[.int .i64 a0, .string nm, .int .i64 tg, .bool sd, .slice A4 n4 c4, .slice A5 n5 c5, .int .i64 v2.t.t.n, .int .i64 xy, .string xe], .int .i64 ((p : Int) + 1 + 1 + 1), .bool false]) (results_at3 6 67 7 8 Tryz.results102 ⟨w.heap.size + 1, 0, none⟩ rfl _ _ _ rfl rfl (load_step HC3.out)) rfl ?_
      refine ⟨HB3.out, ?_⟩
      rw [HE.out]
      exact ⟨_, _, _, p + 1 + 1 + 1, by rw [show ((p + 1 + 1 + 1 : Nat) : Int) = ((p : Int) + 1 + 1 + 1) by omega], by rw [HL.out]; omega, rfl⟩
     ·obtain ⟨vk, hvk⟩ := there (c := kd 1) rfl (Hbk.out.symm)
      obtain ⟨ad', had, _, _, j2, j3⟩ := (H.out.below hB AMxxw3.out.bel).at_ hvk
      cases had
      have TXvk := Lib.hid (H.out.tx vk (List.mem_of_getElem? hvk))
      have Lvk := (List.getElem?_eq_some_iff.1 hvk).1
      rw [HL.out] at Lvk
      have HM7 := Lib.hid (show tailR x ((toks vs).drop p) = want (wd wEnd) (fun _ r => .ok ({ { x with time := v2.t.t.n } with els := vk.t.t.text }, r)) ((toks vs).drop (p + 1 + 1 + 1 + 1)) by rw [HM6.out]; exact want_yes hvk Hbk.out.symm)
      have s1 : (convert 41 9 (.slice vk.A vk.t.t.text.length vk.c)).run Tryz.prog xxw3 = .ok (.string (str vk.t.t.text)) xxw3 := (Bs.bp (((TXvk.out.below hB AMxxw3.out.bel)).bs hBxxw3)).string vk.c Tryz.underlying41 Tryz.underlying5 Tryz.underlying9
      have k8' := AMxxw3.out.x.cell 8
      have f8' := AMxxw3.out.x.free 8
      obtain ⟨w6, hw6⟩ : ∃ w6, w6 = xxw3.setCell ⟨w.heap.size, 8, none⟩ (.string (str vk.t.t.text)) := ⟨_, rfl⟩
      have AMw6 := Lib.hid (show Am9 w w6 a0 nm tg sd A4 n4 c4 A5 n5 c5 v2.t.t.n xy (str vk.t.t.text) by rw [hw6]; exact AMxxw3.out.els _)
      have hBw6 : B ≤ w6.heap.size := Nat.le_trans hB AMw6.out.bel.size
      obtain ⟨bz, hbz⟩ : ∃ bz, bz = wd wEnd ((toks vs).drop (p + 1 + 1 + 1 + 1)) := ⟨_, rfl⟩
      have con := is_ w6 B (some ad) n c vs (H.out.below hB AMw6.out.bel) hBw6 HL.out (by omega) (p + 1 + 1 + 1 + 1) (by omega) wEnd
      rw [show ((p + 1 + 1 + 1 + 1 : Nat) : Int) = ((p : Int) + 1 + 1 + 1 + 1) by omega] at con
      rw [← hbz] at con
      rw [show str wEnd = ByteArray.mk #[101, 110, 100] from rfl] at con
      have Hbz := Lib.hid hbz
      clear hbz
      go_wp2_with fail
      rw [← hw6]
      clear hw6 s1 k8' f8' j2 j3
      refine con.mono ?_
      rintro e xw6 ⟨rfl, hbw6⟩
      clear con
      have AMxw6 := Lib.hid (AMw6.out.below hbw6)
      clear hbw6
      cases bz
      ·have HE := Lib.hid (show tailR x ((toks vs).drop p) = .error ((toks vs).drop (p + 1 + 1 + 1 + 1)) by rw [HM7.out]; exact want_no Hbz.out.symm)
       have k0 := AMxw6.out.x.cell 0
       have k1 := AMxw6.out.x.cell 1
       have k2 := AMxw6.out.x.cell 2
       have k3 := AMxw6.out.x.cell 3
       have k4 := AMxw6.out.x.cell 4
       have k5 := AMxw6.out.x.cell 5
       have k6 := AMxw6.out.x.cell 6
       have k7 := AMxw6.out.x.cell 7
       have k8 := AMxw6.out.x.cell 8
       have r0 := AMxw6.out.res.cell 0
       have r1 := AMxw6.out.res.cell 1
       have r2 := AMxw6.out.res.cell 2
       have r3 := AMxw6.out.res.cell 3
       have r4 := AMxw6.out.res.cell 4
       have r5 := AMxw6.out.res.cell 5
       have r6 := AMxw6.out.res.cell 6
       have r7 := AMxw6.out.res.cell 7
       have r8 := AMxw6.out.res.cell 8
       have l0 := AMxw6.out.res.free 0
       have l1 := AMxw6.out.res.free 1
       have l2 := AMxw6.out.res.free 2
       have l3 := AMxw6.out.res.free 3
       have l4 := AMxw6.out.res.free 4
       have l5 := AMxw6.out.res.free 5
       have l6 := AMxw6.out.res.free 6
       have l7 := AMxw6.out.res.free 7
       have l8 := AMxw6.out.res.free 8
       have HC3 := Lib.hid AMxw6.out.out.1
       have HB3 := Lib.hid AMxw6.out.out.2
       unfold fw9 at HC3 HB3
       go_wp2_with fail
       refine bodyPost_ret (v := .tuple #[.agg #[.int .i64 a0, .string nm, .int .i64 tg, .bool sd, .slice A4 n4 c4, .slice A5 n5 c5, .int .i64 v2.t.t.n, .int .i64 xy, .string (str vk.t.t.text)], .int .i64 ((p : Int) + 1 + 1 + 1 + 1), .bool false]) (results_at3 6 67 7 8 Tryz.results102 ⟨w.heap.size + 1, 0, none⟩ rfl _ _ _ rfl rfl (load_step HC3.out)) rfl ?_
       refine ⟨HB3.out, ?_⟩
       rw [HE.out]
       exact ⟨_, _, _, p + 1 + 1 + 1 + 1, by rw [show ((p + 1 + 1 + 1 + 1 : Nat) : Int) = ((p : Int) + 1 + 1 + 1 + 1) by omega], by rw [HL.out]; omega, rfl⟩
      ·obtain ⟨vz, hvz⟩ := there (c := wd wEnd) rfl (Hbz.out.symm)
       have Lvz := (List.getElem?_eq_some_iff.1 hvz).1
       rw [HL.out] at Lvz
       have HE := Lib.hid (show tailR x ((toks vs).drop p) = .ok ({ { x with time := v2.t.t.n } with els := vk.t.t.text }, (toks vs).drop (p + 1 + 1 + 1 + 1 + 1)) by rw [HM7.out]; exact want_yes hvz Hbz.out.symm)
       have k0 := AMxw6.out.x.cell 0
       have k1 := AMxw6.out.x.cell 1
       have k2 := AMxw6.out.x.cell 2
       have k3 := AMxw6.out.x.cell 3
       have k4 := AMxw6.out.x.cell 4
       have k5 := AMxw6.out.x.cell 5
       have k6 := AMxw6.out.x.cell 6
       have k7 := AMxw6.out.x.cell 7
       have k8 := AMxw6.out.x.cell 8
       have r0 := AMxw6.out.res.cell 0
       have r1 := AMxw6.out.res.cell 1
       have r2 := AMxw6.out.res.cell 2
       have r3 := AMxw6.out.res.cell 3
       have r4 := AMxw6.out.res.cell 4
       have r5 := AMxw6.out.res.cell 5
       have r6 := AMxw6.out.res.cell 6
       have r7 := AMxw6.out.res.cell 7
       have r8 := AMxw6.out.res.cell 8
       have l0 := AMxw6.out.res.free 0
       have l1 := AMxw6.out.res.free 1
       have l2 := AMxw6.out.res.free 2
       have l3 := AMxw6.out.res.free 3
       have l4 := AMxw6.out.res.free 4
       have l5 := AMxw6.out.res.free 5
       have l6 := AMxw6.out.res.free 6
       have l7 := AMxw6.out.res.free 7
       have l8 := AMxw6.out.res.free 8
       have HC3 := Lib.hid AMxw6.out.out.1
       have HB3 := Lib.hid AMxw6.out.out.2
       unfold fw9 at HC3 HB3
       go_wp2_with fail
       refine bodyPost_ret (v := .tuple #[.agg #[.int .i64 a0, .string nm, .int .i64 tg, .bool sd, .slice A4 n4 c4, .slice A5 n5 c5, .int .i64 v2.t.t.n, .int .i64 xy, .string (str vk.t.t.text)], .int .i64 ((p : Int) + 1 + 1 + 1 + 1 + 1), .bool true]) (results_at3 6 67 7 8 Tryz.results102 ⟨w.heap.size + 1, 0, none⟩ rfl _ _ _ rfl rfl (load_step HC3.out)) rfl ?_
       refine ⟨HB3.out, ?_⟩
       rw [HE.out]
       exact ⟨p + 1 + 1 + 1 + 1 + 1, by rw [show ((p + 1 + 1 + 1 + 1 + 1 : Nat) : Int) = ((p : Int) + 1 + 1 + 1 + 1 + 1) by omega]; dsimp only; rw [HXY.out] <;> rfl, by rw [HL.out]; omega, rfl⟩
   ·obtain ⟨v3, hv3⟩ := there (c := wd wTries) rfl (Hb3.out.symm)
    have Lv3 := (List.getElem?_eq_some_iff.1 hv3).1
    rw [HL.out] at Lv3
    have HM3 := Lib.hid (show tailR x ((toks vs).drop p) = want (kd 2) (fun k => elseR { x with time := v2.t.t.n, try_ := k.t.n }) ((toks vs).drop (p + 1 + 1 + 1)) by rw [HM2.out]; exact may_yes hv3 Hb3.out.symm)
    have hBxw3 : B ≤ xw3.heap.size := Nat.le_trans hB AMxw3.out.bel.size
    obtain ⟨b4, hb4⟩ : ∃ b4, b4 = kd 2 ((toks vs).drop (p + 1 + 1 + 1)) := ⟨_, rfl⟩
    have con := kind_ xw3 B (some ad) n c vs (H.out.below hB AMxw3.out.bel) HL.out (by omega) (p + 1 + 1 + 1) (by omega) 2
    rw [show ((p + 1 + 1 + 1 : Nat) : Int) = ((p : Int) + 1 + 1 + 1) by omega] at con
    rw [← hb4] at con
    have Hb4 := Lib.hid hb4
    clear hb4
    go_wp2_with fail
    refine con.mono ?_
    rintro e w' ⟨rfl, rfl⟩
    clear con
    cases b4
    ·have HE := Lib.hid (show tailR x ((toks vs).drop p) = .error ((toks vs).drop (p + 1 + 1 + 1)) by rw [HM3.out]; exact want_no Hb4.out.symm)
     have k0 := AMxw3.out.x.cell 0
     have k1 := AMxw3.out.x.cell 1
     have k2 := AMxw3.out.x.cell 2
     have k3 := AMxw3.out.x.cell 3
     have k4 := AMxw3.out.x.cell 4
     have k5 := AMxw3.out.x.cell 5
     have k6 := AMxw3.out.x.cell 6
     have k7 := AMxw3.out.x.cell 7
     have k8 := AMxw3.out.x.cell 8
     have r0 := AMxw3.out.res.cell 0
     have r1 := AMxw3.out.res.cell 1
     have r2 := AMxw3.out.res.cell 2
     have r3 := AMxw3.out.res.cell 3
     have r4 := AMxw3.out.res.cell 4
     have r5 := AMxw3.out.res.cell 5
     have r6 := AMxw3.out.res.cell 6
     have r7 := AMxw3.out.res.cell 7
     have r8 := AMxw3.out.res.cell 8
     have l0 := AMxw3.out.res.free 0
     have l1 := AMxw3.out.res.free 1
     have l2 := AMxw3.out.res.free 2
     have l3 := AMxw3.out.res.free 3
     have l4 := AMxw3.out.res.free 4
     have l5 := AMxw3.out.res.free 5
     have l6 := AMxw3.out.res.free 6
     have l7 := AMxw3.out.res.free 7
     have l8 := AMxw3.out.res.free 8
     have HC3 := Lib.hid AMxw3.out.out.1
     have HB3 := Lib.hid AMxw3.out.out.2
     unfold fw9 at HC3 HB3
     go_wp2_with fail
     refine bodyPost_ret (v := .tuple #[.agg #[.int .i64 a0, .string nm, .int .i64 tg, .bool sd, .slice A4 n4 c4, .slice A5 n5 c5, .int .i64 v2.t.t.n, .int .i64 xy, .string xe], .int .i64 ((p : Int) + 1 + 1 + 1), .bool false]) (results_at3 6 67 7 8 Tryz.results102 ⟨w.heap.size + 1, 0, none⟩ rfl _ _ _ rfl rfl (load_step HC3.out)) rfl ?_
     refine ⟨HB3.out, ?_⟩
     rw [HE.out]
     exact ⟨_, _, _, p + 1 + 1 + 1, by rw [show ((p + 1 + 1 + 1 : Nat) : Int) = ((p : Int) + 1 + 1 + 1) by omega], by rw [HL.out]; omega, rfl⟩
    ·obtain ⟨v4, hv4⟩ := there (c := kd 2) rfl (Hb4.out.symm)
     obtain ⟨ad', had, _, _, j2, j3⟩ := (H.out.below hB AMxw3.out.bel).at_ hv4
     cases had
     have TXv4 := Lib.hid (H.out.tx v4 (List.mem_of_getElem? hv4))
     have Lv4 := (List.getElem?_eq_some_iff.1 hv4).1
     rw [HL.out] at Lv4
     have k7' := AMxw3.out.x.cell 7
     have f7' := AMxw3.out.x.free 7
     obtain ⟨w4, hw4⟩ : ∃ w4, w4 = xw3.setCell ⟨w.heap.size, 7, none⟩ (.int .i64 v4.t.t.n) := ⟨_, rfl⟩
     have AMw4 := Lib.hid (show Am9 w w4 a0 nm tg sd A4 n4 c4 A5 n5 c5 v2.t.t.n v4.t.t.n xe by rw [hw4]; exact AMxw3.out.tries _)
     have HMw4 := Lib.hid (show tailR x ((toks vs).drop p) = elseR { x with time := v2.t.t.n, try_ := v4.t.t.n } ((toks vs).drop (p + 1 + 1 + 1 + 1)) by rw [HM3.out]; exact want_yes hv4 Hb4.out.symm)
     have hBw4 : B ≤ w4.heap.size := Nat.le_trans hB AMw4.out.bel.size
     obtain ⟨be, hbe⟩ : ∃ be, be = wd wElse ((toks vs).drop (p + 1 + 1 + 1 + 1)) := ⟨_, rfl⟩
     have con := is_ w4 B (some ad) n c vs (H.out.below hB AMw4.out.bel) hBw4 HL.out (by omega) (p + 1 + 1 + 1 + 1) (by omega) wElse
     rw [show ((p + 1 + 1 + 1 + 1 : Nat) : Int) = ((p : Int) + 1 + 1 + 1 + 1) by omega] at con
     rw [← hbe] at con
     rw [show str wElse = ByteArray.mk #[101, 108, 115, 101] from rfl] at con
     have Hbe := Lib.hid hbe
     clear hbe
     go_wp2_with fail
     rw [← hw4]
     clear hw4 k7' f7' j2 j3
     refine con.mono ?_
     rintro e xw4 ⟨rfl, hbw4⟩
     clear con
     have AMxw4 := Lib.hid (AMw4.out.below hbw4)
     clear hbw4
     cases be
     ·have HE := Lib.hid (show tailR x ((toks vs).drop p) = .error ((toks vs).drop (p + 1 + 1 + 1 + 1)) by rw [HMw4.out]; exact want_no Hbe.out.symm)
      have k0 := AMxw4.out.x.cell 0
      have k1 := AMxw4.out.x.cell 1
      have k2 := AMxw4.out.x.cell 2
      have k3 := AMxw4.out.x.cell 3
      have k4 := AMxw4.out.x.cell 4
      have k5 := AMxw4.out.x.cell 5
      have k6 := AMxw4.out.x.cell 6
      have k7 := AMxw4.out.x.cell 7
      have k8 := AMxw4.out.x.cell 8
      have r0 := AMxw4.out.res.cell 0
      have r1 := AMxw4.out.res.cell 1
      have r2 := AMxw4.out.res.cell 2
      have r3 := AMxw4.out.res.cell 3
      have r4 := AMxw4.out.res.cell 4
      have r5 := AMxw4.out.res.cell 5
      have r6 := AMxw4.out.res.cell 6
      have r7 := AMxw4.out.res.cell 7
      have r8 := AMxw4.out.res.cell 8
      have l0 := AMxw4.out.res.free 0
      have l1 := AMxw4.out.res.free 1
      have l2 := AMxw4.out.res.free 2
      have l3 := AMxw4.out.res.free 3
      have l4 := AMxw4.out.res.free 4
      have l5 := AMxw4.out.res.free 5
      have l6 := AMxw4.out.res.free 6
      have l7 := AMxw4.out.res.free 7
      have l8 := AMxw4.out.res.free 8
      have HC3 := Lib.hid AMxw4.out.out.1
      have HB3 := Lib.hid AMxw4.out.out.2
      unfold fw9 at HC3 HB3
      go_wp2_with fail
      refine bodyPost_ret (v := .tuple #[.agg #[.int .i64 a0, .string nm, .int .i64 tg, .bool sd, .slice A4 n4 c4, .slice A5 n5 c5, .int .i64 v2.t.t.n, .int .i64 v4.t.t.n, .string xe], .int .i64 ((p : Int) + 1 + 1 + 1 + 1), .bool false]) (results_at3 6 67 7 8 Tryz.results102 ⟨w.heap.size + 1, 0, none⟩ rfl _ _ _ rfl rfl (load_step HC3.out)) rfl ?_
      refine ⟨HB3.out, ?_⟩
      rw [HE.out]
      exact ⟨_, _, _, p + 1 + 1 + 1 + 1, by rw [show ((p + 1 + 1 + 1 + 1 : Nat) : Int) = ((p : Int) + 1 + 1 + 1 + 1) by omega], by rw [HL.out]; omega, rfl⟩
     ·obtain ⟨ve, hve⟩ := there (c := wd wElse) rfl (Hbe.out.symm)
      have Lve := (List.getElem?_eq_some_iff.1 hve).1
      rw [HL.out] at Lve
      have HM6 := Lib.hid (show tailR x ((toks vs).drop p) = want (kd 1) (fun u => want (wd wEnd) fun _ r => .ok ({ { x with time := v2.t.t.n, try_ := v4.t.t.n } with els := u.t.text }, r)) ((toks vs).drop (p + 1 + 1 + 1 + 1 + 1)) by rw [HMw4.out]; unfold elseR; exact want_yes hve Hbe.out.symm)
      have hBxw4 : B ≤ xw4.heap.size := Nat.le_trans hB AMxw4.out.bel.size
      obtain ⟨bk, hbk⟩ : ∃ bk, bk = kd 1 ((toks vs).drop (p + 1 + 1 + 1 + 1 + 1)) := ⟨_, rfl⟩
      have con := kind_ xw4 B (some ad) n c vs (H.out.below hB AMxw4.out.bel) HL.out (by omega) (p + 1 + 1 + 1 + 1 + 1) (by omega) 1
      rw [show ((p + 1 + 1 + 1 + 1 + 1 : Nat) : Int) = ((p : Int) + 1 + 1 + 1 + 1 + 1) by omega] at con
      rw [← hbk] at con
      have Hbk := Lib.hid hbk
      clear hbk
      go_wp2_with fail
      refine con.mono ?_
      rintro e w' ⟨rfl, rfl⟩
      clear con
      cases bk
      ·have HE := Lib.hid (show tailR x ((toks vs).drop p) = .error ((toks vs).drop (p + 1 + 1 + 1 + 1 + 1)) by rw [HM6.out]; exact want_no Hbk.out.symm)
       have k0 := AMxw4.out.x.cell 0
       have k1 := AMxw4.out.x.cell 1
       have k2 := AMxw4.out.x.cell 2
       have k3 := AMxw4.out.x.cell 3
       have k4 := AMxw4.out.x.cell 4
       have k5 := AMxw4.out.x.cell 5
       have k6 := AMxw4.out.x.cell 6
       have k7 := AMxw4.out.x.cell 7
       have k8 := AMxw4.out.x.cell 8
       have r0 := AMxw4.out.res.cell 0
       have r1 := AMxw4.out.res.cell 1
       have r2 := AMxw4.out.res.cell 2
       have r3 := AMxw4.out.res.cell 3
       have r4 := AMxw4.out.res.cell 4
       have r5 := AMxw4.out.res.cell 5
       have r6 := AMxw4.out.res.cell 6
       have r7 := AMxw4.out.res.cell 7
       have r8 := AMxw4.out.res.cell 8
       have l0 := AMxw4.out.res.free 0
       have l1 := AMxw4.out.res.free 1
       have l2 := AMxw4.out.res.free 2
       have l3 := AMxw4.out.res.free 3
       have l4 := AMxw4.out.res.free 4
       have l5 := AMxw4.out.res.free 5
       have l6 := AMxw4.out.res.free 6
       have l7 := AMxw4.out.res.free 7
       have l8 := AMxw4.out.res.free 8
       have HC3 := Lib.hid AMxw4.out.out.1
       have HB3 := Lib.hid AMxw4.out.out.2
       unfold fw9 at HC3 HB3
       go_wp2_with fail
       refine bodyPost_ret (v := .tuple #[.agg #[.int .i64 a0, .string nm, .int .i64 tg, .bool sd, .slice A4 n4 c4, .slice A5 n5 c5, .int .i64 v2.t.t.n, .int .i64 v4.t.t.n, .string xe], .int .i64 ((p : Int) + 1 + 1 + 1 + 1 + 1), .bool false]) (results_at3 6 67 7 8 Tryz.results102 ⟨w.heap.size + 1, 0, none⟩ rfl _ _ _ rfl rfl (load_step HC3.out)) rfl ?_
       refine ⟨HB3.out, ?_⟩
       rw [HE.out]
       exact ⟨_, _, _, p + 1 + 1 + 1 + 1 + 1, by rw [show ((p + 1 + 1 + 1 + 1 + 1 : Nat) : Int) = ((p : Int) + 1 + 1 + 1 + 1 + 1) by omega], by rw [HL.out]; omega, rfl⟩
      ·obtain ⟨vk, hvk⟩ := there (c := kd 1) rfl (Hbk.out.symm)
       obtain ⟨ad', had, _, _, j2, j3⟩ := (H.out.below hB AMxw4.out.bel).at_ hvk
       cases had
       have TXvk := Lib.hid (H.out.tx vk (List.mem_of_getElem? hvk))
       have Lvk := (List.getElem?_eq_some_iff.1 hvk).1
       rw [HL.out] at Lvk
       have HM7 := Lib.hid (show tailR x ((toks vs).drop p) = want (wd wEnd) (fun _ r => .ok ({ { x with time := v2.t.t.n, try_ := v4.t.t.n } with els := vk.t.t.text }, r)) ((toks vs).drop (p + 1 + 1 + 1 + 1 + 1 + 1)) by rw [HM6.out]; exact want_yes hvk Hbk.out.symm)
       have s1 : (convert 41 9 (.slice vk.A vk.t.t.text.length vk.c)).run Tryz.prog xw4 = .ok (.string (str vk.t.t.text)) xw4 := (Bs.bp (((TXvk.out.below hB AMxw4.out.bel)).bs hBxw4)).string vk.c Tryz.underlying41 Tryz.underlying5 Tryz.underlying9
       have k8' := AMxw4.out.x.cell 8
       have f8' := AMxw4.out.x.free 8
       obtain ⟨w6, hw6⟩ : ∃ w6, w6 = xw4.setCell ⟨w.heap.size, 8, none⟩ (.string (str vk.t.t.text)) := ⟨_, rfl⟩
       have AMw6 := Lib.hid (show Am9 w w6 a0 nm tg sd A4 n4 c4 A5 n5 c5 v2.t.t.n v4.t.t.n (str vk.t.t.text) by rw [hw6]; exact AMxw4.out.els _)
       have hBw6 : B ≤ w6.heap.size := Nat.le_trans hB AMw6.out.bel.size
       obtain ⟨bz, hbz⟩ : ∃ bz, bz = wd wEnd ((toks vs).drop (p + 1 + 1 + 1 + 1 + 1 + 1)) := ⟨_, rfl⟩
       have con := is_ w6 B (some ad) n c vs (H.out.below hB AMw6.out.bel) hBw6 HL.out (by omega) (p + 1 + 1 + 1 + 1 + 1 + 1) (by omega) wEnd
       rw [show ((p + 1 + 1 + 1 + 1 + 1 + 1 : Nat) : Int) = ((p : Int) + 1 + 1 + 1 + 1 + 1 + 1) by omega] at con
       rw [← hbz] at con
       rw [show str wEnd = ByteArray.mk #[101, 110, 100] from rfl] at con
       have Hbz := Lib.hid hbz
       clear hbz
       go_wp2_with fail
       rw [← hw6]
       clear hw6 s1 k8' f8' j2 j3
       refine con.mono ?_
       rintro e xw6 ⟨rfl, hbw6⟩
       clear con
       have AMxw6 := Lib.hid (AMw6.out.below hbw6)
       clear hbw6
       cases bz
       ·have HE := Lib.hid (show tailR x ((toks vs).drop p) = .error ((toks vs).drop (p + 1 + 1 + 1 + 1 + 1 + 1)) by rw [HM7.out]; exact want_no Hbz.out.symm)
        have k0 := AMxw6.out.x.cell 0
        have k1 := AMxw6.out.x.cell 1
        have k2 := AMxw6.out.x.cell 2
        have k3 := AMxw6.out.x.cell 3
        have k4 := AMxw6.out.x.cell 4
        have k5 := AMxw6.out.x.cell 5
        have k6 := AMxw6.out.x.cell 6
        have k7 := AMxw6.out.x.cell 7
        have k8 := AMxw6.out.x.cell 8
        have r0 := AMxw6.out.res.cell 0
        have r1 := AMxw6.out.res.cell 1
        have r2 := AMxw6.out.res.cell 2
        have r3 := AMxw6.out.res.cell 3
        have r4 := AMxw6.out.res.cell 4
        have r5 := AMxw6.out.res.cell 5
        have r6 := AMxw6.out.res.cell 6
        have r7 := AMxw6.out.res.cell 7
        have r8 := AMxw6.out.res.cell 8
        have l0 := AMxw6.out.res.free 0
        have l1 := AMxw6.out.res.free 1
        have l2 := AMxw6.out.res.free 2
        have l3 := AMxw6.out.res.free 3
        have l4 := AMxw6.out.res.free 4
        have l5 := AMxw6.out.res.free 5
        have l6 := AMxw6.out.res.free 6
        have l7 := AMxw6.out.res.free 7
        have l8 := AMxw6.out.res.free 8
        have HC3 := Lib.hid AMxw6.out.out.1
        have HB3 := Lib.hid AMxw6.out.out.2
        unfold fw9 at HC3 HB3
        go_wp2_with fail
        refine bodyPost_ret (v := .tuple #[.agg #[.int .i64 a0, .string nm, .int .i64 tg, .bool sd, .slice A4 n4 c4, .slice A5 n5 c5, .int .i64 v2.t.t.n, .int .i64 v4.t.t.n, .string (str vk.t.t.text)], .int .i64 ((p : Int) + 1 + 1 + 1 + 1 + 1 + 1), .bool false]) (results_at3 6 67 7 8 Tryz.results102 ⟨w.heap.size + 1, 0, none⟩ rfl _ _ _ rfl rfl (load_step HC3.out)) rfl ?_
        refine ⟨HB3.out, ?_⟩
        rw [HE.out]
        exact ⟨_, _, _, p + 1 + 1 + 1 + 1 + 1 + 1, by rw [show ((p + 1 + 1 + 1 + 1 + 1 + 1 : Nat) : Int) = ((p : Int) + 1 + 1 + 1 + 1 + 1 + 1) by omega], by rw [HL.out]; omega, rfl⟩
       ·obtain ⟨vz, hvz⟩ := there (c := wd wEnd) rfl (Hbz.out.symm)
        have Lvz := (List.getElem?_eq_some_iff.1 hvz).1
        rw [HL.out] at Lvz
        have HE := Lib.hid (show tailR x ((toks vs).drop p) = .ok ({ { x with time := v2.t.t.n, try_ := v4.t.t.n } with els := vk.t.t.text }, (toks vs).drop (p + 1 + 1 + 1 + 1 + 1 + 1 + 1)) by rw [HM7.out]; exact want_yes hvz Hbz.out.symm)
        have k0 := AMxw6.out.x.cell 0
        have k1 := AMxw6.out.x.cell 1
        have k2 := AMxw6.out.x.cell 2
        have k3 := AMxw6.out.x.cell 3
        have k4 := AMxw6.out.x.cell 4
        have k5 := AMxw6.out.x.cell 5
        have k6 := AMxw6.out.x.cell 6
        have k7 := AMxw6.out.x.cell 7
        have k8 := AMxw6.out.x.cell 8
        have r0 := AMxw6.out.res.cell 0
        have r1 := AMxw6.out.res.cell 1
        have r2 := AMxw6.out.res.cell 2
        have r3 := AMxw6.out.res.cell 3
        have r4 := AMxw6.out.res.cell 4
        have r5 := AMxw6.out.res.cell 5
        have r6 := AMxw6.out.res.cell 6
        have r7 := AMxw6.out.res.cell 7
        have r8 := AMxw6.out.res.cell 8
        have l0 := AMxw6.out.res.free 0
        have l1 := AMxw6.out.res.free 1
        have l2 := AMxw6.out.res.free 2
        have l3 := AMxw6.out.res.free 3
        have l4 := AMxw6.out.res.free 4
        have l5 := AMxw6.out.res.free 5
        have l6 := AMxw6.out.res.free 6
        have l7 := AMxw6.out.res.free 7
        have l8 := AMxw6.out.res.free 8
        have HC3 := Lib.hid AMxw6.out.out.1
        have HB3 := Lib.hid AMxw6.out.out.2
        unfold fw9 at HC3 HB3
        go_wp2_with fail
        refine bodyPost_ret (v := .tuple #[.agg #[.int .i64 a0, .string nm, .int .i64 tg, .bool sd, .slice A4 n4 c4, .slice A5 n5 c5, .int .i64 v2.t.t.n, .int .i64 v4.t.t.n, .string (str vk.t.t.text)], .int .i64 ((p : Int) + 1 + 1 + 1 + 1 + 1 + 1 + 1), .bool true]) (results_at3 6 67 7 8 Tryz.results102 ⟨w.heap.size + 1, 0, none⟩ rfl _ _ _ rfl rfl (load_step HC3.out)) rfl ?_
        refine ⟨HB3.out, ?_⟩
        rw [HE.out]
        exact ⟨p + 1 + 1 + 1 + 1 + 1 + 1 + 1, by rw [show ((p + 1 + 1 + 1 + 1 + 1 + 1 + 1 : Nat) : Int) = ((p : Int) + 1 + 1 + 1 + 1 + 1 + 1 + 1) by omega] <;> rfl, by rw [HL.out]; omega, rfl⟩
end Go.Proofs.YteohlpmojfjjdaaGreat.Book
