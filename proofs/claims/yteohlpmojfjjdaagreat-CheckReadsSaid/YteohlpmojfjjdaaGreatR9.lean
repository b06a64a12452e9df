/-
The document's runbook (layer 12): an arm.
-/
import Derived.Test.YteohlpmojfjjdaaGreatR0
import Derived.Test.YteohlpmojfjjdaaGreatR1
import Derived.Test.YteohlpmojfjjdaaGreatR7
import Derived.Test.YteohlpmojfjjdaaGreatR8
set_option linter.unusedVariables false
set_option linter.unusedSimpArgs false
set_option maxRecDepth 100000
set_option maxHeartbeats 4000000
namespace Go.Proofs.YteohlpmojfjjdaaGreat.Book
open Go.RowKit
open Lex (Tok Tk B cut Tv Ttk Tx Rtk tflat lbelow_drew b_ne CtSays fw4 fw4_cel fw4_frm results_at3)
theorem want_no {α : Type} {c : T → Bool} {f : Tok → T → Except T α} {l : T} (h : c l = false) : want c f l = .error l := by
 cases l with
 | nil => rfl
 | cons x m => unfold want; dsimp only; rw [if_neg (by simp [h])]
theorem may_no {α : Type} {c : T → Bool} {f : Tok → T → Except T α} {g : T → Except T α} {l : T} (h : c l = false) : may c f g l = g l := by
 cases l with
 | nil => rfl
 | cons x m => unfold may; dsimp only; rw [if_neg (by simp [h])]
theorem there {c : T → Bool} (hc : c [] = false) {vs : List Tv} {p : Nat} (h : c ((toks vs).drop p) = true) : ∃ v, vs[p]? = some v := by
 rcases Nat.lt_or_ge p vs.length with hl | hl
 ·exact ⟨_, List.getElem?_eq_getElem hl⟩
 ·rw [toks_end hl, hc] at h; cases h
theorem want_yes {α : Type} {c : T → Bool} {f : Tok → T → Except T α} {vs : List Tv} {p : Nat} {v : Tv} (hv : vs[p]? = some v) (h : c ((toks vs).drop p) = true) : want c f ((toks vs).drop p) = f v.t ((toks vs).drop (p + 1)) := by
 rw [toks_drop hv] at h ⊢; unfold want; dsimp only; rw [if_pos h]
theorem may_yes {α : Type} {c : T → Bool} {f : Tok → T → Except T α} {g : T → Except T α} {vs : List Tv} {p : Nat} {v : Tv} (hv : vs[p]? = some v) (h : c ((toks vs).drop p) = true) : may c f g ((toks vs).drop p) = f v.t ((toks vs).drop (p + 1)) := by
 rw [toks_drop hv] at h ⊢; unfold may; dsimp only; rw [if_pos h]
theorem load_arm {w : World} {g : Nat} {x0 x1 x2 x3 : Value} (h : Cel w g 70 [x0, x1, x2, x3]) : (loadVar 70 ⟨g, 0, none⟩).run Tryz.prog w = .ok (.agg #[x0, x1, x2, x3]) w :=
 run_loadVar_mid (P := Tryz.prog) w g 0 70 [x0, x1, x2, x3] _ (fun j v hv => by rw [Nat.zero_add, h.cell j, hv]) Tryz.underlying70 rfl (by kernel_rfl)
structure Am (w W : World) (a0 : Int) (P : Option Addr) (n1 c1 : Nat) (a2 a3 : ByteArray) : Prop where
 res : Cel W w.heap.size 70 [.int .i64 0, .slice none 0 0, .string ⟨#[]⟩, .string ⟨#[]⟩]
 x : Cel W (w.heap.size + 1) 70 [.int .i64 a0, .slice P n1 c1, .string a2, .string a3]
 bel : Below w.heap.size w W
theorem Am.below {w W W' : World} {a0 : Int} {P : Option Addr} {n1 c1 : Nat} {a2 a3 : ByteArray} (h : Am w W a0 P n1 c1 a2 a3) (hb : Below W.heap.size W W') : Am w W' a0 P n1 c1 a2 a3 :=
 ⟨(hb.block _ h.res.lt).trans h.res, (hb.block _ h.x.lt).trans h.x, h.bel.trans (hb.mono h.bel.size)⟩
theorem Am.frm {w W W' : World} {a0 : Int} {P : Option Addr} {n1 c1 : Nat} {a2 a3 : ByteArray} (h : Am w W a0 P n1 c1 a2 a3) (hf : Frm [w.heap.size + 1] W W') {a0' : Int} {P' : Option Addr} {n1' c1' : Nat} {a2' a3' : ByteArray} (hx : Cel W' (w.heap.size + 1) 70 [.int .i64 a0', .slice P' n1' c1', .string a2', .string a3']) : Am w W' a0' P' n1' c1' a2' a3' :=
 ⟨(hf.block _ h.res.lt (by simp)).trans h.res, hx, h.bel.trans (hf.below h.bel.size (by intro q hq; simp at hq; omega))⟩
theorem Am.pat {w W : World} {a0 : Int} {P : Option Addr} {n1 c1 : Nat} {a2 a3 : ByteArray} (h : Am w W a0 P n1 c1 a2 a3) (P' : Option Addr) (n' c' : Nat) : Am w (W.setCell ⟨w.heap.size + 1, 1, none⟩ (.slice P' n' c')) a0 P' n' c' a2 a3 :=
 h.frm ((Frm.refl _ W).set (p := ⟨w.heap.size + 1, 1, none⟩) (by simp) _) (h.x.set 1 _)
theorem Am.as_ {w W : World} {a0 : Int} {P : Option Addr} {n1 c1 : Nat} {a2 a3 : ByteArray} (h : Am w W a0 P n1 c1 a2 a3) (t : ByteArray) : Am w (W.setCell ⟨w.heap.size + 1, 2, none⟩ (.string t)) a0 P n1 c1 t a3 :=
 h.frm ((Frm.refl _ W).set (p := ⟨w.heap.size + 1, 2, none⟩) (by simp) _) (h.x.set 2 _)
theorem Am.go {w W : World} {a0 : Int} {P : Option Addr} {n1 c1 : Nat} {a2 a3 : ByteArray} (h : Am w W a0 P n1 c1 a2 a3) (t : ByteArray) : Am w (W.setCell ⟨w.heap.size + 1, 3, none⟩ (.string t)) a0 P n1 c1 a2 t :=
 h.frm ((Frm.refl _ W).set (p := ⟨w.heap.size + 1, 3, none⟩) (by simp) _) (h.x.set 3 _)
theorem Am.out {w W : World} {a0 : Int} {P : Option Addr} {n1 c1 : Nat} {a2 a3 : ByteArray} (h : Am w W a0 P n1 c1 a2 a3) : Cel (fw4 W w.heap.size (.int .i64 a0) (.slice P n1 c1) (.string a2) (.string a3)) w.heap.size 70 [.int .i64 a0, .slice P n1 c1, .string a2, .string a3] ∧ Below w.heap.size w (fw4 W w.heap.size (.int .i64 a0) (.slice P n1 c1) (.string a2) (.string a3)) :=
 ⟨fw4_cel h.res, h.bel.trans ((fw4_frm W w.heap.size _ _ _ _).below h.bel.size (by intro q hq; simp at hq; omega))⟩
def ArmSays (w : World) (B : Nat) (vs : List Tv) (r : Except T (Arm × T)) (e : Ending) (w' : World) : Prop := Below w.heap.size w w' ∧ match r with
 | .error m => ∃ (a0 : Int) (a1 : Option Addr) (n1 c1 : Nat) (a2 a3 : ByteArray) (q : Nat), e = .returned (.tuple #[.agg #[.int .i64 a0, .slice a1 n1 c1, .string a2, .string a3], .int .i64 (q : Int), .bool false]) ∧ q ≤ vs.length ∧ (toks vs).drop q = m
 | .ok (a, m) => ∃ (A1 : Option Addr) (c1 q : Nat), e = .returned (.tuple #[.agg #[.int .i64 (a.at_ : Int), .slice A1 a.pat.length c1, .string (str a.as_), .string (str a.go)], .int .i64 (q : Int), .bool true]) ∧ q ≤ vs.length ∧ Tx w B A1 a.pat ∧ (toks vs).drop q = m
theorem arm_ (w : World) (B : Nat) (A : Option Addr) (n c : Nat) (vs : List Tv) (h : Ttk w B A vs) (hB : B ≤ w.heap.size) (hl : vs.length = n) (hn : n ≤ 90000) (p : Nat) (v : Tv) (hv : vs[p]? = some v) :
  Calls Tryz.prog 101 #[.slice A n c, .int .i64 (p : Int)] w (ArmSays w B vs (armR v.t.at_ ((toks vs).drop (p + 1)))) := by
 have H := Lib.hid h
 have hp : p < n := by rw [← hl]; exact (List.getElem?_eq_some_iff.1 hv).1
 obtain ⟨w1, hw1⟩ : ∃ w1, w1 = w.alloc (.cells #[.int .i64 0, .slice none 0 0, .string ⟨#[]⟩, .string ⟨#[]⟩] 70) := ⟨_, rfl⟩
 have hb1 : Below w.heap.size w w1 := by rw [hw1]; exact (Below.refl _ _).alloc (Nat.le_refl _) _
 have hc1 : Cel w1 w.heap.size 70 [.int .i64 0, .slice none 0 0, .string ⟨#[]⟩, .string ⟨#[]⟩] := by rw [hw1]; exact Cel.new w _ _
 obtain ⟨ad, rfl, k0, k1, k2, k3⟩ := (h.below hB hb1).at_ hv
 have HB1 := Lib.hid hb1
 have HC1 := Lib.hid hc1
 rw [hw1] at k1
 obtain ⟨⟨⟨vk, vn, vt⟩, va⟩, vA, vc⟩ := v
 dsimp only at *
 have HL := Lib.hid hl
 have HV := Lib.hid hv
 clear h hb1 hc1 k0 k2 k3 hl hv
 obtain ⟨w2, hw2⟩ : ∃ w2, w2 = w1.alloc (.cells #[.int .i64 (va : Int), .slice none 0 0, .string ⟨#[]⟩, .string ⟨#[]⟩] 70) := ⟨_, rfl⟩
 have AMw2 := Lib.hid (show Am w w2 (va : Int) none 0 0 ⟨#[]⟩ ⟨#[]⟩ by
  have hs : w1.heap.size = w.heap.size + 1 := by rw [hw1]; simp
  have hb2 : Below w1.heap.size w1 w2 := by rw [hw2]; exact (Below.refl _ _).alloc (Nat.le_refl _) _
  refine ⟨(hb2.block _ HC1.out.lt).trans HC1.out, ?_, HB1.out.trans (hb2.mono HB1.out.size)⟩
  rw [hw2, ← hs]; exact Cel.new w1 _ _)
 rw [hw1] at hw2
 clear hw1
 have hBw2 : B ≤ w2.heap.size := Nat.le_trans hB AMw2.out.bel.size
 obtain ⟨b1, hb1⟩ : ∃ b1, b1 = kd 3 ((toks vs).drop (p + 1)) := ⟨_, rfl⟩
 have con := kind_ w2 B (some ad) n c vs (H.out.below hB AMw2.out.bel) HL.out (by omega) (p + 1) (by omega) 3
 rw [show ((p + 1 : Nat) : Int) = ((p : Int) + 1) by omega, ← hb1] at con
 have Hb1 := Lib.hid hb1
 clear hb1
 go_enter Tryz.func101, Tryz.ntmps101
 go_wp2_with fail
 rw [← hw2]
 clear hw2
 refine con.mono ?_
 rintro e w' ⟨rfl, rfl⟩
 clear con k1
 cases b1
 ·have HE := Lib.hid (show armR va ((toks vs).drop (p + 1)) = .error ((toks vs).drop (p + 1)) from want_no Hb1.out.symm)
  have k0 := AMw2.out.x.cell 0
  have k1 := AMw2.out.x.cell 1
  have k2 := AMw2.out.x.cell 2
  have k3 := AMw2.out.x.cell 3
  have r0 := AMw2.out.res.cell 0
  have r1 := AMw2.out.res.cell 1
  have r2 := AMw2.out.res.cell 2
  have r3 := AMw2.out.res.cell 3
  have l0 := AMw2.out.res.free 0
  have l1 := AMw2.out.res.free 1
  have l2 := AMw2.out.res.free 2
  have l3 := AMw2.out.res.free 3
  have HC3 := Lib.hid AMw2.out.out.1
  have HB3 := Lib.hid AMw2.out.out.2
  unfold fw4 at HC3 HB3
  go_wp2_with fail
  refine bodyPost_ret (v := .tuple #[.agg #[.int .i64 (va : Int), .slice none 0 0, .string ⟨#[]⟩, .string ⟨#[]⟩], .int .i64 ((p : Int) + 1), .bool false]) (results_at3 4 70 5 6 Tryz.results101 ⟨w.heap.size, 0, none⟩ rfl _ _ _ rfl rfl (load_arm HC3.out)) rfl ?_
  refine ⟨HB3.out, ?_⟩
  rw [HE.out]
  exact ⟨_, _, _, _, _, _, p + 1, by rw [show ((p + 1 : Nat) : Int) = ((p : Int) + 1) by omega], by rw [HL.out]; omega, rfl⟩
 ·obtain ⟨v1, hv1⟩ := there (c := kd 3) rfl (Hb1.out.symm)
  obtain ⟨ad', had, _, _, _, j3⟩ := (H.out.below hB AMw2.out.bel).at_ hv1
  cases had
  have TXv1 := Lib.hid (H.out.tx v1 (List.mem_of_getElem? hv1))
  have Lv1 := (List.getElem?_eq_some_iff.1 hv1).1
  rw [HL.out] at Lv1
  have HM1 := Lib.hid (show armR va ((toks vs).drop (p + 1)) = may (wd wAs) (fun _ => want (kd 1) fun u => armGo va v1.t.t.text u.t.text) (armGo va v1.t.t.text []) ((toks vs).drop (p + 1 + 1)) from want_yes hv1 Hb1.out.symm)
  have k1' := AMw2.out.x.cell 1
  have f1' := AMw2.out.x.free 1
  obtain ⟨w3, hw3⟩ : ∃ w3, w3 = w2.setCell ⟨w.heap.size + 1, 1, none⟩ (.slice v1.A v1.t.t.text.length v1.c) := ⟨_, rfl⟩
  have AMw3 := Lib.hid (show Am w w3 va v1.A v1.t.t.text.length v1.c ⟨#[]⟩ ⟨#[]⟩ by rw [hw3]; exact AMw2.out.pat _ _ _)
  have hBw3 : B ≤ w3.heap.size := Nat.le_trans hB AMw3.out.bel.size
  obtain ⟨b2, hb2⟩ : ∃ b2, b2 = wd wAs ((toks vs).drop (p + 1 + 1)) := ⟨_, rfl⟩
  have con := is_ w3 B (some ad) n c vs (H.out.below hB AMw3.out.bel) hBw3 HL.out (by omega) (p + 1 + 1) (by omega) wAs
  rw [show ((p + 1 + 1 : Nat) : Int) = ((p : Int) + 1 + 1) by omega, ← hb2] at con
  have Hb2 := Lib.hid hb2
  clear hb2
  rw [show str wAs = ByteArray.mk #[97, 115] from rfl] at con
  go_wp2_with fail
  rw [← hw3]
  clear hw3
  refine con.mono ?_
  rintro e w4 ⟨rfl, hb4⟩
  clear con k1' f1' j3
  have AMw4 := Lib.hid (AMw3.out.below hb4)
  clear hb4
  cases b2
  ·have HMw4 := Lib.hid (show armR va ((toks vs).drop (p + 1)) = armGo va v1.t.t.text [] ((toks vs).drop (p + 1 + 1)) by rw [HM1.out]; exact may_no Hb2.out.symm)
   have hBw4 : B ≤ w4.heap.size := Nat.le_trans hB AMw4.out.bel.size
   obtain ⟨bgw4, hbgw4⟩ : ∃ bgw4, bgw4 = wd wGo ((toks vs).drop (p + 1 + 1)) := ⟨_, rfl⟩
   have con := is_ w4 B (some ad) n c vs (H.out.below hB AMw4.out.bel) hBw4 HL.out (by omega) (p + 1 + 1) (by omega) wGo
   rw [show ((p + 1 + 1 : Nat) : Int) = ((p : Int) + 1 + 1) by omega, ← hbgw4] at con
   have Hbgw4 := Lib.hid hbgw4
   clear hbgw4
   rw [show str wGo = ByteArray.mk #[103, 111] from rfl] at con
   go_wp2_with fail
   refine con.mono ?_
   rintro e xw4 ⟨rfl, hbw4⟩
   clear con
   have AMxw4 := Lib.hid (AMw4.out.below hbw4)
   clear hbw4
   cases bgw4
   ·have HE := Lib.hid (show armR va ((toks vs).drop (p + 1)) = .error ((toks vs).drop (p + 1 + 1)) by rw [HMw4.out]; exact want_no Hbgw4.out.symm)
    have k0 := AMxw4.out.x.cell 0
    have k1 := AMxw4.out.x.cell 1
    have k2 := AMxw4.out.x.cell 2
    have k3 := AMxw4.out.x.cell 3
    have r0 := AMxw4.out.res.cell 0
    have r1 := AMxw4.out.res.cell 1
    have r2 := AMxw4.out.res.cell 2
    have r3 := AMxw4.out.res.cell 3
    have l0 := AMxw4.out.res.free 0
    have l1 := AMxw4.out.res.free 1
    have l2 := AMxw4.out.res.free 2
    have l3 := AMxw4.out.res.free 3
    have HC3 := Lib.hid AMxw4.out.out.1
    have HB3 := Lib.hid AMxw4.out.out.2
    unfold fw4 at HC3 HB3
    go_wp2_with fail
    refine bodyPost_ret (v := .tuple #[.agg #[.int .i64 (va : Int), .slice v1.A v1.t.t.text.length v1.c, .string ⟨#[]⟩, .string ⟨#[]⟩], .int .i64 ((p : Int) + 1 + 1), .bool false]) (results_at3 4 70 5 6 Tryz.results101 ⟨w.heap.size, 0, none⟩ rfl _ _ _ rfl rfl (load_arm HC3.out)) rfl ?_
    refine ⟨HB3.out, ?_⟩
    rw [HE.out]
    exact ⟨_, _, _, _, _, _, p + 1 + 1, by rw [show ((p + 1 + 1 : Nat) : Int) = ((p : Int) + 1 + 1) by omega], by rw [HL.out]; omega, rfl⟩
   ·obtain ⟨vg, hvg⟩ := there (c := wd wGo) rfl (Hbgw4.out.symm)
    have Lvg := (List.getElem?_eq_some_iff.1 hvg).1
    rw [HL.out] at Lvg
    have HMxw4 := Lib.hid (show armR va ((toks vs).drop (p + 1)) = want (kd 1) (fun g m => .ok (⟨va, v1.t.t.text, [], g.t.text⟩, m)) ((toks vs).drop (p + 1 + 1 + 1)) by rw [HMw4.out]; unfold armGo; exact want_yes hvg Hbgw4.out.symm)
    obtain ⟨bkw4, hbkw4⟩ : ∃ bkw4, bkw4 = kd 1 ((toks vs).drop (p + 1 + 1 + 1)) := ⟨_, rfl⟩
    have con := kind_ xw4 B (some ad) n c vs (H.out.below hB AMxw4.out.bel) HL.out (by omega) (p + 1 + 1 + 1) (by omega) 1
    rw [show ((p + 1 + 1 + 1 : Nat) : Int) = ((p : Int) + 1 + 1 + 1) by omega, ← hbkw4] at con
    have Hbkw4 := Lib.hid hbkw4
    clear hbkw4
    go_wp2_with fail
    refine con.mono ?_
    rintro e w' ⟨rfl, rfl⟩
    clear con
    cases bkw4
    ·have HE := Lib.hid (show armR va ((toks vs).drop (p + 1)) = .error ((toks vs).drop (p + 1 + 1 + 1)) by rw [HMxw4.out]; exact want_no Hbkw4.out.symm)
     have k0 := AMxw4.out.x.cell 0
     have k1 := AMxw4.out.x.cell 1
     have k2 := AMxw4.out.x.cell 2
     have k3 := AMxw4.out.x.cell 3
     have r0 := AMxw4.out.res.cell 0
     have r1 := AMxw4.out.res.cell 1
     have r2 := AMxw4.out.res.cell 2
     have r3 := AMxw4.out.res.cell 3
     have l0 := AMxw4.out.res.free 0
     have l1 := AMxw4.out.res.free 1
     have l2 := AMxw4.out.res.free 2
     have l3 := AMxw4.out.res.free 3
     have HC3 := Lib.hid AMxw4.out.out.1
     have HB3 := Lib.hid AMxw4.out.out.2
     unfold fw4 at HC3 HB3
     go_wp2_with fail
     refine bodyPost_ret (v := .tuple #[.agg #[.int .i64 (va : Int), .slice v1.A v1.t.t.text.length v1.c, .string ⟨#[]⟩, .string ⟨#[]⟩], .int .i64 ((p : Int) + 1 + 1 + 1), .bool false]) (results_at3 4 70 5 6 Tryz.results101 ⟨w.heap.size, 0, none⟩ rfl _ _ _ rfl rfl (load_arm HC3.out)) rfl ?_
     refine ⟨HB3.out, ?_⟩
     rw [HE.out]
     exact ⟨_, _, _, _, _, _, p + 1 + 1 + 1, by rw [show ((p + 1 + 1 + 1 : Nat) : Int) = ((p : Int) + 1 + 1 + 1) by omega], by rw [HL.out]; omega, rfl⟩
    ·have hBxw4 : B ≤ xw4.heap.size := Nat.le_trans hB AMxw4.out.bel.size
     obtain ⟨v5, hv5⟩ := there (c := kd 1) rfl (Hbkw4.out.symm)
     obtain ⟨ad', had, _, _, _, j3⟩ := (H.out.below hB AMxw4.out.bel).at_ hv5
     cases had
     have TXv5 := Lib.hid (H.out.tx v5 (List.mem_of_getElem? hv5))
     have Lv5 := (List.getElem?_eq_some_iff.1 hv5).1
     rw [HL.out] at Lv5
     have HE := Lib.hid (show armR va ((toks vs).drop (p + 1)) = .ok (⟨va, v1.t.t.text, [], v5.t.t.text⟩, (toks vs).drop (p + 1 + 1 + 1 + 1)) by rw [HMxw4.out, want_yes hv5 Hbkw4.out.symm])
     have s1 : (convert 41 9 (.slice v5.A v5.t.t.text.length v5.c)).run Tryz.prog xw4 = .ok (.string (str v5.t.t.text)) xw4 := (Bs.bp (((TXv5.out.below hB AMxw4.out.bel)).bs hBxw4)).string v5.c Tryz.underlying41 Tryz.underlying5 Tryz.underlying9
     have f3' := AMxw4.out.x.free 3
     have AMe := Lib.hid (AMxw4.out.go (str v5.t.t.text))
     have k0 := AMxw4.out.x.cell 0
     have k1 := AMxw4.out.x.cell 1
     have k2 := AMxw4.out.x.cell 2
     have k3 := AMxw4.out.x.cell 3
     have r0 := AMxw4.out.res.cell 0
     have r1 := AMxw4.out.res.cell 1
     have r2 := AMxw4.out.res.cell 2
     have r3 := AMxw4.out.res.cell 3
     have l0 := AMxw4.out.res.free 0
     have l1 := AMxw4.out.res.free 1
     have l2 := AMxw4.out.res.free 2
     have l3 := AMxw4.out.res.free 3
     have HC3 := Lib.hid AMe.out.out.1
     have HB3 := Lib.hid AMe.out.out.2
     unfold fw4 at HC3 HB3
     go_wp2_with fail
     refine bodyPost_ret (v := .tuple #[.agg #[.int .i64 (va : Int), .slice v1.A v1.t.t.text.length v1.c, .string ⟨#[]⟩, .string (str v5.t.t.text)], .int .i64 ((p : Int) + 1 + 1 + 1 + 1), .bool true]) (results_at3 4 70 5 6 Tryz.results101 ⟨w.heap.size, 0, none⟩ rfl _ _ _ rfl rfl (load_arm HC3.out)) rfl ?_
     refine ⟨HB3.out, ?_⟩
     rw [HE.out]
     exact ⟨v1.A, v1.c, p + 1 + 1 + 1 + 1, by rw [show ((p + 1 + 1 + 1 + 1 : Nat) : Int) = ((p : Int) + 1 + 1 + 1 + 1) by omega] <;> rfl, by rw [HL.out]; omega, TXv1.out, rfl⟩
  ·obtain ⟨vs2, hvs2⟩ := there (c := wd wAs) rfl (Hb2.out.symm)
   have Lvs2 := (List.getElem?_eq_some_iff.1 hvs2).1
   rw [HL.out] at Lvs2
   have HM2 := Lib.hid (show armR va ((toks vs).drop (p + 1)) = want (kd 1) (fun u => armGo va v1.t.t.text u.t.text) ((toks vs).drop (p + 1 + 1 + 1)) by rw [HM1.out]; exact may_yes hvs2 Hb2.out.symm)
   have hBw4 : B ≤ w4.heap.size := Nat.le_trans hB AMw4.out.bel.size
   obtain ⟨b3, hb3⟩ : ∃ b3, b3 = kd 1 ((toks vs).drop (p + 1 + 1 + 1)) := ⟨_, rfl⟩
   have con := kind_ w4 B (some ad) n c vs (H.out.below hB AMw4.out.bel) HL.out (by omega) (p + 1 + 1 + 1) (by omega) 1
   rw [show ((p + 1 + 1 + 1 : Nat) : Int) = ((p : Int) + 1 + 1 + 1) by omega, ← hb3] at con
   have Hb3 := Lib.hid hb3
   clear hb3
   go_wp2_with fail
   refine con.mono ?_
   rintro e w' ⟨rfl, rfl⟩
   clear con
   cases b3
   ·have HE := Lib.hid (show armR va ((toks vs).drop (p + 1)) = .error ((toks vs).drop (p + 1 + 1 + 1)) by rw [HM2.out]; exact want_no Hb3.out.symm)
    have k0 := AMw4.out.x.cell 0
    have k1 := AMw4.out.x.cell 1
    have k2 := AMw4.out.x.cell 2
    have k3 := AMw4.out.x.cell 3
    have r0 := AMw4.out.res.cell 0
    have r1 := AMw4.out.res.cell 1
    have r2 := AMw4.out.res.cell 2
    have r3 := AMw4.out.res.cell 3
    have l0 := AMw4.out.res.free 0
    have l1 := AMw4.out.res.free 1
    have l2 := AMw4.out.res.free 2
    have l3 := AMw4.out.res.free 3
    have HC3 := Lib.hid AMw4.out.out.1
    have HB3 := Lib.hid AMw4.out.out.2
    unfold fw4 at HC3 HB3
    go_wp2_with fail
    refine bodyPost_ret (v := .tuple #[.agg #[.int .i64 (va : Int), .slice v1.A v1.t.t.text.length v1.c, .string ⟨#[]⟩, .string ⟨#[]⟩], .int .i64 ((p : Int) + 1 + 1 + 1), .bool false]) (results_at3 4 70 5 6 Tryz.results101 ⟨w.heap.size, 0, none⟩ rfl _ _ _ rfl rfl (load_arm HC3.out)) rfl ?_
    refine ⟨HB3.out, ?_⟩
    rw [HE.out]
    exact ⟨_, _, _, _, _, _, p + 1 + 1 + 1, by rw [show ((p + 1 + 1 + 1 : Nat) : Int) = ((p : Int) + 1 + 1 + 1) by omega], by rw [HL.out]; omega, rfl⟩
   ·obtain ⟨v3, hv3⟩ := there (c := kd 1) rfl (Hb3.out.symm)
    obtain ⟨ad', had, _, _, _, j3⟩ := (H.out.below hB AMw4.out.bel).at_ hv3
    cases had
    have TXv3 := Lib.hid (H.out.tx v3 (List.mem_of_getElem? hv3))
    have Lv3 := (List.getElem?_eq_some_iff.1 hv3).1
    rw [HL.out] at Lv3
    have s1 : (convert 41 9 (.slice v3.A v3.t.t.text.length v3.c)).run Tryz.prog w4 = .ok (.string (str v3.t.t.text)) w4 := (Bs.bp (((TXv3.out.below hB AMw4.out.bel)).bs hBw4)).string v3.c Tryz.underlying41 Tryz.underlying5 Tryz.underlying9
    have k2' := AMw4.out.x.cell 2
    have f2' := AMw4.out.x.free 2
    obtain ⟨w5, hw5⟩ : ∃ w5, w5 = w4.setCell ⟨w.heap.size + 1, 2, none⟩ (.string (str v3.t.t.text)) := ⟨_, rfl⟩
    have AMw5 := Lib.hid (show Am w w5 va v1.A v1.t.t.text.length v1.c (str v3.t.t.text) ⟨#[]⟩ by rw [hw5]; exact AMw4.out.as_ _)
    have HMw5 := Lib.hid (show armR va ((toks vs).drop (p + 1)) = armGo va v1.t.t.text v3.t.t.text ((toks vs).drop (p + 1 + 1 + 1 + 1)) by rw [HM2.out]; exact want_yes hv3 Hb3.out.symm)
    have hBw5 : B ≤ w5.heap.size := Nat.le_trans hB AMw5.out.bel.size
    obtain ⟨bgw5, hbgw5⟩ : ∃ bgw5, bgw5 = wd wGo ((toks vs).drop (p + 1 + 1 + 1 + 1)) := ⟨_, rfl⟩
    have con := is_ w5 B (some ad) n c vs (H.out.below hB AMw5.out.bel) hBw5 HL.out (by omega) (p + 1 + 1 + 1 + 1) (by omega) wGo
    rw [show ((p + 1 + 1 + 1 + 1 : Nat) : Int) = ((p : Int) + 1 + 1 + 1 + 1) by omega, ← hbgw5] at con
    have Hbgw5 := Lib.hid hbgw5
    clear hbgw5
    rw [show str wGo = ByteArray.mk #[103, 111] from rfl] at con
    go_wp2_with fail
    rw [← hw5]
    clear hw5 s1 k2' f2' j3
    refine con.mono ?_
    rintro e xw5 ⟨rfl, hbw5⟩
    clear con
    have AMxw5 := Lib.hid (AMw5.out.below hbw5)
    clear hbw5
    cases bgw5
    ·have HE := Lib.hid (show armR va ((toks vs).drop (p + 1)) = .error ((toks vs).drop (p + 1 + 1 + 1 + 1)) by rw [HMw5.out]; exact want_no Hbgw5.out.symm)
     have k0 := AMxw5.out.x.cell 0
     have k1 := AMxw5.out.x.cell 1
     have k2 := AMxw5.out.x.cell 2
     have k3 := AMxw5.out.x.cell 3
     have r0 := AMxw5.out.res.cell 0
     have r1 := AMxw5.out.res.cell 1
     have r2 := AMxw5.out.res.cell 2
     have r3 := AMxw5.out.res.cell 3
     have l0 := AMxw5.out.res.free 0
     have l1 := AMxw5.out.res.free 1
     have l2 := AMxw5.out.res.free 2
     have l3 := AMxw5.out.res.free 3
     have HC3 := Lib.hid AMxw5.out.out.1
     have HB3 := Lib.hid AMxw5.out.out.2
     unfold fw4 at HC3 HB3
     go_wp2_with fail
     refine bodyPost_ret (v := .tuple #[.agg #[.int .i64 (va : Int), .slice v1.A v1.t.t.text.length v1.c, .string (str v3.t.t.text), .string ⟨#[]⟩], .int .i64 ((p : Int) + 1 + 1 + 1 + 1), .bool false]) (results_at3 4 70 5 6 Tryz.results101 ⟨w.heap.size, 0, none⟩ rfl _ _ _ rfl rfl (load_arm HC3.out)) rfl ?_
     refine ⟨HB3.out, ?_⟩
     rw [HE.out]
     exact ⟨_, _, _, _, _, _, p + 1 + 1 + 1 + 1, by rw [show ((p + 1 + 1 + 1 + 1 : Nat) : Int) = ((p : Int) + 1 + 1 + 1 + 1) by omega], by rw [HL.out]; omega, rfl⟩
    ·obtain ⟨vg, hvg⟩ := there (c := wd wGo) rfl (Hbgw5.out.symm)
     have Lvg := (List.getElem?_eq_some_iff.1 hvg).1
     rw [HL.out] at Lvg
     have HMxw5 := Lib.hid (show armR va ((toks vs).drop (p + 1)) = want (kd 1) (fun g m => .ok (⟨va, v1.t.t.text, v3.t.t.text, g.t.text⟩, m)) ((toks vs).drop (p + 1 + 1 + 1 + 1 + 1)) by rw [HMw5.out]; unfold armGo; exact want_yes hvg Hbgw5.out.symm)
     obtain ⟨bkw5, hbkw5⟩ : ∃ bkw5, bkw5 = kd 1 ((toks vs).drop (p + 1 + 1 + 1 + 1 + 1)) := ⟨_, rfl⟩
     have con := kind_ xw5 B (some ad) n c vs (H.out.below hB AMxw5.out.bel) HL.out (by omega) (p + 1 + 1 + 1 + 1 + 1) (by omega) 1
     rw [show ((p + 1 + 1 + 1 + 1 + 1 : Nat) : Int) = ((p : Int) + 1 + 1 + 1 + 1 + 1) by omega, ← hbkw5] at con
     have Hbkw5 := Lib.hid hbkw5
     clear hbkw5
     go_wp2_with fail
     refine con.mono ?_
     rintro e w' ⟨rfl, rfl⟩
     clear con
     cases bkw5
     ·have HE := Lib.hid (show armR va ((toks vs).drop (p + 1)) = .error ((toks vs).drop (p + 1 + 1 + 1 + 1 + 1)) by rw [HMxw5.out]; exact want_no Hbkw5.out.symm)
      have k0 := AMxw5.out.x.cell 0
      have k1 := AMxw5.out.x.cell 1
      have k2 := AMxw5.out.x.cell 2
      have k3 := AMxw5.out.x.cell 3
      have r0 := AMxw5.out.res.cell 0
      have r1 := AMxw5.out.res.cell 1
      have r2 := AMxw5.out.res.cell 2
      have r3 := AMxw5.out.res.cell 3
      have l0 := AMxw5.out.res.free 0
      have l1 := AMxw5.out.res.free 1
      have l2 := AMxw5.out.res.free 2
      have l3 := AMxw5.out.res.free 3
      have HC3 := Lib.hid AMxw5.out.out.1
      have HB3 := Lib.hid AMxw5.out.out.2
      unfold fw4 at HC3 HB3
      go_wp2_with fail
      refine bodyPost_ret (v := .tuple #[.agg #[.int .i64 (va : Int), .slice v1.A v1.t.t.text.length v1.c, .string (str v3.t.t.text), .string ⟨#[]⟩], .int .i64 ((p : Int) + 1 + 1 + 1 + 1 + 1), .bool false]) (results_at3 4 70 5 6 Tryz.results101 ⟨w.heap.size, 0, none⟩ rfl _ _ _ rfl rfl (load_arm HC3.out)) rfl ?_
      refine ⟨HB3.out, ?_⟩
      rw [HE.out]
      exact ⟨_, _, _, _, _, _, p + 1 + 1 + 1 + 1 + 1, by rw [show ((p + 1 + 1 + 1 + 1 + 1 : Nat) : Int) = ((p : Int) + 1 + 1 + 1 + 1 + 1) by omega], by rw [HL.out]; omega, rfl⟩
     ·have hBxw5 : B ≤ xw5.heap.size := Nat.le_trans hB AMxw5.out.bel.size
      obtain ⟨v5, hv5⟩ := there (c := kd 1) rfl (Hbkw5.out.symm)
      obtain ⟨ad', had, _, _, _, j3⟩ := (H.out.below hB AMxw5.out.bel).at_ hv5
      cases had
      have TXv5 := Lib.hid (H.out.tx v5 (List.mem_of_getElem? hv5))
      have Lv5 := (List.getElem?_eq_some_iff.1 hv5).1
      rw [HL.out] at Lv5
      have HE := Lib.hid (show armR va ((toks vs).drop (p + 1)) = .ok (⟨va, v1.t.t.text, v3.t.t.text, v5.t.t.text⟩, (toks vs).drop (p + 1 + 1 + 1 + 1 + 1 + 1)) by rw [HMxw5.out, want_yes hv5 Hbkw5.out.symm])
      have s1 : (convert 41 9 (.slice v5.A v5.t.t.text.length v5.c)).run Tryz.prog xw5 = .ok (.string (str v5.t.t.text)) xw5 := (Bs.bp (((TXv5.out.below hB AMxw5.out.bel)).bs hBxw5)).string v5.c Tryz.underlying41 Tryz.underlying5 Tryz.underlying9
      have f3' := AMxw5.out.x.free 3
      have AMe := Lib.hid (AMxw5.out.go (str v5.t.t.text))
      have k0 := AMxw5.out.x.cell 0
      have k1 := AMxw5.out.x.cell 1
      have k2 := AMxw5.out.x.cell 2
      have k3 := AMxw5.out.x.cell 3
      have r0 := AMxw5.out.res.cell 0
      have r1 := AMxw5.out.res.cell 1
      have r2 := AMxw5.out.res.cell 2
      have r3 := AMxw5.out.res.cell 3
      have l0 := AMxw5.out.res.free 0
      have l1 := AMxw5.out.res.free 1
      have l2 := AMxw5.out.res.free 2
      have l3 := AMxw5.out.res.free 3
      have HC3 := Lib.hid AMe.out.out.1
      have HB3 := Lib.hid AMe.out.out.2
      unfold fw4 at HC3 HB3
      go_wp2_with fail
      refine bodyPost_ret (v := .tuple #[.agg #[.int .i64 (va : Int), .slice v1.A v1.t.t.text.length v1.c, .string (str v3.t.t.text), .string (str v5.t.t.text)], .int .i64 ((p : Int) + 1 + 1 + 1 + 1 + 1 + 1), .bool true]) (results_at3 4 70 5 6 Tryz.results101 ⟨w.heap.size, 0, none⟩ rfl _ _ _ rfl rfl (load_arm HC3.out)) rfl ?_
      refine ⟨HB3.out, ?_⟩
      rw [HE.out]
      exact ⟨v1.A, v1.c, p + 1 + 1 + 1 + 1 + 1 + 1, by rw [show ((p + 1 + 1 + 1 + 1 + 1 + 1 : Nat) : Int) = ((p : Int) + 1 + 1 + 1 + 1 + 1 + 1) by omega] <;> rfl, by rw [HL.out]; omega, TXv1.out, rfl⟩
end Go.Proofs.YteohlpmojfjjdaaGreat.Book
