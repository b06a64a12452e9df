/-
The program's check (layer 14): words for what is compiled; an arm that is compiled.
-/
import Derived.Test.YteohlpmojfjjdaaGreatC0
import Derived.Test.YteohlpmojfjjdaaGreatC1
import Derived.Test.YteohlpmojfjjdaaGreatC2
import Derived.Test.YteohlpmojfjjdaaGreatC3
import Derived.Test.YteohlpmojfjjdaaGreatC7
import Derived.Test.YteohlpmojfjjdaaGreatC8
import Derived.Test.YteohlpmojfjjdaaGreatC16
import Derived.Test.YteohlpmojfjjdaaGreatC17
import Derived.Test.YteohlpmojfjjdaaGreatC32
import Derived.Lib.SliceRun
set_option linter.unusedVariables false
set_option linter.unusedSimpArgs false
set_option maxRecDepth 100000
set_option maxHeartbeats 4000000
namespace Go.Proofs.YteohlpmojfjjdaaGreat.Chk
open Go.RowKit Go.Proofs.YteohlpmojfjjdaaGreat.Ord
open Lex (Tx Cr cr_ry)
open Vars (scell Ons)
open Book (Tx.frm)
theorem bytesC : ByteRow Tryz.prog 41 5 := ByteRow.mk' Tryz.underlying41 (by kernel_rfl)
theorem eql_nilC (w : World) (A : Option Addr) (n c : Nat) : (binOp .eql 41 (.slice A n c) (.slice none 0 0)).run Tryz.prog w = .ok (.bool A.isNone) w := Lib.run_eql_slice_nil w 41 5 A n c 0 0 Tryz.underlying41
theorem clone_ (B : Nat) (A : Option Addr) (n c : Nat) (bs : List (BitVec 8)) (w : World) (h : Bs w B A n bs) (hB : B ≤ w.heap.size) (hn : n ≤ 100000) :
  Calls Tryz.prog 68 #[.slice A n c] w fun r w' => ∃ A' c', r = .returned (.slice A' n c') ∧ By w' A' n bs ∧ Below w.heap.size w w' := by
 have q := eql_nilC w A n c
 have H := Lib.hid h
 cases A with
 | none =>
  have hn0 : n = 0 := by
   rcases Nat.eq_zero_or_pos n with h0 | h0
   ·exact h0
   ·obtain ⟨ad, h', _⟩ := h.2 h0; cases h'
  subst hn0
  clear h
  go_enter Tryz.func68, Tryz.ntmps68
  go_wp2_with fail
  go_ret
  exact ⟨none, 0, rfl, ⟨H.out.1, fun h => absurd h (by omega)⟩, Below.refl _ _⟩
 | some a =>
  clear h
  go_enter Tryz.func68, Tryz.ntmps68
  go_wp2_with ((at_builtin; refine wpList_append_new _ rfl _ _ 41 rfl 5 bytesC rfl B (some a) n c bs rfl H.out hB (by omega) ?_; intro A' c' w' ho hb'))
  go_ret
  exact ⟨A', c', rfl, By.of_own ho, hb'⟩
theorem load_arm {w : World} {g : Nat} {x0 x1 x2 : Value} (h : Cel w g 54 [x0, x1, x2]) : (loadVar 54 ⟨g, 0, none⟩).run Tryz.prog w = .ok (.agg #[x0, x1, x2]) w :=
 run_loadVar_mid (P := Tryz.prog) w g 0 54 [x0, x1, x2] _ (fun j v hv => by rw [Nat.zero_add, h.cell j, hv]) Tryz.underlying54 rfl (by kernel_rfl)
theorem load_cstep {w : World} {g : Nat} {x0 x1 x2 x3 x4 x5 x6 : Value} (h : Cel w g 49 [x0, x1, x2, x3, x4, x5, x6]) : (loadVar 49 ⟨g, 0, none⟩).run Tryz.prog w = .ok (.agg #[x0, x1, x2, x3, x4, x5, x6]) w :=
 run_loadVar_mid (P := Tryz.prog) w g 0 49 [x0, x1, x2, x3, x4, x5, x6] _ (fun j v hv => by rw [Nat.zero_add, h.cell j, hv]) Tryz.underlying49 rfl (by kernel_rfl)
def fw7 (w : World) (g : Nat) (a b c d e f k : Value) : World := ((((((w.setCell ⟨g, 0, none⟩ a).setCell ⟨g, 1, none⟩ b).setCell ⟨g, 2, none⟩ c).setCell ⟨g, 3, none⟩ d).setCell ⟨g, 4, none⟩ e).setCell ⟨g, 5, none⟩ f).setCell ⟨g, 6, none⟩ k
theorem fw7_cel {w : World} {g : Nat} {t : TypeId} {x0 x1 x2 x3 x4 x5 x6 a b c d e f k : Value} (h : Cel w g t [x0, x1, x2, x3, x4, x5, x6]) : Cel (fw7 w g a b c d e f k) g t [a, b, c, d, e, f, k] := ((((((h.set 0 a).set 1 b).set 2 c).set 3 d).set 4 e).set 5 f).set 6 k
theorem fw7_frm (w : World) (g : Nat) (a b c d e f k : Value) : Frm [g] w (fw7 w g a b c d e f k) := (((((((Frm.refl [g] w).set (p := ⟨g, 0, none⟩) (by simp) a).set (p := ⟨g, 1, none⟩) (by simp) b).set (p := ⟨g, 2, none⟩) (by simp) c).set (p := ⟨g, 3, none⟩) (by simp) d).set (p := ⟨g, 4, none⟩) (by simp) e).set (p := ⟨g, 5, none⟩) (by simp) f).set (p := ⟨g, 6, none⟩) (by simp) k
def CaSays (w : World) (T : Nat) (x : CArm) (e : Ending) (w' : World) : Prop := ∃ ca : Ca, ca.c = x ∧ e = .returned (.agg #[.slice ca.A x.pat.length ca.k, .int .i64 x.var, .int .i64 x.to]) ∧ Tx w' T ca.A x.pat ∧ Below w.heap.size w w'
def CsSays (w : World) (T : Nat) (x : CStep) (e : Ending) (w' : World) : Prop := ∃ cs : Cs, cs.s = x ∧ e = .returned (.agg #[.string (str x.name), .int .i64 x.tag, .slice cs.A2 x.send.length cs.k2, .slice cs.A3 x.arms.length cs.k3, .int .i64 x.time, .int .i64 x.try_, .int .i64 x.els]) ∧ CParts w' T cs ∧ Below w.heap.size w w'
def stepCells7 (v : Gs) (els : Int) (A2 : Option Addr) (k2 : Nat) (A3 : Option Addr) (m k3 : Nat) : List Value := [.string (str v.g.name), .int .i64 v.g.tag, .slice A2 v.g.send.length k2, .slice A3 m k3, .int .i64 v.g.time, .int .i64 v.g.try_, .int .i64 els]
def zero7 : List Value := [.string ⟨#[]⟩, .int .i64 0, .slice none 0 0, .slice none 0 0, .int .i64 0, .int .i64 0, .int .i64 0]
structure Pi (W0 W : World) (T g : Nat) (v : Gs) (els : Int) (A2 : Option Addr) (k2 : Nat) (A3 : Option Addr) (k3 : Nat) (cas : List Ca) : Prop where
 sc : Cel W W0.heap.size 52 v.cells
 rc : Cel W (W0.heap.size + 1) 49 zero7
 xc : Cel W g 49 (stepCells7 v els A2 k2 A3 cas.length k3)
 gg : W0.heap.size + 1 < g
 bel : Below W0.heap.size W0 W
 own : W.ownsRow W0.heap.size 54 3 (.slice A3 cas.length k3) cas.length (caflat cas)
 snd : Tx W T A2 v.g.send
 tx : ∀ u ∈ cas, Tx W T u.A u.c.pat
section
variable {W0 W W' : World} {T g : Nat} {v : Gs} {els : Int} {A2 : Option Addr} {k2 : Nat} {A3 : Option Addr} {k3 : Nat} {cas : List Ca}
theorem Pi.below (h : Pi W0 W T g v els A2 k2 A3 k3 cas) (hT : T ≤ W0.heap.size) (hb : Below W.heap.size W W') : Pi W0 W' T g v els A2 k2 A3 k3 cas :=
 ⟨(hb.block _ h.sc.lt).trans h.sc, (hb.block _ h.rc.lt).trans h.rc, (hb.block _ h.xc.lt).trans h.xc, h.gg, h.bel.trans (hb.mono h.bel.size), own_frm (l := []) h.own (Frm.of_below hb) (by simp), h.snd.below (Nat.le_trans hT h.bel.size) hb, fun u hu => (h.tx u hu).below (Nat.le_trans hT h.bel.size) hb⟩
theorem Pi.arm {A' : Option Addr} {c' : Nat} {a : Ca} (h : Pi W0 W T g v els A2 k2 A3 k3 cas) (hT : T ≤ W0.heap.size) (ha : Tx W T a.A a.c.pat) (hg : W.grownBy W' (Value.slice A3 cas.length k3).ownBlock) (ho : W'.ownsRow W0.heap.size 54 3 (.slice A' (cas.length + 1) c') (cas.length + 1) (caflat cas ++ a.cells)) :
  Cel W' g 49 (stepCells7 v els A2 k2 A3 cas.length k3) ∧ Pi W0 (W'.setCell ⟨g, 3, none⟩ (.slice A' (cas.length + 1) c')) T g v els A2 k2 A' c' (cas ++ [a]) := by
 have hf1 : Frm (Value.slice A3 cas.length k3).ownBlock.toList W W' := (Frm.refl _ _).grown hg (fun k e _ => by rw [e]; simp)
 have hf2 : Frm [g] W' (W'.setCell ⟨g, 3, none⟩ (.slice A' (cas.length + 1) c')) := (Frm.refl _ W').set (by simp) _
 have hs : Cel W' W0.heap.size 52 v.cells := Cel.grown h.sc hg (own_ty_ne h.own h.sc (by decide))
 have hr : Cel W' (W0.heap.size + 1) 49 zero7 := Cel.grown h.rc hg (own_ty_ne h.own h.rc (by decide))
 have hx : Cel W' g 49 (stepCells7 v els A2 k2 A3 cas.length k3) := Cel.grown h.xc hg (own_ty_ne h.own h.xc (by decide))
 have hb1 : Below W0.heap.size W0 W' := h.bel.trans (hf1.below h.bel.size fun k hk => own_ge h.own k (by simpa using hk))
 have hlen : (cas ++ [a]).length = cas.length + 1 := by simp
 have hl1 : ∀ k ∈ (Value.slice A3 cas.length k3).ownBlock.toList, T ≤ k ∧ ∀ cs fz, W.heap[k]? ≠ some (Obj.cells cs 5 fz) := by
  intro k hk
  have e : (Value.slice A3 cas.length k3).ownBlock = some k := by simpa using hk
  exact ⟨Nat.le_trans hT (own_ge h.own k e), fun cs fz => own_not_ty h.own (by decide) k cs fz e⟩
 have hgg := h.gg
 have hl2 : ∀ k ∈ [g], T ≤ k ∧ ∀ cs fz, W'.heap[k]? ≠ some (Obj.cells cs 5 fz) := by
  intro k hk
  rw [List.mem_singleton.1 hk]
  exact ⟨by omega, Cel.not_ty hx (by decide)⟩
 refine ⟨hx, (hf2.block _ hs.lt (by simp; omega)).trans hs, (hf2.block _ hr.lt (by simp; omega)).trans hr, ?_, hgg, hb1.trans (hf2.below hb1.size (by intro q hq; rw [List.mem_singleton.1 hq]; omega)), ?_, Tx.frm (Tx.frm h.snd hf1 hl1) hf2 hl2, fun u hu => ?_⟩
 ·have := hx.set 3 (.slice A' (cas.length + 1) c')
  rw [hlen]
  exact this
 ·rw [hlen, caflat_app]
  exact own_frm (show W'.ownsRow W0.heap.size 54 3 (.slice A' (cas.length + 1) c') (cas.length + 1) (caflat cas ++ caflat [a]) by rw [show caflat [a] = a.cells by simp [caflat]]; exact ho) hf2 fun k hk => by rw [List.mem_singleton.1 hk]; exact own_ty_ne ho hx (by decide)
 ·rcases List.mem_append.1 hu with hu | hu
  ·exact Tx.frm (Tx.frm (h.tx u hu) hf1 hl1) hf2 hl2
  ·rw [List.mem_singleton.1 hu]; exact Tx.frm (Tx.frm ha hf1 hl1) hf2 hl2
end
def zero3 : List Value := [.slice none 0 0, .slice none 0 0, .int .i64 0]
structure Po (w W : World) (g T : Nat) (bm : Int) (A : Option Addr) (n c : Nat) (ns : List (List B)) (Av : Option Addr) (cv : Nat) (As : Option Addr) (cs : Nat) (out : List Cs) : Prop where
 bc : Cel W w.heap.size 24 [.int .i64 bm, .slice A n c]
 rc : Cel W (w.heap.size + 1) 30 zero3
 oc : Cel W g 30 [.slice As out.length cs, .slice Av ns.length cv, .int .i64 bm]
 gg : w.heap.size + 1 < g
 bel : Below w.heap.size w W
 own : W.ownsRow w.heap.size 49 7 (.slice As out.length cs) out.length (csflat out)
 parts : ∀ v ∈ out, CParts W T v
 nms : Ry 9 W Av (ns.map scell)
section
variable {w W W' : World} {g T : Nat} {bm : Int} {A : Option Addr} {n c : Nat} {ns : List (List B)} {Av : Option Addr} {cv : Nat} {As : Option Addr} {cs : Nat} {out : List Cs}
theorem Po.below (h : Po w W g T bm A n c ns Av cv As cs out) (hT : T ≤ w.heap.size) (hb : Below W.heap.size W W') : Po w W' g T bm A n c ns Av cv As cs out :=
 ⟨(hb.block _ h.bc.lt).trans h.bc, (hb.block _ h.rc.lt).trans h.rc, (hb.block _ h.oc.lt).trans h.oc, h.gg, h.bel.trans (hb.mono h.bel.size), own_frm (l := []) h.own (Frm.of_below hb) (by simp), fun v hv => (h.parts v hv).below (Nat.le_trans hT h.bel.size) hb, h.nms.below hb⟩
theorem Po.step {A' : Option Addr} {c' : Nat} {v : Cs} (h : Po w W g T bm A n c ns Av cv As cs out) (hT : T ≤ w.heap.size) (hv : CParts W T v) (hg : W.grownBy W' (Value.slice As out.length cs).ownBlock) (ho : W'.ownsRow w.heap.size 49 7 (.slice A' (out.length + 1) c') (out.length + 1) (csflat out ++ v.cells)) :
  Cel W' g 30 [.slice As out.length cs, .slice Av ns.length cv, .int .i64 bm] ∧ Po w (W'.setCell ⟨g, 0, none⟩ (.slice A' (out.length + 1) c')) g T bm A n c ns Av cv A' c' (out ++ [v]) := by
 have hf1 : Frm (Value.slice As out.length cs).ownBlock.toList W W' := (Frm.refl _ _).grown hg (fun k e _ => by rw [e]; simp)
 have hf2 : Frm [g] W' (W'.setCell ⟨g, 0, none⟩ (.slice A' (out.length + 1) c')) := (Frm.refl _ W').set (by simp) _
 have hb : Cel W' w.heap.size 24 [.int .i64 bm, .slice A n c] := Cel.grown h.bc hg (own_ty_ne h.own h.bc (by decide))
 have hr : Cel W' (w.heap.size + 1) 30 zero3 := Cel.grown h.rc hg (own_ty_ne h.own h.rc (by decide))
 have hc : Cel W' g 30 [.slice As out.length cs, .slice Av ns.length cv, .int .i64 bm] := Cel.grown h.oc hg (own_ty_ne h.own h.oc (by decide))
 have hb1 : Below w.heap.size w W' := h.bel.trans (hf1.below h.bel.size fun k hk => own_ge h.own k (by simpa using hk))
 have hlen : (out ++ [v]).length = out.length + 1 := by simp
 have hl1 : ∀ k ∈ (Value.slice As out.length cs).ownBlock.toList, T ≤ k ∧ (∀ cs fz, W.heap[k]? ≠ some (Obj.cells cs 5 fz)) ∧ ∀ cs fz, W.heap[k]? ≠ some (Obj.cells cs 54 fz) := by
  intro k hk
  have e : (Value.slice As out.length cs).ownBlock = some k := by simpa using hk
  exact ⟨Nat.le_trans hT (own_ge h.own k e), fun cs fz => own_not_ty h.own (by decide) k cs fz e, fun cs fz => own_not_ty h.own (by decide) k cs fz e⟩
 have hgg := h.gg
 have hl2 : ∀ k ∈ [g], T ≤ k ∧ (∀ cs fz, W'.heap[k]? ≠ some (Obj.cells cs 5 fz)) ∧ ∀ cs fz, W'.heap[k]? ≠ some (Obj.cells cs 54 fz) := by
  intro k hk
  rw [List.mem_singleton.1 hk]
  exact ⟨by omega, Cel.not_ty hc (by decide), Cel.not_ty hc (by decide)⟩
 refine ⟨hc, (hf2.block _ hb.lt (by simp; omega)).trans hb, (hf2.block _ hr.lt (by simp; omega)).trans hr, ?_, hgg, hb1.trans (hf2.below hb1.size (by intro q hq; rw [List.mem_singleton.1 hq]; omega)), ?_, fun u hu => ?_, ?_⟩
 ·have := hc.set 0 (.slice A' (out.length + 1) c')
  rw [hlen]
  exact this
 ·rw [hlen, csflat_app]
  exact own_frm (show W'.ownsRow w.heap.size 49 7 (.slice A' (out.length + 1) c') (out.length + 1) (csflat out ++ csflat [v]) by rw [show csflat [v] = v.cells by simp [csflat]]; exact ho) hf2 fun k hk => by rw [List.mem_singleton.1 hk]; exact own_ty_ne ho hc (by decide)
 ·rcases List.mem_append.1 hu with hu | hu
  ·exact ((h.parts u hu).frm hf1 hl1).frm hf2 hl2
  ·rw [List.mem_singleton.1 hu]; exact (hv.frm hf1 hl1).frm hf2 hl2
 ·refine (h.nms.grown hg fun k o fz e => own_not_ty h.own (by decide) k o fz e).frm hf2 fun k hk => ?_
  rw [List.mem_singleton.1 hk]; exact Cel.not_ty hc (by decide)
end
end Go.Proofs.YteohlpmojfjjdaaGreat.Chk
