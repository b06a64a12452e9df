/-
Texts: ChkOut OrdersTwo ChkCompW
-/
import Derived.Test.YteohlpmojfjjdaaGreatR1
import Derived.Test.YteohlpmojfjjdaaGreatR2
import Derived.Test.YteohlpmojfjjdaaGreatR4
import Derived.Test.YteohlpmojfjjdaaGreatR7
import Derived.Test.YteohlpmojfjjdaaGreatR8
import Derived.Test.YteohlpmojfjjdaaGreatR14
import Derived.Test.YteohlpmojfjjdaaGreatR20
set_option linter.unusedVariables false
set_option linter.unusedSimpArgs false
section
namespace Go.Proofs.YteohlpmojfjjdaaGreat.Chk
open Go.RowKit
open Lex (Tx Cr cr_ry)
open Book (Tx.frm)
open Vars (scell)
structure Ca where
 c : CArm
 A : Option Addr
 k : Nat
def Ca.cells (v : Ca) : List Value := [.slice v.A v.c.pat.length v.k, .int .i64 v.c.var, .int .i64 v.c.to]
def caflat (vs : List Ca) : List Value := vs.flatMap Ca.cells
structure Cs where
 s : CStep
 A2 : Option Addr
 k2 : Nat
 A3 : Option Addr
 k3 : Nat
 cas : List Ca
def Cs.cells (v : Cs) : List Value := [.string (str v.s.name), .int .i64 v.s.tag, .slice v.A2 v.s.send.length v.k2, .slice v.A3 v.s.arms.length v.k3, .int .i64 v.s.time, .int .i64 v.s.try_, .int .i64 v.s.els]
def csflat (vs : List Cs) : List Value := vs.flatMap Cs.cells
theorem caflat_app (us vs : List Ca) : caflat (us ++ vs) = caflat us ++ caflat vs := by simp [caflat]
theorem csflat_app (us vs : List Cs) : csflat (us ++ vs) = csflat us ++ csflat vs := by simp [csflat]
theorem infoCa : (Tryz.prog.info? 54).map (fun i => (i.zero, i.size, i.bytes)) = some (some (.agg #[.slice none 0 0, .int .i64 0, .int .i64 0]), 3, 40) := by kernel_rfl
theorem rowCa : ElemRow Tryz.prog 47 54 3 40 := ElemRow.mk' Tryz.underlying47 infoCa rfl (by decide)
theorem infoCs : (Tryz.prog.info? 49).map (fun i => (i.zero, i.size, i.bytes)) = some (some (.agg #[.string ⟨#[]⟩, .int .i64 0, .slice none 0 0, .slice none 0 0, .int .i64 0, .int .i64 0, .int .i64 0]), 7, 96) := by kernel_rfl
theorem rowCs : ElemRow Tryz.prog 27 49 7 96 := ElemRow.mk' Tryz.underlying27 infoCs rfl (by decide)
def CParts (w : World) (T : Nat) (v : Cs) : Prop := Tx w T v.A2 v.s.send ∧ Ry 54 w v.A3 (caflat v.cas) ∧ v.cas.map (·.c) = v.s.arms ∧ ∀ u ∈ v.cas, Tx w T u.A u.c.pat
theorem CParts.below {w w' : World} {T : Nat} {v : Cs} (h : CParts w T v) (hT : T ≤ w.heap.size) (hb : Below w.heap.size w w') : CParts w' T v :=
 ⟨h.1.below hT hb, h.2.1.below hb, h.2.2.1, fun u hu => (h.2.2.2 u hu).below hT hb⟩
theorem CParts.frm {w w' : World} {T : Nat} {v : Cs} {l : List Nat} (h : CParts w T v) (hf : Frm l w w') (hl : ∀ k ∈ l, T ≤ k ∧ (∀ cs fz, w.heap[k]? ≠ some (Obj.cells cs 5 fz)) ∧ ∀ cs fz, w.heap[k]? ≠ some (Obj.cells cs 54 fz)) : CParts w' T v :=
 ⟨Tx.frm h.1 hf fun k hk => ⟨(hl k hk).1, (hl k hk).2.1⟩, h.2.1.frm hf fun k hk => (hl k hk).2.2, h.2.2.1, fun u hu => Tx.frm (h.2.2.2 u hu) hf fun k hk => ⟨(hl k hk).1, (hl k hk).2.1⟩⟩
structure Cbk (w : World) (T : Nat) (A : Option Addr) (vs : List Cs) : Prop where
 ry : Ry 49 w A (csflat vs)
 parts : ∀ v ∈ vs, CParts w T v
theorem Cbk.below {w w' : World} {T : Nat} {A : Option Addr} {vs : List Cs} (h : Cbk w T A vs) (hT : T ≤ w.heap.size) (hb : Below w.heap.size w w') : Cbk w' T A vs := ⟨h.ry.below hb, fun v hv => (h.parts v hv).below hT hb⟩
def CmSays (w : World) (T : Nat) (r : Except (Int × Int) CBook) (e : Ending) (w' : World) : Prop := Below w.heap.size w w' ∧ match r with
 | .error (bad, p) => bad ≠ 0 ∧ e = .returned (.tuple #[.agg #[.slice none 0 0, .slice none 0 0, .int .i64 0], .int .i64 p, .int .i64 bad])
 | .ok b => ∃ A k A1 k1 vs, e = .returned (.tuple #[.agg #[.slice A b.steps.length k, .slice A1 b.vars.length k1, .int .i64 b.most], .int .i64 0, .int .i64 0]) ∧ Cbk w' T A vs ∧ vs.map (·.s) = b.steps ∧ Ry 9 w' A1 (b.vars.map scell)
end Go.Proofs.YteohlpmojfjjdaaGreat.Chk
end
section
namespace Go.Proofs.YteohlpmojfjjdaaGreat.Ord
open Go.RowKit
section
variable {P : Program} {ops : Array Oper} {Q : Exit → Act → World → Prop} {md : Region.Mode} {S : World → Prop} {N : List Nat}
theorem wpAnyN_two {i j : Nat} {oi oj : Oper} {fuel : Nat} {listed : Array Bool} {a : Act} {w : World} (hr : Region.ready md ops listed = [i, j]) (hi : ops[i]? = some oi) (hj : ops[j]? = some oj)
  (h1 : ∀ K' : Act → World → Prop, Shut (∀ a w, (i ∈ N ∨ S w) → wpAnyN P md ops Q S N fuel (listed.setIfInBounds i true) a w → K' a w) → if Region.wanted oi (yielded ops a.tmps) = true then Oper.wp P oi a w K' Q else K' (a.put oi.dst undef) w)
  (h2 : ∀ K' : Act → World → Prop, Shut (∀ a w, (j ∈ N ∨ S w) → wpAnyN P md ops Q S N fuel (listed.setIfInBounds j true) a w → K' a w) → if Region.wanted oj (yielded ops a.tmps) = true then Oper.wp P oj a w K' Q else K' (a.put oj.dst undef) w) :
  wpAnyN P md ops Q S N (fuel + 1) listed a w :=
 ⟨fun h0 => (by rw [hr] at h0; cases h0), fun k hk => by
  rw [hr] at hk
  simp only [List.mem_cons, List.not_mem_nil, or_false] at hk
  rcases hk with rfl | rfl
  ·exact wpOp_step hi (fun K' hK => h1 K' (fun a w hS hW => hK a w ⟨fun hn => hS.resolve_left hn, hW⟩))
  ·exact wpOp_step hj (fun K' hK => h2 K' (fun a w hS hW => hK a w ⟨fun hn => hS.resolve_left hn, hW⟩))⟩
end
end Go.Proofs.YteohlpmojfjjdaaGreat.Ord
end
section
namespace Go.Proofs.YteohlpmojfjjdaaGreat.Chk
open Go.RowKit
open Lex (Tx Cr cr_ry)
open Vars (scell)
open Book (Tx.frm)
structure Co (w W : World) (g T : Nat) (bm : Int) (A : Option Addr) (n c : Nat) (ns : List (List B)) (Av : Option Addr) (cv : Nat) (As : Option Addr) (cs : Nat) (out : List Cs) : Prop where
 bc : Cel W w.heap.size 38 [.int .i64 bm, .slice A n c]
 rc : Cel W (w.heap.size + 1) 30 [.slice none 0 0, .slice none 0 0, .int .i64 0]
 oc : Cel W g 30 [.slice As out.length cs, .slice Av ns.length cv, .int .i64 bm]
 gg : w.heap.size + 1 < g
 bel : Below w.heap.size w W
 own : W.ownsRow w.heap.size 49 7 (.slice As out.length cs) out.length (csflat out)
 parts : ∀ v ∈ out, CParts W T v
 nms : Ry 9 W Av (ns.map scell)
section
variable {w W W' : World} {g T : Nat} {bm : Int} {A : Option Addr} {n c : Nat} {ns : List (List B)} {Av : Option Addr} {cv : Nat} {As : Option Addr} {cs : Nat} {out : List Cs}
theorem Co.below (h : Co w W g T bm A n c ns Av cv As cs out) (hT : T ≤ w.heap.size) (hb : Below W.heap.size W W') : Co w W' g T bm A n c ns Av cv As cs out :=
 ⟨(hb.block _ h.bc.lt).trans h.bc, (hb.block _ h.rc.lt).trans h.rc, (hb.block _ h.oc.lt).trans h.oc, h.gg, h.bel.trans (hb.mono h.bel.size), own_frm (l := []) h.own (Frm.of_below hb) (by simp), fun v hv => (h.parts v hv).below (Nat.le_trans hT h.bel.size) hb, h.nms.below hb⟩
theorem Co.step {A' : Option Addr} {c' : Nat} {v : Cs} (h : Co w W g T bm A n c ns Av cv As cs out) (hT : T ≤ w.heap.size) (hv : CParts W T v) (hg : W.grownBy W' (Value.slice As out.length cs).ownBlock) (ho : W'.ownsRow w.heap.size 49 7 (.slice A' (out.length + 1) c') (out.length + 1) (csflat out ++ v.cells)) :
  Cel W' g 30 [.slice As out.length cs, .slice Av ns.length cv, .int .i64 bm] ∧ Co w (W'.setCell ⟨g, 0, none⟩ (.slice A' (out.length + 1) c')) g T bm A n c ns Av cv A' c' (out ++ [v]) := by
 have hf1 : Frm (Value.slice As out.length cs).ownBlock.toList W W' := (Frm.refl _ _).grown hg (fun k e _ => by rw [e]; simp)
 have hf2 : Frm [g] W' (W'.setCell ⟨g, 0, none⟩ (.slice A' (out.length + 1) c')) := (Frm.refl _ W').set (by simp) _
 have hb : Cel W' w.heap.size 38 [.int .i64 bm, .slice A n c] := Cel.grown h.bc hg (own_ty_ne h.own h.bc (by decide))
 have hr : Cel W' (w.heap.size + 1) 30 [.slice none 0 0, .slice none 0 0, .int .i64 0] := Cel.grown h.rc hg (own_ty_ne h.own h.rc (by decide))
 have hc : Cel W' g 30 [.slice As out.length cs, .slice Av ns.length cv, .int .i64 bm] := Cel.grown h.oc hg (own_ty_ne h.own h.oc (by decide))
 have hb1 : Below w.heap.size w W' := h.bel.trans (hf1.below h.bel.size fun k hk => own_ge h.own k (by simpa using hk))
 have hlen : (out ++ [v]).length = out.length + 1 := by simp
 have hl1 : ∀ k ∈ (Value.slice As out.length cs).ownBlock.toList, T ≤ k ∧ (∀ cs fz, W.heap[k]? ≠ some (Obj.cells cs 5 fz)) ∧ ∀ cs fz, W.heap[k]? ≠ some (Obj.cells cs 54 fz) := by
  intro k hk
  have e : (Value.slice As out.length cs).ownBlock = some k := by simpa using hk
  exact ⟨Nat.le_trans hT (own_ge h.own k e), fun cs fz => own_not_ty h.own (by decide) k cs fz e, fun cs fz => own_not_ty h.own (by decide) k cs fz e⟩
 have hl2 : ∀ k ∈ [g], T ≤ k ∧ (∀ cs fz, W'.heap[k]? ≠ some (Obj.cells cs 5 fz)) ∧ ∀ cs fz, W'.heap[k]? ≠ some (Obj.cells cs 54 fz) := by
  intro k hk
  rw [List.mem_singleton.1 hk]
  exact ⟨by have := h.gg; omega, Cel.not_ty hc (by decide), Cel.not_ty hc (by decide)⟩
 refine ⟨hc, (hf2.block _ hb.lt (by have := h.gg; simp; omega)).trans hb, (hf2.block _ hr.lt (by have := h.gg; simp; omega)).trans hr, ?_, h.gg, hb1.trans (hf2.below hb1.size (by intro q hq; have := h.gg; rw [List.mem_singleton.1 hq]; omega)), ?_, fun u hu => ?_, ?_⟩
 ·have := hc.set 0 (.slice A' (out.length + 1) c')
  rw [hlen]
  exact this
 ·rw [hlen, csflat_app]
  exact own_frm (show W'.ownsRow w.heap.size 49 7 (.slice A' (out.length + 1) c') (out.length + 1) (csflat out ++ csflat [v]) by rw [show csflat [v] = v.cells by simp [csflat]]; exact ho) hf2 fun k hk => by rw [List.mem_singleton.1 hk]; exact own_ty_ne ho hc (by decide)
 ·rcases List.mem_append.1 hu with hu | hu
  ·exact ((h.parts u hu).frm hf1 hl1).frm hf2 hl2
  ·rw [List.mem_singleton.1 hu]; exact (hv.frm hf1 hl1).frm hf2 hl2
 ·refine (h.nms.grown hg fun k o fz e => own_not_ty h.own (by decide) k o fz e).frm hf2 fun k hk => ?_
  rw [List.mem_singleton.1 hk]; exact Cel.not_ty hc (by decide)
end
def xcells (v : Gs) (els : Int) (A3 : Option Addr) (m k3 : Nat) : List Value := [.string (str v.g.name), .int .i64 v.g.tag, .slice v.A4 v.g.send.length v.c4, .slice A3 m k3, .int .i64 v.g.time, .int .i64 v.g.try_, .int .i64 els]
structure Ci (W0 W : World) (T : Nat) (v : Gs) (els : Int) (A3 : Option Addr) (k3 : Nat) (cas : List Ca) : Prop where
 sc : Cel W W0.heap.size 67 v.cells
 xc : Cel W (W0.heap.size + 1) 49 (xcells v els A3 cas.length k3)
 bel : Below W0.heap.size W0 W
 own : W.ownsRow W0.heap.size 54 3 (.slice A3 cas.length k3) cas.length (caflat cas)
 tx : ∀ u ∈ cas, Tx W T u.A u.c.pat
section
variable {W0 W W' : World} {T : Nat} {v : Gs} {els : Int} {A3 : Option Addr} {k3 : Nat} {cas : List Ca}
theorem Ci.below (h : Ci W0 W T v els A3 k3 cas) (hT : T ≤ W0.heap.size) (hb : Below W.heap.size W W') : Ci W0 W' T v els A3 k3 cas :=
 ⟨(hb.block _ h.sc.lt).trans h.sc, (hb.block _ h.xc.lt).trans h.xc, h.bel.trans (hb.mono h.bel.size), own_frm (l := []) h.own (Frm.of_below hb) (by simp), fun u hu => (h.tx u hu).below (Nat.le_trans hT h.bel.size) hb⟩
theorem Ci.arm {A' : Option Addr} {c' : Nat} {a : Ca} (h : Ci W0 W T v els A3 k3 cas) (hT : T ≤ W0.heap.size) (ha : Tx W T a.A a.c.pat) (hg : W.grownBy W' (Value.slice A3 cas.length k3).ownBlock) (ho : W'.ownsRow W0.heap.size 54 3 (.slice A' (cas.length + 1) c') (cas.length + 1) (caflat cas ++ a.cells)) :
  Cel W' (W0.heap.size + 1) 49 (xcells v els A3 cas.length k3) ∧ Ci W0 (W'.setCell ⟨W0.heap.size + 1, 3, none⟩ (.slice A' (cas.length + 1) c')) T v els A' c' (cas ++ [a]) := by
 have hf1 : Frm (Value.slice A3 cas.length k3).ownBlock.toList W W' := (Frm.refl _ _).grown hg (fun k e _ => by rw [e]; simp)
 have hf2 : Frm [W0.heap.size + 1] W' (W'.setCell ⟨W0.heap.size + 1, 3, none⟩ (.slice A' (cas.length + 1) c')) := (Frm.refl _ W').set (by simp) _
 have hs : Cel W' W0.heap.size 67 v.cells := Cel.grown h.sc hg (own_ty_ne h.own h.sc (by decide))
 have hx : Cel W' (W0.heap.size + 1) 49 (xcells v els A3 cas.length k3) := Cel.grown h.xc hg (own_ty_ne h.own h.xc (by decide))
 have hb1 : Below W0.heap.size W0 W' := h.bel.trans (hf1.below h.bel.size fun k hk => own_ge h.own k (by simpa using hk))
 have hlen : (cas ++ [a]).length = cas.length + 1 := by simp
 have hl1 : ∀ k ∈ (Value.slice A3 cas.length k3).ownBlock.toList, T ≤ k ∧ ∀ cs fz, W.heap[k]? ≠ some (Obj.cells cs 5 fz) := by
  intro k hk
  have e : (Value.slice A3 cas.length k3).ownBlock = some k := by simpa using hk
  exact ⟨Nat.le_trans hT (own_ge h.own k e), fun cs fz => own_not_ty h.own (by decide) k cs fz e⟩
 have hl2 : ∀ k ∈ [W0.heap.size + 1], T ≤ k ∧ ∀ cs fz, W'.heap[k]? ≠ some (Obj.cells cs 5 fz) := by
  intro k hk
  rw [List.mem_singleton.1 hk]
  exact ⟨by omega, Cel.not_ty hx (by decide)⟩
 refine ⟨hx, (hf2.block _ hs.lt (by simp)).trans hs, ?_, hb1.trans (hf2.below hb1.size (by intro q hq; rw [List.mem_singleton.1 hq]; omega)), ?_, fun u hu => ?_⟩
 ·have := hx.set 3 (.slice A' (cas.length + 1) c')
  rw [hlen]
  exact this
 ·rw [hlen, caflat_app]
  exact own_frm (show W'.ownsRow W0.heap.size 54 3 (.slice A' (cas.length + 1) c') (cas.length + 1) (caflat cas ++ caflat [a]) by rw [show caflat [a] = a.cells by simp [caflat]]; exact ho) hf2 fun k hk => by rw [List.mem_singleton.1 hk]; exact own_ty_ne ho hx (by decide)
 ·rcases List.mem_append.1 hu with hu | hu
  ·exact Tx.frm (Tx.frm (h.tx u hu) hf1 hl1) hf2 hl2
  ·rw [List.mem_singleton.1 hu]; exact Tx.frm (Tx.frm ha hf1 hl1) hf2 hl2
end
end Go.Proofs.YteohlpmojfjjdaaGreat.Chk
end
