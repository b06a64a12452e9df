/-
Texts: ChkAs ChkWalks
-/
import Derived.Test.YteohlpmojfjjdaaGreatC0
import Derived.Test.YteohlpmojfjjdaaGreatC1
import Derived.Test.YteohlpmojfjjdaaGreatC2
import Derived.Test.YteohlpmojfjjdaaGreatC3
import Derived.Test.YteohlpmojfjjdaaGreatC7
import Derived.Test.YteohlpmojfjjdaaGreatC8
import Derived.Test.YteohlpmojfjjdaaGreatC9
import Derived.Test.YteohlpmojfjjdaaGreatC16
import Derived.Test.YteohlpmojfjjdaaGreatC17
import Derived.Test.YteohlpmojfjjdaaGreatC18
import Derived.Test.YteohlpmojfjjdaaGreatC31
import Derived.Test.YteohlpmojfjjdaaGreatC35
import Derived.Test.YteohlpmojfjjdaaGreatC36
import Derived.Test.YteohlpmojfjjdaaGreatC38
set_option linter.unusedVariables false
set_option linter.unusedSimpArgs false
set_option maxRecDepth 100000
set_option maxHeartbeats 4000000
section
namespace Go.Proofs.YteohlpmojfjjdaaGreat.Chk
open Go.RowKit
open Lex (Tx Cr cr_ry)
open Book (Tx.frm rowArm rowStp load_book)
theorem gaflat_app (us vs : List Ga) : gaflat (us ++ vs) = gaflat us ++ gaflat vs := by simp [gaflat]
theorem gsflat_app (us vs : List Gs) : gsflat (us ++ vs) = gsflat us ++ gsflat vs := by simp [gsflat]
def DParts (w : World) (T : Nat) (v : Gs) : Prop := (Tx w T v.A4 v.g.send ∧ v.g.send.length ≤ v.c4) ∧ Ry 70 w v.A5 (gaflat v.avs) ∧ v.avs.map (·.g) = v.g.arms ∧ ∀ u ∈ v.avs, Tx w T u.A u.g.pat
theorem DParts.below {w w' : World} {T : Nat} {v : Gs} (h : DParts w T v) (hT : T ≤ w.heap.size) (hb : Below w.heap.size w w') : DParts w' T v :=
 ⟨⟨h.1.1.below hT hb, h.1.2⟩, h.2.1.below hb, h.2.2.1, fun u hu => (h.2.2.2 u hu).below hT hb⟩
theorem DParts.frm {w w' : World} {T : Nat} {v : Gs} {l : List Nat} (h : DParts w T v) (hf : Frm l w w') (hl : ∀ k ∈ l, T ≤ k ∧ (∀ cs fz, w.heap[k]? ≠ some (Obj.cells cs 5 fz)) ∧ ∀ cs fz, w.heap[k]? ≠ some (Obj.cells cs 70 fz)) : DParts w' T v :=
 ⟨⟨Tx.frm h.1.1 hf fun k hk => ⟨(hl k hk).1, (hl k hk).2.1⟩, h.1.2⟩, h.2.1.frm hf fun k hk => (hl k hk).2.2, h.2.2.1, fun u hu => Tx.frm (h.2.2.2 u hu) hf fun k hk => ⟨(hl k hk).1, (hl k hk).2.1⟩⟩
structure Do (w W : World) (T : Nat) (bm : Int) (A : Option Addr) (n c : Nat) (As : Option Addr) (cs : Nat) (out : List Gs) : Prop where
 bc : Cel W w.heap.size 24 [.int .i64 bm, .slice A n c]
 rc : Cel W (w.heap.size + 1) 38 [.int .i64 0, .slice none 0 0]
 oc : Cel W (w.heap.size + 2) 38 [.int .i64 bm, .slice As out.length cs]
 bel : Below w.heap.size w W
 own : W.ownsRow w.heap.size 67 9 (.slice As out.length cs) out.length (gsflat out)
 parts : ∀ v ∈ out, DParts W T v
section
variable {w W W' : World} {T : Nat} {bm : Int} {A : Option Addr} {n c : Nat} {As : Option Addr} {cs : Nat} {out : List Gs}
theorem Do.below (h : Do w W T bm A n c As cs out) (hT : T ≤ w.heap.size) (hb : Below W.heap.size W W') : Do w W' T bm A n c As cs out :=
 ⟨(hb.block _ h.bc.lt).trans h.bc, (hb.block _ h.rc.lt).trans h.rc, (hb.block _ h.oc.lt).trans h.oc, h.bel.trans (hb.mono h.bel.size), own_frm (l := []) h.own (Frm.of_below hb) (by simp), fun v hv => (h.parts v hv).below (Nat.le_trans hT h.bel.size) hb⟩
theorem Do.step {A' : Option Addr} {c' : Nat} {v : Gs} (h : Do w W T bm A n c As cs out) (hT : T ≤ w.heap.size) (hv : DParts W T v) (hg : W.grownBy W' (Value.slice As out.length cs).ownBlock) (ho : W'.ownsRow w.heap.size 67 9 (.slice A' (out.length + 1) c') (out.length + 1) (gsflat out ++ v.cells)) :
  Cel W' (w.heap.size + 2) 38 [.int .i64 bm, .slice As out.length cs] ∧ Do w (W'.setCell ⟨w.heap.size + 2, 1, none⟩ (.slice A' (out.length + 1) c')) T bm A n c A' c' (out ++ [v]) := by
 have hf1 : Frm (Value.slice As out.length cs).ownBlock.toList W W' := (Frm.refl _ _).grown hg (fun k e _ => by rw [e]; simp)
 have hf2 : Frm [w.heap.size + 2] W' (W'.setCell ⟨w.heap.size + 2, 1, none⟩ (.slice A' (out.length + 1) c')) := (Frm.refl _ W').set (by simp) _
 have hb : Cel W' w.heap.size 24 [.int .i64 bm, .slice A n c] := Cel.grown h.bc hg (own_ty_ne h.own h.bc (by decide))
 have hr : Cel W' (w.heap.size + 1) 38 [.int .i64 0, .slice none 0 0] := Cel.grown h.rc hg (own_ty_ne h.own h.rc (by decide))
 have hc : Cel W' (w.heap.size + 2) 38 [.int .i64 bm, .slice As out.length cs] := Cel.grown h.oc hg (own_ty_ne h.own h.oc (by decide))
 have hb1 : Below w.heap.size w W' := h.bel.trans (hf1.below h.bel.size fun k hk => own_ge h.own k (by simpa using hk))
 have hlen : (out ++ [v]).length = out.length + 1 := by simp
 have hl1 : ∀ k ∈ (Value.slice As out.length cs).ownBlock.toList, T ≤ k ∧ (∀ cs fz, W.heap[k]? ≠ some (Obj.cells cs 5 fz)) ∧ ∀ cs fz, W.heap[k]? ≠ some (Obj.cells cs 70 fz) := by
  intro k hk
  have e : (Value.slice As out.length cs).ownBlock = some k := by simpa using hk
  exact ⟨Nat.le_trans hT (own_ge h.own k e), fun cs fz => own_not_ty h.own (by decide) k cs fz e, fun cs fz => own_not_ty h.own (by decide) k cs fz e⟩
 have hl2 : ∀ k ∈ [w.heap.size + 2], T ≤ k ∧ (∀ cs fz, W'.heap[k]? ≠ some (Obj.cells cs 5 fz)) ∧ ∀ cs fz, W'.heap[k]? ≠ some (Obj.cells cs 70 fz) := by
  intro k hk
  rw [List.mem_singleton.1 hk]
  exact ⟨by omega, Cel.not_ty hc (by decide), Cel.not_ty hc (by decide)⟩
 refine ⟨hc, (hf2.block _ hb.lt (by simp)).trans hb, (hf2.block _ hr.lt (by simp)).trans hr, ?_, hb1.trans (hf2.below hb1.size (by intro q hq; rw [List.mem_singleton.1 hq]; omega)), ?_, fun u hu => ?_⟩
 ·have := hc.set 1 (.slice A' (out.length + 1) c')
  rw [hlen]
  exact this
 ·rw [hlen, gsflat_app]
  exact own_frm (show W'.ownsRow w.heap.size 67 9 (.slice A' (out.length + 1) c') (out.length + 1) (gsflat out ++ gsflat [v]) by rw [show gsflat [v] = v.cells by simp [gsflat]]; exact ho) hf2 fun k hk => by rw [List.mem_singleton.1 hk]; exact own_ty_ne ho hc (by decide)
 ·rcases List.mem_append.1 hu with hu | hu
  ·exact ((h.parts u hu).frm hf1 hl1).frm hf2 hl2
  ·rw [List.mem_singleton.1 hu]; exact (hv.frm hf1 hl1).frm hf2 hl2
end
def ycells (v : Gs) (A5 : Option Addr) (m c5 : Nat) : List Value := [.int .i64 v.g.at_, .string (str v.g.name), .int .i64 v.g.tag, .bool v.g.sends, .slice v.A4 v.g.send.length v.c4, .slice A5 m c5, .int .i64 v.g.time, .int .i64 v.g.try_, .string (str v.g.els)]
structure Di (W0 W : World) (T : Nat) (v : Gs) (A5 : Option Addr) (c5 : Nat) (gas : List Ga) : Prop where
 sc : Cel W W0.heap.size 52 v.cells
 xc : Cel W (W0.heap.size + 1) 67 (ycells v A5 gas.length c5)
 bel : Below W0.heap.size W0 W
 own : W.ownsRow W0.heap.size 70 4 (.slice A5 gas.length c5) gas.length (gaflat gas)
 tx : ∀ u ∈ gas, Tx W T u.A u.g.pat
section
variable {W0 W W' : World} {T : Nat} {v : Gs} {A5 : Option Addr} {c5 : Nat} {gas : List Ga}
theorem Di.below (h : Di W0 W T v A5 c5 gas) (hT : T ≤ W0.heap.size) (hb : Below W.heap.size W W') : Di W0 W' T v A5 c5 gas :=
 ⟨(hb.block _ h.sc.lt).trans h.sc, (hb.block _ h.xc.lt).trans h.xc, h.bel.trans (hb.mono h.bel.size), own_frm (l := []) h.own (Frm.of_below hb) (by simp), fun u hu => (h.tx u hu).below (Nat.le_trans hT h.bel.size) hb⟩
theorem Di.arm {A' : Option Addr} {c' : Nat} {a : Ga} (h : Di W0 W T v A5 c5 gas) (hT : T ≤ W0.heap.size) (ha : Tx W T a.A a.g.pat) (hg : W.grownBy W' (Value.slice A5 gas.length c5).ownBlock) (ho : W'.ownsRow W0.heap.size 70 4 (.slice A' (gas.length + 1) c') (gas.length + 1) (gaflat gas ++ a.cells)) :
  Cel W' (W0.heap.size + 1) 67 (ycells v A5 gas.length c5) ∧ Di W0 (W'.setCell ⟨W0.heap.size + 1, 5, none⟩ (.slice A' (gas.length + 1) c')) T v A' c' (gas ++ [a]) := by
 have hf1 : Frm (Value.slice A5 gas.length c5).ownBlock.toList W W' := (Frm.refl _ _).grown hg (fun k e _ => by rw [e]; simp)
 have hf2 : Frm [W0.heap.size + 1] W' (W'.setCell ⟨W0.heap.size + 1, 5, none⟩ (.slice A' (gas.length + 1) c')) := (Frm.refl _ W').set (by simp) _
 have hs : Cel W' W0.heap.size 52 v.cells := Cel.grown h.sc hg (own_ty_ne h.own h.sc (by decide))
 have hx : Cel W' (W0.heap.size + 1) 67 (ycells v A5 gas.length c5) := Cel.grown h.xc hg (own_ty_ne h.own h.xc (by decide))
 have hb1 : Below W0.heap.size W0 W' := h.bel.trans (hf1.below h.bel.size fun k hk => own_ge h.own k (by simpa using hk))
 have hlen : (gas ++ [a]).length = gas.length + 1 := by simp
 have hl1 : ∀ k ∈ (Value.slice A5 gas.length c5).ownBlock.toList, T ≤ k ∧ ∀ cs fz, W.heap[k]? ≠ some (Obj.cells cs 5 fz) := by
  intro k hk
  have e : (Value.slice A5 gas.length c5).ownBlock = some k := by simpa using hk
  exact ⟨Nat.le_trans hT (own_ge h.own k e), fun cs fz => own_not_ty h.own (by decide) k cs fz e⟩
 have hl2 : ∀ k ∈ [W0.heap.size + 1], T ≤ k ∧ ∀ cs fz, W'.heap[k]? ≠ some (Obj.cells cs 5 fz) := by
  intro k hk
  rw [List.mem_singleton.1 hk]
  exact ⟨by omega, Cel.not_ty hx (by decide)⟩
 refine ⟨hx, (hf2.block _ hs.lt (by simp)).trans hs, ?_, hb1.trans (hf2.below hb1.size (by intro q hq; rw [List.mem_singleton.1 hq]; omega)), ?_, fun u hu => ?_⟩
 ·have := hx.set 5 (.slice A' (gas.length + 1) c')
  rw [hlen]
  exact this
 ·rw [hlen, gaflat_app]
  exact own_frm (show W'.ownsRow W0.heap.size 70 4 (.slice A' (gas.length + 1) c') (gas.length + 1) (gaflat gas ++ gaflat [a]) by rw [show gaflat [a] = a.cells by simp [gaflat]]; exact ho) hf2 fun k hk => by rw [List.mem_singleton.1 hk]; exact own_ty_ne ho hx (by decide)
 ·rcases List.mem_append.1 hu with hu | hu
  ·exact Tx.frm (Tx.frm (h.tx u hu) hf1 hl1) hf2 hl2
  ·rw [List.mem_singleton.1 hu]; exact Tx.frm (Tx.frm ha hf1 hl1) hf2 hl2
end
theorem Gbk.arm4 {w : World} {T : Nat} {A : Option Addr} {vs : List Gs} (h : Gbk w T A vs) {i : Nat} {v : Gs} (hi : vs[i]? = some v) {j : Nat} {a : Ga} (hj : v.avs[j]? = some a) : ∃ ad, v.A5 = some ad ∧
  w.cell? (ad.add (j * 4)) = some (.int .i64 a.g.at_) ∧ w.cell? ⟨(ad.add (j * 4)).block, (ad.add (j * 4)).off + 1, none⟩ = some (.slice a.A a.g.pat.length a.c) ∧ w.cell? ⟨(ad.add (j * 4)).block, (ad.add (j * 4)).off + 2, none⟩ = some (.string (str a.g.as_)) ∧ w.cell? ⟨(ad.add (j * 4)).block, (ad.add (j * 4)).off + 3, none⟩ = some (.string (str a.g.go)) := by
 obtain ⟨ad, h5, hc⟩ := h.acell hi hj
 refine ⟨ad, h5, hc 0 _ rfl, ?_, ?_, ?_⟩
 all_goals rw [add_at9 _ _ _ (by decide)]
 ·exact hc 1 _ rfl
 ·exact hc 2 _ rfl
 ·exact hc 3 _ rfl
theorem results_at1' {P : Program} {fn : Func} {tmps : Array Value} {w : World} (a : Tmp) (t : TypeId) (hr : fn.results = #[.cell a t]) (ad : Addr) (ha : tmps.getD a undef = .pointer (some ad)) (v : Value) (hl : (loadVar t ad).run P w = .ok v w) :
  (results fn tmps).run P w = .ok v w := by
 unfold results
 rw [hr]
 simp only [List.mapM_toArray, List.mapM_cons, List.mapM_nil, ha, asAddr]
 simp [hl]
def As12Says (w : World) (T : Nat) (most : Int) (n : Nat) (vs : List Gs) (e : Ending) (w' : World) : Prop := ∃ A' c' us, e = .returned (.agg #[.int .i64 most, .slice A' n c']) ∧ Gbk w' T A' us ∧ us.map (·.g) = vs.map (·.g) ∧ (∀ u ∈ us, u.g.send.length ≤ u.c4) ∧ Below w.heap.size w w'
theorem as12 (w : World) (T : Nat) (A : Option Addr) (n c : Nat) (vs : List Gs) (h : Gbk w T A vs) (hT : T ≤ w.heap.size) (hl : vs.length = n) (hn : n ≤ 50000) (hcap : ∀ v ∈ vs, v.g.send.length ≤ v.c4 ∧ v.g.arms.length ≤ 50000) (most : Int) :
  Calls Tryz.prog 10 #[.agg #[.int .i64 most, .slice A n c]] w (As12Says w T most n vs) := by
 obtain ⟨w1, hw1⟩ : ∃ w1, w1 = w.alloc (.cells #[.int .i64 most, .slice A n c] 24) := ⟨_, rfl⟩
 have hb1 : Below w.heap.size w w1 := by rw [hw1]; exact (Below.refl _ _).alloc (Nat.le_refl _) _
 have hs1 : w1.heap.size = w.heap.size + 1 := by rw [hw1]; simp
 have hc1 : Cel w1 w.heap.size 24 [.int .i64 most, .slice A n c] := by rw [hw1]; exact Cel.new w _ _
 obtain ⟨w2, hw2⟩ : ∃ w2, w2 = w1.alloc (.cells #[.int .i64 0, .slice none 0 0] 38) := ⟨_, rfl⟩
 have hb12 : Below w1.heap.size w1 w2 := by rw [hw2]; exact (Below.refl _ _).alloc (Nat.le_refl _) _
 have hs2 : w2.heap.size = w.heap.size + 2 := by rw [hw2]; simp; omega
 have hc2 : Cel w2 (w.heap.size + 1) 38 [.int .i64 0, .slice none 0 0] := by rw [hw2, ← hs1]; exact Cel.new w1 _ _
 obtain ⟨w3, hw3⟩ : ∃ w3, w3 = w2.alloc (.cells #[.int .i64 most, .slice none 0 0] 38) := ⟨_, rfl⟩
 have hb23 : Below w2.heap.size w2 w3 := by rw [hw3]; exact (Below.refl _ _).alloc (Nat.le_refl _) _
 have hc3 : Cel w3 (w.heap.size + 2) 38 [.int .i64 most, .slice none 0 0] := by rw [hw3, ← hs2]; exact Cel.new w2 _ _
 have hb02 := hb1.trans (hb12.mono hb1.size)
 have HDO := Lib.hid (show Do w w3 T most A n c none 0 [] from ⟨(hb23.block _ (Cel.lt ((hb12.block _ hc1.lt).trans hc1))).trans ((hb12.block _ hc1.lt).trans hc1), (hb23.block _ hc2.lt).trans hc2, hc3, hb02.trans (hb23.mono hb02.size), World.ownsRow_nil _ _ _ _, by simp⟩)
 have H := Lib.hid h
 have HL := Lib.hid hl
 have HCAP := Lib.hid hcap
 have hTw := hT
 rw [hw1] at hw2
 rw [hw2] at hw3
 clear h hl hcap hb1 hs1 hc1 hb12 hs2 hc2 hb23 hc3 hb02 hw1 hw2
 go_enter Tryz.func10, Tryz.ntmps10
 go_wp2_with fail
 rw [← hw3]
 clear hw3
 go_loopw [4] (fun v4 wr => ∃ (i : Nat) (As : Option Addr) (cs : Nat) (out : List Gs), i ≤ n ∧ v4 = .int .i64 (i : Int) ∧ out.length = i ∧ Do w wr T most A n c As cs out ∧ Hid (out.map (·.g) = (vs.take i).map (·.g))) (fun v4 _ => n - (intOf v4).toNat)
 case atStart => exact ⟨0, none, 0, [], Nat.zero_le _, rfl, rfl, HDO.out, Lib.hid (by simp)⟩
 case round =>
  clear HDO
  obtain ⟨i, As, cs, out, hi, rfl, holn, hdo, HO⟩ := hrel
  obtain ⟨W0, rfl⟩ : ∃ W0, W0 = wr := ⟨_, rfl⟩
  have HDO := Lib.hid hdo
  have b1 := hdo.bc.cell 1
  have lb := hdo.bc.lt
  have hT0 : T ≤ W0.heap.size := Nat.le_trans hT hdo.bel.size
  have HLN := Lib.hid holn
  clear hdo holn
  rcases Nat.lt_or_ge i n with hlt | hge
  ·obtain ⟨v, hv⟩ : ∃ v, vs[i]? = some v := ⟨_, List.getElem?_eq_getElem (by rw [HL.out]; exact hlt)⟩
   have hG := H.out.below hTw HDO.out.bel
   obtain ⟨ad, rfl, x0, x1, x2, x3, x4, x5, x6, x7, x8⟩ := hG.step hv
   have lx : (ad.add (i * 9)).block < W0.heap.size := cell_lt x0
   have HV := Lib.hid hv
   have HAV := Lib.hid ((hG.arms v (List.mem_of_getElem? hv)).2)
   have HSE := Lib.hid (hG.send v (List.mem_of_getElem? hv))
   obtain ⟨hcp, ham⟩ := HCAP.out v (List.mem_of_getElem? hv)
   have HCP := Lib.hid hcp
   obtain ⟨m, hm⟩ : ∃ m, m = v.g.arms.length := ⟨_, rfl⟩
   have HM := Lib.hid hm
   obtain ⟨W1, hW1⟩ : ∃ W1, W1 = W0.alloc (.cells #[.int .i64 v.g.at_, .string (str v.g.name), .int .i64 v.g.tag, .bool v.g.sends, .slice v.A4 v.g.send.length v.c4, .slice v.A5 m v.c5, .int .i64 v.g.time, .int .i64 v.g.try_, .string (str v.g.els)] 52) := ⟨_, rfl⟩
   have hbW1 : Below W0.heap.size W0 W1 := by rw [hW1]; exact (Below.refl _ _).alloc (Nat.le_refl _) _
   have hsW1 : W1.heap.size = W0.heap.size + 1 := by rw [hW1]; simp
   have hcW1 : Cel W1 W0.heap.size 52 v.cells := by rw [hW1, hm]; exact Cel.new W0 _ _
   obtain ⟨W2, hW2⟩ : ∃ W2, W2 = W1.alloc (.cells #[.int .i64 v.g.at_, .string (str v.g.name), .int .i64 v.g.tag, .bool v.g.sends, .slice v.A4 v.g.send.length v.c4, .slice none 0 0, .int .i64 v.g.time, .int .i64 v.g.try_, .string (str v.g.els)] 67) := ⟨_, rfl⟩
   have hbW2 : Below W1.heap.size W1 W2 := by rw [hW2]; exact (Below.refl _ _).alloc (Nat.le_refl _) _
   have hcW2 : Cel W2 (W0.heap.size + 1) 67 (ycells v none 0 0) := by rw [hW2, ← hsW1]; exact Cel.new W1 _ _
   have HDI := Lib.hid (show Di W0 W2 T v none 0 [] from ⟨(hbW2.block _ hcW1.lt).trans hcW1, hcW2, hbW1.trans (hbW2.mono hbW1.size), World.ownsRow_nil _ _ _ _, by simp⟩)
   rw [hW1] at hW2
   rw [← hm] at x5 ham
   clear hv hG hbW1 hsW1 hcW1 hbW2 hcW2 hW1 hm hcp
   go_wp2_with fail
   rw [← hW2]
   clear hW2 x0 x1 x2 x3 x4 x5 x6 x7 x8 b1 lx
   go_loopw [7] (fun v7 wr => ∃ (k : Nat) (A5 : Option Addr) (c5 : Nat) (gas : List Ga), k ≤ m ∧ v7 = .int .i64 (k : Int) ∧ gas.length = k ∧ Di W0 wr T v A5 c5 gas ∧ Hid (gas.map (·.g) = v.g.arms.take k)) (fun v7 _ => m - (intOf v7).toNat)
   case atStart => exact ⟨0, none, 0, [], Nat.zero_le _, rfl, rfl, HDI.out, Lib.hid (by simp)⟩
   case round =>
    clear HDI
    obtain ⟨k, A5, c5, gas, hk, rfl, hgln, hdi, HK⟩ := hrel
    obtain ⟨V0, rfl⟩ : ∃ V0, V0 = wr := ⟨_, rfl⟩
    have hdov := HDO.out.below hT hdi.bel
    have HDI := Lib.hid hdi
    have HGLN := Lib.hid hgln
    have k5 : V0.cell? ⟨W0.heap.size, 5, none⟩ = some (.slice v.A5 m v.c5) := by rw [HM.out]; exact hdi.sc.cell 5
    have hT1 : T ≤ V0.heap.size := Nat.le_trans hT0 hdi.bel.size
    have l5 := hdi.sc.lt
    have lx1 := hdi.xc.lt
    have lo := hdov.oc.lt
    rcases Nat.lt_or_ge k m with hkm | hkm
    ·obtain ⟨a, ha⟩ : ∃ a, v.avs[k]? = some a := ⟨_, List.getElem?_eq_getElem (by have := congrArg List.length HAV.out; rw [List.length_map] at this; rw [this, ← HM.out]; exact hkm)⟩
     obtain ⟨bd, h5, y0, y1, y2, y3⟩ := (H.out.below hTw hdov.bel).arm4 HV.out ha
     have hpt := (H.out.below hTw hdov.bel).pats v (List.mem_of_getElem? HV.out) a (List.mem_of_getElem? ha)
     rw [h5] at k5
     have m5 : V0.cell? ⟨W0.heap.size + 1, 5, none⟩ = some (.slice A5 gas.length c5) := hdi.xc.cell 5
     have f5 := hdi.xc.free 5
     have ly : (bd.add (k * 4)).block < V0.heap.size := cell_lt y0
     obtain ⟨V1, hV1⟩ : ∃ V1, V1 = V0.alloc (.cells #[.int .i64 a.g.at_, .slice a.A a.g.pat.length a.c, .string (str a.g.as_), .string (str a.g.go)] 56) := ⟨_, rfl⟩
     have hbV1 : Below V0.heap.size V0 V1 := by rw [hV1]; exact (Below.refl _ _).alloc (Nat.le_refl _) _
     have hsV1 : V1.heap.size = V0.heap.size + 1 := by rw [hV1]; simp
     have hbV2 : Below V1.heap.size V1 (V1.alloc (.cells #[.int .i64 a.g.at_, .slice a.A a.g.pat.length a.c, .string (str a.g.as_), .string (str a.g.go)] 70)) := (Below.refl _ _).alloc (Nat.le_refl _) _
     have hb02 := hbV1.trans (hbV2.mono hbV1.size)
     have HDI2 := Lib.hid (hdi.below hT0 hb02)
     have HPT := Lib.hid (hpt.below hT1 hb02)
     have hsrc := Ry.src (m := 1) (Ry.of_cel (Cel.new V1 70 [.int .i64 a.g.at_, .slice a.A a.g.pat.length a.c, .string (str a.g.as_), .string (str a.g.go)])) (by simp)
     rw [hsV1] at hsrc
     have HSRC := Lib.hid hsrc
     have hs4 : W0.heap.size ≤ (V1.alloc (.cells #[.int .i64 a.g.at_, .slice a.A a.g.pat.length a.c, .string (str a.g.as_), .string (str a.g.go)] 70)).heap.size := HDI2.out.bel.size
     have hgl : gas.length ≤ 50000 := by rw [HGLN.out]; omega
     have HK2 := Lib.hid (show (gas ++ [a]).map (·.g) = v.g.arms.take (k + 1) by
      have ha2 : v.g.arms[k]? = some a.g := by rw [← HAV.out, List.getElem?_map, ha]; rfl
      rw [List.take_add_one, ha2, List.map_append, HK.out]
      rfl)
     rw [hV1] at HDI2 HPT HSRC hs4
     clear hV1 hbV1 hsV1 hbV2 hb02 hsrc hdov hdi hgln hpt h5 ha
     go_wp2_with ((at_builtin; refine wpList_append_any _ rfl _ _ 65 rfl W0.heap.size 70 rowArm (.slice A5 gas.length c5) gas.length (gaflat gas) rfl HDI2.out.own (some ⟨V0.heap.size + 1, 0, none⟩) 1 1 a.cells rfl rfl HSRC.out (by intro u hu; simp [Ga.cells] at hu; rcases hu with rfl | rfl | rfl | rfl <;> rfl) (gas.length + 1) _ rfl rfl (by unfold maxLen; omega) (by omega) hs4 ?_; intro A8 c8 w8 ho8 hg8 _; obtain ⟨hx8, hdi8⟩ := HDI2.out.arm hT0 HPT.out hg8 ho8; have k8 : w8.cell? ⟨W0.heap.size + 1, 5, none⟩ = some (.slice A5 gas.length c5) := hx8.cell 5; have f8 := hx8.free 5; have HDI8 := Lib.hid hdi8; clear ho8 hg8 hx8 hdi8))
     exact ⟨⟨k + 1, A8, c8, gas ++ [a], hkm, by rw [show ((k + 1 : Nat) : Int) = (k : Int) + 1 by omega], by rw [List.length_append, HGLN.out]; rfl, HDI8.out, HK2⟩, by simp [intOf]; omega⟩
    ·obtain rfl : m = k := by omega
     clear hgln
     have m0 : V0.cell? ⟨w.heap.size + 2, 1, none⟩ = some (.slice As out.length cs) := hdov.oc.cell 1
     have f0 := hdov.oc.free 1
     have q0 : V0.cell? ⟨W0.heap.size + 1, 0, none⟩ = some (.int .i64 v.g.at_) := hdi.xc.cell 0
     have q1 : V0.cell? ⟨W0.heap.size + 1, 1, none⟩ = some (.string (str v.g.name)) := hdi.xc.cell 1
     have q2 : V0.cell? ⟨W0.heap.size + 1, 2, none⟩ = some (.int .i64 v.g.tag) := hdi.xc.cell 2
     have q3 : V0.cell? ⟨W0.heap.size + 1, 3, none⟩ = some (.bool v.g.sends) := hdi.xc.cell 3
     have q4 : V0.cell? ⟨W0.heap.size + 1, 4, none⟩ = some (.slice v.A4 v.g.send.length v.c4) := hdi.xc.cell 4
     have q5 : V0.cell? ⟨W0.heap.size + 1, 5, none⟩ = some (.slice A5 gas.length c5) := hdi.xc.cell 5
     have q6 : V0.cell? ⟨W0.heap.size + 1, 6, none⟩ = some (.int .i64 v.g.time) := hdi.xc.cell 6
     have q7 : V0.cell? ⟨W0.heap.size + 1, 7, none⟩ = some (.int .i64 v.g.try_) := hdi.xc.cell 7
     have q8 : V0.cell? ⟨W0.heap.size + 1, 8, none⟩ = some (.string (str v.g.els)) := hdi.xc.cell 8
     have hb34 : Below V0.heap.size V0 (V0.alloc (.cells #[.int .i64 v.g.at_, .string (str v.g.name), .int .i64 v.g.tag, .bool v.g.sends, .slice v.A4 v.g.send.length v.c4, .slice A5 gas.length c5, .int .i64 v.g.time, .int .i64 v.g.try_, .string (str v.g.els)] 67)) := (Below.refl _ _).alloc (Nat.le_refl _) _
     have HDO4 := Lib.hid (hdov.below hT hb34)
     have HSRC := Lib.hid (Ry.src (m := 1) (Ry.of_cel (Cel.new V0 67 [.int .i64 v.g.at_, .string (str v.g.name), .int .i64 v.g.tag, .bool v.g.sends, .slice v.A4 v.g.send.length v.c4, .slice A5 gas.length c5, .int .i64 v.g.time, .int .i64 v.g.try_, .string (str v.g.els)])) (by simp))
     have hs4 : w.heap.size ≤ (V0.alloc (.cells #[.int .i64 v.g.at_, .string (str v.g.name), .int .i64 v.g.tag, .bool v.g.sends, .slice v.A4 v.g.send.length v.c4, .slice A5 gas.length c5, .int .i64 v.g.time, .int .i64 v.g.try_, .string (str v.g.els)] 67)).heap.size := HDO4.out.bel.size
     have hol : out.length ≤ 50000 := by rw [HLN.out]; omega
     obtain ⟨xs, hxs⟩ : ∃ xs : Gs, xs = ⟨v.g, v.A4, v.c4, A5, c5, gas⟩ := ⟨_, rfl⟩
     have hga : gas.map (·.g) = v.g.arms := by rw [HK.out, HM.out, List.take_length]
     have hgn : v.g.arms.length = gas.length := by rw [← hga, List.length_map]
     have HXC := Lib.hid (show xs.cells = [.int .i64 v.g.at_, .string (str v.g.name), .int .i64 v.g.tag, .bool v.g.sends, .slice v.A4 v.g.send.length v.c4, .slice A5 gas.length c5, .int .i64 v.g.time, .int .i64 v.g.try_, .string (str v.g.els)] by
      rw [hxs]
      unfold Gs.cells
      dsimp only
      rw [hgn])
     have HXT := Lib.hid (show DParts (V0.alloc (.cells #[.int .i64 v.g.at_, .string (str v.g.name), .int .i64 v.g.tag, .bool v.g.sends, .slice v.A4 v.g.send.length v.c4, .slice A5 gas.length c5, .int .i64 v.g.time, .int .i64 v.g.try_, .string (str v.g.els)] 67)) T xs by
      rw [hxs]
      exact ⟨⟨(HSE.out.below hT0 hdi.bel).below hT1 hb34, HCP.out⟩, (Ry.of_own hdi.own (by decide)).below hb34, hga, fun u hu => (hdi.tx u hu).below hT1 hb34⟩)
     have HO2 := Lib.hid (show (out ++ [xs]).map (·.g) = (vs.take (i + 1)).map (·.g) by
      rw [List.take_add_one, HV.out, List.map_append, List.map_append, HO.out, hxs]
      rfl)
     clear hb34 hdov hdi hga hgn hxs
     go_wp2_with ((at_builtin; refine wpList_append_any _ rfl _ _ 36 rfl w.heap.size 67 rowStp (.slice As out.length cs) out.length (gsflat out) rfl HDO4.out.own (some ⟨V0.heap.size, 0, none⟩) 1 1 [.int .i64 v.g.at_, .string (str v.g.name), .int .i64 v.g.tag, .bool v.g.sends, .slice v.A4 v.g.send.length v.c4, .slice A5 gas.length c5, .int .i64 v.g.time, .int .i64 v.g.try_, .string (str v.g.els)] rfl rfl HSRC.out (by intro u hu; simp at hu; rcases hu with rfl | rfl | rfl | rfl | rfl | rfl | rfl | rfl | rfl <;> rfl) (out.length + 1) _ rfl rfl (by unfold maxLen; omega) (by omega) hs4 ?_; intro A8 c8 w8 ho8 hg8 _; rw [← HXC.out] at ho8; obtain ⟨hx8, hdo8⟩ := HDO4.out.step hT HXT.out hg8 ho8; have k8 : w8.cell? ⟨w.heap.size + 2, 1, none⟩ = some (.slice As out.length cs) := hx8.cell 1; have f8 := hx8.free 1; have HDO8 := Lib.hid hdo8; clear ho8 hg8 hx8 hdo8))
     exact ⟨⟨i + 1, A8, c8, out ++ [xs], hlt, by rw [show ((i + 1 : Nat) : Int) = (i : Int) + 1 by omega], by rw [List.length_append, HLN.out]; rfl, HDO8.out, HO2⟩, by simp [intOf]; omega⟩
  ·obtain rfl : n = i := by omega
   have hrc := HDO.out.rc
   have hoc := HDO.out.oc
   have q0 := hoc.cell 0
   have q1 : W0.cell? ⟨w.heap.size + 2, 1, none⟩ = some (.slice As n cs) := by rw [← HLN.out]; exact hoc.cell 1
   have r0 := hrc.cell 0
   have r1 := hrc.cell 1
   have l0 := hrc.free 0
   have l1 := hrc.free 1
   have hf : Frm [w.heap.size + 1] W0 ((W0.setCell ⟨w.heap.size + 1, 0, none⟩ (.int .i64 most)).setCell ⟨w.heap.size + 1, 1, none⟩ (.slice As n cs)) := ((Frm.refl _ W0).set (p := ⟨w.heap.size + 1, 0, none⟩) (by simp) _).set (p := ⟨w.heap.size + 1, 1, none⟩) (by simp) _
   have hnt : ∀ t', t' ≠ 38 → ∀ k ∈ [w.heap.size + 1], ∀ o fz, W0.heap[k]? ≠ some (Obj.cells o t' fz) := fun t' ht k hk => by rw [List.mem_singleton.1 hk]; exact Cel.not_ty hrc (Ne.symm ht)
   have HC3 := Lib.hid ((hrc.set 0 (.int .i64 most)).set 1 (.slice As n cs))
   have hpt : ∀ u ∈ out, DParts ((W0.setCell ⟨w.heap.size + 1, 0, none⟩ (.int .i64 most)).setCell ⟨w.heap.size + 1, 1, none⟩ (.slice As n cs)) T u := fun u hu => (HDO.out.parts u hu).frm hf fun k hk => ⟨by rw [List.mem_singleton.1 hk]; omega, hnt _ (by decide) k hk, hnt _ (by decide) k hk⟩
   have HEND := Lib.hid (show As12Says w T most n vs (.returned (.agg #[.int .i64 most, .slice As n cs])) ((W0.setCell ⟨w.heap.size + 1, 0, none⟩ (.int .i64 most)).setCell ⟨w.heap.size + 1, 1, none⟩ (.slice As n cs)) from
    ⟨As, cs, out, rfl, ⟨cr_ry ((Ry.of_own HDO.out.own (by decide)).frm hf (hnt _ (by decide))), fun u hu => (hpt u hu).1.1, fun u hu => ⟨cr_ry (hpt u hu).2.1, (hpt u hu).2.2.1⟩, fun u hu => (hpt u hu).2.2.2⟩, by rw [HO.out, List.take_of_length_le (by rw [HL.out]; exact Nat.le_refl _)], fun u hu => (hpt u hu).1.2, HDO.out.bel.trans (hf.below HDO.out.bel.size (by intro q hq; rw [List.mem_singleton.1 hq]; omega))⟩)
   clear hrc hoc hf hnt hpt
   go_wp2_with fail
   refine bodyPost_ret (v := .agg #[.int .i64 most, .slice As n cs]) (results_at1' 2 38 Tryz.results10 ⟨w.heap.size + 1, 0, none⟩ rfl _ (load_book HC3.out)) rfl ?_
   exact HEND.out
end Go.Proofs.YteohlpmojfjjdaaGreat.Chk
end
section
namespace Go.Proofs.YteohlpmojfjjdaaGreat.Chk
open Go.RowKit
open Lex (Tx Cr cr_ry)
open Vars (scell)
open Book (pparse bookOf Pbk Bv Av)
def cmS : Except (Int × Int) CBook → List CStep
 | .error _ => []
 | .ok b => b.steps
def cmV : Except (Int × Int) CBook → List (List B)
 | .error _ => []
 | .ok b => b.vars
def cmM : Except (Int × Int) CBook → Int
 | .error _ => 0
 | .ok b => b.most
def cmP : Except (Int × Int) CBook → Int
 | .error (_, p) => p
 | .ok _ => 0
def cmZ : Except (Int × Int) CBook → Int
 | .error (z, _) => z
 | .ok _ => 0
theorem cgk_nil (w : World) (T : Nat) : Cgk w T none [] := ⟨fun h => absurd rfl h, by simp, by simp, by simp⟩
theorem nms_nil (w : World) : Nms w none [] := fun h => absurd rfl h
theorem cm_get {w w' : World} {T : Nat} {r : Except (Int × Int) CBook} {e : Ending} (h : CmSays w T r e w') : Below w.heap.size w w' ∧ ∃ A k A1 k1 us, e = .returned (.tuple #[.agg #[.slice A us.length k, .slice A1 (cmV r).length k1, .int .i64 (cmM r)], .int .i64 (cmP r), .int .i64 (cmZ r)]) ∧ Cgk w' T A us ∧ us.map (·.s) = cmS r ∧ Nms w' A1 (cmV r) := by
 obtain ⟨hb, h⟩ := h
 refine ⟨hb, ?_⟩
 cases r with
 | error q =>
  obtain ⟨z, p⟩ := q
  exact ⟨none, 0, none, 0, [], h.2, cgk_nil _ _, rfl, nms_nil _⟩
 | ok b =>
  obtain ⟨A, k, A1, k1, vs, rfl, h1, h2, h3⟩ := h
  refine ⟨A, k, A1, k1, vs, ?_, h1.cgk, h2, cr_ry h3⟩
  have : b.steps.length = vs.length := by rw [← h2, List.length_map]
  rw [this]; rfl
theorem cm_few {b : GBook} (h1 : b.steps.length ≤ 50000) (h2 : ∀ s ∈ b.steps, s.arms.length ≤ 50000) : (cmS (compile b)).length ≤ 50000 ∧ (cmV (compile b)).length ≤ 50000 ∧ ∀ s ∈ cmS (compile b), s.arms.length ≤ 50000 := by
 unfold compile
 split
 ·exact ⟨Nat.zero_le _, Nat.zero_le _, by simp [cmS]⟩
 ·rename_i hc
  have hv := vars_few (b := b) (by simpa using hc)
  refine ⟨by show (b.steps.map (cStep b)).length ≤ _; rw [List.length_map]; exact h1, by show (varsOf b).length ≤ _; omega, fun s hs => ?_⟩
  obtain ⟨x, hx, rfl⟩ := List.mem_map.1 (show s ∈ b.steps.map (cStep b) from hs)
  show (x.arms.map (cArm b)).length ≤ _
  rw [List.length_map]; exact h2 x hx
theorem len_of {us : List Cs} {S : List CStep} {n : Nat} (h : us.map (·.s) = S) (hn : S.length ≤ n) : us.length ≤ n := by rw [← h, List.length_map] at hn; exact hn
theorem mem_of {us : List Cs} {S : List CStep} (h : us.map (·.s) = S) {v : Cs} (hv : v ∈ us) : v.s ∈ S := by rw [← h]; exact List.mem_map_of_mem hv
theorem szs_few {v : Gs} (hc : v.g.send.length ≤ v.c4) (hm : v.avs.map (·.g) = v.g.arms) (h : FewS v.g) : Szs v ∧ Pzs v := by
 obtain ⟨h1, h2, h3, h4, h5⟩ := h
 have hma : ∀ a ∈ v.avs, a.g ∈ v.g.arms := fun a ha => by rw [← hm]; exact List.mem_map_of_mem ha
 exact ⟨⟨by omega, by omega, by omega, hc, by omega, fun a ha => by obtain ⟨q1, q2, q3⟩ := h5 a.g (hma a ha); exact ⟨by omega, by omega⟩⟩, fun a ha => by obtain ⟨q1, q2, q3⟩ := h5 a.g (hma a ha); omega⟩
theorem sumA_le {k : Nat} : ∀ {vs : List Gs}, (∀ v ∈ vs, v.g.arms.length ≤ k) → sumA vs ≤ k * vs.length
 | [], _ => by simp [sumA]
 | v :: vs, h => by
  have h1 := sumA_le (vs := vs) fun x hx => h x (List.mem_cons_of_mem _ hx)
  have h2 := h v (List.mem_cons_self ..)
  unfold sumA at h1 ⊢
  rw [List.map_cons, List.sum_cons, List.length_cons, Nat.mul_add, Nat.mul_one]
  omega
theorem sumA_map {us vs : List Gs} (h : us.map (·.g) = vs.map (·.g)) : sumA us = sumA vs := by
 have e : ∀ l : List Gs, sumA l = ((l.map (·.g)).map fun g => g.arms.length).sum := fun l => by unfold sumA; rw [List.map_map]; rfl
 rw [e, e, h]
theorem compiles_walk (most : Int) (A : Option Addr) (n c : Nat) (vs : List Gs) (w : World) (hG : Gbk w w.heap.size A vs) (hl : vs.length = n) (hn : n ≤ maxLen) (hf : ∀ v ∈ vs, v.g.send.length ≤ v.c4 ∧ FitS v.g) :
  Calls Tryz.prog 3 #[.agg #[.int .i64 most, .slice A n c]] w fun e w' => e = .returned (.bool true) ∧ Below w.heap.size w w' := by
 obtain ⟨T, hT⟩ : ∃ T, T = w.heap.size := ⟨_, rfl⟩
 rw [← hT] at hG
 have hTw : T ≤ w.heap.size := by omega
 obtain ⟨w1, hw1⟩ : ∃ w1, w1 = w.alloc (.cells #[.int .i64 most, .slice A n c] 24) := ⟨_, rfl⟩
 have hb1 : Below w.heap.size w w1 := by rw [hw1]; exact (Below.refl _ _).alloc (Nat.le_refl _) _
 have hc1 : Cel w1 w.heap.size 24 [.int .i64 most, .slice A n c] := by rw [hw1]; exact Cel.new w _ _
 have con := few14 w1 T A n c vs (hG.below hTw hb1) (Nat.le_trans hTw hb1.size) hl hn (fun v hv => (hf v hv).2) most
 have k0 := hc1.cell 0
 have k1 := hc1.cell 1
 rw [hw1] at con k0 k1
 have HG := Lib.hid hG
 have HB1 := Lib.hid hb1
 have HC1 := Lib.hid hc1
 have HL := Lib.hid hl
 have HF := Lib.hid (fun v hv => (hf v hv).1)
 clear hG hb1 hc1 hl hf hT
 go_enter Tryz.func3, Tryz.ntmps3
 go_wp2_with fail
 rw [← hw1] at con ⊢
 refine con.mono ?_
 clear con hw1 k0 k1
 rintro e w2 ⟨b, rfl, hb2, hfew⟩
 have HB2 := Lib.hid (HB1.out.trans (hb2.mono HB1.out.size))
 have HC2 := Lib.hid (Cel.below HC1.out hb2 HC1.out.lt)
 have HFEW := Lib.hid hfew
 clear hb2 HC1 hfew
 cases b with
 | false =>
  have con := knows14 w2
  go_wp2_with fail
  refine con.mono ?_
  clear con
  rintro e w3 ⟨rfl, hb3⟩
  have HB3 := Lib.hid (HB2.out.trans (hb3.mono HB2.out.size))
  clear hb3
  go_wp2_with fail
  go_ret
  exact ⟨rfl, HB3.out⟩
 | true =>
  obtain ⟨hn35, hfs⟩ := HFEW.out rfl
  have hg2 := HG.out.below hTw HB2.out
  have hz : ∀ v ∈ vs, Szs v ∧ Pzs v := fun v hv => szs_few (HF.out v hv) (hg2.arms v hv).2 (hfs v hv)
  have hsum : sumA vs ≤ 50000 := by
   have := sumA_le (k := 10) (vs := vs) fun v hv => (hfs v hv).2.2.2.1
   rw [HL.out] at this; omega
  obtain ⟨bk, hbk⟩ : ∃ bk : GBook, bk = ⟨most, vs.map (·.g)⟩ := ⟨_, rfl⟩
  have hfw := cm_few (b := bk) (by rw [hbk]; show (vs.map (·.g)).length ≤ _; rw [List.length_map, HL.out]; omega) (by
   rw [hbk]; intro s hs
   obtain ⟨v, hv, rfl⟩ := List.mem_map.1 (show s ∈ vs.map (·.g) from hs)
   have := (hfs v hv).2.2.2.1; omega)
  have con := pcompile_ w2 T bk A n c vs hg2 (Nat.le_trans hTw HB2.out.size) HL.out (by omega) hsum (fun v hv => (hz v hv).1) (fun v hv => (hz v hv).2) most (by rw [hbk]) (by rw [hbk])
  obtain ⟨r, hr⟩ : ∃ r, r = compile bk := ⟨_, rfl⟩
  rw [← hr] at con hfw
  have HR := Lib.hid hr
  have HBK := Lib.hid hbk
  have HFW := Lib.hid hfw
  have HFS := Lib.hid hfs
  have HSUM := Lib.hid hsum
  have k0 := HC2.out.cell 0
  have k1 := HC2.out.cell 1
  change _ = some (Value.int .i64 most) at k0
  change _ = some (Value.slice A n c) at k1
  clear hg2 hz hfs hsum hbk hr hfw HFEW
  go_wp2_with fail
  refine con.mono ?_
  clear con k0 k1
  intro e w3 h3
  obtain ⟨hb3, A3, c3, V3, d3, us, rfl, hk3, hu3, hn3⟩ := cm_get h3
  clear h3
  obtain ⟨xl, hxl⟩ : ∃ q, q = us.length := ⟨_, rfl⟩
  obtain ⟨vl, hvl⟩ : ∃ q, q = (cmV r).length := ⟨_, rfl⟩
  obtain ⟨bm, hbm⟩ : ∃ q, q = cmM r := ⟨_, rfl⟩
  obtain ⟨pl, hpl⟩ : ∃ q, q = cmP r := ⟨_, rfl⟩
  obtain ⟨zc, hzc⟩ : ∃ q, q = cmZ r := ⟨_, rfl⟩
  rw [← hxl, ← hvl, ← hbm, ← hpl, ← hzc]
  obtain ⟨W3, hW3⟩ : ∃ W3, W3 = w3.alloc (.cells #[.slice A3 xl c3, .slice V3 vl d3, .int .i64 bm] 30) := ⟨_, rfl⟩
  have hb33 : Below w3.heap.size w3 W3 := by rw [hW3]; exact (Below.refl _ _).alloc (Nat.le_refl _) _
  have hx3 : Cel W3 w3.heap.size 30 [.slice A3 xl c3, .slice V3 vl d3, .int .i64 bm] := by rw [hW3]; exact Cel.new w3 _ _
  have hb3w : Below w.heap.size w w3 := HB2.out.trans (hb3.mono HB2.out.size)
  have hT3 : T ≤ w3.heap.size := Nat.le_trans hTw hb3w.size
  have hbw3 : Below w.heap.size w W3 := hb3w.trans (hb33.mono hb3w.size)
  have hcb3 : Cel W3 w.heap.size 24 [.int .i64 most, .slice A n c] := Cel.below (Cel.below HC2.out hb3 HC2.out.lt) hb33 (Cel.below HC2.out hb3 HC2.out.lt).lt
  have con := as12 W3 T A n c vs (HG.out.below hTw hbw3) (Nat.le_trans hTw hbw3.size) HL.out (by omega) (fun v hv => ⟨HF.out v hv, by have := (HFS.out v hv).2.2.2.1; omega⟩) most
  have k0 := hcb3.cell 0
  have k1 := hcb3.cell 1
  change _ = some (Value.int .i64 most) at k0
  change _ = some (Value.slice A n c) at k1
  rw [hW3] at k0 k1 con
  have HK3 := Lib.hid (hk3.below hT3 hb33)
  have HN3 := Lib.hid (show Nms W3 V3 (cmV r) from Cr.below hn3 hb33)
  have HU3 := Lib.hid hu3
  have HX3 := Lib.hid hx3
  have HBW3 := Lib.hid hbw3
  have HXL := Lib.hid hxl
  have HVL := Lib.hid hvl
  have HPZ := Lib.hid (And.intro hpl (And.intro hzc hbm))
  clear hb3 hk3 hu3 hn3 hb33 hx3 hb3w hbw3 hcb3 hxl hvl hpl hzc hbm HB2 HC2
  go_wp2_with fail
  rw [← hW3] at con ⊢
  refine con.mono ?_
  clear con k0 k1 hW3
  rintro e w4 ⟨A4, c4, us4, rfl, hg4, hm4, hcap4, hb4⟩
  have hbw4 : Below w.heap.size w w4 := HBW3.out.trans (hb4.mono HBW3.out.size)
  have hT4 : T ≤ w4.heap.size := Nat.le_trans hTw hbw4.size
  have hl4 : us4.length = n := by have := congrArg List.length hm4; simpa [HL.out] using this
  have con := compile_ w4 T A4 n c4 us4 hg4 hT4 hl4 (by omega) (by rw [sumA_map hm4]; exact HSUM.out) most (fun u hu => by
   have hu' : u.g ∈ vs.map (·.g) := by rw [← hm4]; exact List.mem_map_of_mem hu
   obtain ⟨v, hv, e⟩ := List.mem_map.1 hu'
   have := HFS.out v hv
   rw [e] at this
   exact ⟨hcap4 u hu, by have := this.2.2.1; omega, by have := this.2.2.2.1; omega⟩)
  rw [hm4, ← HBK.out, ← HR.out] at con
  have HBW4 := Lib.hid hbw4
  have HK4 := Lib.hid (HK3.out.below (Nat.le_trans hTw HBW3.out.size) hb4)
  have HN4 := Lib.hid (show Nms w4 V3 (cmV r) from Cr.below HN3.out hb4)
  have HX4 := Lib.hid (Cel.below HX3.out hb4 HX3.out.lt)
  clear hg4 hm4 hcap4 hb4 hbw4 hl4 HK3 HN3 HX3 HBW3
  go_wp2_with fail
  refine con.mono ?_
  clear con
  intro e w5 h5
  obtain ⟨hb5, A5, c5, V5, d5, us5, rfl, hk5, hu5, hn5⟩ := cm_get h5
  clear h5
  have hx5 : us5.length = xl := by rw [HXL.out]; have h1 := congrArg List.length hu5; have h2 := congrArg List.length HU3.out; rw [List.length_map] at h1 h2; omega
  rw [hx5, ← HVL.out, ← HPZ.out.1, ← HPZ.out.2.1, ← HPZ.out.2.2]
  obtain ⟨W5, hW5⟩ : ∃ W5, W5 = w5.alloc (.cells #[.slice A5 xl c5, .slice V5 vl d5, .int .i64 bm] 30) := ⟨_, rfl⟩
  have hb55 : Below w5.heap.size w5 W5 := by rw [hW5]; exact (Below.refl _ _).alloc (Nat.le_refl _) _
  have hy5 : Cel W5 w5.heap.size 30 [.slice A5 xl c5, .slice V5 vl d5, .int .i64 bm] := by rw [hW5]; exact Cel.new w5 _ _
  have hb5w : Below w.heap.size w w5 := HBW4.out.trans (hb5.mono HBW4.out.size)
  have hT5 : T ≤ w5.heap.size := Nat.le_trans hTw hb5w.size
  have hbw5 : Below w.heap.size w W5 := hb5w.trans (hb55.mono hb5w.size)
  have hx5' := Cel.below (Cel.below HX4.out hb5 HX4.out.lt) hb55 (Cel.below HX4.out hb5 HX4.out.lt).lt
  have con := same14 W5 T A3 A5 V3 V5 c3 c5 d3 d5 us us5 (cmV r) ((HK4.out.below hT4 hb5).below hT5 hb55) (hk5.below hT5 hb55) (by rw [HU3.out, hu5]) (show Nms W5 V3 (cmV r) from Cr.below (Cr.below HN4.out hb5) hb55) (show Nms W5 V5 (cmV r) from Cr.below hn5 hb55) (len_of HU3.out HFW.out.1) HFW.out.2.1 (fun v hv => HFW.out.2.2 v.s (mem_of HU3.out hv)) (Nat.le_trans hTw hbw5.size) bm
  rw [← HXL.out, ← HVL.out] at con
  have x0 := hx5'.cell 0
  have x1 := hx5'.cell 1
  have x2 := hx5'.cell 2
  rw [hW5] at x0 x1 x2 con
  have HBW5 := Lib.hid hbw5
  clear hb5 hk5 hu5 hn5 hx5 hb55 hy5 hb5w hbw5 hx5' HK4 HN4 HX4 HBW4
  go_wp2_with fail
  rw [← hW5] at con ⊢
  refine con.mono ?_
  clear con x0 x1 x2 hW5
  rintro e w6 ⟨rfl, hb6⟩
  have HBW6 := Lib.hid (HBW5.out.trans (hb6.mono HBW5.out.size))
  have con := knows14 w6
  clear hb6
  go_wp2_with fail
  refine con.mono ?_
  clear con
  rintro e w7 ⟨rfl, hb7⟩
  have HBW7 := Lib.hid (HBW6.out.trans (hb7.mono HBW6.out.size))
  clear hb7
  go_wp2_with fail
  go_ret
  exact ⟨rfl, HBW7.out⟩
end Go.Proofs.YteohlpmojfjjdaaGreat.Chk
end
