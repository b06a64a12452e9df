/-
Texts: BookParseW BookParse LexAs VarsRef
-/
import Derived.Test.YteohlpmojfjjdaaGreatR0
import Derived.Test.YteohlpmojfjjdaaGreatR1
import Derived.Test.YteohlpmojfjjdaaGreatR2
import Derived.Test.YteohlpmojfjjdaaGreatR4
import Derived.Test.YteohlpmojfjjdaaGreatR6
import Derived.Test.YteohlpmojfjjdaaGreatR7
import Derived.Test.YteohlpmojfjjdaaGreatR8
import Derived.Test.YteohlpmojfjjdaaGreatR9
import Derived.Test.YteohlpmojfjjdaaGreatR11
import Derived.Test.YteohlpmojfjjdaaGreatR12
set_option linter.unusedVariables false
set_option linter.unusedSimpArgs false
set_option maxRecDepth 100000
set_option maxHeartbeats 4000000
section
namespace Go.Proofs.YteohlpmojfjjdaaGreat.Book
open Go.RowKit
open Lex (Tok Tk B cut Tv Ttk Tx Rtk tflat lbelow_drew b_ne CtSays results_at3)
theorem infoStp : (Tryz.prog.info? 67).map (fun i => (i.zero, i.size, i.bytes)) = some (some (.agg #[.int .i64 0, .string ⟨#[]⟩, .int .i64 0, .bool false, .slice none 0 0, .slice none 0 0, .int .i64 0, .int .i64 0, .string ⟨#[]⟩]), 9, 120) := by kernel_rfl
theorem rowStp : ElemRow Tryz.prog 36 67 9 120 := ElemRow.mk' Tryz.underlying36 infoStp rfl (by decide)
theorem load_book {w : World} {g : Nat} {x0 x1 : Value} (h : Cel w g 38 [x0, x1]) : (loadVar 38 ⟨g, 0, none⟩).run Tryz.prog w = .ok (.agg #[x0, x1]) w :=
 run_loadVar_mid (P := Tryz.prog) w g 0 38 [x0, x1] _ (fun j v hv => by rw [Nat.zero_add, h.cell j, hv]) Tryz.underlying38 rfl (by kernel_rfl)
def Parts (w : World) (B : Nat) (v : Bv) : Prop := Tc w B v.A4 v.c4 v.s.send ∧ Ry 70 w v.A5 (aflat v.avs) ∧ v.avs.map (·.a) = v.s.arms ∧ ∀ u ∈ v.avs, Tx w B u.A u.a.pat
theorem Parts.below {w w' : World} {B : Nat} {v : Bv} (h : Parts w B v) (hB : B ≤ w.heap.size) (hb : Below w.heap.size w w') : Parts w' B v :=
 ⟨h.1.below hB hb, h.2.1.below hb, h.2.2.1, fun u hu => (h.2.2.2 u hu).below hB hb⟩
theorem Parts.frm {w w' : World} {B : Nat} {v : Bv} {l : List Nat} (h : Parts w B v) (hf : Frm l w w') (hl : ∀ k ∈ l, B ≤ k ∧ (∀ cs fz, w.heap[k]? ≠ some (Obj.cells cs 5 fz)) ∧ ∀ cs fz, w.heap[k]? ≠ some (Obj.cells cs 70 fz)) : Parts w' B v :=
 ⟨Tc.frm h.1 hf fun k hk => ⟨(hl k hk).1, (hl k hk).2.1⟩, h.2.1.frm hf fun k hk => (hl k hk).2.2, h.2.2.1, fun u hu => Tx.frm (h.2.2.2 u hu) hf fun k hk => ⟨(hl k hk).1, (hl k hk).2.1⟩⟩
theorem Ttk.frm {w w' : World} {B : Nat} {A : Option Addr} {vs : List Tv} {l : List Nat} (h : Ttk w B A vs) (hf : Frm l w w') (hl : ∀ k ∈ l, B ≤ k ∧ (∀ cs fz, w.heap[k]? ≠ some (Obj.cells cs 5 fz)) ∧ ∀ cs fz, w.heap[k]? ≠ some (Obj.cells cs 109 fz)) : Ttk w' B A vs :=
 ⟨h.ry.frm hf fun k hk => (hl k hk).2.2, fun v hv => Tx.frm (h.tx v hv) hf fun k hk => ⟨(hl k hk).1, (hl k hk).2.1⟩⟩
structure Bks (w : World) (B : Nat) (A : Option Addr) (vs : List Bv) : Prop where
 ry : Ry 67 w A (s9flat vs)
 parts : ∀ v ∈ vs, Parts w B v
structure Bx (w W : World) (B g : Nat) (most : Int) (A : Option Addr) (c : Nat) (vs : List Bv) : Prop where
 res : Cel W w.heap.size 38 [.int .i64 0, .slice none 0 0]
 x : Cel W g 38 [.int .i64 most, .slice A vs.length c]
 bel : Below w.heap.size w W
 own : W.ownsRow w.heap.size 67 9 (.slice A vs.length c) vs.length (s9flat vs)
 parts : ∀ v ∈ vs, Parts W B v
 gg : w.heap.size < g
section
variable {w W W' : World} {B g : Nat} {most : Int} {A A' : Option Addr} {c c' : Nat} {vs : List Bv} {v : Bv}
theorem Bx.below (h : Bx w W B g most A c vs) (hB : B ≤ w.heap.size) (hb : Below W.heap.size W W') : Bx w W' B g most A c vs :=
 ⟨(hb.block _ h.res.lt).trans h.res, (hb.block _ h.x.lt).trans h.x, h.bel.trans (hb.mono h.bel.size), own_frm (l := []) h.own (Frm.of_below hb) (by simp), fun v hv => (h.parts v hv).below (Nat.le_trans hB h.bel.size) hb, h.gg⟩
theorem Bx.put (h : Bx w W B g most A c vs) (hB : B ≤ w.heap.size) (z : Int) : Bx w (W.setCell ⟨g, 0, none⟩ (.int .i64 z)) B g z A c vs ∧ ∀ {A0 : Option Addr} {ts : List Tv}, Ttk W B A0 ts → Ttk (W.setCell ⟨g, 0, none⟩ (.int .i64 z)) B A0 ts := by
 have hf : Frm [g] W (W.setCell ⟨g, 0, none⟩ (.int .i64 z)) := (Frm.refl _ W).set (by simp) _
 have hgg := h.gg
 refine ⟨⟨(hf.block _ h.res.lt (by simp; omega)).trans h.res, h.x.set 0 _, h.bel.trans (hf.below h.bel.size (by intro q hq; simp at hq; omega)), own_frm h.own hf fun k hk => by rw [List.mem_singleton.1 hk]; exact own_ty_ne h.own h.x (by decide), fun v hv => (h.parts v hv).frm hf fun k hk => ?_, h.gg⟩, fun ht => Ttk.frm ht hf fun k hk => ?_⟩
 all_goals
  rw [List.mem_singleton.1 hk]
  exact ⟨by omega, Cel.not_ty h.x (by decide), Cel.not_ty h.x (by decide)⟩
theorem Bx.turned (h : Bx w W B g most A c vs) (hB : B ≤ w.heap.size) {cs : List Value} {n' : Nat} (hg : W.grownBy W' (Value.slice A vs.length c).ownBlock) (ho : W'.ownsRow w.heap.size 67 9 (.slice A' n' c') n' cs) :
  Cel W' g 38 [.int .i64 most, .slice A vs.length c] ∧ Cel W' w.heap.size 38 [.int .i64 0, .slice none 0 0] ∧ (∀ {v : Bv}, Parts W B v → Parts (W'.setCell ⟨g, 1, none⟩ (.slice A' n' c')) B v) ∧ Below w.heap.size w (W'.setCell ⟨g, 1, none⟩ (.slice A' n' c')) ∧
  (W'.setCell ⟨g, 1, none⟩ (.slice A' n' c')).ownsRow w.heap.size 67 9 (.slice A' n' c') n' cs ∧ Cel (W'.setCell ⟨g, 1, none⟩ (.slice A' n' c')) w.heap.size 38 [.int .i64 0, .slice none 0 0] ∧ ∀ {A0 : Option Addr} {ts : List Tv}, Ttk W B A0 ts → Ttk (W'.setCell ⟨g, 1, none⟩ (.slice A' n' c')) B A0 ts := by
 have hgg := h.gg
 have hf1 : Frm (Value.slice A vs.length c).ownBlock.toList W W' := (Frm.refl _ _).grown hg (fun k e _ => by rw [e]; simp)
 have hf2 : Frm [g] W' (W'.setCell ⟨g, 1, none⟩ (.slice A' n' c')) := (Frm.refl _ W').set (by simp) _
 have hx : Cel W' g 38 [.int .i64 most, .slice A vs.length c] := Cel.grown h.x hg (own_ty_ne h.own h.x (by decide))
 have hr : Cel W' w.heap.size 38 [.int .i64 0, .slice none 0 0] := Cel.grown h.res hg (own_ty_ne h.own h.res (by decide))
 have hb1 : Below w.heap.size W W' := hf1.below h.bel.size fun k hk => own_ge h.own k (by simpa using hk)
 refine ⟨hx, hr, fun hp => (hp.frm hf1 fun k hk => ?_).frm hf2 fun k hk => ?_, (h.bel.trans hb1).trans (hf2.below (Nat.le_trans h.bel.size hg.size) (by intro q hq; simp at hq; omega)), own_frm ho hf2 fun k hk => by rw [List.mem_singleton.1 hk]; exact own_ty_ne ho hx (by decide), (hf2.block _ hr.lt (by simp; omega)).trans hr, fun ht => Ttk.frm (Ttk.frm ht hf1 fun k hk => ?_) hf2 fun k hk => ?_⟩
 ·have e : (Value.slice A vs.length c).ownBlock = some k := by simpa using hk
  exact ⟨Nat.le_trans hB (own_ge h.own k e), fun cs fz => not_bytes h.own (by decide) k cs fz e, fun cs fz => own_not_ty h.own (by decide) k cs fz e⟩
 ·rw [List.mem_singleton.1 hk]
  exact ⟨by omega, Cel.not_ty hx (by decide), Cel.not_ty hx (by decide)⟩
 ·have e : (Value.slice A vs.length c).ownBlock = some k := by simpa using hk
  exact ⟨Nat.le_trans hB (own_ge h.own k e), fun cs fz => not_bytes h.own (by decide) k cs fz e, fun cs fz => own_not_ty h.own (by decide) k cs fz e⟩
 ·rw [List.mem_singleton.1 hk]
  exact ⟨by omega, Cel.not_ty hx (by decide), Cel.not_ty hx (by decide)⟩
theorem Bx.step (h : Bx w W B g most A c vs) (hB : B ≤ w.heap.size) (hv : Parts W B v) (hg : W.grownBy W' (Value.slice A vs.length c).ownBlock) (ho : W'.ownsRow w.heap.size 67 9 (.slice A' (vs.length + 1) c') (vs.length + 1) (s9flat vs ++ v.cells)) :
  Bx w (W'.setCell ⟨g, 1, none⟩ (.slice A' (vs.length + 1) c')) B g most A' c' (vs ++ [v]) := by
 obtain ⟨h1, h2, h3, h4, h5, h6, _⟩ := h.turned hB hg ho
 have hlen : (vs ++ [v]).length = vs.length + 1 := by simp
 refine ⟨h6, ?_, h4, ?_, fun u hu => ?_, h.gg⟩
 ·rw [hlen]; exact h1.set 1 _
 ·rw [hlen, s9flat_app]
  rw [show s9flat [v] = v.cells by simp [s9flat]]
  exact h5
 ·rcases List.mem_append.1 hu with hu | hu
  ·exact h3 (h.parts u hu)
  ·rw [List.mem_singleton.1 hu]; exact h3 hv
theorem Bx.out {a b : Value} (h : Bx w W B g most A c vs) (hB : B ≤ w.heap.size) : Cel ((W.setCell ⟨w.heap.size, 0, none⟩ a).setCell ⟨w.heap.size, 1, none⟩ b) w.heap.size 38 [a, b] ∧ Below w.heap.size w ((W.setCell ⟨w.heap.size, 0, none⟩ a).setCell ⟨w.heap.size, 1, none⟩ b) ∧ Bks ((W.setCell ⟨w.heap.size, 0, none⟩ a).setCell ⟨w.heap.size, 1, none⟩ b) B A vs := by
 have hf : Frm [w.heap.size] W ((W.setCell ⟨w.heap.size, 0, none⟩ a).setCell ⟨w.heap.size, 1, none⟩ b) := ((Frm.refl _ W).set (p := ⟨w.heap.size, 0, none⟩) (by simp) a).set (p := ⟨w.heap.size, 1, none⟩) (by simp) b
 refine ⟨(h.res.set 0 a).set 1 b, h.bel.trans (hf.below h.bel.size (by intro q hq; simp at hq; omega)), (Ry.of_own h.own (by decide)).frm hf fun k hk => ?_, fun v hv => (h.parts v hv).frm hf fun k hk => ?_⟩
 ·rw [List.mem_singleton.1 hk]; exact Cel.not_ty h.res (by decide)
 ·rw [List.mem_singleton.1 hk]
  exact ⟨hB, Cel.not_ty h.res (by decide), Cel.not_ty h.res (by decide)⟩
end
structure Bz (w W : World) : Prop where
 res : Cel W w.heap.size 38 [.int .i64 0, .slice none 0 0]
 bel : Below w.heap.size w W
theorem Bz.out {w W : World} (h : Bz w W) : Cel ((W.setCell ⟨w.heap.size, 0, none⟩ (.int .i64 0)).setCell ⟨w.heap.size, 1, none⟩ (.slice none 0 0)) w.heap.size 38 [.int .i64 0, .slice none 0 0] ∧ Below w.heap.size w ((W.setCell ⟨w.heap.size, 0, none⟩ (.int .i64 0)).setCell ⟨w.heap.size, 1, none⟩ (.slice none 0 0)) := by
 have hf : Frm [w.heap.size] W ((W.setCell ⟨w.heap.size, 0, none⟩ (.int .i64 0)).setCell ⟨w.heap.size, 1, none⟩ (.slice none 0 0)) := ((Frm.refl _ W).set (p := ⟨w.heap.size, 0, none⟩) (by simp) _).set (p := ⟨w.heap.size, 1, none⟩) (by simp) _
 exact ⟨(h.res.set 0 _).set 1 _, h.bel.trans (hf.below h.bel.size (by intro q hq; simp at hq; omega))⟩
theorem Bz.toks {w W : World} {B : Nat} {A : Option Addr} {vs : List Tv} (h : Bz w W) (hB : B ≤ w.heap.size) (ht : Ttk W B A vs) (a b : Value) : Ttk ((W.setCell ⟨w.heap.size, 0, none⟩ a).setCell ⟨w.heap.size, 1, none⟩ b) B A vs := by
 have hf : Frm [w.heap.size] W ((W.setCell ⟨w.heap.size, 0, none⟩ a).setCell ⟨w.heap.size, 1, none⟩ b) := ((Frm.refl _ W).set (p := ⟨w.heap.size, 0, none⟩) (by simp) a).set (p := ⟨w.heap.size, 1, none⟩) (by simp) b
 refine Ttk.frm ht hf fun k hk => ?_
 rw [List.mem_singleton.1 hk]
 exact ⟨hB, Cel.not_ty h.res (by decide), Cel.not_ty h.res (by decide)⟩
def PrSays (w : World) (B : Nat) (r : Except (Nat × Nat) Book) (e : Ending) (w' : World) : Prop := Below w.heap.size w w' ∧ match r with
 | .error (p, bad) => bad ≠ 0 ∧ e = .returned (.tuple #[.agg #[.int .i64 0, .slice none 0 0], .int .i64 (p : Int), .int .i64 (bad : Int)])
 | .ok b => ∃ A' c' vs, e = .returned (.tuple #[.agg #[.int .i64 b.most, .slice A' b.steps.length c'], .int .i64 0, .int .i64 0]) ∧ Bks w' B A' vs ∧ vs.map (·.s) = b.steps
theorem bookR_no {l : T} (h : wd wMost l = false) : bookR l = asBook 100 (stepsR (l.length + 1) l) := by
 cases l with
 | nil => rfl
 | cons x m =>
  unfold bookR
  dsimp only
  rw [if_neg (by simp [h])]
  cases stepsR ((x :: m).length + 1) (x :: m) <;> rfl
theorem bookR_bad {x : Tok} {m : T} (h : wd wMost (x :: m) = true) (h2 : kd 2 m = false) : bookR (x :: m) = .error m := by
 unfold bookR
 dsimp only
 rw [if_pos h]
 cases m with
 | nil => rfl
 | cons y m => dsimp only; rw [if_neg (by simp [h2])]
theorem bookR_most {x y : Tok} {m : T} (h : wd wMost (x :: y :: m) = true) (h2 : kd 2 (y :: m) = true) : bookR (x :: y :: m) = asBook y.t.n (stepsR (m.length + 1) m) := by
 unfold bookR
 dsimp only
 rw [if_pos h, if_pos h2]
 cases stepsR (m.length + 1) m <;> rfl
end Go.Proofs.YteohlpmojfjjdaaGreat.Book
end
section
namespace Go.Proofs.YteohlpmojfjjdaaGreat.Book
open Go.RowKit Go.Proofs.YteohlpmojfjjdaaGreat.Ord
open Lex (Tok Tk B cut Tv Ttk Tx Rtk tflat lbelow_drew b_ne CtSays results_at3 cut_)
def StP (p : Addr) (va : Nat) (V : World) : Prop := V.cell? p = some (.int .i64 (va : Int))
def vB (v : Value) : Nat → Nat := fun m => match v with
 | .bool true => m
 | _ => 0
theorem parse_ (w : World) (B : Nat) (A : Option Addr) (n c : Nat) (s : List (BitVec 8)) (hs : Bs w B A n s) (hB : B ≤ w.heap.size) (hn : n ≤ 100000) (hcap : n ≤ c) :
  Calls Tryz.prog 24 #[.slice A n c] w (PrSays w B (bookOf s)) := by
 have hsl := hs.len
 obtain ⟨w1, hw1⟩ : ∃ w1, w1 = w.alloc (.cells #[.int .i64 0, .slice none 0 0] 38) := ⟨_, rfl⟩
 have hb1 : Below w.heap.size w w1 := by rw [hw1]; exact (Below.refl _ _).alloc (Nat.le_refl _) _
 have BZ1 := Lib.hid (show Bz w w1 by refine ⟨?_, hb1⟩; rw [hw1]; exact Cel.new w _ [.int .i64 0, .slice none 0 0])
 have con := cut_ w1 B A n c s (hs.below (hb1.mono hB)) (Nat.le_trans hB hb1.size) hn hcap
 have HSL := Lib.hid hsl
 clear hs hsl hb1
 go_enter Tryz.func24, Tryz.ntmps24
 go_wp2_with fail
 rw [← hw1]
 clear hw1
 refine con.mono ?_
 clear con
 rintro e w2 ⟨hb2, hr⟩
 have BZ2 := Lib.hid (show Bz w w2 from ⟨(hb2.block _ BZ1.out.res.lt).trans BZ1.out.res, BZ1.out.bel.trans (hb2.mono BZ1.out.bel.size)⟩)
 cases hcut : cut s with
 | error pb =>
  obtain ⟨p, bad⟩ := pb
  rw [hcut] at hr
  obtain ⟨hbad, rfl⟩ := hr
  have hbi : ((bad : Int) == 0) = false := by simp; omega
  have HE := Lib.hid (show bookOf s = .error (p, bad) by unfold bookOf; rw [hcut])
  have HBAD := Lib.hid hbad
  have r0 := BZ2.out.res.cell 0
  have r1 := BZ2.out.res.cell 1
  have l0 := BZ2.out.res.free 0
  have l1 := BZ2.out.res.free 1
  have HO := Lib.hid BZ2.out.out
  clear hcut hb2 hbad
  go_wp2_with fail
  refine bodyPost_ret (v := .tuple #[.agg #[.int .i64 0, .slice none 0 0], .int .i64 (p : Int), .int .i64 (bad : Int)]) (results_at3 2 38 3 4 Tryz.results24 ⟨w.heap.size, 0, none⟩ rfl _ _ _ rfl rfl (load_book HO.out.1)) rfl ?_
  refine ⟨HO.out.2, ?_⟩
  rw [HE.out]
  exact ⟨HBAD.out, rfl⟩
 | ok ts =>
  rw [hcut] at hr
  obtain ⟨At, nt, ct, vs, rfl, hrt, hvs, hcps⟩ := hr
  have HCPS := Lib.hid hcps
  clear hcps
  have HT := Lib.hid hrt.ttk
  have HTL := Lib.hid hrt.len
  have htk : toks vs = ts := hvs
  have HBO := Lib.hid (show bookOf s = asText n (bookR (toks vs)) by rw [htk, ← HSL.out]; exact bookOf_cut hcut)
  have hn2 : nt ≤ 2000 := by
   have h1 := cut_few hcut
   rw [← hrt.len, ← List.length_map (f := (·.t)), hvs]
   exact h1
  clear hrt hvs htk hcut hb2
  obtain ⟨g, hg⟩ : ∃ g, g = w2.heap.size := ⟨_, rfl⟩
  obtain ⟨w3, hw3⟩ : ∃ w3, w3 = w2.alloc (.cells #[.int .i64 100, .slice none 0 0] 38) := ⟨_, rfl⟩
  have hb3 : Below w2.heap.size w2 w3 := by rw [hw3]; exact (Below.refl _ _).alloc (Nat.le_refl _) _
  have HT3 := Lib.hid (HT.out.below (Nat.le_trans hB BZ2.out.bel.size) hb3)
  have BX3 := Lib.hid (show Bx w w3 B g 100 none 0 [] from ⟨(hb3.block _ BZ2.out.res.lt).trans BZ2.out.res, by rw [hw3, hg]; exact Cel.new w2 _ [.int .i64 100, .slice none 0 0], BZ2.out.bel.trans (hb3.mono BZ2.out.bel.size), World.ownsRow_nil _ _ _ _, by simp, by rw [hg]; exact BZ2.out.res.lt⟩)
  have HG := Lib.hid hg
  obtain ⟨R, hR⟩ : ∃ R, R = bookR (toks vs) := ⟨_, rfl⟩
  have HR := Lib.hid hR
  rw [← hR] at HBO
  have hBw3 : B ≤ w3.heap.size := Nat.le_trans hB BX3.out.bel.size
  obtain ⟨b1, hb1⟩ : ∃ b1, b1 = wd wMost ((toks vs).drop 0) := ⟨_, rfl⟩
  have con := is_ w3 B At nt ct vs HT3.out hBw3 HTL.out (by omega) 0 (by omega) wMost
  rw [← hb1] at con
  rw [show str wMost = ByteArray.mk #[109, 111, 115, 116] from rfl, show ((0 : Nat) : Int) = 0 from rfl] at con
  have Hb1 := Lib.hid hb1
  clear hb1 hb3 hg hR HT
  go_wp2_with fail
  rw [← hw3, ← HG.out]
  clear hw3
  refine con.mono ?_
  clear con
  rintro e w4 ⟨rfl, hb4⟩
  have BX4 := Lib.hid (BX3.out.below hB hb4)
  have HT4 := Lib.hid (HT3.out.below hBw3 hb4)
  have hBw4 : B ≤ w4.heap.size := Nat.le_trans hB BX4.out.bel.size
  clear hb4
  go_upto_if 27 with fail
  go_cut [9, 10] from 28 to 36 (fun s9 s10 wx => ∃ q : Nat, s9 = .int .i64 (q : Int) ∧ q ≤ nt ∧ Ttk wx B At vs ∧ ((s10 = .bool true ∧ ∃ (most : Int) (A' : Option Addr) (c' : Nat) (us : List Bv), Bx w wx B g most A' c' us ∧ us.length ≤ q ∧ Hid (R = asBook most (sadd (us.map (·.s)) (stepsR (nt + 1) ((toks vs).drop q))))) ∨ (s10 = .bool false ∧ Bz w wx ∧ Hid (R = .error ((toks vs).drop q)))))
  case first =>
   cases b1
   ·have HK := Lib.hid (show R = asBook 100 (sadd [] (stepsR (nt + 1) ((toks vs).drop 0))) by
     have hb := Hb1.out
     rw [List.drop_zero] at hb
     rw [sadd_nil, List.drop_zero, HR.out, bookR_no hb.symm]
     rw [show (toks vs).length = nt by unfold toks; rw [List.length_map]; exact HTL.out])
    go_wp2_with fail
    go_meet
    case rel => exact ⟨0, rfl, Nat.zero_le _, HT4.out, .inl ⟨rfl, 100, none, 0, [], BX4.out, Nat.zero_le _, HK⟩⟩
   ·obtain ⟨v0, hv0⟩ := there (c := wd wMost) rfl (Hb1.out.symm)
    have Lv0 := (List.getElem?_eq_some_iff.1 hv0).1
    rw [HTL.out] at Lv0
    have HD0 := Lib.hid (toks_drop hv0)
    obtain ⟨b2, hb2⟩ : ∃ b2, b2 = kd 2 ((toks vs).drop 1) := ⟨_, rfl⟩
    have con := kind_ w4 B At nt ct vs HT4.out HTL.out (by omega) 1 (by omega) 2
    rw [← hb2] at con
    rw [show ((1 : Nat) : Int) = 1 from rfl] at con
    have Hb2 := Lib.hid hb2
    clear hb2 hv0
    go_wp2_with fail
    refine con.mono ?_
    rintro e w' ⟨rfl, rfl⟩
    clear con
    have hd0 : toks vs = v0.t :: (toks vs).drop 1 := by have := HD0.out; rwa [List.drop_zero] at this
    have hw0 : wd wMost (v0.t :: (toks vs).drop 1) = true := by rw [← hd0]; have := Hb1.out; rw [List.drop_zero] at this; exact this.symm
    cases b2
    ·have HE := Lib.hid (show R = .error ((toks vs).drop 1) by rw [HR.out, hd0]; exact bookR_bad hw0 Hb2.out.symm)
     have BZ := Lib.hid (show Bz w w4 from ⟨BX4.out.res, BX4.out.bel⟩)
     clear hd0 hw0
     go_wp2_with fail
     go_meet
     case rel => exact ⟨1, rfl, by omega, HT4.out, .inr ⟨rfl, BZ.out, HE⟩⟩
    ·obtain ⟨v1, hv1⟩ := there (c := kd 2) rfl (Hb2.out.symm)
     have Lv1 := (List.getElem?_eq_some_iff.1 hv1).1
     rw [HTL.out] at Lv1
     have hd1 := toks_drop hv1
     have HK := Lib.hid (show R = asBook v1.t.t.n (sadd [] (stepsR (nt + 1) ((toks vs).drop 2))) by
      rw [sadd_nil, HR.out, hd0, hd1]
      rw [hd1] at hw0 Hb2
      rw [bookR_most hw0 Hb2.out.symm]
      rw [show (1 + 1 : Nat) = 2 from rfl]
      congr 1
      exact stepsR_fuel _ _ _ (by omega) (by rw [List.length_drop, show (toks vs).length = nt by unfold toks; rw [List.length_map]; exact HTL.out]; omega))
     obtain ⟨ad, rfl, _, _, j2, _⟩ := HT4.out.at_ hv1
     have j2 : w4.cell? ⟨ad.block, ad.off + 4 + 2, none⟩ = some (.int .i64 v1.t.t.n) := by
      rw [show (1 * 4 : Nat) = 4 from rfl, Lex.add_pos' ad 4 (by omega)] at j2; exact j2
     have k0' := BX4.out.x.cell 0
     have f0' := BX4.out.x.free 0
     have BX5 := Lib.hid (BX4.out.put hB v1.t.t.n).1
     have HT5 := Lib.hid ((BX4.out.put hB v1.t.t.n).2 HT4.out)
     clear hd0 hw0 hd1 hv1
     go_wp2_with fail
     go_meet
     case rel => exact ⟨2, rfl, by omega, HT5.out, .inl ⟨rfl, v1.t.t.n, none, 0, [], BX5.out, Nat.zero_le _, HK⟩⟩
  case rest =>
   obtain ⟨q0, rfl, hq0, ht5, hcase⟩ := hcut
   obtain ⟨W5, hW5⟩ : ∃ W5, W5 = wc := ⟨_, rfl⟩
   rw [← hW5] at hcase ht5 ⊢
   clear hW5
   have HT5 := Lib.hid ht5
   have HCASE := Lib.hid hcase
   clear ht5 hcase HT3 HT4 BX3 BX4 BZ1 BZ2 HG HR
   have HTN := Lib.hid (show (toks vs).length = nt by unfold toks; rw [List.length_map]; exact HTL.out)
   go_wp2_with fail
   go_loopw [9, 10] (fun v9 v10 wr => ∃ q : Nat, v9 = .int .i64 (q : Int) ∧ q ≤ nt ∧ Ttk wr B At vs ∧ ((v10 = .bool true ∧ ∃ (most : Int) (A' : Option Addr) (c' : Nat) (us : List Bv), Bx w wr B g most A' c' us ∧ us.length ≤ q ∧ Hid (R = asBook most (sadd (us.map (·.s)) (stepsR (nt + 1) ((toks vs).drop q))))) ∨ (v10 = .bool false ∧ Bz w wr ∧ Hid (R = .error ((toks vs).drop q))))) (fun v9 v10 _ => vB v10 (nt + 1 - (intOf v9).toNat))
   case atStart => exact ⟨q0, rfl, hq0, HT5.out, HCASE.out⟩
   case round =>
    clear HCASE HT5
    obtain ⟨q, rfl, hq, ht, hcase⟩ := hrel
    obtain ⟨W6, hW6⟩ : ∃ W6, W6 = wr := ⟨_, rfl⟩
    rw [← hW6] at hcase ht ⊢
    clear hW6
    have HT6 := Lib.hid ht
    clear ht
    rcases hcase with ⟨rfl, most, A', c', us, hbx, hul, HK⟩ | ⟨rfl, hbz, HE⟩
    ·have BX6 := Lib.hid hbx
     clear hbx
     have hB6 : B ≤ W6.heap.size := Nat.le_trans hB BX6.out.bel.size
     obtain ⟨b6, hb6⟩ : ∃ b6, b6 = wd wStep ((toks vs).drop q) := ⟨_, rfl⟩
     have con := is_ W6 B At nt ct vs HT6.out hB6 HTL.out (by omega) q (by omega) wStep
     rw [← hb6] at con
     rw [show str wStep = ByteArray.mk #[115, 116, 101, 112] from rfl] at con
     have Hb6 := Lib.hid hb6
     clear hb6
     go_wp2_with fail
     refine con.mono ?_
     clear con
     rintro e w7 ⟨rfl, hb7⟩
     have BX7 := Lib.hid (BX6.out.below hB hb7)
     have HT7 := Lib.hid (HT6.out.below hB6 hb7)
     have hB7 : B ≤ w7.heap.size := Nat.le_trans hB BX7.out.bel.size
     clear hb7
     cases b6
     ·rcases Nat.lt_or_ge q nt with hlt | hge
      ·obtain ⟨v, hv⟩ : ∃ v, vs[q]? = some v := ⟨_, List.getElem?_eq_getElem (by rw [HTL.out]; exact hlt)⟩
       have HE := Lib.hid (show R = .error ((toks vs).drop q) by
        have hb := Hb6.out
        rw [toks_drop hv] at hb
        rw [HK.out, toks_drop hv, stepsR_no hb.symm]; rfl)
       have BZ7 := Lib.hid (show Bz w w7 from ⟨BX7.out.res, BX7.out.bel⟩)
       obtain ⟨⟨⟨vk, vn, vt⟩, va⟩, vA, vc⟩ := v
       have HE2 := Lib.hid (show PrSays w B (bookOf s) = PrSays w B (.error (va, 2)) by rw [HBO.out, HE.out, toks_drop hv]; rfl)
       obtain ⟨ad, rfl, _, j1, _, _⟩ := HT7.out.at_ hv
       obtain ⟨ad2, had, _, j1', _, _⟩ := (BZ7.out.toks hB HT7.out (.int .i64 0) (.slice none 0 0)).at_ hv
       cases had
       have HJ := Lib.hid j1'
       have HJ0 := Lib.hid j1
       have r0 := BZ7.out.res.cell 0
       have r1 := BZ7.out.res.cell 1
       have l0 := BZ7.out.res.free 0
       have l1 := BZ7.out.res.free 1
       have HO := Lib.hid BZ7.out.out
       clear hv j1'
       go_wp2_with fail
       refine wp_region_N [7] (StP ⟨(ad.add (q * 4)).block, (ad.add (q * 4)).off + 1, none⟩ va) (by kernel_rfl) ?_
       have hH : StP ⟨(ad.add (q * 4)).block, (ad.add (q * 4)).off + 1, none⟩ va w7.drew := HJ0.out
       refine tk_ 0 (.agg #[.int .i64 0, .slice none 0 0]) [7] rfl hH ?_ ?_
       ·intro V hV; go_simp
       try simp only [Act.put, lay_]
       refine tk_ 1 (.slice (some ad) nt ct) [7] rfl hH ?_ ?_
       ·intro V hV; go_simp
       try simp only [Act.put, lay_]
       refine tk_ 2 (.int .i64 (q : Int)) [7] rfl hH ?_ ?_
       ·intro V hV; go_simp
       try simp only [Act.put, lay_]
       refine tk_ 3 (.pointer (some (ad.add (q * 4)))) [7] rfl hH ?_ ?_
       ·intro V hV; go_simp
       try simp only [Act.put, lay_]
       refine tk_ 4 (.pointer (some ⟨(ad.add (q * 4)).block, (ad.add (q * 4)).off + 1, none⟩)) [7] rfl hH ?_ ?_
       ·intro V hV; go_simp
       try simp only [Act.put, lay_]
       refine tk_ 5 (.int .i64 (va : Int)) [7] rfl hH ?_ ?_
       ·intro V hV; unfold StP at hV; go_simp
       try simp only [Act.put, lay_]
       refine wpAnyN_one (i := 6) (by kernel_rfl) rfl (fun K hK => ?_)
       go_simp
       refine hK.out _ _ (.inr HJ.out) ?_
       clear hK K
       try simp only [Act.put, lay_]
       refine wpAnyN_one (i := 7) (by kernel_rfl) rfl (fun K hK => ?_)
       go_simp
       refine hK.out _ _ (.inl (by decide)) ?_
       clear hK K
       try simp only [Act.put, lay_]
       refine wpAnyN_one (i := 8) (by kernel_rfl) rfl (fun K hK => ?_)
       go_simp
       refine hK.out _ _ (.inr HJ.out) ?_
       clear hK K
       try simp only [Act.put, lay_]
       refine wpAnyN_done (by kernel_rfl) ?_ _
       go_wp2_with fail
       refine bodyPost_ret (v := .tuple #[.agg #[.int .i64 0, .slice none 0 0], .int .i64 (va : Int), .int .i64 2]) (results_at3 2 38 3 4 Tryz.results24 ⟨w.heap.size, 0, none⟩ rfl _ _ _ rfl rfl (load_book HO.out.1)) rfl ?_
       rw [HE2.out]
       exact ⟨HO.out.2.drew, by decide, rfl⟩
      ·obtain rfl : q = nt := by omega
       have HE := Lib.hid (show R = .ok ⟨most, us.map (·.s)⟩ by
        rw [HK.out, List.drop_eq_nil_of_le (by rw [HTN.out]; exact Nat.le_refl _), stepsR_nil]
        simp [sadd, asBook])
       have k0 := BX7.out.x.cell 0
       have k1 := BX7.out.x.cell 1
       have r0 := BX7.out.res.cell 0
       have r1 := BX7.out.res.cell 1
       have l0 := BX7.out.res.free 0
       have l1 := BX7.out.res.free 1
       have HO := Lib.hid (BX7.out.out (a := .int .i64 most) (b := .slice A' us.length c') hB)
       go_wp2_with fail
       refine bodyPost_ret (v := .tuple #[.agg #[.int .i64 most, .slice A' us.length c'], .int .i64 0, .int .i64 0]) (results_at3 2 38 3 4 Tryz.results24 ⟨w.heap.size, 0, none⟩ rfl _ _ _ rfl rfl (load_book HO.out.1)) rfl ?_
       refine ⟨HO.out.2.1, ?_⟩
       rw [HBO.out, HE.out]
       exact ⟨A', c', us, by simp, HO.out.2.2, rfl⟩
     ·obtain ⟨v, hv⟩ := there (c := wd wStep) rfl (Hb6.out.symm)
      have Lv := (List.getElem?_eq_some_iff.1 hv).1
      rw [HTL.out] at Lv
      have con := step_ w7 B At nt ct vs HT7.out HCPS.out hB7 HTL.out (by omega) q v hv
      have HD := Lib.hid (toks_drop hv)
      have HW := Lib.hid (show wd wStep (v.t :: (toks vs).drop (q + 1)) = true by rw [← HD.out]; exact Hb6.out.symm)
      clear hv
      go_wp2_with fail
      refine con.mono ?_
      clear con
      intro e w9 hsp
      cases hs : stepR 2001 v.t.at_ ((toks vs).drop (q + 1)) with
      | error m =>
       rw [hs] at hsp
       obtain ⟨hb9, a0, nm, tg, sd, A4, n4, c4, A5, n5, c5, t, y, l, q9, rfl, hq9, hd9⟩ := hsp
       have HE := Lib.hid (show R = .error ((toks vs).drop q9) by rw [HK.out, HD.out, stepsR_bad HW.out hs, hd9]; rfl)
       have hb10 : Below w9.heap.size w9 ((w9.alloc (.cells #[.int .i64 a0, .string nm, .int .i64 tg, .bool sd, .slice A4 n4 c4, .slice A5 n5 c5, .int .i64 t, .int .i64 y, .string l] 67)).alloc (.cells #[.int .i64 a0, .string nm, .int .i64 tg, .bool sd, .slice A4 n4 c4, .slice A5 n5 c5, .int .i64 t, .int .i64 y, .string l] 67)) := ((Below.refl _ _).alloc (Nat.le_refl _) _).alloc (by simp) _
       have hb11 : Below w9.heap.size w9 (w9.alloc (.cells #[.int .i64 a0, .string nm, .int .i64 tg, .bool sd, .slice A4 n4 c4, .slice A5 n5 c5, .int .i64 t, .int .i64 y, .string l] 67)) := (Below.refl _ _).alloc (Nat.le_refl _) _
       have BX10 := Lib.hid ((BX7.out.below hB hb9).below hB hb10)
       have hB9 : B ≤ w9.heap.size := Nat.le_trans hB7 hb9.size
       have HT10 := Lib.hid ((HT7.out.below hB7 hb9).below hB9 hb10)
       have k1' := ((BX7.out.below hB hb9).below hB hb11).x.cell 1
       have hc3 := Cel.new (w9.alloc (.cells #[.int .i64 a0, .string nm, .int .i64 tg, .bool sd, .slice A4 n4 c4, .slice A5 n5 c5, .int .i64 t, .int .i64 y, .string l] 67)) 67 [.int .i64 a0, .string nm, .int .i64 tg, .bool sd, .slice A4 n4 c4, .slice A5 n5 c5, .int .i64 t, .int .i64 y, .string l]
       rw [show (w9.alloc (.cells #[.int .i64 a0, .string nm, .int .i64 tg, .bool sd, .slice A4 n4 c4, .slice A5 n5 c5, .int .i64 t, .int .i64 y, .string l] 67)).heap.size = w9.heap.size + 1 by simp] at hc3
       have HSRC := Lib.hid (Ry.src (m := 1) (Ry.of_cel hc3) (by simp))
       have hs10 := BX10.out.bel.size
       clear hb11 hc3 hb9 hd9
       go_wp2_with ((at_builtin; refine wpList_append_any _ rfl _ _ 36 rfl w.heap.size 67 rowStp (.slice A' us.length c') us.length (s9flat us) rfl BX10.out.own (some ⟨w9.heap.size + 1, 0, none⟩) 1 1 [.int .i64 a0, .string nm, .int .i64 tg, .bool sd, .slice A4 n4 c4, .slice A5 n5 c5, .int .i64 t, .int .i64 y, .string l] rfl rfl HSRC.out (by intro u hu; simp at hu; rcases hu with rfl | rfl | rfl | rfl | rfl | rfl | rfl | rfl | rfl <;> rfl) (us.length + 1) _ rfl rfl (by unfold maxLen; omega) (by omega) hs10 ?_; intro A8 c8 w11 ho8 hg8 _; obtain ⟨x1, x2, x3, x4, x5, x6, x7⟩ := BX10.out.turned hB hg8 ho8; have k1'' := x1.cell 1; have f1'' := x1.free 1; have HT11 := Lib.hid (x7 HT10.out); have BZ11 := Lib.hid (show Bz w _ from ⟨x6, x4⟩); clear ho8 hg8 x1 x2 x3 x4 x5 x6 x7))
       exact ⟨⟨q9, rfl, by rw [← HTL.out]; exact hq9, HT11.out, .inr ⟨rfl, BZ11.out, HE⟩⟩, by simp [vB, intOf]; omega⟩
      | ok sm =>
       obtain ⟨st, m⟩ := sm
       rw [hs] at hsp
       obtain ⟨hb9, A4, c4, A5, c5, q9, avs, rfl, hq9, hd9, p1, p2, p3, p4⟩ := hsp
       rw [show (cells9 st A4 c4 A5 c5).toArray = #[.int .i64 (st.at_ : Int), .string (str st.name), .int .i64 st.tag, .bool st.sends, .slice A4 st.send.length c4, .slice A5 st.arms.length c5, .int .i64 st.time, .int .i64 st.try_, .string (str st.els)] from rfl]
       have hless : q < q9 := by
        have h1 := les_step _ _ _ _ _ hs
        rw [← hd9, List.length_drop, List.length_drop, HTN.out] at h1
        omega
       have HK9 := Lib.hid (show R = asBook most (sadd ((us ++ [(⟨st, A4, c4, A5, c5, avs⟩ : Bv)]).map (·.s)) (stepsR (nt + 1) ((toks vs).drop q9))) by
        rw [HK.out, HD.out, stepsR_go HW.out hs, sadd_sadd, hd9, List.map_append]
        rw [stepsR_fuel nt (nt + 1) m (by rw [← hd9, List.length_drop, HTN.out]; omega) (by rw [← hd9, List.length_drop, HTN.out]; omega)]
        rfl)
       have hb10 : Below w9.heap.size w9 ((w9.alloc (.cells #[.int .i64 (st.at_ : Int), .string (str st.name), .int .i64 st.tag, .bool st.sends, .slice A4 st.send.length c4, .slice A5 st.arms.length c5, .int .i64 st.time, .int .i64 st.try_, .string (str st.els)] 67)).alloc (.cells #[.int .i64 (st.at_ : Int), .string (str st.name), .int .i64 st.tag, .bool st.sends, .slice A4 st.send.length c4, .slice A5 st.arms.length c5, .int .i64 st.time, .int .i64 st.try_, .string (str st.els)] 67)) := ((Below.refl _ _).alloc (Nat.le_refl _) _).alloc (by simp) _
       have hb11 : Below w9.heap.size w9 (w9.alloc (.cells #[.int .i64 (st.at_ : Int), .string (str st.name), .int .i64 st.tag, .bool st.sends, .slice A4 st.send.length c4, .slice A5 st.arms.length c5, .int .i64 st.time, .int .i64 st.try_, .string (str st.els)] 67)) := (Below.refl _ _).alloc (Nat.le_refl _) _
       have BX10 := Lib.hid ((BX7.out.below hB hb9).below hB hb10)
       have hB9 : B ≤ w9.heap.size := Nat.le_trans hB7 hb9.size
       have HT10 := Lib.hid ((HT7.out.below hB7 hb9).below hB9 hb10)
       have k1' := ((BX7.out.below hB hb9).below hB hb11).x.cell 1
       have hc3 := Cel.new (w9.alloc (.cells #[.int .i64 (st.at_ : Int), .string (str st.name), .int .i64 st.tag, .bool st.sends, .slice A4 st.send.length c4, .slice A5 st.arms.length c5, .int .i64 st.time, .int .i64 st.try_, .string (str st.els)] 67)) 67 [.int .i64 (st.at_ : Int), .string (str st.name), .int .i64 st.tag, .bool st.sends, .slice A4 st.send.length c4, .slice A5 st.arms.length c5, .int .i64 st.time, .int .i64 st.try_, .string (str st.els)]
       rw [show (w9.alloc (.cells #[.int .i64 (st.at_ : Int), .string (str st.name), .int .i64 st.tag, .bool st.sends, .slice A4 st.send.length c4, .slice A5 st.arms.length c5, .int .i64 st.time, .int .i64 st.try_, .string (str st.els)] 67)).heap.size = w9.heap.size + 1 by simp] at hc3
       have HSRC := Lib.hid (Ry.src (m := 1) (Ry.of_cel hc3) (by simp))
       have hs10 := BX10.out.bel.size
       have HPT := Lib.hid (show Parts _ B ⟨st, A4, c4, A5, c5, avs⟩ from Parts.below ⟨p1, p2, p3, p4⟩ hB9 hb10)
       clear p1 p2 p3 p4
       clear hb11 hc3 hb9 hd9
       go_wp2_with ((at_builtin; refine wpList_append_any _ rfl _ _ 36 rfl w.heap.size 67 rowStp (.slice A' us.length c') us.length (s9flat us) rfl BX10.out.own (some ⟨w9.heap.size + 1, 0, none⟩) 1 1 [.int .i64 (st.at_ : Int), .string (str st.name), .int .i64 st.tag, .bool st.sends, .slice A4 st.send.length c4, .slice A5 st.arms.length c5, .int .i64 st.time, .int .i64 st.try_, .string (str st.els)] rfl rfl HSRC.out (by intro u hu; simp at hu; rcases hu with rfl | rfl | rfl | rfl | rfl | rfl | rfl | rfl | rfl <;> rfl) (us.length + 1) _ rfl rfl (by unfold maxLen; omega) (by omega) hs10 ?_; intro A8 c8 w11 ho8 hg8 _; obtain ⟨x1, x2, x3, x4, x5, x6, x7⟩ := BX10.out.turned hB hg8 ho8; have k1'' := x1.cell 1; have f1'' := x1.free 1; have HT11 := Lib.hid (x7 HT10.out); have BX11 := Lib.hid (BX10.out.step hB HPT.out hg8 ho8); clear ho8 hg8 x1 x2 x3 x4 x5 x6 x7))
       exact ⟨⟨q9, rfl, by rw [← HTL.out]; exact hq9, HT11.out, .inl ⟨rfl, most, A8, c8, _, BX11.out, by simp; omega, HK9⟩⟩, by simp [vB, intOf]; omega⟩
    ·have BZ7 := Lib.hid hbz
     clear hbz
     rcases Nat.lt_or_ge q nt with hlt | hge
     ·obtain ⟨v, hv⟩ : ∃ v, vs[q]? = some v := ⟨_, List.getElem?_eq_getElem (by rw [HTL.out]; exact hlt)⟩
      have HT7 := Lib.hid HT6.out
      obtain ⟨⟨⟨vk, vn, vt⟩, va⟩, vA, vc⟩ := v
      have HE2 := Lib.hid (show PrSays w B (bookOf s) = PrSays w B (.error (va, 2)) by rw [HBO.out, HE.out, toks_drop hv]; rfl)
      obtain ⟨ad, rfl, _, j1, _, _⟩ := HT7.out.at_ hv
      obtain ⟨ad2, had, _, j1', _, _⟩ := (BZ7.out.toks hB HT7.out (.int .i64 0) (.slice none 0 0)).at_ hv
      cases had
      have HJ := Lib.hid j1'
      have HJ0 := Lib.hid j1
      have r0 := BZ7.out.res.cell 0
      have r1 := BZ7.out.res.cell 1
      have l0 := BZ7.out.res.free 0
      have l1 := BZ7.out.res.free 1
      have HO := Lib.hid BZ7.out.out
      clear hv j1'
      go_wp2_with fail
      refine wp_region_N [7] (StP ⟨(ad.add (q * 4)).block, (ad.add (q * 4)).off + 1, none⟩ va) (by kernel_rfl) ?_
      have hH : StP ⟨(ad.add (q * 4)).block, (ad.add (q * 4)).off + 1, none⟩ va W6.drew := HJ0.out
      refine tk_ 0 (.agg #[.int .i64 0, .slice none 0 0]) [7] rfl hH ?_ ?_
      ·intro V hV; go_simp
      try simp only [Act.put, lay_]
      refine tk_ 1 (.slice (some ad) nt ct) [7] rfl hH ?_ ?_
      ·intro V hV; go_simp
      try simp only [Act.put, lay_]
      refine tk_ 2 (.int .i64 (q : Int)) [7] rfl hH ?_ ?_
      ·intro V hV; go_simp
      try simp only [Act.put, lay_]
      refine tk_ 3 (.pointer (some (ad.add (q * 4)))) [7] rfl hH ?_ ?_
      ·intro V hV; go_simp
      try simp only [Act.put, lay_]
      refine tk_ 4 (.pointer (some ⟨(ad.add (q * 4)).block, (ad.add (q * 4)).off + 1, none⟩)) [7] rfl hH ?_ ?_
      ·intro V hV; go_simp
      try simp only [Act.put, lay_]
      refine tk_ 5 (.int .i64 (va : Int)) [7] rfl hH ?_ ?_
      ·intro V hV; unfold StP at hV; go_simp
      try simp only [Act.put, lay_]
      refine wpAnyN_one (i := 6) (by kernel_rfl) rfl (fun K hK => ?_)
      go_simp
      refine hK.out _ _ (.inr HJ.out) ?_
      clear hK K
      try simp only [Act.put, lay_]
      refine wpAnyN_one (i := 7) (by kernel_rfl) rfl (fun K hK => ?_)
      go_simp
      refine hK.out _ _ (.inl (by decide)) ?_
      clear hK K
      try simp only [Act.put, lay_]
      refine wpAnyN_one (i := 8) (by kernel_rfl) rfl (fun K hK => ?_)
      go_simp
      refine hK.out _ _ (.inr HJ.out) ?_
      clear hK K
      try simp only [Act.put, lay_]
      refine wpAnyN_done (by kernel_rfl) ?_ _
      go_wp2_with fail
      refine bodyPost_ret (v := .tuple #[.agg #[.int .i64 0, .slice none 0 0], .int .i64 (va : Int), .int .i64 2]) (results_at3 2 38 3 4 Tryz.results24 ⟨w.heap.size, 0, none⟩ rfl _ _ _ rfl rfl (load_book HO.out.1)) rfl ?_
      rw [HE2.out]
      exact ⟨HO.out.2.drew, by decide, rfl⟩
     ·obtain rfl : q = nt := by omega
      have HE2 := Lib.hid (show R = .error [] by rw [HE.out, List.drop_eq_nil_of_le (by rw [HTN.out]; exact Nat.le_refl _)])
      have r0 := BZ7.out.res.cell 0
      have r1 := BZ7.out.res.cell 1
      have l0 := BZ7.out.res.free 0
      have l1 := BZ7.out.res.free 1
      have HO := Lib.hid BZ7.out.out
      go_wp2_with fail
      refine bodyPost_ret (v := .tuple #[.agg #[.int .i64 0, .slice none 0 0], .int .i64 (n : Int), .int .i64 2]) (results_at3 2 38 3 4 Tryz.results24 ⟨w.heap.size, 0, none⟩ rfl _ _ _ rfl rfl (load_book HO.out.1)) rfl ?_
      refine ⟨HO.out.2, ?_⟩
      rw [HBO.out, HE2.out]
      exact ⟨by decide, rfl⟩
end Go.Proofs.YteohlpmojfjjdaaGreat.Book
end
section
namespace Go.Proofs.YteohlpmojfjjdaaGreat.Lex
open Go.RowKit Go.Proofs.YteohlpmojfjjdaaGreat.Ord
def Cr (w : World) (A : Option Addr) (cs : List Value) : Prop := cs ≠ [] → ∃ ad, A = some ad ∧ ∀ j u, cs[j]? = some u → w.cell? (ad.add j) = some u
theorem cr_ry {t : TypeId} {w : World} {A : Option Addr} {cs : List Value} (h : Ry t w A cs) : Cr w A cs := fun hn => by
 obtain ⟨ad, e, _, hc⟩ := h hn
 exact ⟨ad, e, hc⟩
theorem Cr.below {w w' : World} {A : Option Addr} {cs : List Value} (h : Cr w A cs) (hb : Below w.heap.size w w') : Cr w' A cs := fun hn => by
 obtain ⟨ad, e, hc⟩ := h hn
 exact ⟨ad, e, fun j u hj => (hb.cell (cell_lt (hc j u hj))).trans (hc j u hj)⟩
structure Ptk (w : World) (B : Nat) (A : Option Addr) (vs : List Tv) : Prop where
 ry : Cr w A (tflat vs)
 tx : ∀ v ∈ vs, Tx w B v.A v.t.t.text
theorem Ptk.below {w w' : World} {B : Nat} {A : Option Addr} {vs : List Tv} (h : Ptk w B A vs) (hB : B ≤ w.heap.size) (hb : Below w.heap.size w w') : Ptk w' B A vs := ⟨h.ry.below hb, fun v hv => (h.tx v hv).below hB hb⟩
theorem Ptk.at_ {w : World} {B : Nat} {A : Option Addr} {vs : List Tv} (h : Ptk w B A vs) {i : Nat} {v : Tv} (hi : vs[i]? = some v) : ∃ ad, A = some ad ∧ w.cell? (ad.add (i * 4)) = some (.int .i64 v.t.t.kind) ∧
  w.cell? ⟨(ad.add (i * 4)).block, (ad.add (i * 4)).off + 1, none⟩ = some (.int .i64 (v.t.at_ : Int)) ∧ w.cell? ⟨(ad.add (i * 4)).block, (ad.add (i * 4)).off + 2, none⟩ = some (.int .i64 v.t.t.n) ∧ w.cell? ⟨(ad.add (i * 4)).block, (ad.add (i * 4)).off + 3, none⟩ = some (.slice v.A v.t.t.text.length v.c) := by
 have e : ∀ k, k < 4 → (tflat vs)[i * 4 + k]? = v.cells[k]? := fun k hk => flat4 vs i k v hi hk
 obtain ⟨ad, rfl, hc⟩ := h.ry (fun q => by have := e 0 (by decide); rw [q] at this; simp [Tv.cells] at this)
 exact ⟨ad, rfl, hc _ _ (e 0 (by decide)), by rw [add_at4 _ _ 1 (by decide)]; exact hc _ _ (e 1 (by decide)), by rw [add_at4 _ _ 2 (by decide)]; exact hc _ _ (e 2 (by decide)), by rw [add_at4 _ _ 3 (by decide)]; exact hc _ _ (e 3 (by decide))⟩
end Go.Proofs.YteohlpmojfjjdaaGreat.Lex
end
section
namespace Go.Proofs.YteohlpmojfjjdaaGreat.Vars
open Go.RowKit
open Lex (letter digit within b_ne drop_at Owb lit_one rowB run_cutMid bs_cut add_pos')
def more (n : Nat) (l : List B) : Nat := if n = 0 then nameR l else (l.takeWhile within).length
theorem more_go {n : Nat} {x : B} {l : List B} (h : letter x = true ∨ 0 < n ∧ within x = true) : more n (x :: l) = 1 + more (n + 1) l := by
 unfold more
 rw [if_neg (show ¬ n + 1 = 0 by omega)]
 by_cases h0 : n = 0
 ·rw [if_pos h0]
  have hl : letter x = true := by rcases h with h | h; exact h; omega
  rw [nameR_cons, if_pos hl]
 ·rw [if_neg h0]
  have hw : within x = true := by rcases h with h | h; exact Lex.letter_within h; exact h.2
  rw [List.takeWhile_cons, if_pos hw, List.length_cons, Nat.add_comm]
theorem more_no {n : Nat} {x : B} {l : List B} (h1 : letter x = false) (h2 : n = 0 ∨ within x = false) : more n (x :: l) = 0 := by
 unfold more
 by_cases h0 : n = 0
 ·rw [if_pos h0, nameR_cons, if_neg (by simp [h1])]
 ·rw [if_neg h0]
  have hw : within x = false := by rcases h2 with h | h; exact absurd h h0; exact h
  rw [List.takeWhile_cons, if_neg (by simp [hw])]; rfl
theorem more_nil (n : Nat) : more n [] = 0 := by unfold more; split <;> rfl
theorem name_ (w : World) (B : Nat) (A : Option Addr) (n c : Nat) (s : List (BitVec 8)) (hs : Bs w B A n s) (hn : n ≤ 100000) (p : Nat) (hp : p ≤ n) :
  Calls Tryz.prog 107 #[.slice A n c, .int .i64 (p : Int)] w fun e w' => e = .returned (.int .i64 (nameR (s.drop p) : Int)) ∧ w = w' := by
 obtain ⟨K, hK⟩ : ∃ K, K = nameR (s.drop p) := ⟨_, rfl⟩
 rw [← hK]
 have HS := Lib.hid hs
 have HSL := Lib.hid hs.len
 have HK0 := Lib.hid (show K = 0 + more 0 (s.drop (p + 0)) by rw [hK, Nat.zero_add]; rfl)
 clear hs hK
 go_enter Tryz.func107, Tryz.ntmps107
 go_wp2_with fail
 go_loopw [5] (fun v5 wr => ∃ (k : Nat), p + k ≤ n ∧ v5 = .int .i64 (k : Int) ∧ w = wr ∧ Hid (K = k + more k (s.drop (p + k)))) (fun v5 _ => n - (intOf v5).toNat)
 case atStart => exact ⟨0, by omega, rfl, rfl, HK0⟩
 case round =>
  clear HK0
  obtain ⟨k, hk, rfl, rfl, HK⟩ := hrel
  rcases Nat.lt_or_ge (p + k) n with hlt | hge
  ·obtain ⟨x, hx⟩ : ∃ x, s[p + k]? = some x := ⟨_, List.getElem?_eq_getElem (by rw [HSL.out]; exact hlt)⟩
   obtain ⟨bd, rfl, _, b0⟩ := HS.out.at_ hlt
   rw [List.getD_eq_getElem?_getD, hx] at b0
   change _ = some (v8 x) at b0
   have HGO := Lib.hid (fun (h : letter x = true ∨ 0 < k ∧ within x = true) => (show K = (k + 1) + more (k + 1) (s.drop (p + (k + 1))) by
    rw [HK.out, drop_at hx, more_go h, Nat.add_assoc p k 1]; omega))
   have HST := Lib.hid (fun (h1 : letter x = false) (h2 : k = 0 ∨ within x = false) => (show K = k by
    rw [HK.out, drop_at hx, more_no h1 h2]; rfl))
   clear hx HK
   by_cases h97 : 97 ≤ x.toNat
   ·by_cases h122 : x.toNat ≤ 122
    ·have HN := Lib.hid (HGO.out (.inl (by unfold letter; simp; omega)))
     go_wp2_with fail
     exact ⟨⟨k + 1, by omega, by rw [show ((k + 1 : Nat) : Int) = (k : Int) + 1 by omega], by trivial, HN⟩, by simp [intOf]; omega⟩
    ·have hl : letter x = false := by unfold letter; simp; omega
     have z122 : decide ((x.toNat : Int) ≤ 122) = false := by simp; omega
     have z57 : decide ((x.toNat : Int) ≤ 57) = false := by simp; omega
     have z48 : decide ((48 : Int) ≤ (x.toNat : Int)) = true := by simp; omega
     have e95 : ((x.toNat : Int) == 95) = false := b_ne (k := 95) (by decide) (by rintro rfl; simp at h97)
     have hw : within x = false := by unfold within digit; rw [hl]; simp; exact ⟨by omega, by rintro rfl; simp at h97⟩
     have HN := Lib.hid (HST.out hl (.inr hw))
     go_wp2_with fail
     all_goals (go_ret; rw [HN.out]; exact ⟨rfl, rfl⟩)
   ·have hl : letter x = false := by unfold letter; simp; omega
    by_cases h0 : k = 0
    ·have HN := Lib.hid (HST.out hl (.inl h0))
     subst h0
     rw [Nat.add_zero] at b0
     go_wp2_with fail
     go_ret
     rw [HN.out]
     exact ⟨rfl, rfl⟩
    ·have hk0 : 0 < k := by omega
     have zk : decide ((0 : Int) < (k : Int)) = true := by simp; omega
     by_cases h48 : 48 ≤ x.toNat ∧ x.toNat ≤ 57
     ·obtain ⟨h48, h57⟩ := h48
      have HN := Lib.hid (HGO.out (.inr ⟨hk0, by unfold within digit; simp; omega⟩))
      have z57 : decide ((x.toNat : Int) ≤ 57) = true := by simp; omega
      go_wp2_with fail
      exact ⟨⟨k + 1, by omega, by rw [show ((k + 1 : Nat) : Int) = (k : Int) + 1 by omega], by trivial, HN⟩, by simp [intOf]; omega⟩
     ·by_cases h95 : x = 95#8
      ·have HN := Lib.hid (HGO.out (.inr ⟨hk0, by subst h95; decide⟩))
       subst h95
       go_wp2_with fail
       exact ⟨⟨k + 1, by omega, by rw [show ((k + 1 : Nat) : Int) = (k : Int) + 1 by omega], by trivial, HN⟩, by simp [intOf]; omega⟩
      ·have hw : within x = false := by unfold within digit; rw [hl]; simp [h95]; omega
       have HN := Lib.hid (HST.out hl (.inr hw))
       have e95 : ((x.toNat : Int) == 95) = false := b_ne (k := 95) (by decide) h95
       by_cases h48' : 48 ≤ x.toNat
       ·have z57 : decide ((x.toNat : Int) ≤ 57) = false := by simp; omega
        go_wp2_with fail
        go_ret
        rw [HN.out]
        exact ⟨rfl, rfl⟩
       ·have z48 : decide ((48 : Int) ≤ (x.toNat : Int)) = false := by simp; omega
        go_wp2_with fail
        go_ret
        rw [HN.out]
        exact ⟨rfl, rfl⟩
  ·have HN := Lib.hid (show K = k by rw [HK.out, List.drop_eq_nil_of_le (by rw [HSL.out]; exact hge), more_nil]; rfl)
   go_wp2_with fail
   go_ret
   rw [HN.out]
   exact ⟨rfl, rfl⟩
end Go.Proofs.YteohlpmojfjjdaaGreat.Vars
end
