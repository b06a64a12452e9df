/-
The document's runbook (layer 12): words for a step in memory.
-/
import Derived.Test.YteohlpmojfjjdaaGreatR0
import Derived.Test.YteohlpmojfjjdaaGreatR1
import Derived.Test.YteohlpmojfjjdaaGreatR2
import Derived.Test.YteohlpmojfjjdaaGreatR7
import Derived.Test.YteohlpmojfjjdaaGreatR8
import Derived.Test.YteohlpmojfjjdaaGreatR10
set_option linter.unusedVariables false
set_option linter.unusedSimpArgs false
namespace Go.Proofs.YteohlpmojfjjdaaGreat.Book
open Go.RowKit
open Lex (Tok Tk B cut Tv Ttk Tx Rtk tflat lbelow_drew b_ne CtSays results_at3)
theorem infoArm : (Tryz.prog.info? 70).map (fun i => (i.zero, i.size, i.bytes)) = some (some (.agg #[.int .i64 0, .slice none 0 0, .string ⟨#[]⟩, .string ⟨#[]⟩]), 4, 64) := by kernel_rfl
theorem rowArm : ElemRow Tryz.prog 65 70 4 64 := ElemRow.mk' Tryz.underlying65 infoArm rfl (by decide)
structure Sx (w W : World) (B : Nat) (s : Step) (A4 : Option Addr) (c4 : Nat) (A5 : Option Addr) (c5 : Nat) (avs : List Av) : Prop where
 res : Cel W w.heap.size 67 zero9
 x : Cel W (w.heap.size + 1) 67 (cells9 s A4 c4 A5 c5)
 bel : Below w.heap.size w W
 send : Tc W B A4 c4 s.send
 own : W.ownsRow w.heap.size 70 4 (.slice A5 s.arms.length c5) s.arms.length (aflat avs)
 am : avs.map (·.a) = s.arms
 atx : ∀ v ∈ avs, Tx W B v.A v.a.pat
section
variable {w W W' : World} {B : Nat} {s s' : Step} {A4 A4' : Option Addr} {c4 c4' : Nat} {A5 : Option Addr} {c5 : Nat} {avs : List Av}
theorem Sx.below (h : Sx w W B s A4 c4 A5 c5 avs) (hB : B ≤ w.heap.size) (hb : Below W.heap.size W W') : Sx w W' B s A4 c4 A5 c5 avs :=
 ⟨(hb.block _ h.res.lt).trans h.res, (hb.block _ h.x.lt).trans h.x, h.bel.trans (hb.mono h.bel.size), h.send.below (Nat.le_trans hB h.bel.size) hb, own_frm (l := []) h.own (Frm.of_below hb) (by simp), h.am, fun v hv => (h.atx v hv).below (Nat.le_trans hB h.bel.size) hb⟩
theorem Sx.put (h : Sx w W B s A4 c4 A5 c5 avs) (hB : B ≤ w.heap.size) {i : Nat} {u : Value} (hu : (cells9 s A4 c4 A5 c5).set i u = cells9 s' A4' c4' A5 c5) (ha : s'.arms = s.arms) (hs : Tc W B A4' c4' s'.send) : Sx w (W.setCell ⟨w.heap.size + 1, i, none⟩ u) B s' A4' c4' A5 c5 avs := by
 have hf : Frm [w.heap.size + 1] W (W.setCell ⟨w.heap.size + 1, i, none⟩ u) := (Frm.refl _ W).set (by simp) _
 have hl : ∀ k ∈ [w.heap.size + 1], B ≤ k ∧ ∀ cs fz, W.heap[k]? ≠ some (Obj.cells cs 5 fz) := by
  intro k hk; rw [List.mem_singleton.1 hk]; exact ⟨by omega, Cel.not_ty h.x (by decide)⟩
 refine ⟨(hf.block _ h.res.lt (by simp)).trans h.res, ?_, h.bel.trans (hf.below h.bel.size (by intro q hq; simp at hq; omega)), Tc.frm hs hf hl, ?_, by rw [ha]; exact h.am, fun v hv => Tx.frm (h.atx v hv) hf hl⟩
 ·have := h.x.set i u
  rw [hu] at this
  exact this
 ·rw [ha]
  exact own_frm h.own hf fun k hk => by rw [List.mem_singleton.1 hk]; exact own_ty_ne h.own h.x (by decide)
theorem Sx.name (h : Sx w W B s A4 c4 A5 c5 avs) (hB : B ≤ w.heap.size) (t : List (BitVec 8)) : Sx w (W.setCell ⟨w.heap.size + 1, 1, none⟩ (.string (str t))) B { s with name := t } A4 c4 A5 c5 avs := h.put hB rfl rfl h.send
theorem Sx.tag (h : Sx w W B s A4 c4 A5 c5 avs) (hB : B ≤ w.heap.size) (z : Int) : Sx w (W.setCell ⟨w.heap.size + 1, 2, none⟩ (.int .i64 z)) B { s with tag := z } A4 c4 A5 c5 avs := h.put hB rfl rfl h.send
theorem Sx.sends (h : Sx w W B s A4 c4 A5 c5 avs) (hB : B ≤ w.heap.size) : Sx w (W.setCell ⟨w.heap.size + 1, 3, none⟩ (.bool true)) B { s with sends := true } A4 c4 A5 c5 avs := h.put hB rfl rfl h.send
theorem Sx.send_ (h : Sx w W B s A4 c4 A5 c5 avs) (hB : B ≤ w.heap.size) (A : Option Addr) (c : Nat) (t : List (BitVec 8)) (ht : Tx W B A t) (htc : t.length ≤ c) : Sx w (W.setCell ⟨w.heap.size + 1, 4, none⟩ (.slice A t.length c)) B { s with send := t } A c A5 c5 avs := h.put hB rfl rfl ⟨ht, htc⟩
theorem Sx.arm (h : Sx w W B s A4 c4 A5 c5 avs) (hB : B ≤ w.heap.size) {v : Av} (hv : Tx W B v.A v.a.pat) {A' : Option Addr} {c' : Nat} (hg : W.grownBy W' (Value.slice A5 s.arms.length c5).ownBlock) (ho : W'.ownsRow w.heap.size 70 4 (.slice A' (s.arms.length + 1) c') (s.arms.length + 1) (aflat avs ++ v.cells)) :
  Cel W' (w.heap.size + 1) 67 (cells9 s A4 c4 A5 c5) ∧ Sx w (W'.setCell ⟨w.heap.size + 1, 5, none⟩ (.slice A' (s.arms.length + 1) c')) B { s with arms := s.arms ++ [v.a] } A4 c4 A' c' (avs ++ [v]) := by
 have hf1 : Frm (Value.slice A5 s.arms.length c5).ownBlock.toList W W' := (Frm.refl _ _).grown hg (fun k e _ => by rw [e]; simp)
 have hf2 : Frm [w.heap.size + 1] W' (W'.setCell ⟨w.heap.size + 1, 5, none⟩ (.slice A' (s.arms.length + 1) c')) := (Frm.refl _ W').set (by simp) _
 have hx : Cel W' (w.heap.size + 1) 67 (cells9 s A4 c4 A5 c5) := Cel.grown h.x hg (own_ty_ne h.own h.x (by decide))
 have hr : Cel W' w.heap.size 67 zero9 := Cel.grown h.res hg (own_ty_ne h.own h.res (by decide))
 have hl1 : ∀ k ∈ (Value.slice A5 s.arms.length c5).ownBlock.toList, B ≤ k ∧ ∀ cs fz, W.heap[k]? ≠ some (Obj.cells cs 5 fz) := by
  intro k hk
  have e : (Value.slice A5 s.arms.length c5).ownBlock = some k := by simpa using hk
  exact ⟨Nat.le_trans hB (own_ge h.own k e), fun cs fz => not_bytes h.own (by decide) k cs fz e⟩
 have hl2 : ∀ k ∈ [w.heap.size + 1], B ≤ k ∧ ∀ cs fz, W'.heap[k]? ≠ some (Obj.cells cs 5 fz) := by
  intro k hk; rw [List.mem_singleton.1 hk]; exact ⟨by omega, Cel.not_ty hx (by decide)⟩
 have hb1 : Below w.heap.size W W' := hf1.below h.bel.size fun k hk => own_ge h.own k (by simpa using hk)
 have tx : ∀ {A : Option Addr} {t : List (BitVec 8)}, Tx W B A t → Tx (W'.setCell ⟨w.heap.size + 1, 5, none⟩ (.slice A' (s.arms.length + 1) c')) B A t := fun ht => Tx.frm (Tx.frm ht hf1 hl1) hf2 hl2
 have hlen : (s.arms ++ [v.a]).length = s.arms.length + 1 := by simp
 refine ⟨hx, (hf2.block _ hr.lt (by simp)).trans hr, ?_, (h.bel.trans hb1).trans (hf2.below (Nat.le_trans h.bel.size hg.size) (by intro q hq; simp at hq; omega)), ⟨tx h.send.1, h.send.2⟩, ?_, ?_, fun u hu => ?_⟩
 ·have := hx.set 5 (.slice A' (s.arms.length + 1) c')
  unfold cells9 at this ⊢
  dsimp only
  rw [hlen]
  exact this
 ·dsimp only
  rw [hlen, aflat_app]
  exact own_frm (show W'.ownsRow w.heap.size 70 4 (.slice A' (s.arms.length + 1) c') (s.arms.length + 1) (aflat avs ++ aflat [v]) by rw [show aflat [v] = v.cells by simp [aflat]]; exact ho) hf2 fun k hk => by rw [List.mem_singleton.1 hk]; exact own_ty_ne ho hx (by decide)
 ·rw [List.map_append, h.am]; rfl
 ·rcases List.mem_append.1 hu with hu | hu
  ·exact tx (h.atx u hu)
  ·rw [List.mem_singleton.1 hu]; exact tx hv
theorem Sx.out {a b c d e f x y z : Value} (h : Sx w W B s A4 c4 A5 c5 avs) (hB : B ≤ w.heap.size) : Cel (fw9 W w.heap.size a b c d e f x y z) w.heap.size 67 [a, b, c, d, e, f, x, y, z] ∧ Below w.heap.size w (fw9 W w.heap.size a b c d e f x y z) ∧
  Tc (fw9 W w.heap.size a b c d e f x y z) B A4 c4 s.send ∧ Ry 70 (fw9 W w.heap.size a b c d e f x y z) A5 (aflat avs) ∧ ∀ v ∈ avs, Tx (fw9 W w.heap.size a b c d e f x y z) B v.A v.a.pat := by
 have hf := fw9_frm W w.heap.size a b c d e f x y z
 have hl : ∀ k ∈ [w.heap.size], B ≤ k ∧ ∀ cs fz, W.heap[k]? ≠ some (Obj.cells cs 5 fz) := by
  intro k hk; rw [List.mem_singleton.1 hk]; exact ⟨by omega, Cel.not_ty h.res (by decide)⟩
 refine ⟨fw9_cel h.res, h.bel.trans (hf.below h.bel.size (by intro q hq; simp at hq; omega)), Tc.frm h.send hf hl, Ry.of_own (own_frm h.own hf fun k hk => by rw [List.mem_singleton.1 hk]; exact own_ty_ne h.own h.res (by decide)) (by decide), fun v hv => Tx.frm (h.atx v hv) hf hl⟩
theorem Sx.at_ (h : Sx w W B s A4 c4 A5 c5 avs) : W.cell? ⟨w.heap.size + 1, 0, none⟩ = some (.int .i64 (s.at_ : Int)) ∧ W.cell? ⟨w.heap.size + 1, 1, none⟩ = some (.string (str s.name)) ∧ W.cell? ⟨w.heap.size + 1, 2, none⟩ = some (.int .i64 s.tag) ∧ W.cell? ⟨w.heap.size + 1, 3, none⟩ = some (.bool s.sends) ∧ W.cell? ⟨w.heap.size + 1, 4, none⟩ = some (.slice A4 s.send.length c4) ∧ W.cell? ⟨w.heap.size + 1, 5, none⟩ = some (.slice A5 s.arms.length c5) ∧ W.cell? ⟨w.heap.size + 1, 6, none⟩ = some (.int .i64 s.time) ∧ W.cell? ⟨w.heap.size + 1, 7, none⟩ = some (.int .i64 s.try_) ∧ W.cell? ⟨w.heap.size + 1, 8, none⟩ = some (.string (str s.els)) :=
 ⟨h.x.cell 0, h.x.cell 1, h.x.cell 2, h.x.cell 3, h.x.cell 4, h.x.cell 5, h.x.cell 6, h.x.cell 7, h.x.cell 8⟩
theorem Sx.rs (h : Sx w W B s A4 c4 A5 c5 avs) : W.cell? ⟨w.heap.size, 0, none⟩ = some (.int .i64 0) ∧ W.cell? ⟨w.heap.size, 1, none⟩ = some (.string ⟨#[]⟩) ∧ W.cell? ⟨w.heap.size, 2, none⟩ = some (.int .i64 0) ∧ W.cell? ⟨w.heap.size, 3, none⟩ = some (.bool false) ∧ W.cell? ⟨w.heap.size, 4, none⟩ = some (.slice none 0 0) ∧ W.cell? ⟨w.heap.size, 5, none⟩ = some (.slice none 0 0) ∧ W.cell? ⟨w.heap.size, 6, none⟩ = some (.int .i64 0) ∧ W.cell? ⟨w.heap.size, 7, none⟩ = some (.int .i64 0) ∧ W.cell? ⟨w.heap.size, 8, none⟩ = some (.string ⟨#[]⟩) :=
 ⟨h.res.cell 0, h.res.cell 1, h.res.cell 2, h.res.cell 3, h.res.cell 4, h.res.cell 5, h.res.cell 6, h.res.cell 7, h.res.cell 8⟩
theorem Sx.ls (h : Sx w W B s A4 c4 A5 c5 avs) : W.frozen? ⟨w.heap.size, 0, none⟩ = false ∧ W.frozen? ⟨w.heap.size, 1, none⟩ = false ∧ W.frozen? ⟨w.heap.size, 2, none⟩ = false ∧ W.frozen? ⟨w.heap.size, 3, none⟩ = false ∧ W.frozen? ⟨w.heap.size, 4, none⟩ = false ∧ W.frozen? ⟨w.heap.size, 5, none⟩ = false ∧ W.frozen? ⟨w.heap.size, 6, none⟩ = false ∧ W.frozen? ⟨w.heap.size, 7, none⟩ = false ∧ W.frozen? ⟨w.heap.size, 8, none⟩ = false :=
 ⟨h.res.free 0, h.res.free 1, h.res.free 2, h.res.free 3, h.res.free 4, h.res.free 5, h.res.free 6, h.res.free 7, h.res.free 8⟩
end
def SpSays (w : World) (B : Nat) (vs : List Tv) (r : Except T (Step × T)) (e : Ending) (w' : World) : Prop := Below w.heap.size w w' ∧ match r with
 | .error m => ∃ (a0 : Int) (nm : ByteArray) (tg : Int) (sd : Bool) (A4 : Option Addr) (n4 c4 : Nat) (A5 : Option Addr) (n5 c5 : Nat) (t y : Int) (l : ByteArray) (q : Nat), e = .returned (.tuple #[.agg #[.int .i64 a0, .string nm, .int .i64 tg, .bool sd, .slice A4 n4 c4, .slice A5 n5 c5, .int .i64 t, .int .i64 y, .string l], .int .i64 (q : Int), .bool false]) ∧ q ≤ vs.length ∧ (toks vs).drop q = m
 | .ok (s, m) => ∃ (A4 : Option Addr) (c4 : Nat) (A5 : Option Addr) (c5 q : Nat) (avs : List Av), e = .returned (.tuple #[.agg (cells9 s A4 c4 A5 c5).toArray, .int .i64 (q : Int), .bool true]) ∧ q ≤ vs.length ∧ (toks vs).drop q = m ∧ Tc w' B A4 c4 s.send ∧ Ry 70 w' A5 (aflat avs) ∧ avs.map (·.a) = s.arms ∧ ∀ v ∈ avs, Tx w' B v.A v.a.pat
def Kp (P : Step → Prop) (F : T → Except T (Step × T)) : Prop := ∀ l s m, F l = .ok (s, m) → P s
theorem kp_want {P : Step → Prop} {c : T → Bool} {f : Tok → T → Except T (Step × T)} (h : ∀ x, Kp P (f x)) : Kp P (want c f) := fun l s m hl => by
 cases l with
 | nil => cases hl
 | cons x l =>
  unfold want at hl
  dsimp only at hl
  split at hl
  ·exact h x l s m hl
  ·cases hl
theorem kp_may {P : Step → Prop} {c : T → Bool} {f : Tok → T → Except T (Step × T)} {g : T → Except T (Step × T)} (hf : ∀ x, Kp P (f x)) (hg : Kp P g) : Kp P (may c f g) := fun l s m hl => by
 cases l with
 | nil => exact hg _ s m hl
 | cons x l =>
  unfold may at hl
  dsimp only at hl
  split at hl
  ·exact hf x l s m hl
  ·exact hg _ s m hl
theorem kp_ok {P : Step → Prop} {a : Step} (h : P a) : Kp P (fun m => (.ok (a, m) : Except T (Step × T))) := fun l s m hl => by injection hl with hl; injection hl with h1 h2; subst h1; exact h
def Alike (x s : Step) : Prop := s.at_ = x.at_ ∧ s.name = x.name ∧ s.tag = x.tag ∧ s.sends = x.sends ∧ s.send = x.send ∧ s.arms = x.arms
theorem kp_else (x y : Step) (h : Alike x y) : Kp (Alike x) (elseR y) := kp_want fun _ => kp_want fun w => kp_want fun _ => kp_ok h
theorem kp_tail (x : Step) : Kp (Alike x) (tailR x) := kp_want fun _ => kp_want fun n => kp_may (fun _ => kp_want fun k => kp_else x _ ⟨rfl, rfl, rfl, rfl, rfl, rfl⟩) (kp_else x _ ⟨rfl, rfl, rfl, rfl, rfl, rfl⟩)
end Go.Proofs.YteohlpmojfjjdaaGreat.Book
