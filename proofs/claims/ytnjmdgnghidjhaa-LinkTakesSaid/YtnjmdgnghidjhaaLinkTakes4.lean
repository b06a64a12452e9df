/-
Texts: RecOpen PeerOpen FoldOpen PeerPcells PeerPmeet
-/
import Derived.Test.YtnjmdgnghidjhaaLinkTakes0
import Derived.Test.YtnjmdgnghidjhaaLinkTakes1
import Derived.Test.YtnjmdgnghidjhaaLinkTakes2
import Derived.Deep.CutRange
import Derived.BigQuiet
set_option linter.unusedVariables false
set_option linter.unusedSimpArgs false
set_option maxRecDepth 100000
set_option maxHeartbeats 4000000
namespace Go.Proofs.Ytnjmdgnghidjhaa.Ord
end Go.Proofs.Ytnjmdgnghidjhaa.Ord
section
namespace Go.Proofs.Ytnjmdgnghidjhaa.Rec
open Go.RowKit
open Lex (Tx)
theorem u8_of {x : Int} (h : (Lit.int .u8 x).wf = true) : ∃ b : BitVec 8, x = (b.toNat : Int) := by
 simp [Lit.wf, IntKind.min, IntKind.max, IntKind.bits, IntKind.signed] at h
 refine ⟨BitVec.ofNat 8 x.toNat, ?_⟩
 rw [BitVec.toNat_ofNat, Nat.mod_eq_of_lt (by omega)]
 omega
theorem pick {α : Type} (P : Nat → α → Prop) : ∀ n, (∀ i, i < n → ∃ x, P i x) → ∃ l : List α, l.length = n ∧ ∀ i x, l[i]? = some x → P i x
 | 0, _ => ⟨[], rfl, by simp⟩
 | n + 1, h => by
  obtain ⟨l, hl, hp⟩ := pick P n (fun i hi => h i (by omega))
  obtain ⟨x, hx⟩ := h n (by omega)
  refine ⟨l ++ [x], by simp [hl], fun i y hy => ?_⟩
  rcases Nat.lt_or_ge i l.length with hi | hi
  ·rw [List.getElem?_append_left hi] at hy
   exact hp i y hy
  ·have hi2 : i = n := by have := (List.getElem?_eq_some_iff.1 hy).1; simp at this; omega
   subst hi2
   rw [List.getElem?_append_right hi, show i - l.length = 0 by omega] at hy
   simp at hy
   subst hy
   exact hx
theorem bytes_of_isv {w : World} {A : Option Addr} {l c : Nat} (h : IsV w (.slice (.int .u8)) (.slice A l c)) : ∃ bs : List (BitVec 8), bs.length = l ∧ l ≤ c ∧ l ≤ maxLen ∧ Bs w w.heap.size A l bs := by
 cases h with
 | nil => exact ⟨[], rfl, Nat.le_refl _, Nat.zero_le _, Bs.nil_⟩
 | slice U hl hc hcell hU =>
  rename_i x
  obtain ⟨bs, hbl, hp⟩ := pick (fun i (b : BitVec 8) => U i = v8 b) l (fun i hi => by
   have u0 := hU i hi
   generalize U i = a0 at *
   cases u0 with | int h0 =>
   obtain ⟨b, rfl⟩ := u8_of h0
   exact ⟨b, rfl⟩)
  refine ⟨bs, hbl, hl, by omega, hbl, fun hn => ⟨x, rfl, ?_, fun j hj => ?_⟩⟩
  ·have := cell_lt (hcell 0 hn)
   rwa [add_block] at this
  ·have hj2 : j < bs.length := by omega
   rw [hcell j hj, hp j _ (List.getElem?_eq_getElem hj2), List.getD_eq_getElem?_getD, List.getElem?_eq_getElem hj2]
   rfl
end Go.Proofs.Ytnjmdgnghidjhaa.Rec
end
section
namespace Go.Proofs.Ytnjmdgnghidjhaa.Peer
open Go.RowKit
open Lex (add_at4)
open Rec (pick)
theorem int64_of {x : Int} (h : (Lit.int .i64 x).wf = true) : -9223372036854775808 ≤ x ∧ x < 9223372036854775808 := by
 simp [Lit.wf, IntKind.min, IntKind.max, IntKind.bits, IntKind.signed] at h
 omega
def FitR (v : Rl) : Prop := v.r.line.length ≤ v.c1 ∧ v.r.line.length ≤ maxLen ∧ v.r.out.length ≤ v.c2 ∧ v.r.out.length ≤ maxLen ∧ (-9223372036854775808 ≤ v.r.state ∧ v.r.state < 9223372036854775808) ∧ (-9223372036854775808 ≤ v.r.next ∧ v.r.next < 9223372036854775808)
def rcells (v : Rl) : List Value := [.int .i64 v.r.state, .slice v.A1 v.r.line.length v.c1, .slice v.A2 v.r.out.length v.c2, .int .i64 v.r.next]
theorem rules_of_isv {w : World} {A : Option Addr} {l c : Nat} (h : IsV w (.recs [.int .i64, .slice (.int .u8), .slice (.int .u8), .int .i64]) (.slice A l c)) :
  ∃ vs : List Rl, vs.length = l ∧ l ≤ maxLen ∧ Rls w w.heap.size A vs ∧ ∀ v ∈ vs, FitR v := by
 cases h with
 | rnil => exact ⟨[], rfl, Nat.zero_le _, fun i v hi => by simp at hi, by simp⟩
 | recs U hl hc hcell hU =>
  rename_i x
  obtain ⟨vs, hsl, hp⟩ := pick (fun i (v : Rl) => (∀ k u, (rcells v)[k]? = some u → U i k = u) ∧ (Bs w w.heap.size v.A1 v.r.line.length v.r.line ∧ Bs w w.heap.size v.A2 v.r.out.length v.r.out) ∧ FitR v) l (fun i hi => by
   have u0 := hU i 0 _ hi rfl
   have u1 := hU i 1 _ hi rfl
   have u2 := hU i 2 _ hi rfl
   have u3 := hU i 3 _ hi rfl
   obtain ⟨F, hF⟩ : ∃ F : Nat → Value, F = U i := ⟨_, rfl⟩
   rw [← hF] at u0 u1 u2 u3 ⊢
   clear hU hcell hF
   generalize h0 : F 0 = a0 at *
   generalize h1 : F 1 = a1 at *
   generalize h2 : F 2 = a2 at *
   generalize h3 : F 3 = a3 at *
   cases u0 with | int f0 =>
   obtain ⟨A1, l1, c1, rfl⟩ : ∃ A l c, a1 = .slice A l c := by cases u1 <;> exact ⟨_, _, _, rfl⟩
   obtain ⟨A2, l2, c2, rfl⟩ : ∃ A l c, a2 = .slice A l c := by cases u2 <;> exact ⟨_, _, _, rfl⟩
   cases u3 with | int f3 =>
   obtain ⟨b1, rfl, hc1, hm1, hb1⟩ := Rec.bytes_of_isv u1
   obtain ⟨b2, rfl, hc2, hm2, hb2⟩ := Rec.bytes_of_isv u2
   refine ⟨⟨⟨_, b1, b2, _⟩, A1, c1, A2, c2⟩, fun k u hu => ?_, ⟨hb1, hb2⟩, hc1, hm1, hc2, hm2, int64_of f0, int64_of f3⟩
   have hk : k < 4 := (List.getElem?_eq_some_iff.1 hu).1
   match k, hk with
   | 0, _ => cases hu; exact h0
   | 1, _ => cases hu; exact h1
   | 2, _ => cases hu; exact h2
   | 3, _ => cases hu; exact h3)
  refine ⟨vs, hsl, by omega, fun i v hi => ?_, fun v hv => ?_⟩
  ·have hil : i < l := by have := (List.getElem?_eq_some_iff.1 hi).1; omega
   have hk : ∀ k u, k < 4 → (rcells v)[k]? = some u → w.cell? (x.add (i * 4 + k)) = some u := fun k u hk hu => by
    have c0 := hcell i k hil hk
    rw [(hp i v hi).1 k u hu] at c0
    exact c0
   obtain ⟨hb1, hb2⟩ := (hp i v hi).2.1
   exact ⟨x, rfl, hk 0 _ (by decide) rfl, by rw [add_at4 _ _ 1 (by decide)]; exact hk 1 _ (by decide) rfl, by rw [add_at4 _ _ 2 (by decide)]; exact hk 2 _ (by decide) rfl, by rw [add_at4 _ _ 3 (by decide)]; exact hk 3 _ (by decide) rfl, .inl hb1, .inl hb2⟩
  ·obtain ⟨i, hi⟩ := List.mem_iff_getElem?.1 hv
   exact (hp i v hi).2.2
end Go.Proofs.Ytnjmdgnghidjhaa.Peer
end
section
namespace Go.Proofs.Ytnjmdgnghidjhaa.Fold
open Go.RowKit
open Rec (pick Vt txt bytes_of_isv)
theorem isv_cap {w : World} {e : Kd} {A : Option Addr} {l c : Nat} (h : IsV w (.slice e) (.slice A l c)) : c ≤ maxLen := by
 cases h with
 | nil => exact Nat.zero_le _
 | slice U hl hc hcell hU => exact hc
theorem caps_of_isv {w : World} {A : Option Addr} {l c : Nat} (h : IsV w (.slice (.slice (.int .u8))) (.slice A l c)) : ∃ vs : List Vt, vs.length = l ∧ l ≤ maxLen ∧ Rec.Tvs w w.heap.size A vs ∧ ∀ v ∈ vs, v.t.length ≤ v.c ∧ v.c ≤ maxLen := by
 cases h with
 | nil => exact ⟨[], rfl, Nat.zero_le _, ⟨by simp, by simp⟩, by simp⟩
 | slice U hl hc hcell hU =>
  rename_i x
  obtain ⟨vs, hvl, hp⟩ := pick (fun i (v : Vt) => U i = v.cell ∧ (Lex.Tx w w.heap.size v.A v.t ∧ v.t.length ≤ maxLen) ∧ v.t.length ≤ v.c ∧ v.c ≤ maxLen) l (fun i hi => by
   have u0 := hU i hi
   generalize U i = a0 at *
   obtain ⟨kA, kl, kc, rfl⟩ : ∃ A l c, a0 = .slice A l c := by cases u0 <;> exact ⟨_, _, _, rfl⟩
   have hcc := isv_cap u0
   obtain ⟨bs, rfl, hpc, hpm, hbs⟩ := bytes_of_isv u0
   exact ⟨⟨kA, kc, bs⟩, rfl, ⟨.inl hbs, hpm⟩, hpc, hcc⟩)
  refine ⟨vs, hvl, by omega, ⟨fun i v hi => ⟨x, rfl, ?_⟩, fun v hv => ?_⟩, fun v hv => ?_⟩
  ·have hil : i < l := by have := (List.getElem?_eq_some_iff.1 hi).1; omega
   rw [hcell i hil, (hp i v hi).1]
  ·obtain ⟨i, hi⟩ := List.mem_iff_getElem?.1 hv
   exact (hp i v hi).2.1
  ·obtain ⟨i, hi⟩ := List.mem_iff_getElem?.1 hv
   exact (hp i v hi).2.2
end Go.Proofs.Ytnjmdgnghidjhaa.Fold
end
section
namespace Go.Proofs.Ytnjmdgnghidjhaa.Peer
open Go.RowKit Go.Proofs.Ytnjmdgnghidjhaa.Ord
open Lex (Tx)
open Rec (Vt Tvs Trow txt)
structure Fv where
 PA : Option Addr
 pc : Nat
 LA : Option Addr
 lc : Nat
 A : Option Addr
 c : Nat
 us : List Vt
def ob (A : Option Addr) : Option Nat := A.map (·.block)
theorem ob_own (A : Option Addr) (n c : Nat) : (Value.slice A n c).ownBlock = ob A := by cases A <;> rfl
def Bq (w : World) (K : Nat) (PA LA : Option Addr) (q : Nat) : Prop := K ≤ q ∧ ob PA ≠ some q ∧ ob LA ≠ some q ∧ ∃ cs fz, w.heap[q]? = some (Obj.cells cs 5 fz)
def fcells (p : Pe) (f : Fv) (AR : Option Addr) (nR cR : Nat) : List Value := [.int .i64 p.state, .slice f.PA p.part.length f.pc, .slice f.LA p.log.length f.lc, .slice f.A p.lines.length f.c, .slice AR nR cR]
structure Fd (w : World) (K g : Nat) (AR : Option Addr) (nR cR : Nat) (p : Pe) (f : Fv) : Prop where
 cel : Cel w g 72 (fcells p f AR nR cR)
 pt : w.ownsRow K 5 1 (.slice f.PA p.part.length f.pc) p.part.length (p.part.map v8)
 lg : w.ownsRow K 5 1 (.slice f.LA p.log.length f.lc) p.log.length (p.log.map v8)
 ls : w.ownsRow K 37 1 (.slice f.A p.lines.length f.c) p.lines.length (f.us.map Vt.cell)
 tx : txt f.us = p.lines
 by_ : ∀ u ∈ f.us, Bp w (Bq w K f.PA f.LA) u.A u.t.length u.t ∧ u.t.length ≤ 400
 ap : ∀ q, ob f.PA = some q → ob f.LA ≠ some q
theorem by_keep {w w' : World} {K n : Nat} {PA LA PA' LA' A : Option Addr} {bs : List B} (h : Bp w (Bq w K PA LA) A n bs)
  (hk : ∀ q cs fz, w.heap[q]? = some (Obj.cells cs 5 fz) → K ≤ q → ob PA ≠ some q → ob LA ≠ some q → w'.heap[q]? = w.heap[q]?)
  (hP : ∀ q, ob PA' = some q → ob PA = some q ∨ ob LA = some q ∨ w.heap.size ≤ q) (hL : ∀ q, ob LA' = some q → ob PA = some q ∨ ob LA = some q ∨ w.heap.size ≤ q) : Bp w' (Bq w' K PA' LA') A n bs := by
 have h1 : Bp w' (Bq w K PA LA) A n bs := h.keep fun q ⟨a, b, c, cs, fz, d⟩ _ => hk q cs fz d a b c
 refine ⟨h1.1, fun hn => ?_⟩
 obtain ⟨ad, e, ⟨a, b, c, cs, fz, d⟩, hc⟩ := h1.2 hn
 have hlt := (Array.getElem?_eq_some_iff.1 d).1
 refine ⟨ad, e, ⟨a, fun e' => ?_, fun e' => ?_, cs, fz, (hk _ cs fz d a b c).trans d⟩, hc⟩
 ·rcases hP _ e' with h | h | h
  ·exact b h
  ·exact c h
  ·omega
 ·rcases hL _ e' with h | h | h
  ·exact b h
  ·exact c h
  ·omega
namespace Fd
variable {w w' : World} {K g nR cR : Nat} {AR : Option Addr} {p : Pe} {f : Fv}
theorem below (h : Fd w K g AR nR cR p f) (hb : Below w.heap.size w w') : Fd w' K g AR nR cR p f :=
 ⟨h.cel.below hb h.cel.lt, own_frm (l := []) h.pt (Frm.of_below hb) (by simp), own_frm (l := []) h.lg (Frm.of_below hb) (by simp), own_frm (l := []) h.ls (Frm.of_below hb) (by simp), h.tx,
  fun u hu => ⟨by_keep (h.by_ u hu).1 (fun q cs fz e _ _ _ => hb.block q (Array.getElem?_eq_some_iff.1 e).1) (fun q e => .inl e) (fun q e => .inr (.inl e)), (h.by_ u hu).2⟩, h.ap⟩
theorem drew (h : Fd w K g AR nR cR p f) : Fd w.drew K g AR nR cR p f := h.below (Below.refl _ _).drew
theorem pt_g (h : Fd w K g AR nR cR p f) : ob f.PA ≠ some g := by rw [← ob_own f.PA p.part.length f.pc]; exact own_ty_ne h.pt h.cel (by decide)
theorem lg_g (h : Fd w K g AR nR cR p f) : ob f.LA ≠ some g := by rw [← ob_own f.LA p.log.length f.lc]; exact own_ty_ne h.lg h.cel (by decide)
theorem ls_g (h : Fd w K g AR nR cR p f) : ob f.A ≠ some g := by rw [← ob_own f.A p.lines.length f.c]; exact own_ty_ne h.ls h.cel (by decide)
theorem ls_pt (h : Fd w K g AR nR cR p f) : ∀ q, ob f.A = some q → ob f.PA ≠ some q := by
 intro q; rw [← ob_own f.A p.lines.length f.c, ← ob_own f.PA p.part.length f.pc]; exact own_two h.ls h.pt (by decide) q
theorem ls_lg (h : Fd w K g AR nR cR p f) : ∀ q, ob f.A = some q → ob f.LA ≠ some q := by
 intro q; rw [← ob_own f.A p.lines.length f.c, ← ob_own f.LA p.log.length f.lc]; exact own_two h.ls h.lg (by decide) q
theorem pt_lt (h : Fd w K g AR nR cR p f) : ∀ q, ob f.PA = some q → q < w.heap.size := by intro q; rw [← ob_own f.PA p.part.length f.pc]; exact own_lt h.pt q
theorem lg_lt (h : Fd w K g AR nR cR p f) : ∀ q, ob f.LA = some q → q < w.heap.size := by intro q; rw [← ob_own f.LA p.log.length f.lc]; exact own_lt h.lg q
theorem pt_ge (h : Fd w K g AR nR cR p f) : ∀ q, ob f.PA = some q → K ≤ q := by intro q; rw [← ob_own f.PA p.part.length f.pc]; exact own_ge h.pt q
theorem lg_ge (h : Fd w K g AR nR cR p f) : ∀ q, ob f.LA = some q → K ≤ q := by intro q; rw [← ob_own f.LA p.log.length f.lc]; exact own_ge h.lg q
theorem ls_ge (h : Fd w K g AR nR cR p f) : ∀ q, ob f.A = some q → K ≤ q := by intro q; rw [← ob_own f.A p.lines.length f.c]; exact own_ge h.ls q
theorem rows_set (h : Fd w K g AR nR cR p f) (hf : Frm [g] w w') : w'.ownsRow K 5 1 (.slice f.PA p.part.length f.pc) p.part.length (p.part.map v8) ∧ w'.ownsRow K 5 1 (.slice f.LA p.log.length f.lc) p.log.length (p.log.map v8) ∧
  w'.ownsRow K 37 1 (.slice f.A p.lines.length f.c) p.lines.length (f.us.map Vt.cell) ∧ ∀ u ∈ f.us, Bp w' (Bq w' K f.PA f.LA) u.A u.t.length u.t ∧ u.t.length ≤ 400 := by
 refine ⟨own_frm h.pt hf (fun k hk => ?_), own_frm h.lg hf (fun k hk => ?_), own_frm h.ls hf (fun k hk => ?_), fun u hu => ⟨by_keep (h.by_ u hu).1 (fun q cs fz e _ _ _ => hf.block q (Array.getElem?_eq_some_iff.1 e).1 (fun hm => ?_)) (fun q e => .inl e) (fun q e => .inr (.inl e)), (h.by_ u hu).2⟩⟩
 ·rw [List.mem_singleton.1 hk, ob_own]; exact h.pt_g
 ·rw [List.mem_singleton.1 hk, ob_own]; exact h.lg_g
 ·rw [List.mem_singleton.1 hk, ob_own]; exact h.ls_g
 ·rw [List.mem_singleton.1 hm] at e
  exact h.cel.not_ty (by decide) cs fz e
theorem kill (h : Fd w K g AR nR cR p f) : Fd (w.setCell ⟨g, 1, none⟩ (.slice none 0 0)) K g AR nR cR ⟨p.state, [], p.log, p.lines⟩ { f with PA := none, pc := 0 } := by
 obtain ⟨_, h2, h3, h4⟩ := h.rows_set (w' := w.setCell ⟨g, 1, none⟩ (.slice none 0 0)) ((Frm.refl [g] w).set (p := ⟨g, 1, none⟩) (by simp) _)
 exact ⟨h.cel.set 1 _, World.ownsRow_nil _ _ _ _, h2, h3, h.tx, fun u hu => ⟨by_keep (h4 u hu).1 (fun q cs fz e _ _ _ => rfl) (fun q e => (by cases e)) (fun q e => .inr (.inl e)), (h4 u hu).2⟩, fun q e => (by cases e)⟩
theorem more (h : Fd w K g AR nR cR p f) (b : B) {A' : Option Addr} {c' : Nat} (ho : w'.ownsRow K 5 1 (.slice A' (p.part.length + 1) c') (p.part.length + 1) ((p.part ++ [b]).map v8)) (hg : w.grownBy w' (ob f.PA)) (hn : ob A' = ob f.PA ∨ ob A' = some w.heap.size) :
  Fd (w'.setCell ⟨g, 1, none⟩ (.slice A' (p.part.length + 1) c')) K g AR nR cR ⟨p.state, p.part ++ [b], p.log, p.lines⟩ { f with PA := A', pc := c' } := by
 have hf0 : Frm (ob f.PA).toList w w' := (Frm.refl _ w).grown hg (fun q e _ => by simp [e])
 have hc0 := h.cel.grown hg h.pt_g
 have hn' : ∀ q, ob A' = some q → ob f.PA = some q ∨ ob f.LA = some q ∨ w.heap.size ≤ q := fun q e => by
  rcases hn with e' | e'
  ·exact .inl (e' ▸ e)
  ·rw [e'] at e; injection e with e; exact .inr (.inr (by omega))
 have hap : ∀ q, ob A' = some q → ob f.LA ≠ some q := fun q e e2 => by
  rcases hn with e' | e'
  ·exact h.ap q (e' ▸ e) e2
  ·rw [e'] at e; injection e with e
   have := h.lg_lt q e2
   omega
 have l1 : w'.ownsRow K 5 1 (.slice f.LA p.log.length f.lc) p.log.length (p.log.map v8) := own_frm h.lg hf0 (fun k hk => by rw [ob_own]; exact h.ap k (by simpa using hk))
 have l2 : w'.ownsRow K 37 1 (.slice f.A p.lines.length f.c) p.lines.length (f.us.map Vt.cell) := own_frm h.ls hf0 (fun k hk => by rw [ob_own]; exact fun e => h.ls_pt k e (by simpa using hk))
 have l3 : ∀ u ∈ f.us, Bp w' (Bq w' K A' f.LA) u.A u.t.length u.t ∧ u.t.length ≤ 400 := fun u hu => ⟨by_keep (h.by_ u hu).1 (fun q cs fz e _ e1 _ => hg.block q (Array.getElem?_eq_some_iff.1 e).1 (fun e' => e1 e'.symm)) hn' (fun q e => .inr (.inl e)), (h.by_ u hu).2⟩
 have hf : Frm [g] w' (w'.setCell ⟨g, 1, none⟩ (.slice A' (p.part.length + 1) c')) := (Frm.refl [g] w').set (p := ⟨g, 1, none⟩) (by simp) _
 have hl : (p.part ++ [b]).length = p.part.length + 1 := by simp
 have o1 := own_frm ho hf (fun k hk => by rw [List.mem_singleton.1 hk]; exact own_ty_ne ho hc0 (by decide))
 refine ⟨?_, by dsimp only; rw [hl]; exact o1, own_frm l1 hf (fun k hk => by rw [List.mem_singleton.1 hk]; exact own_ty_ne l1 hc0 (by decide)), own_frm l2 hf (fun k hk => by rw [List.mem_singleton.1 hk]; exact own_ty_ne l2 hc0 (by decide)), h.tx, fun u hu => ⟨by_keep (l3 u hu).1 (fun q cs fz e _ _ _ => hf.block q (Array.getElem?_eq_some_iff.1 e).1 (fun hm => ?_)) (fun q e => .inl e) (fun q e => .inr (.inl e)), (l3 u hu).2⟩, hap⟩
 ·have := hc0.set 1 (.slice A' (p.part.length + 1) c')
  unfold fcells at this ⊢
  simpa using this
 ·rw [List.mem_singleton.1 hm] at e
  exact hc0.not_ty (by decide) cs fz e
theorem line (h : Fd w K g AR nR cR p f) (hpl : p.part.length ≤ 400) {A' : Option Addr} {c' : Nat} (ho : w'.ownsRow K 37 1 (.slice A' (p.lines.length + 1) c') (p.lines.length + 1) (f.us.map Vt.cell ++ [.slice f.PA p.part.length f.pc])) (hg : w.grownBy w' (ob f.A)) (hn : ob A' = ob f.A ∨ ob A' = some w.heap.size) :
  Fd ((w'.setCell ⟨g, 3, none⟩ (.slice A' (p.lines.length + 1) c')).setCell ⟨g, 1, none⟩ (.slice none 0 0)) K g AR nR cR ⟨p.state, [], p.log, p.lines ++ [p.part]⟩ { f with PA := none, pc := 0, A := A', c := c', us := f.us ++ [⟨f.PA, f.pc, p.part⟩] } := by
 have hf0 : Frm (ob f.A).toList w w' := (Frm.refl _ w).grown hg (fun q e _ => by simp [e])
 have hc0 := h.cel.grown hg h.ls_g
 have l1 : w'.ownsRow K 5 1 (.slice f.LA p.log.length f.lc) p.log.length (p.log.map v8) := own_frm h.lg hf0 (fun k hk => by rw [ob_own]; exact h.ls_lg k (by simpa using hk))
 have l2 : w'.ownsRow K 5 1 (.slice f.PA p.part.length f.pc) p.part.length (p.part.map v8) := own_frm h.pt hf0 (fun k hk => by rw [ob_own]; exact h.ls_pt k (by simpa using hk))
 have hbk : ∀ q cs fz, w.heap[q]? = some (Obj.cells cs 5 fz) → w'.heap[q]? = w.heap[q]? := fun q cs fz e => hg.block q (Array.getElem?_eq_some_iff.1 e).1 (fun e' => own_not_ty h.ls (by decide) q cs fz (by rw [ob_own]; exact e'.symm) e)
 have l3 : ∀ u ∈ f.us, Bp w' (Bq w' K none f.LA) u.A u.t.length u.t ∧ u.t.length ≤ 400 := fun u hu => ⟨by_keep (h.by_ u hu).1 (fun q cs fz e _ _ _ => hbk q cs fz e) (fun q e => (by cases e)) (fun q e => .inr (.inl e)), (h.by_ u hu).2⟩
 have l4 : Bp w' (Bq w' K none f.LA) f.PA p.part.length p.part := by
  refine ⟨rfl, fun hn0 => ?_⟩
  have hb := (Bp.of_own l2 rfl)
  obtain ⟨ad, e, ⟨e1, hKq⟩, hc⟩ := hb.2 hn0
  have e2 : ob f.PA = some ad.block := by rw [ob_own] at e1; exact e1
  have hy := By.of_own l2
  obtain ⟨ad', e', hty, _⟩ := hy.2 hn0
  rw [e] at e'
  injection e' with e'
  subst e'
  exact ⟨ad, e, (show Bq w' K none f.LA ad.block from ⟨hKq, fun e => (by cases e), h.ap _ e2, hty⟩), hc⟩
 have hf : Frm [g] w' ((w'.setCell ⟨g, 3, none⟩ (.slice A' (p.lines.length + 1) c')).setCell ⟨g, 1, none⟩ (.slice none 0 0)) := ((Frm.refl [g] w').set (p := ⟨g, 3, none⟩) (by simp) _).set (p := ⟨g, 1, none⟩) (by simp) _
 have hl : (p.lines ++ [p.part]).length = p.lines.length + 1 := by simp
 have o1 := own_frm ho hf (fun k hk => by rw [List.mem_singleton.1 hk]; exact own_ty_ne ho hc0 (by decide))
 have hby : ∀ {A : Option Addr} {n : Nat} {bs : List B}, Bp w' (Bq w' K none f.LA) A n bs → Bp ((w'.setCell ⟨g, 3, none⟩ (.slice A' (p.lines.length + 1) c')).setCell ⟨g, 1, none⟩ (.slice none 0 0)) (Bq ((w'.setCell ⟨g, 3, none⟩ (.slice A' (p.lines.length + 1) c')).setCell ⟨g, 1, none⟩ (.slice none 0 0)) K none f.LA) A n bs := fun hq => by_keep hq (fun q cs fz e _ _ _ => hf.block q (Array.getElem?_eq_some_iff.1 e).1 (fun hm => by
  rw [List.mem_singleton.1 hm] at e
  exact hc0.not_ty (by decide) cs fz e)) (fun q e => .inl e) (fun q e => .inr (.inl e))
 refine ⟨?_, World.ownsRow_nil _ _ _ _, own_frm l1 hf (fun k hk => by rw [List.mem_singleton.1 hk]; exact own_ty_ne l1 hc0 (by decide)), ?_, ?_, fun u hu => ?_, fun q e => (by cases e)⟩
 ·have := (hc0.set 3 (.slice A' (p.lines.length + 1) c')).set 1 (.slice none 0 0)
  unfold fcells at this ⊢
  simpa using this
 ·show World.ownsRow _ K 37 1 (.slice A' (p.lines ++ [p.part]).length c') (p.lines ++ [p.part]).length ((f.us ++ [(⟨f.PA, f.pc, p.part⟩ : Vt)]).map Vt.cell)
  rw [hl, List.map_append]
  exact o1
 ·unfold txt
  rw [List.map_append]
  show txt f.us ++ [p.part] = p.lines ++ [p.part]
  rw [h.tx]
 ·rcases List.mem_append.1 hu with hu | hu
  ·exact ⟨hby (l3 u hu).1, (l3 u hu).2⟩
  ·rw [List.mem_singleton.1 hu]
   exact ⟨hby l4, hpl⟩
theorem says (h : Fd w K g AR nR cR p f) (s : Int) (o : List B) {A' : Option Addr} {c' n' : Nat} (hn' : n' = (p.log ++ o).length) (ho : w'.ownsRow K 5 1 (.slice A' n' c') n' ((p.log ++ o).map v8)) (hg : w.grownBy w' (ob f.LA)) (hn : ob A' = ob f.LA ∨ ob A' = some w.heap.size) :
  Fd ((w'.setCell ⟨g, 2, none⟩ (.slice A' n' c')).setCell ⟨g, 0, none⟩ (.int .i64 s)) K g AR nR cR ⟨s, p.part, p.log ++ o, p.lines⟩ { f with LA := A', lc := c' } := by
 subst hn'
 have hf0 : Frm (ob f.LA).toList w w' := (Frm.refl _ w).grown hg (fun q e _ => by simp [e])
 have hc0 := h.cel.grown hg h.lg_g
 have hn2 : ∀ q, ob A' = some q → ob f.PA = some q ∨ ob f.LA = some q ∨ w.heap.size ≤ q := fun q e => by
  rcases hn with e' | e'
  ·exact .inr (.inl (e' ▸ e))
  ·rw [e'] at e; injection e with e; exact .inr (.inr (by omega))
 have hap : ∀ q, ob f.PA = some q → ob A' ≠ some q := fun q e e2 => by
  rcases hn with e' | e'
  ·exact h.ap q e (e' ▸ e2)
  ·rw [e'] at e2; injection e2 with e2
   have := h.pt_lt q e
   omega
 have l1 : w'.ownsRow K 5 1 (.slice f.PA p.part.length f.pc) p.part.length (p.part.map v8) := own_frm h.pt hf0 (fun k hk => by rw [ob_own]; exact fun e => h.ap k e (by simpa using hk))
 have l2 : w'.ownsRow K 37 1 (.slice f.A p.lines.length f.c) p.lines.length (f.us.map Vt.cell) := own_frm h.ls hf0 (fun k hk => by rw [ob_own]; exact fun e => h.ls_lg k e (by simpa using hk))
 have l3 : ∀ u ∈ f.us, Bp w' (Bq w' K f.PA A') u.A u.t.length u.t ∧ u.t.length ≤ 400 := fun u hu => ⟨by_keep (h.by_ u hu).1 (fun q cs fz e _ _ e1 => hg.block q (Array.getElem?_eq_some_iff.1 e).1 (fun e' => e1 e'.symm)) (fun q e => .inl e) hn2, (h.by_ u hu).2⟩
 have hf : Frm [g] w' ((w'.setCell ⟨g, 2, none⟩ (.slice A' (p.log ++ o).length c')).setCell ⟨g, 0, none⟩ (.int .i64 s)) := ((Frm.refl [g] w').set (p := ⟨g, 2, none⟩) (by simp) _).set (p := ⟨g, 0, none⟩) (by simp) _
 refine ⟨?_, own_frm l1 hf (fun k hk => by rw [List.mem_singleton.1 hk]; exact own_ty_ne l1 hc0 (by decide)), own_frm ho hf (fun k hk => by rw [List.mem_singleton.1 hk]; exact own_ty_ne ho hc0 (by decide)), own_frm l2 hf (fun k hk => by rw [List.mem_singleton.1 hk]; exact own_ty_ne l2 hc0 (by decide)), h.tx, fun u hu => ⟨by_keep (l3 u hu).1 (fun q cs fz e _ _ _ => hf.block q (Array.getElem?_eq_some_iff.1 e).1 (fun hm => ?_)) (fun q e => .inl e) (fun q e => .inr (.inl e)), (l3 u hu).2⟩, hap⟩
 ·have := (hc0.set 2 (.slice A' (p.log ++ o).length c')).set 0 (.int .i64 s)
  unfold fcells at this ⊢
  simpa using this
 ·rw [List.mem_singleton.1 hm] at e
  exact hc0.not_ty (by decide) cs fz e
end Fd
def ansR (rs : List Ru) (p : Pe) (x : List B) : Pe := match meets rs p.state x with
 | none => p
 | some r => ⟨r.next, p.part, p.log ++ r.out, p.lines⟩
theorem line_ans (rs : List Ru) (p : Pe) (x : List B) : lineR rs p x = ansR rs ⟨p.state, [], p.log, p.lines ++ [x]⟩ x := by
 unfold lineR ansR
 dsimp only
 cases meets rs p.state x <;> rfl
theorem bytesP : ByteRow Try.prog 37 5 := ByteRow.mk' Try.underlying37 (by kernel_rfl)
theorem infoLn : (Try.prog.info? 37).map (fun i => (i.zero, i.size, i.bytes)) = some (some (.slice none 0 0), 1, 24) := by kernel_rfl
theorem rowLn : ElemRow Try.prog 47 37 1 24 := ElemRow.mk' Try.underlying47 infoLn rfl (by decide)
theorem equal_ (w : World) (A1 A2 : Option Addr) (c1 c2 : Nat) (x y : List B) (h1 : Bs w w.heap.size A1 x.length x) (h2 : Bs w w.heap.size A2 y.length y) :
  Calls Try.prog 35 #[.slice A1 x.length c1, .slice A2 y.length c2] w fun e w' => e = .returned (.bool (decide (x = y))) ∧ w = w' := by
 have e1 := (Bs.bp h1).string c1 Try.underlying37 Try.underlying5 Try.underlying9
 have e2 := (Bs.bp h2).string c2 Try.underlying37 Try.underlying5 Try.underlying9
 have sb := Book.str_beq x y
 cases hz : decide (x = y) with
 | true =>
  rw [hz] at sb
  clear h1 h2 hz
  go_enter Try.func35, Try.ntmps35
  go_wp2_with fail
  go_ret
  exact ⟨rfl, rfl⟩
 | false =>
  rw [hz] at sb
  clear h1 h2 hz
  go_enter Try.func35, Try.ntmps35
  go_wp2_with fail
  go_ret
  exact ⟨rfl, rfl⟩
end Go.Proofs.Ytnjmdgnghidjhaa.Peer
end
section
namespace Go.Proofs.Ytnjmdgnghidjhaa.Peer
open Go.RowKit Go.Proofs.Ytnjmdgnghidjhaa.Ord
open Lex (Tx fw4 fw4_cel fw4_frm)
open Rec (Vt Tvs Trow txt)
theorem mono_below {w0 w w' : World} {K : Nat} {l : List Nat} (hb : Below K w0 w) (hK : K ≤ w0.heap.size) (hf : Frm l w w') (hl : ∀ q ∈ l, K ≤ q) : Below K w0 w' := hb.trans (hf.below (Nat.le_trans hK hb.size) hl)
theorem answer_ (w : World) (K g T : Nat) (AR : Option Addr) (nR cR : Nat) (vs : List Rl) (hR : ∀ V, Below K w V → Rls V T AR vs) (hT : T ≤ K) (hK : K ≤ w.heap.size) (hKg : K ≤ g) (hl : vs.length = nR) (hn : nR ≤ 100000) (p : Pe) (f : Fv) (h : Fd w K g AR nR cR p f)
  (A : Option Addr) (c : Nat) (x : List B) (hx : Bs w w.heap.size A x.length x) (hsz : p.log.length ≤ 10000000 ∧ ∀ v ∈ vs, v.r.out.length ≤ 1000000) :
  Calls Try.prog 34 #[.pointer (some ⟨g, 0, none⟩), .slice A x.length c] w fun e w' => e = .returned (.tuple #[]) ∧ Below K w w' ∧ ∃ f', Fd w' K g AR nR cR (ansR (vs.map (·.r)) p x) f' := by
 obtain ⟨Q, hQ⟩ : ∃ Q, Q = ansR (vs.map (·.r)) p x := ⟨_, rfl⟩
 rw [← hQ]
 have HQ := Lib.hid hQ
 have HRF := Lib.hid hR
 have HL := Lib.hid hl
 have HF := Lib.hid h
 have HX := Lib.hid hx
 have HSZ := Lib.hid hsz
 have k4 : w.cell? ⟨g, 4, none⟩ = some (.slice AR nR cR) := h.cel.cell 4
 clear hQ hR hl h hx hsz
 go_enter Try.func34, Try.ntmps34
 go_wp2_with fail
 go_loopw [11] (fun v11 wr => ∃ (i : Nat), i ≤ nR ∧ v11 = .int .i64 (i : Int) ∧ Below w.heap.size w wr ∧ Hid (meets (vs.map (·.r)) p.state x = meets ((vs.map (·.r)).drop i) p.state x)) (fun v11 _ => nR - (intOf v11).toNat)
 case atStart => exact ⟨0, Nat.zero_le _, rfl, Below.refl _ _, Lib.hid (by rw [List.drop_zero])⟩
 case round =>
  clear k4
  obtain ⟨i, hi, rfl, hb, HD⟩ := hrel
  obtain ⟨V1, hV1⟩ : ∃ V1, V1 = wr := ⟨_, rfl⟩
  rw [← hV1] at hb ⊢
  clear hV1
  have HB1 := Lib.hid hb
  rcases Nat.lt_or_ge i nR with hlt | hge
  ·obtain ⟨v, hv⟩ : ∃ v, vs[i]? = some v := ⟨_, List.getElem?_eq_getElem (by rw [HL.out]; exact hlt)⟩
   obtain ⟨ad, rfl, a0, a1, a2, a3, _, _⟩ := HRF.out V1 (hb.mono hK) i v hv
   obtain ⟨W, hW⟩ : ∃ W, W = (V1.alloc (.cells #[.int .i64 v.r.state, .slice v.A1 v.r.line.length v.c1, .slice v.A2 v.r.out.length v.c2, .int .i64 v.r.next] 55)).drew := ⟨_, rfl⟩
   have hbf : Below V1.heap.size V1 W := by rw [hW]; exact ((Below.refl _ _).alloc (Nat.le_refl _) _).drew
   have hcr : Cel W V1.heap.size 55 [.int .i64 v.r.state, .slice v.A1 v.r.line.length v.c1, .slice v.A2 v.r.out.length v.c2, .int .i64 v.r.next] := by rw [hW]; exact (Cel.new V1 55 [.int .i64 v.r.state, .slice v.A1 v.r.line.length v.c1, .slice v.A2 v.r.out.length v.c2, .int .i64 v.r.next]).drew
   have hbw : Below w.heap.size w W := hb.trans (hbf.mono hb.size)
   have HFW := Lib.hid (HF.out.below hbw)
   have HC := Lib.hid (show Cel W g 72 [.int .i64 p.state, .slice f.PA p.part.length f.pc, .slice f.LA p.log.length f.lc, .slice f.A p.lines.length f.c, .slice (some ad) nR cR] from (HF.out.below hbw).cel)
   have HCR := Lib.hid hcr
   have HBW := Lib.hid hbw
   have HV := Lib.hid hv
   have HD1 := Lib.hid (show (vs.map (·.r)).drop i = v.r :: (vs.map (·.r)).drop (i + 1) from drop_rl (by rw [List.getElem?_map, hv]; rfl))
   obtain ⟨tb, htb⟩ : ∃ b, b = decide (v.r.line = x) := ⟨_, rfl⟩
   have HTB := Lib.hid htb
   have HT := Lib.hid (show Tx W T v.A1 v.r.line ∧ Tx W T v.A2 v.r.out by obtain ⟨_, _, _, _, _, _, h1, h2⟩ := HRF.out W (hbw.mono hK) i v hv; exact ⟨h1, h2⟩)
   have HTW := Lib.hid (show T ≤ W.heap.size from Nat.le_trans hT (Nat.le_trans hK hbw.size))
   have HXW := Lib.hid (show Bs W W.heap.size A x.length x from (HX.out.below hbw).more hbw.size)
   clear hv hbw hcr htb
   go_upto_region 3 with fail
   refine wp_region_N [] (fun V => Below W.heap.size W V) (by kernel_rfl) ?_
   rw [← hW]
   have hH : Below W.heap.size W W := Below.refl _ _
   clear hW a0 a1 a2 a3 hb
   refine tk_ 0 (.pointer (some ⟨V1.heap.size, 0, none⟩)) [] rfl hH ?_ ?_
   ·intro V hV; go_simp
   try simp only [Act.put, lay_]
   refine tk_ 1 (.int .i64 v.r.state) [] rfl hH ?_ ?_
   ·intro V hV; have hc := HCR.out.below hV HCR.out.lt; have k0 : V.cell? ⟨V1.heap.size, 0, none⟩ = some (.int .i64 v.r.state) := hc.cell 0; clear hc; go_simp
   try simp only [Act.put, lay_]
   refine tk_ 2 (.pointer (some ⟨g, 0, none⟩)) [] rfl hH ?_ ?_
   ·intro V hV; go_simp
   try simp only [Act.put, lay_]
   refine tk_ 3 (.pointer (some ⟨g, 0, none⟩)) [] rfl hH ?_ ?_
   ·intro V hV; go_simp
   try simp only [Act.put, lay_]
   refine tk_ 4 (.pointer (some ⟨g, 0, none⟩)) [] rfl hH ?_ ?_
   ·intro V hV; go_simp
   try simp only [Act.put, lay_]
   refine tk_ 5 (.pointer (some ⟨g, 0, none⟩)) [] rfl hH ?_ ?_
   ·intro V hV; go_simp
   try simp only [Act.put, lay_]
   refine tk_ 6 (.int .i64 p.state) [] rfl hH ?_ ?_
   ·intro V hV; have hc := HC.out.below hV HC.out.lt; have k0 : V.cell? ⟨g, 0, none⟩ = some (.int .i64 p.state) := hc.cell 0; clear hc; go_simp
   try simp only [Act.put, lay_]
   cases hz7 : (v.r.state == p.state) with
   | true =>
    refine tk_ 7 (.bool true) [] rfl hH ?_ ?_
    ·intro V hV; go_simp
    try simp only [Act.put, lay_]
    refine tk_ 8 (.bool true) [] rfl hH ?_ ?_
    ·intro V hV; go_simp
    try simp only [Act.put, lay_]
    refine tk_ 9 (.pointer (some ⟨V1.heap.size, 1, none⟩)) [] rfl hH ?_ ?_
    ·intro V hV; go_simp
    try simp only [Act.put, lay_]
    refine tk_ 10 (.slice v.A1 v.r.line.length v.c1) [] rfl hH ?_ ?_
    ·intro V hV; have hc := HCR.out.below hV HCR.out.lt; have k0 : V.cell? ⟨V1.heap.size, 1, none⟩ = some (.slice v.A1 v.r.line.length v.c1) := hc.cell 1; clear hc; go_simp
    try simp only [Act.put, lay_]
    refine tk_ 11 (.slice A x.length c) [] rfl hH ?_ ?_
    ·intro V hV; go_simp
    try simp only [Act.put, lay_]
    refine wpAnyN_one (i := 12) (by kernel_rfl) rfl (fun Kq hKq => ?_)
    go_simp
    refine ((show Calls Try.prog 35 #[.slice v.A1 v.r.line.length v.c1, .slice A x.length c] W (fun e w' => e = .returned (.bool tb) ∧ W = w') by rw [HTB.out]; exact equal_ W v.A1 A v.c1 c v.r.line x (HT.out.1.bs HTW.out) HXW.out)).mono ?_
    rintro e V2 ⟨rfl, rfl⟩
    go_wp2_with fail
    refine hKq.out _ _ (.inr hH) ?_
    clear hKq Kq
    try simp only [Act.put, lay_]
    cases tb with
    | true =>
     refine tk_ 13 (.bool true) [] rfl hH ?_ ?_
     ·intro V hV; go_simp
     try simp only [Act.put, lay_]
     refine wpAnyN_done (by kernel_rfl) ?_ _
     go_wp2_with fail
     refine wp_region_N [12] (fun V => Cel V g 72 [.int .i64 p.state, .slice f.PA p.part.length f.pc, .slice f.LA p.log.length f.lc, .slice f.A p.lines.length f.c, .slice (some ad) nR cR] ∧ Cel V V1.heap.size 55 [.int .i64 v.r.state, .slice v.A1 v.r.line.length v.c1, .slice v.A2 v.r.out.length v.c2, .int .i64 v.r.next]) (by kernel_rfl) ?_
     clear hH
     have HS1 := Lib.hid (show ∀ V, (Cel V g 72 [.int .i64 p.state, .slice f.PA p.part.length f.pc, .slice f.LA p.log.length f.lc, .slice f.A p.lines.length f.c, .slice (some ad) nR cR] ∧ Cel V V1.heap.size 55 [.int .i64 v.r.state, .slice v.A1 v.r.line.length v.c1, .slice v.A2 v.r.out.length v.c2, .int .i64 v.r.next]) → Cel V g 72 [.int .i64 p.state, .slice f.PA p.part.length f.pc, .slice f.LA p.log.length f.lc, .slice f.A p.lines.length f.c, .slice (some ad) nR cR] from fun V h => h.1)
     have HS2 := Lib.hid (show ∀ V, (Cel V g 72 [.int .i64 p.state, .slice f.PA p.part.length f.pc, .slice f.LA p.log.length f.lc, .slice f.A p.lines.length f.c, .slice (some ad) nR cR] ∧ Cel V V1.heap.size 55 [.int .i64 v.r.state, .slice v.A1 v.r.line.length v.c1, .slice v.A2 v.r.out.length v.c2, .int .i64 v.r.next]) → Cel V V1.heap.size 55 [.int .i64 v.r.state, .slice v.A1 v.r.line.length v.c1, .slice v.A2 v.r.out.length v.c2, .int .i64 v.r.next] from fun V h => h.2)
     have hH : Cel W.drew g 72 [.int .i64 p.state, .slice f.PA p.part.length f.pc, .slice f.LA p.log.length f.lc, .slice f.A p.lines.length f.c, .slice (some ad) nR cR] ∧ Cel W.drew V1.heap.size 55 [.int .i64 v.r.state, .slice v.A1 v.r.line.length v.c1, .slice v.A2 v.r.out.length v.c2, .int .i64 v.r.next] := ⟨HC.out.drew, HCR.out.drew⟩
     refine tk_ 0 (.pointer (some ⟨g, 0, none⟩)) [12] rfl hH ?_ ?_
     ·intro V hV; go_simp
     try simp only [Act.put, lay_]
     refine tk_ 1 (.pointer (some ⟨g, 0, none⟩)) [12] rfl hH ?_ ?_
     ·intro V hV; go_simp
     try simp only [Act.put, lay_]
     refine tk_ 2 (.pointer (some ⟨g, 0, none⟩)) [12] rfl hH ?_ ?_
     ·intro V hV; go_simp
     try simp only [Act.put, lay_]
     refine tk_ 3 (.pointer (some ⟨g, 0, none⟩)) [12] rfl hH ?_ ?_
     ·intro V hV; go_simp
     try simp only [Act.put, lay_]
     refine tk_ 4 (.pointer (some ⟨g, 2, none⟩)) [12] rfl hH ?_ ?_
     ·intro V hV; go_simp
     try simp only [Act.put, lay_]
     refine tk_ 5 (.slice f.LA p.log.length f.lc) [12] rfl hH ?_ ?_
     ·intro V hV; have hc := HS1.out V hV; have k0 : V.cell? ⟨g, 2, none⟩ = some (.slice f.LA p.log.length f.lc) := hc.cell 2; clear hc; go_simp
     try simp only [Act.put, lay_]
     refine tk_ 6 (.pointer (some ⟨V1.heap.size, 2, none⟩)) [12] rfl hH ?_ ?_
     ·intro V hV; go_simp
     try simp only [Act.put, lay_]
     refine tk_ 7 (.slice v.A2 v.r.out.length v.c2) [12] rfl hH ?_ ?_
     ·intro V hV; have hc := HS2.out V hV; have k0 : V.cell? ⟨V1.heap.size, 2, none⟩ = some (.slice v.A2 v.r.out.length v.c2) := hc.cell 2; clear hc; go_simp
     try simp only [Act.put, lay_]
     refine wpAnyN_one (i := 8) (by kernel_rfl) rfl (fun Kq hKq => ?_)
     rw [if_pos (by rfl)]
     refine wp_append_bs _ _ _ 37 rfl K 5 bytesP (.slice f.LA p.log.length f.lc) p.log.length p.log rfl HFW.out.drew.lg W.heap.size v.A2 v.r.out.length v.c2 v.r.out rfl (HT.out.2.bs HTW.out) (by have h1 := HSZ.out.1; have h2 := HSZ.out.2 v (List.mem_of_getElem? HV.out); omega) (Nat.le_trans hK HBW.out.size) ?_
     intro A8 c8 w8 ho8 hg8 hn8
     rw [ob_own] at hg8
     rw [ob_own, ob_own] at hn8
     have HNE := Lib.hid (show V1.heap.size ≠ g from fun e => by have := HCR.out; rw [e] at this; exact HC.out.ne this (by decide) rfl)
     have hH8 : Cel w8 g 72 [.int .i64 p.state, .slice f.PA p.part.length f.pc, .slice f.LA p.log.length f.lc, .slice f.A p.lines.length f.c, .slice (some ad) nR cR] ∧ Cel w8 V1.heap.size 55 [.int .i64 v.r.state, .slice v.A1 v.r.line.length v.c1, .slice v.A2 v.r.out.length v.c2, .int .i64 v.r.next] := ⟨HC.out.drew.grown hg8 HFW.out.lg_g, HCR.out.drew.grown hg8 (fun e => by rw [← ob_own f.LA p.log.length f.lc] at e; exact own_ty_ne HFW.out.lg HCR.out (by decide) e)⟩
     have HR8 := Lib.hid hH8.2
     have HO8 := Lib.hid ho8
     have HG8 := Lib.hid hg8
     have HN8 := Lib.hid hn8
     clear ho8 hg8 hn8
     refine hKq.out _ _ (.inr hH8) ?_
     clear hKq Kq
     try simp only [Act.put, lay_]
     clear hH
     have hH := hH8
     refine tk_ 9 (.pointer (some ⟨g, 0, none⟩)) [10, 11, 12] rfl hH ?_ ?_
     ·intro V hV; go_simp
     try simp only [Act.put, lay_]
     refine tk_ 10 (.pointer (some ⟨g, 0, none⟩)) [11, 12] rfl hH ?_ ?_
     ·intro V hV; go_simp
     try simp only [Act.put, lay_]
     refine tk_ 11 (.pointer (some ⟨g, 2, none⟩)) [12] rfl hH ?_ ?_
     ·intro V hV; go_simp
     try simp only [Act.put, lay_]
     have k2 := hH8.1.cell 2
     have f2 := hH8.1.free 2
     refine wpAnyN_one (i := 12) (by kernel_rfl) rfl (fun Kq hKq => ?_)
     go_simp
     refine hKq.out _ _ (.inl (by decide)) ?_
     clear hKq Kq k2 f2
     try simp only [Act.put, lay_]
     refine wpAnyN_done (by kernel_rfl) ?_ _
     obtain ⟨V5, hV5⟩ : ∃ V5, V5 = w8.setCell ⟨g, 2, none⟩ (.slice A8 (p.log.length + v.r.out.length) c8) := ⟨_, rfl⟩
     rw [← hV5]
     have r3 : V5.cell? ⟨V1.heap.size, 3, none⟩ = some (.int .i64 v.r.next) := by rw [hV5]; exact (HR8.out.far (by exact HNE.out) _).cell 3
     have hg5 := hH8.1.set 2 (.slice A8 (p.log.length + v.r.out.length) c8)
     rw [← hV5] at hg5
     have c0 := hg5.cell 0
     have f0 := hg5.free 0
     have HV5 := Lib.hid hV5
     clear hV5 hg5 hH
     go_wp2_with fail
     refine bodyPost_ret (results_none rfl _ _ _) rfl ?_
     have hfd := HFW.out.drew.says v.r.next v.r.out (by rw [List.length_append]) HO8.out HG8.out HN8.out
     rw [← HV5.out] at hfd
     refine ⟨rfl, ?_, { f with LA := A8, lc := c8 }, ?_⟩
     ·exact (mono_below (mono_below (HBW.out.mono hK).drew hK ((Frm.refl (ob f.LA).toList _).grown HG8.out (fun q e _ => by simp [e])) (fun q hq => HFW.out.lg_ge q (by simpa using hq))) hK (show Frm [g] w8 _ by rw [HV5.out]; exact ((Frm.refl [g] w8).set (p := ⟨g, 2, none⟩) (by simp) _).set (p := ⟨g, 0, none⟩) (by simp) _) (by simp; exact hKg))
     ·rw [HQ.out]
      unfold ansR
      rw [HD.out, HD1.out, meets_hit ⟨by simpa using hz7, by simpa using HTB.out.symm⟩]
      exact hfd
    | false =>
     refine tk_ 13 (.bool false) [] rfl hH ?_ ?_
     ·intro V hV; go_simp
     try simp only [Act.put, lay_]
     refine wpAnyN_done (by kernel_rfl) ?_ _
     go_wp2_with fail
     exact ⟨⟨i + 1, hlt, by rw [show ((i + 1 : Nat) : Int) = (i : Int) + 1 by omega], HBW.out, Lib.hid (by rw [HD.out, HD1.out, meets_miss (by intro h; have := HTB.out; simp [h.2] at this)])⟩, by simp [intOf]; omega⟩
   | false =>
    refine tk_ 7 (.bool false) [] rfl hH ?_ ?_
    ·intro V hV; go_simp
    try simp only [Act.put, lay_]
    refine tk_ 8 (.bool false) [] rfl hH ?_ ?_
    ·intro V hV; go_simp
    try simp only [Act.put, lay_]
    refine wpAnyN_take (i := 9) (v := undef) [] (by kernel_rfl) rfl (by kernel_rfl) (by kernel_rfl) (by kernel_rfl) (fun _ _ _ h => h) (Or.inr ⟨by rfl, rfl⟩) hH ?_
    try simp only [Act.put, lay_]
    refine wpAnyN_take (i := 10) (v := undef) [] (by kernel_rfl) rfl (by kernel_rfl) (by kernel_rfl) (by kernel_rfl) (fun _ _ _ h => h) (Or.inr ⟨by rfl, rfl⟩) hH ?_
    try simp only [Act.put, lay_]
    refine wpAnyN_take (i := 11) (v := undef) [] (by kernel_rfl) rfl (by kernel_rfl) (by kernel_rfl) (by kernel_rfl) (fun _ _ _ h => h) (Or.inr ⟨by rfl, rfl⟩) hH ?_
    try simp only [Act.put, lay_]
    refine wpAnyN_take (i := 12) (v := undef) [] (by kernel_rfl) rfl (by kernel_rfl) (by kernel_rfl) (by kernel_rfl) (fun _ _ _ h => h) (Or.inr ⟨by rfl, rfl⟩) hH ?_
    try simp only [Act.put, lay_]
    refine tk_ 13 (.bool false) [] rfl hH ?_ ?_
    ·intro V hV; go_simp
    try simp only [Act.put, lay_]
    refine wpAnyN_done (by kernel_rfl) ?_ _
    go_wp2_with fail
    exact ⟨⟨i + 1, hlt, by rw [show ((i + 1 : Nat) : Int) = (i : Int) + 1 by omega], HBW.out, Lib.hid (by rw [HD.out, HD1.out, meets_miss (by have h1 := hz7; intro h; simp [h.1] at h1)])⟩, by simp [intOf]; omega⟩
  ·obtain rfl : i = nR := by omega
   go_wp2_with fail
   go_end0
   refine ⟨rfl, HB1.out.mono hK, f, ?_⟩
   rw [HQ.out]
   unfold ansR
   rw [HD.out, List.drop_of_length_le (by rw [List.length_map, HL.out]; exact Nat.le_refl _)]
   exact HF.out.below HB1.out
end Go.Proofs.Ytnjmdgnghidjhaa.Peer
end
