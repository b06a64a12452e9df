/-
Texts: PeerKnows PeerPcells
-/
import Derived.Test.YtfllngpncnhfnaaWp0
import Derived.Test.YtfllngpncnhfnaaWp1
import Derived.Test.YtfllngpncnhfnaaWp2
import Derived.Test.YtfllngpncnhfnaaWp3
import Derived.Lib.SlBytesConst
set_option linter.unusedVariables false
set_option linter.unusedSimpArgs false
set_option maxRecDepth 100000
set_option maxHeartbeats 4000000
namespace Go.Proofs.Ytfllngpncnhfnaa.Ord
end Go.Proofs.Ytfllngpncnhfnaa.Ord
section
namespace Go.Proofs.Ytfllngpncnhfnaa.Peer
open Go.RowKit Go.Proofs.Ytfllngpncnhfnaa.Ord
open Lex (Tx Owb rowB)
open Rec (Vt Tvs Trow txt)
open Vars (scell)
def okB : List B := [111#8, 107#8]
def yesB : List B := [121#8, 101#8, 115#8]
def inB : List B := [104#8, 105#8, 21#8, 111#8, 107#8, 10#8]
def ru0 : Ru := ⟨0, okB, yesB, 1⟩
def pe1 : Pe := ⟨1, [], yesB, [okB]⟩
theorem fed : feedR [ru0] ⟨0, [], [], []⟩ inB = pe1 := by rfl
def dv0 : Dvm := ⟨0, [], [], [], none, 0, none, 0, none, 0⟩
theorem tx_up {w : World} {B B' : Nat} {A : Option Addr} {t : List (BitVec 8)} (h : Tx w B A t) (hB : B ≤ B') : Tx w B' A t := h.imp (fun h => h.more hB) id
theorem cell_lit (w : World) (C : Array Value) (e : TypeId) (f : Nat × Nat) (k : Nat) : (w.alloc (.cells C e f)).cell? ⟨w.heap.size, k, none⟩ = C[k]? := by
 have h : (w.alloc (.cells C e f)).heap[w.heap.size]? = some (.cells C e f) := by
  show (w.heap.push (.cells C e f))[w.heap.size]? = _
  simp
 unfold World.cell?
 rw [h]
 rfl
theorem tx_lit (w : World) (bs : List B) (f : Nat × Nat) : Tx (w.alloc (.cells (bs.map v8).toArray 5 f)) (w.heap.size + 1) (some ⟨w.heap.size, 0, none⟩) bs :=
 .inl ⟨rfl, fun _ => ⟨_, rfl, Nat.lt_succ_self _, fun j hj => by
  have h := cell_lit w (bs.map v8).toArray 5 f j
  have e : (bs.map v8).toArray[j]? = some (v8 (bs.getD j 0#8)) := by simp [hj, List.getD_eq_getElem?_getD]
  rw [e] at h
  cases j <;> simpa [Addr.add] using h⟩⟩
def mk (w : World) (bs : List B) : World := w.alloc (.cells (bs.map v8).toArray 5 (bs.length, bs.length + 1))
theorem mk_size (w : World) (bs : List B) : (mk w bs).heap.size = w.heap.size + 1 := by simp [mk]
theorem mk_below (w : World) (bs : List B) : Below w.heap.size w (mk w bs) := (Below.refl _ _).alloc (Nat.le_refl _) _
theorem mk_tx (w : World) (bs : List B) : Tx (mk w bs) (mk w bs).heap.size (some ⟨w.heap.size, 0, none⟩) bs := by rw [mk_size]; exact tx_lit w bs _
theorem mk_cv (w : World) (bs : List B) (g n : Nat) (hg : g = w.heap.size) : (convert 23 23 (.slice (some ⟨g, 0, none⟩) n n)).run Try.prog (w.alloc (.cells (bs.map v8).toArray 5)) = .ok (.slice (some ⟨g, 0, none⟩) n n) (mk w bs) := by
 subst hg
 have h := Lib.run_convert_bytes_const (P := Try.prog) w 23 5 (bs.map v8).toArray n n rfl rfl
 simpa [mk] using h
def rl0 (a b : Nat) : Rl := ⟨ru0, some ⟨a, 0, none⟩, 2, some ⟨b, 0, none⟩, 3⟩
theorem dok0 (w : World) (T : Nat) : Dok w T dv0 := ⟨.inl ⟨rfl, fun h => absurd h (by simp [dv0])⟩, .inl ⟨rfl, fun h => absurd h (by simp [dv0])⟩, ⟨fun i v hi => by simp [dv0] at hi, fun v hv => by simp [dv0] at hv⟩, Rec.trow_nil⟩
theorem knows17 (HFD : PFeed) : Knows17 := fun w => by
 go_enter Try.func7, Try.ntmps7
 obtain ⟨w1, hw1⟩ : ∃ W, W = mk w okB := ⟨_, rfl⟩
 obtain ⟨w2, hw2⟩ : ∃ W, W = mk w1 yesB := ⟨_, rfl⟩
 obtain ⟨w3, hw3⟩ : ∃ W, W = w2.alloc (.cells #[.int .i64 0, .slice (some ⟨w.heap.size, 0, none⟩) 2 2, .slice (some ⟨w1.heap.size, 0, none⟩) 3 3, .int .i64 1] 42) := ⟨_, rfl⟩
 obtain ⟨w4, hw4⟩ : ∃ W, W = mk w3 inB := ⟨_, rfl⟩
 have c1 : (convert 23 23 (.slice (some ⟨w.heap.size, 0, none⟩) 2 2)).run Try.prog (w.alloc (.cells #[.int .u8 111, .int .u8 107] 5)) = .ok (.slice (some ⟨w.heap.size, 0, none⟩) 2 2) w1 := by rw [hw1]; exact mk_cv w okB _ 2 rfl
 have c2 : (convert 23 23 (.slice (some ⟨w1.heap.size, 0, none⟩) 3 3)).run Try.prog (w1.alloc (.cells #[.int .u8 121, .int .u8 101, .int .u8 115] 5)) = .ok (.slice (some ⟨w1.heap.size, 0, none⟩) 3 3) w2 := by rw [hw2]; exact mk_cv w1 yesB _ 3 rfl
 have c3 : (convert 23 23 (.slice (some ⟨w2.heap.size + 1, 0, none⟩) 6 6)).run Try.prog ((w2.alloc (.cells #[.int .i64 0, .slice (some ⟨w.heap.size, 0, none⟩) 2 2, .slice (some ⟨w1.heap.size, 0, none⟩) 3 3, .int .i64 1] 42)).alloc (.cells #[.int .u8 104, .int .u8 105, .int .u8 21, .int .u8 111, .int .u8 107, .int .u8 10] 5)) = .ok (.slice (some ⟨w2.heap.size + 1, 0, none⟩) 6 6) w4 := by rw [hw4, ← hw3]; exact mk_cv w3 inB _ 6 (by rw [hw3]; simp)
 have s3 : w3.heap.size = w2.heap.size + 1 := by rw [hw3]; simp
 have b1 : Below w.heap.size w w1 := by rw [hw1]; exact mk_below _ _
 have b2 : Below w1.heap.size w1 w2 := by rw [hw2]; exact mk_below _ _
 have b3 : Below w2.heap.size w2 w3 := by rw [hw3]; exact (Below.refl _ _).alloc (Nat.le_refl _) _
 have b4 : Below w3.heap.size w3 w4 := by rw [hw4]; exact mk_below _ _
 have b14 : Below w1.heap.size w1 w4 := b2.trans ((b3.trans (b4.mono b3.size)).mono b2.size)
 have b24 : Below w2.heap.size w2 w4 := b3.trans (b4.mono b3.size)
 have t1 : Tx w4 w4.heap.size (some ⟨w.heap.size, 0, none⟩) okB := tx_up ((show Tx w1 w1.heap.size _ okB by rw [hw1]; exact mk_tx w okB).below (Nat.le_refl _) b14) b14.size
 have t2 : Tx w4 w4.heap.size (some ⟨w1.heap.size, 0, none⟩) yesB := tx_up ((show Tx w2 w2.heap.size _ yesB by rw [hw2]; exact mk_tx w1 yesB).below (Nat.le_refl _) b24) b24.size
 have t4 : Tx w4 w4.heap.size (some ⟨w3.heap.size, 0, none⟩) inB := by rw [hw4]; exact mk_tx w3 inB
 have hc3 : Cel w4 w2.heap.size 42 [.int .i64 0, .slice (some ⟨w.heap.size, 0, none⟩) 2 2, .slice (some ⟨w1.heap.size, 0, none⟩) 3 3, .int .i64 1] := by
  have h : Cel w3 w2.heap.size 42 [.int .i64 0, .slice (some ⟨w.heap.size, 0, none⟩) 2 2, .slice (some ⟨w1.heap.size, 0, none⟩) 3 3, .int .i64 1] := by rw [hw3]; exact Cel.new w2 _ _
  exact h.below b4 h.lt
 have hrl : Rls w4 w4.heap.size (some ⟨w2.heap.size, 0, none⟩) [rl0 w.heap.size w1.heap.size] := fun i v hi => by
  cases i with
  | zero =>
   injection hi with hi
   subst hi
   refine ⟨_, rfl, ?_, ?_, ?_, ?_, t1, t2⟩
   ·have := hc3.cell 0; simpa [Addr.add, rl0, ru0, okB, yesB] using this
   ·have := hc3.cell 1; simpa [Addr.add, rl0, ru0, okB, yesB] using this
   ·have := hc3.cell 2; simpa [Addr.add, rl0, ru0, okB, yesB] using this
   ·have := hc3.cell 3; simpa [Addr.add, rl0, ru0, okB, yesB] using this
  | succ i => cases hi
 have hw : Below w.heap.size w w4 := b1.trans (b14.mono b1.size)
 have con := HFD w4 w4.heap.size (Nat.le_refl _) (some ⟨w2.heap.size, 0, none⟩) 1 1 [rl0 w.heap.size w1.heap.size] hrl ⟨rfl, by decide, fun v hv => by simp at hv; subst hv; exact ⟨by show 2 ≤ 60; decide, by show 3 ≤ 60; decide⟩⟩ dv0 (dok0 _ _) ⟨by decide, by decide, by decide, fun l hl => by simp [dv0] at hl⟩ w4.heap.size (some ⟨w3.heap.size, 0, none⟩) 6 6 inB (t4.bs (Nat.le_refl _)) (Nat.le_refl _) (Nat.le_refl _) (by decide)
 have hres : feedR ([rl0 w.heap.size w1.heap.size].map (·.r)) dv0.m inB = pe1 := fed
 rw [hres, s3] at con
 have HW := Lib.hid hw
 have C1 := Lib.hid c1
 clear hres t1 t2 t4 hc3 hrl b1 b2 b3 b4 b14 b24 hw1 hw2 hw3 hw4 s3 hw C1
 go_upto_region 1 with fail
 go_wp2_with fail
 refine con.mono ?_
 clear con c1 c2 c3
 rintro e w5 ⟨q, rfl, hb5, hq, hqm⟩
 obtain ⟨W6, hW6⟩ : ∃ W, W = w5.alloc (.cells q.cells.toArray 26) := ⟨_, rfl⟩
 have hb6 : Below w5.heap.size w5 W6 := by rw [hW6]; exact (Below.refl _ _).alloc (Nat.le_refl _) _
 have hc6 : Cel W6 w5.heap.size 26 q.cells := by rw [hW6]; exact Cel.new w5 _ _
 have hls : q.ls.length = 1 := by have := congrArg (fun p : Pe => p.lines.length) hqm; simp only [dvm_lines] at this; exact this
 have hq0 : q.s = 1 := congrArg Pe.state hqm
 have hq1 : q.pt = [] := congrArg Pe.part hqm
 have hq2 : q.lg = yesB := congrArg Pe.log hqm
 obtain ⟨l, hl⟩ : ∃ l, q.ls = [l] := by
  cases h : q.ls with
  | nil => rw [h] at hls; cases hls
  | cons l t => cases t with
   | nil => exact ⟨l, rfl⟩
   | cons _ _ => rw [h] at hls; simp at hls
 have hlt : l.t = okB := by have := congrArg Pe.lines hqm; simp only [Dvm.m, hl, txt, List.map_cons, List.map_nil] at this; simpa [pe1] using this
 have hd6 : Dok W6 w4.heap.size q := hq.below hb5.size hb6
 have hs6 : w4.heap.size ≤ W6.heap.size := Nat.le_trans hb5.size hb6.size
 obtain ⟨ad, hA, hcl⟩ := hd6.ls.cr 0 l (by rw [hl]; rfl)
 have htl := (hd6.ls.tx l (by rw [hl]; exact List.mem_singleton_self _)).1
 have HE := Lib.hid (HW.out.trans ((hb5.trans (hb6.mono hb5.size)).mono HW.out.size))
 have K0 := Lib.hid (show W6.cell? ⟨w5.heap.size, 0, none⟩ = some (.int .i64 1) by rw [← hq0]; exact hc6.cell 0)
 have K1 := Lib.hid (show W6.cell? ⟨w5.heap.size, 1, none⟩ = some (.slice q.PA 0 q.pc) by have h := hc6.cell 1; rw [show W6.cell? ⟨w5.heap.size, 1, none⟩ = some (.slice q.PA q.pt.length q.pc) from h, hq1]; rfl)
 have K2 := Lib.hid (show W6.cell? ⟨w5.heap.size, 2, none⟩ = some (.slice q.LA 3 q.lc) by have h := hc6.cell 2; rw [show W6.cell? ⟨w5.heap.size, 2, none⟩ = some (.slice q.LA q.lg.length q.lc) from h, hq2]; rfl)
 have K3 := Lib.hid (show W6.cell? ⟨w5.heap.size, 3, none⟩ = some (.slice (some ad) 1 q.c) by have h := hc6.cell 3; rw [show W6.cell? ⟨w5.heap.size, 3, none⟩ = some (.slice q.A q.ls.length q.c) from h, hls, hA])
 have K4 := Lib.hid (show W6.cell? ad = some (.slice l.A 2 l.c) by have h : W6.cell? (ad.add 0) = some (.slice l.A l.t.length l.c) := hcl; rw [hlt] at h; simpa [Addr.add, okB] using h)
 have F1 := Lib.hid (show (convert 23 9 (.slice q.LA 3 q.lc)).run Try.prog W6 = .ok (.string ⟨#[121, 101, 115]⟩) W6 by have h := hd6.lg.str hs6 q.lc 0; rw [hq2] at h; exact h)
 have F2 := Lib.hid (show (convert 23 9 (.slice l.A 2 l.c)).run Try.prog W6 = .ok (.string ⟨#[111, 107]⟩) W6 by have h := htl.str hs6 l.c 0; rw [hlt] at h; exact h)
 clear hq hqm hd6 hb5 hb6 hc6 hls hq0 hq1 hq2 hl hlt hA hcl htl
 unfold Dvm.cells at hW6 ⊢
 dsimp only at hW6 ⊢
 go_upto_region 2 with fail
 rw [← hW6]
 clear hW6
 have k0 := K0.out
 have k1 := K1.out
 have k2 := K2.out
 have k3 := K3.out
 have k4 := K4.out
 have f1 := F1.out
 have f2 := F2.out
 go_wp2_with fail
 go_ret
 exact ⟨rfl, HE.out⟩
end Go.Proofs.Ytfllngpncnhfnaa.Peer
end
section
namespace Go.Proofs.Ytfllngpncnhfnaa.Peer
open Go.RowKit Go.Proofs.Ytfllngpncnhfnaa.Ord
open Lex (Tx)
open Rec (Vt Tvs Trow txt)
structure Fv where
 PA : Option Addr
 pc : Nat
 LA : Option Addr
 lc : Nat
 A : Option Addr
 c : Nat
 us : List Vt
def ob (A : Option Addr) : Option Nat := A.map (·.block)
theorem ob_own (A : Option Addr) (n c : Nat) : (Value.slice A n c).ownBlock = ob A := by cases A <;> rfl
def Bq (w : World) (K : Nat) (PA LA : Option Addr) (q : Nat) : Prop := K ≤ q ∧ ob PA ≠ some q ∧ ob LA ≠ some q ∧ ∃ cs fz, w.heap[q]? = some (Obj.cells cs 5 fz)
def fcells (p : Pe) (f : Fv) (AR : Option Addr) (nR cR : Nat) : List Value := [.int .i64 p.state, .slice f.PA p.part.length f.pc, .slice f.LA p.log.length f.lc, .slice f.A p.lines.length f.c, .slice AR nR cR]
structure Fd (w : World) (K g : Nat) (AR : Option Addr) (nR cR : Nat) (p : Pe) (f : Fv) : Prop where
 cel : Cel w g 45 (fcells p f AR nR cR)
 pt : w.ownsRow K 5 1 (.slice f.PA p.part.length f.pc) p.part.length (p.part.map v8)
 lg : w.ownsRow K 5 1 (.slice f.LA p.log.length f.lc) p.log.length (p.log.map v8)
 ls : w.ownsRow K 23 1 (.slice f.A p.lines.length f.c) p.lines.length (f.us.map Vt.cell)
 tx : txt f.us = p.lines
 by_ : ∀ u ∈ f.us, Bp w (Bq w K f.PA f.LA) u.A u.t.length u.t ∧ u.t.length ≤ 400
 ap : ∀ q, ob f.PA = some q → ob f.LA ≠ some q
theorem by_keep {w w' : World} {K n : Nat} {PA LA PA' LA' A : Option Addr} {bs : List B} (h : Bp w (Bq w K PA LA) A n bs)
  (hk : ∀ q cs fz, w.heap[q]? = some (Obj.cells cs 5 fz) → K ≤ q → ob PA ≠ some q → ob LA ≠ some q → w'.heap[q]? = w.heap[q]?)
  (hP : ∀ q, ob PA' = some q → ob PA = some q ∨ ob LA = some q ∨ w.heap.size ≤ q) (hL : ∀ q, ob LA' = some q → ob PA = some q ∨ ob LA = some q ∨ w.heap.size ≤ q) : Bp w' (Bq w' K PA' LA') A n bs := by
 have h1 : Bp w' (Bq w K PA LA) A n bs := h.keep fun q ⟨a, b, c, cs, fz, d⟩ _ => hk q cs fz d a b c
 refine ⟨h1.1, fun hn => ?_⟩
 obtain ⟨ad, e, ⟨a, b, c, cs, fz, d⟩, hc⟩ := h1.2 hn
 have hlt := (Array.getElem?_eq_some_iff.1 d).1
 refine ⟨ad, e, ⟨a, fun e' => ?_, fun e' => ?_, cs, fz, (hk _ cs fz d a b c).trans d⟩, hc⟩
 ·rcases hP _ e' with h | h | h
  ·exact b h
  ·exact c h
  ·omega
 ·rcases hL _ e' with h | h | h
  ·exact b h
  ·exact c h
  ·omega
namespace Fd
variable {w w' : World} {K g nR cR : Nat} {AR : Option Addr} {p : Pe} {f : Fv}
theorem below (h : Fd w K g AR nR cR p f) (hb : Below w.heap.size w w') : Fd w' K g AR nR cR p f :=
 ⟨h.cel.below hb h.cel.lt, own_frm (l := []) h.pt (Frm.of_below hb) (by simp), own_frm (l := []) h.lg (Frm.of_below hb) (by simp), own_frm (l := []) h.ls (Frm.of_below hb) (by simp), h.tx,
  fun u hu => ⟨by_keep (h.by_ u hu).1 (fun q cs fz e _ _ _ => hb.block q (Array.getElem?_eq_some_iff.1 e).1) (fun q e => .inl e) (fun q e => .inr (.inl e)), (h.by_ u hu).2⟩, h.ap⟩
theorem drew (h : Fd w K g AR nR cR p f) : Fd w.drew K g AR nR cR p f := h.below (Below.refl _ _).drew
theorem pt_g (h : Fd w K g AR nR cR p f) : ob f.PA ≠ some g := by rw [← ob_own f.PA p.part.length f.pc]; exact own_ty_ne h.pt h.cel (by decide)
theorem lg_g (h : Fd w K g AR nR cR p f) : ob f.LA ≠ some g := by rw [← ob_own f.LA p.log.length f.lc]; exact own_ty_ne h.lg h.cel (by decide)
theorem ls_g (h : Fd w K g AR nR cR p f) : ob f.A ≠ some g := by rw [← ob_own f.A p.lines.length f.c]; exact own_ty_ne h.ls h.cel (by decide)
theorem ls_pt (h : Fd w K g AR nR cR p f) : ∀ q, ob f.A = some q → ob f.PA ≠ some q := by
 intro q; rw [← ob_own f.A p.lines.length f.c, ← ob_own f.PA p.part.length f.pc]; exact own_two h.ls h.pt (by decide) q
theorem ls_lg (h : Fd w K g AR nR cR p f) : ∀ q, ob f.A = some q → ob f.LA ≠ some q := by
 intro q; rw [← ob_own f.A p.lines.length f.c, ← ob_own f.LA p.log.length f.lc]; exact own_two h.ls h.lg (by decide) q
theorem pt_lt (h : Fd w K g AR nR cR p f) : ∀ q, ob f.PA = some q → q < w.heap.size := by intro q; rw [← ob_own f.PA p.part.length f.pc]; exact own_lt h.pt q
theorem lg_lt (h : Fd w K g AR nR cR p f) : ∀ q, ob f.LA = some q → q < w.heap.size := by intro q; rw [← ob_own f.LA p.log.length f.lc]; exact own_lt h.lg q
theorem pt_ge (h : Fd w K g AR nR cR p f) : ∀ q, ob f.PA = some q → K ≤ q := by intro q; rw [← ob_own f.PA p.part.length f.pc]; exact own_ge h.pt q
theorem lg_ge (h : Fd w K g AR nR cR p f) : ∀ q, ob f.LA = some q → K ≤ q := by intro q; rw [← ob_own f.LA p.log.length f.lc]; exact own_ge h.lg q
theorem ls_ge (h : Fd w K g AR nR cR p f) : ∀ q, ob f.A = some q → K ≤ q := by intro q; rw [← ob_own f.A p.lines.length f.c]; exact own_ge h.ls q
theorem rows_set (h : Fd w K g AR nR cR p f) (hf : Frm [g] w w') : w'.ownsRow K 5 1 (.slice f.PA p.part.length f.pc) p.part.length (p.part.map v8) ∧ w'.ownsRow K 5 1 (.slice f.LA p.log.length f.lc) p.log.length (p.log.map v8) ∧
  w'.ownsRow K 23 1 (.slice f.A p.lines.length f.c) p.lines.length (f.us.map Vt.cell) ∧ ∀ u ∈ f.us, Bp w' (Bq w' K f.PA f.LA) u.A u.t.length u.t ∧ u.t.length ≤ 400 := by
 refine ⟨own_frm h.pt hf (fun k hk => ?_), own_frm h.lg hf (fun k hk => ?_), own_frm h.ls hf (fun k hk => ?_), fun u hu => ⟨by_keep (h.by_ u hu).1 (fun q cs fz e _ _ _ => hf.block q (Array.getElem?_eq_some_iff.1 e).1 (fun hm => ?_)) (fun q e => .inl e) (fun q e => .inr (.inl e)), (h.by_ u hu).2⟩⟩
 ·rw [List.mem_singleton.1 hk, ob_own]; exact h.pt_g
 ·rw [List.mem_singleton.1 hk, ob_own]; exact h.lg_g
 ·rw [List.mem_singleton.1 hk, ob_own]; exact h.ls_g
 ·rw [List.mem_singleton.1 hm] at e
  exact h.cel.not_ty (by decide) cs fz e
theorem kill (h : Fd w K g AR nR cR p f) : Fd (w.setCell ⟨g, 1, none⟩ (.slice none 0 0)) K g AR nR cR ⟨p.state, [], p.log, p.lines⟩ { f with PA := none, pc := 0 } := by
 obtain ⟨_, h2, h3, h4⟩ := h.rows_set (w' := w.setCell ⟨g, 1, none⟩ (.slice none 0 0)) ((Frm.refl [g] w).set (p := ⟨g, 1, none⟩) (by simp) _)
 exact ⟨h.cel.set 1 _, World.ownsRow_nil _ _ _ _, h2, h3, h.tx, fun u hu => ⟨by_keep (h4 u hu).1 (fun q cs fz e _ _ _ => rfl) (fun q e => (by cases e)) (fun q e => .inr (.inl e)), (h4 u hu).2⟩, fun q e => (by cases e)⟩
theorem more (h : Fd w K g AR nR cR p f) (b : B) {A' : Option Addr} {c' : Nat} (ho : w'.ownsRow K 5 1 (.slice A' (p.part.length + 1) c') (p.part.length + 1) ((p.part ++ [b]).map v8)) (hg : w.grownBy w' (ob f.PA)) (hn : ob A' = ob f.PA ∨ ob A' = some w.heap.size) :
  Fd (w'.setCell ⟨g, 1, none⟩ (.slice A' (p.part.length + 1) c')) K g AR nR cR ⟨p.state, p.part ++ [b], p.log, p.lines⟩ { f with PA := A', pc := c' } := by
 have hf0 : Frm (ob f.PA).toList w w' := (Frm.refl _ w).grown hg (fun q e _ => by simp [e])
 have hc0 := h.cel.grown hg h.pt_g
 have hn' : ∀ q, ob A' = some q → ob f.PA = some q ∨ ob f.LA = some q ∨ w.heap.size ≤ q := fun q e => by
  rcases hn with e' | e'
  ·exact .inl (e' ▸ e)
  ·rw [e'] at e; injection e with e; exact .inr (.inr (by omega))
 have hap : ∀ q, ob A' = some q → ob f.LA ≠ some q := fun q e e2 => by
  rcases hn with e' | e'
  ·exact h.ap q (e' ▸ e) e2
  ·rw [e'] at e; injection e with e
   have := h.lg_lt q e2
   omega
 have l1 : w'.ownsRow K 5 1 (.slice f.LA p.log.length f.lc) p.log.length (p.log.map v8) := own_frm h.lg hf0 (fun k hk => by rw [ob_own]; exact h.ap k (by simpa using hk))
 have l2 : w'.ownsRow K 23 1 (.slice f.A p.lines.length f.c) p.lines.length (f.us.map Vt.cell) := own_frm h.ls hf0 (fun k hk => by rw [ob_own]; exact fun e => h.ls_pt k e (by simpa using hk))
 have l3 : ∀ u ∈ f.us, Bp w' (Bq w' K A' f.LA) u.A u.t.length u.t ∧ u.t.length ≤ 400 := fun u hu => ⟨by_keep (h.by_ u hu).1 (fun q cs fz e _ e1 _ => hg.block q (Array.getElem?_eq_some_iff.1 e).1 (fun e' => e1 e'.symm)) hn' (fun q e => .inr (.inl e)), (h.by_ u hu).2⟩
 have hf : Frm [g] w' (w'.setCell ⟨g, 1, none⟩ (.slice A' (p.part.length + 1) c')) := (Frm.refl [g] w').set (p := ⟨g, 1, none⟩) (by simp) _
 have hl : (p.part ++ [b]).length = p.part.length + 1 := by simp
 have o1 := own_frm ho hf (fun k hk => by rw [List.mem_singleton.1 hk]; exact own_ty_ne ho hc0 (by decide))
 refine ⟨?_, by dsimp only; rw [hl]; exact o1, own_frm l1 hf (fun k hk => by rw [List.mem_singleton.1 hk]; exact own_ty_ne l1 hc0 (by decide)), own_frm l2 hf (fun k hk => by rw [List.mem_singleton.1 hk]; exact own_ty_ne l2 hc0 (by decide)), h.tx, fun u hu => ⟨by_keep (l3 u hu).1 (fun q cs fz e _ _ _ => hf.block q (Array.getElem?_eq_some_iff.1 e).1 (fun hm => ?_)) (fun q e => .inl e) (fun q e => .inr (.inl e)), (l3 u hu).2⟩, hap⟩
 ·have := hc0.set 1 (.slice A' (p.part.length + 1) c')
  unfold fcells at this ⊢
  simpa using this
 ·rw [List.mem_singleton.1 hm] at e
  exact hc0.not_ty (by decide) cs fz e
theorem line (h : Fd w K g AR nR cR p f) (hpl : p.part.length ≤ 400) {A' : Option Addr} {c' : Nat} (ho : w'.ownsRow K 23 1 (.slice A' (p.lines.length + 1) c') (p.lines.length + 1) (f.us.map Vt.cell ++ [.slice f.PA p.part.length f.pc])) (hg : w.grownBy w' (ob f.A)) (hn : ob A' = ob f.A ∨ ob A' = some w.heap.size) :
  Fd ((w'.setCell ⟨g, 3, none⟩ (.slice A' (p.lines.length + 1) c')).setCell ⟨g, 1, none⟩ (.slice none 0 0)) K g AR nR cR ⟨p.state, [], p.log, p.lines ++ [p.part]⟩ { f with PA := none, pc := 0, A := A', c := c', us := f.us ++ [⟨f.PA, f.pc, p.part⟩] } := by
 have hf0 : Frm (ob f.A).toList w w' := (Frm.refl _ w).grown hg (fun q e _ => by simp [e])
 have hc0 := h.cel.grown hg h.ls_g
 have l1 : w'.ownsRow K 5 1 (.slice f.LA p.log.length f.lc) p.log.length (p.log.map v8) := own_frm h.lg hf0 (fun k hk => by rw [ob_own]; exact h.ls_lg k (by simpa using hk))
 have l2 : w'.ownsRow K 5 1 (.slice f.PA p.part.length f.pc) p.part.length (p.part.map v8) := own_frm h.pt hf0 (fun k hk => by rw [ob_own]; exact h.ls_pt k (by simpa using hk))
 have hbk : ∀ q cs fz, w.heap[q]? = some (Obj.cells cs 5 fz) → w'.heap[q]? = w.heap[q]? := fun q cs fz e => hg.block q (Array.getElem?_eq_some_iff.1 e).1 (fun e' => own_not_ty h.ls (by decide) q cs fz (by rw [ob_own]; exact e'.symm) e)
 have l3 : ∀ u ∈ f.us, Bp w' (Bq w' K none f.LA) u.A u.t.length u.t ∧ u.t.length ≤ 400 := fun u hu => ⟨by_keep (h.by_ u hu).1 (fun q cs fz e _ _ _ => hbk q cs fz e) (fun q e => (by cases e)) (fun q e => .inr (.inl e)), (h.by_ u hu).2⟩
 have l4 : Bp w' (Bq w' K none f.LA) f.PA p.part.length p.part := by
  refine ⟨rfl, fun hn0 => ?_⟩
  have hb := (Bp.of_own l2 rfl)
  obtain ⟨ad, e, ⟨e1, hKq⟩, hc⟩ := hb.2 hn0
  have e2 : ob f.PA = some ad.block := by rw [ob_own] at e1; exact e1
  have hy := By.of_own l2
  obtain ⟨ad', e', hty, _⟩ := hy.2 hn0
  rw [e] at e'
  injection e' with e'
  subst e'
  exact ⟨ad, e, (show Bq w' K none f.LA ad.block from ⟨hKq, fun e => (by cases e), h.ap _ e2, hty⟩), hc⟩
 have hf : Frm [g] w' ((w'.setCell ⟨g, 3, none⟩ (.slice A' (p.lines.length + 1) c')).setCell ⟨g, 1, none⟩ (.slice none 0 0)) := ((Frm.refl [g] w').set (p := ⟨g, 3, none⟩) (by simp) _).set (p := ⟨g, 1, none⟩) (by simp) _
 have hl : (p.lines ++ [p.part]).length = p.lines.length + 1 := by simp
 have o1 := own_frm ho hf (fun k hk => by rw [List.mem_singleton.1 hk]; exact own_ty_ne ho hc0 (by decide))
 have hby : ∀ {A : Option Addr} {n : Nat} {bs : List B}, Bp w' (Bq w' K none f.LA) A n bs → Bp ((w'.setCell ⟨g, 3, none⟩ (.slice A' (p.lines.length + 1) c')).setCell ⟨g, 1, none⟩ (.slice none 0 0)) (Bq ((w'.setCell ⟨g, 3, none⟩ (.slice A' (p.lines.length + 1) c')).setCell ⟨g, 1, none⟩ (.slice none 0 0)) K none f.LA) A n bs := fun hq => by_keep hq (fun q cs fz e _ _ _ => hf.block q (Array.getElem?_eq_some_iff.1 e).1 (fun hm => by
  rw [List.mem_singleton.1 hm] at e
  exact hc0.not_ty (by decide) cs fz e)) (fun q e => .inl e) (fun q e => .inr (.inl e))
 refine ⟨?_, World.ownsRow_nil _ _ _ _, own_frm l1 hf (fun k hk => by rw [List.mem_singleton.1 hk]; exact own_ty_ne l1 hc0 (by decide)), ?_, ?_, fun u hu => ?_, fun q e => (by cases e)⟩
 ·have := (hc0.set 3 (.slice A' (p.lines.length + 1) c')).set 1 (.slice none 0 0)
  unfold fcells at this ⊢
  simpa using this
 ·show World.ownsRow _ K 23 1 (.slice A' (p.lines ++ [p.part]).length c') (p.lines ++ [p.part]).length ((f.us ++ [(⟨f.PA, f.pc, p.part⟩ : Vt)]).map Vt.cell)
  rw [hl, List.map_append]
  exact o1
 ·unfold txt
  rw [List.map_append]
  show txt f.us ++ [p.part] = p.lines ++ [p.part]
  rw [h.tx]
 ·rcases List.mem_append.1 hu with hu | hu
  ·exact ⟨hby (l3 u hu).1, (l3 u hu).2⟩
  ·rw [List.mem_singleton.1 hu]
   exact ⟨hby l4, hpl⟩
theorem says (h : Fd w K g AR nR cR p f) (s : Int) (o : List B) {A' : Option Addr} {c' n' : Nat} (hn' : n' = (p.log ++ o).length) (ho : w'.ownsRow K 5 1 (.slice A' n' c') n' ((p.log ++ o).map v8)) (hg : w.grownBy w' (ob f.LA)) (hn : ob A' = ob f.LA ∨ ob A' = some w.heap.size) :
  Fd ((w'.setCell ⟨g, 2, none⟩ (.slice A' n' c')).setCell ⟨g, 0, none⟩ (.int .i64 s)) K g AR nR cR ⟨s, p.part, p.log ++ o, p.lines⟩ { f with LA := A', lc := c' } := by
 subst hn'
 have hf0 : Frm (ob f.LA).toList w w' := (Frm.refl _ w).grown hg (fun q e _ => by simp [e])
 have hc0 := h.cel.grown hg h.lg_g
 have hn2 : ∀ q, ob A' = some q → ob f.PA = some q ∨ ob f.LA = some q ∨ w.heap.size ≤ q := fun q e => by
  rcases hn with e' | e'
  ·exact .inr (.inl (e' ▸ e))
  ·rw [e'] at e; injection e with e; exact .inr (.inr (by omega))
 have hap : ∀ q, ob f.PA = some q → ob A' ≠ some q := fun q e e2 => by
  rcases hn with e' | e'
  ·exact h.ap q e (e' ▸ e2)
  ·rw [e'] at e2; injection e2 with e2
   have := h.pt_lt q e
   omega
 have l1 : w'.ownsRow K 5 1 (.slice f.PA p.part.length f.pc) p.part.length (p.part.map v8) := own_frm h.pt hf0 (fun k hk => by rw [ob_own]; exact fun e => h.ap k e (by simpa using hk))
 have l2 : w'.ownsRow K 23 1 (.slice f.A p.lines.length f.c) p.lines.length (f.us.map Vt.cell) := own_frm h.ls hf0 (fun k hk => by rw [ob_own]; exact fun e => h.ls_lg k e (by simpa using hk))
 have l3 : ∀ u ∈ f.us, Bp w' (Bq w' K f.PA A') u.A u.t.length u.t ∧ u.t.length ≤ 400 := fun u hu => ⟨by_keep (h.by_ u hu).1 (fun q cs fz e _ _ e1 => hg.block q (Array.getElem?_eq_some_iff.1 e).1 (fun e' => e1 e'.symm)) (fun q e => .inl e) hn2, (h.by_ u hu).2⟩
 have hf : Frm [g] w' ((w'.setCell ⟨g, 2, none⟩ (.slice A' (p.log ++ o).length c')).setCell ⟨g, 0, none⟩ (.int .i64 s)) := ((Frm.refl [g] w').set (p := ⟨g, 2, none⟩) (by simp) _).set (p := ⟨g, 0, none⟩) (by simp) _
 refine ⟨?_, own_frm l1 hf (fun k hk => by rw [List.mem_singleton.1 hk]; exact own_ty_ne l1 hc0 (by decide)), own_frm ho hf (fun k hk => by rw [List.mem_singleton.1 hk]; exact own_ty_ne ho hc0 (by decide)), own_frm l2 hf (fun k hk => by rw [List.mem_singleton.1 hk]; exact own_ty_ne l2 hc0 (by decide)), h.tx, fun u hu => ⟨by_keep (l3 u hu).1 (fun q cs fz e _ _ _ => hf.block q (Array.getElem?_eq_some_iff.1 e).1 (fun hm => ?_)) (fun q e => .inl e) (fun q e => .inr (.inl e)), (l3 u hu).2⟩, hap⟩
 ·have := (hc0.set 2 (.slice A' (p.log ++ o).length c')).set 0 (.int .i64 s)
  unfold fcells at this ⊢
  simpa using this
 ·rw [List.mem_singleton.1 hm] at e
  exact hc0.not_ty (by decide) cs fz e
end Fd
def ansR (rs : List Ru) (p : Pe) (x : List B) : Pe := match meets rs p.state x with
 | none => p
 | some r => ⟨r.next, p.part, p.log ++ r.out, p.lines⟩
theorem line_ans (rs : List Ru) (p : Pe) (x : List B) : lineR rs p x = ansR rs ⟨p.state, [], p.log, p.lines ++ [x]⟩ x := by
 unfold lineR ansR
 dsimp only
 cases meets rs p.state x <;> rfl
theorem bytesP : ByteRow Try.prog 23 5 := ByteRow.mk' Try.underlying23 (by kernel_rfl)
theorem infoLn : (Try.prog.info? 23).map (fun i => (i.zero, i.size, i.bytes)) = some (some (.slice none 0 0), 1, 24) := by kernel_rfl
theorem rowLn : ElemRow Try.prog 24 23 1 24 := ElemRow.mk' Try.underlying24 infoLn rfl (by decide)
theorem equal_ (w : World) (A1 A2 : Option Addr) (c1 c2 : Nat) (x y : List B) (h1 : Bs w w.heap.size A1 x.length x) (h2 : Bs w w.heap.size A2 y.length y) :
  Calls Try.prog 19 #[.slice A1 x.length c1, .slice A2 y.length c2] w fun e w' => e = .returned (.bool (decide (x = y))) ∧ w = w' := by
 have e1 := (Bs.bp h1).string c1 Try.underlying23 Try.underlying5 Try.underlying9
 have e2 := (Bs.bp h2).string c2 Try.underlying23 Try.underlying5 Try.underlying9
 have sb := Book.str_beq x y
 cases hz : decide (x = y) with
 | true =>
  rw [hz] at sb
  clear h1 h2 hz
  go_enter Try.func19, Try.ntmps19
  go_wp2_with fail
  go_ret
  exact ⟨rfl, rfl⟩
 | false =>
  rw [hz] at sb
  clear h1 h2 hz
  go_enter Try.func19, Try.ntmps19
  go_wp2_with fail
  go_ret
  exact ⟨rfl, rfl⟩
end Go.Proofs.Ytfllngpncnhfnaa.Peer
end
