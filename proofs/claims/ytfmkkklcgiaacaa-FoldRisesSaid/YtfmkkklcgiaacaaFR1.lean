/-
Texts: RecRef RecMay FoldRef FoldRight FoldPsmall FoldPright Orders RecGet RecAs
-/
import Derived.Test.YtfmkkklcgiaacaaFR0
import Derived.BigQuiet
import Derived.Deep.Cut
import Derived.WalkSpells
import Derived.Laws.EntriesVeiled
import Derived.Deep.QuietTactic
import Derived.Test.YtfmkkklcgiaacaaChecked
import Derived.WalkKit
import Derived.ProofKit
import Derived.Below
import Derived.Lib.Hide
import Derived.Lib.SlBytesConst
import Derived.Outline
import Derived.Laws.BitsAllLaws
import Derived.Laws.Shifts
import Derived.Laws.ShiftsVarLaws
import Derived.Deep.CutRange
import Derived.OrdersHeld
import Derived.Deep.RegionHeld
import Derived.Deep.MidRow
set_option linter.unusedVariables false
set_option linter.unusedSimpArgs false
set_option maxRecDepth 100000
section
namespace Go.Proofs.Ytfmkkklcgiaacaa.Rec
open Go.RowKit
open Lex (Tx)
structure Vt where
 A : Option Addr
 c : Nat
 t : List B
def Vt.cell (v : Vt) : Value := .slice v.A v.t.length v.c
structure Tvs (w : World) (K : Nat) (A : Option Addr) (vs : List Vt) : Prop where
 cr : ∀ i v, vs[i]? = some v → ∃ ad, A = some ad ∧ w.cell? (ad.add i) = some v.cell
 tx : ∀ v ∈ vs, Tx w K v.A v.t ∧ v.t.length ≤ maxLen
theorem Tvs.below {w w' : World} {K : Nat} {A : Option Addr} {vs : List Vt} (h : Tvs w K A vs) (hK : K ≤ w.heap.size) (hb : Below w.heap.size w w') : Tvs w' K A vs :=
 ⟨fun i v hi => by
  obtain ⟨ad, e, hc⟩ := h.cr i v hi
  exact ⟨ad, e, (hb.cell (cell_lt hc)).trans hc⟩, fun v hv => ⟨(h.tx v hv).1.below hK hb, (h.tx v hv).2⟩⟩
def txt (vs : List Vt) : List (List B) := vs.map (·.t)
def Trow (w : World) (K : Nat) (A : Option Addr) (vs : List Vt) : Prop := vs ≠ [] → ∃ ad, A = some ad ∧ (ad.block < K ∨ ∃ cs fz, w.heap[ad.block]? = some (Obj.cells cs 29 fz))
theorem trow_nil {w : World} {K : Nat} {A : Option Addr} : Trow w K A [] := fun h => absurd rfl h
theorem Trow.keep {w w' : World} {K : Nat} {A : Option Addr} {vs : List Vt} (h : Trow w K A vs) (hk : ∀ (k : Nat) cs fz, w.heap[k]? = some (Obj.cells cs 29 fz) → w'.heap[k]? = w.heap[k]?) : Trow w' K A vs := fun hn => by
 obtain ⟨ad, e, hc | ⟨cs, fz, hc⟩⟩ := h hn
 ·exact ⟨ad, e, .inl hc⟩
 ·exact ⟨ad, e, .inr ⟨cs, fz, (hk _ _ _ hc).trans hc⟩⟩
theorem Trow.below {w w' : World} {K : Nat} {A : Option Addr} {vs : List Vt} (h : Trow w K A vs) (hb : Below w.heap.size w w') : Trow w' K A vs := h.keep fun k cs fz e => hb.block k (Array.getElem?_eq_some_iff.1 e).1
theorem trow_below {w : World} {K : Nat} {A : Option Addr} {vs : List Vt} (h : Tvs w K A vs) (hK : w.heap.size ≤ K) : Trow w K A vs := fun hn => by
 obtain ⟨v, l, rfl⟩ := List.exists_cons_of_ne_nil hn
 obtain ⟨ad, e, hc⟩ := h.cr 0 v rfl
 have := cell_lt hc
 rw [add_block] at this
 exact ⟨ad, e, .inl (by omega)⟩
theorem Tvs.frm {w w' : World} {K : Nat} {A : Option Addr} {vs : List Vt} {l : List Nat} (h : Tvs w K A vs) (ht : Trow w K A vs) (hf : Frm l w w') (hl : ∀ k ∈ l, K ≤ k ∧ (∀ cs fz, w.heap[k]? ≠ some (Obj.cells cs 5 fz)) ∧ ∀ cs fz, w.heap[k]? ≠ some (Obj.cells cs 29 fz)) : Tvs w' K A vs ∧ Trow w' K A vs := by
 have hk : ∀ (k : Nat) cs fz, w.heap[k]? = some (Obj.cells cs 29 fz) → w'.heap[k]? = w.heap[k]? := fun k cs fz e => hf.block k (Array.getElem?_eq_some_iff.1 e).1 (fun hm => (hl k hm).2.2 _ _ e)
 refine ⟨⟨fun i v hi => ?_, fun v hv => ⟨?_, (h.tx v hv).2⟩⟩, ht.keep hk⟩
 ·obtain ⟨ad, e, hc⟩ := h.cr i v hi
  obtain ⟨ad', e', hg⟩ := ht (fun q => by rw [q] at hi; cases hi)
  rw [e] at e'
  cases e'
  refine ⟨ad, e, (World.cell?_of_block (by
   rw [add_block]
   rcases hg with hg | ⟨cs, fz, hg⟩
   ·exact hf.block _ (by have := cell_lt hc; rwa [add_block] at this) (fun hm => by have := (hl _ hm).1; omega)
   ·exact hk _ _ _ hg)).trans hc⟩
 ·rcases (h.tx v hv).1 with hs | hs
  ·refine .inl ((Bs.bp hs).keep fun k hk hlt => hf.block k hlt fun hm => ?_)
   have := (hl k hm).1
   omega
  ·refine .inr ⟨hs.1, fun hn => ?_⟩
   obtain ⟨ad, e, ⟨cs, fz, hg⟩, hc⟩ := hs.2 hn
   have hb : w'.heap[ad.block]? = w.heap[ad.block]? := hf.block _ (Array.getElem?_eq_some_iff.1 hg).1 fun hm => (hl _ hm).2.1 _ _ hg
   exact ⟨ad, e, ⟨cs, fz, hb.trans hg⟩, fun j hj => (World.cell?_of_block (by rw [add_block]; exact hb)).trans (hc j hj)⟩
theorem mem_take {α : Type} {l : List α} {i : Nat} {x y : α} (h : l[i]? = some x) (hy : y ∈ l.take (i + 1)) : y ∈ l.take i ∨ y = x := by
 rw [List.take_add_one, h] at hy
 simpa using hy
end Go.Proofs.Ytfmkkklcgiaacaa.Rec
end
section
namespace Go.Proofs.Ytfmkkklcgiaacaa.Rec
open Go.RowKit
open Lex (Tx)
structure Rv where
 r : Rc
 AL : Option Addr
 cL : Nat
 vs : List Vt
 AV : Option Addr
 cV : Nat
def Rv.cells (v : Rv) : List Value := [.int .i64 v.r.kind, .int .i64 v.r.s.step, .int .i64 v.r.s.visit, .int .i64 v.r.s.tries, .int .i64 v.r.s.off, .slice v.AL v.vs.length v.cL, .int .i64 v.r.visit, .int .i64 v.r.step, .int .i64 v.r.try_, .int .i64 v.r.to, .int .i64 v.r.off, .int .i64 v.r.var, .slice v.AV v.r.value.length v.cV]
structure Rok (w : World) (K : Nat) (v : Rv) : Prop where
 eq : v.r.s.vars = txt v.vs
 vs : Tvs w K v.AL v.vs
 vl : v.vs.length ≤ maxLen
 val : Tx w K v.AV v.r.value
 ml : v.r.value.length ≤ maxLen
theorem Rok.below {w w' : World} {K : Nat} {v : Rv} (h : Rok w K v) (hK : K ≤ w.heap.size) (hb : Below w.heap.size w w') : Rok w' K v := ⟨h.eq, h.vs.below hK hb, h.vl, h.val.below hK hb, h.ml⟩
end Go.Proofs.Ytfmkkklcgiaacaa.Rec
end
section
namespace Go.Proofs.Ytfmkkklcgiaacaa.Fold
open Go.RowKit
open Lex (Tx)
open Rec (Stt Vt Tvs txt)
structure Fa where
 A : Option Addr
 n : Nat
 c : Nat
 var : Int
 to_ : Int
def Fa.cells (v : Fa) : List Value := [.slice v.A v.n v.c, .int .i64 v.var, .int .i64 v.to_]
structure Fs where
 nm : ByteArray
 tag : Int
 A2 : Option Addr
 n2 : Nat
 c2 : Nat
 A3 : Option Addr
 c3 : Nat
 arms : List Fa
 time : Int
 try_ : Int
 els : Int
def Fs.cells (v : Fs) : List Value := [.string v.nm, .int .i64 v.tag, .slice v.A2 v.n2 v.c2, .slice v.A3 v.arms.length v.c3, .int .i64 v.time, .int .i64 v.try_, .int .i64 v.els]
def Fs.m (v : Fs) : Sp := ⟨v.arms.map fun a => (a.to_, a.var), v.try_, v.els⟩
def Far (w : World) (v : Fs) : Prop := ∀ j a, v.arms[j]? = some a → ∃ ad, v.A3 = some ad ∧ ∀ k u, a.cells[k]? = some u → w.cell? (ad.add (j * 3 + k)) = some u
structure Fbk (w : World) (A : Option Addr) (vs : List Fs) : Prop where
 st : ∀ i v, vs[i]? = some v → ∃ ad, A = some ad ∧ ∀ k u, v.cells[k]? = some u → w.cell? (ad.add (i * 7 + k)) = some u
 ar : ∀ v ∈ vs, Far w v
theorem Far.below {w w' : World} {v : Fs} (h : Far w v) (hb : Below w.heap.size w w') : Far w' v := fun j a hj => by
 obtain ⟨ad, e, hc⟩ := h j a hj
 exact ⟨ad, e, fun k u hu => (hb.cell (cell_lt (hc k u hu))).trans (hc k u hu)⟩
theorem Fbk.below {w w' : World} {A : Option Addr} {vs : List Fs} (h : Fbk w A vs) (hb : Below w.heap.size w w') : Fbk w' A vs :=
 ⟨fun i v hi => by
  obtain ⟨ad, e, hc⟩ := h.st i v hi
  exact ⟨ad, e, fun k u hu => (hb.cell (cell_lt (hc k u hu))).trans (hc k u hu)⟩, fun v hv => (h.ar v hv).below hb⟩
theorem fadd (ad : Addr) (i k : Nat) (hk : 0 < k) : (⟨(ad.add i).block, (ad.add i).off + k, none⟩ : Addr) = ad.add (i + k) := by
 rw [← add_add]
 generalize ad.add i = q
 unfold Addr.add
 rw [if_neg (by omega)]
theorem Far.at_ {w : World} {v : Fs} (h : Far w v) {j : Nat} {a : Fa} (hj : v.arms[j]? = some a) : ∃ ad, v.A3 = some ad ∧ w.cell? (ad.add (j * 3)) = some (.slice a.A a.n a.c) ∧
  w.cell? ⟨(ad.add (j * 3)).block, (ad.add (j * 3)).off + 1, none⟩ = some (.int .i64 a.var) ∧ w.cell? ⟨(ad.add (j * 3)).block, (ad.add (j * 3)).off + 2, none⟩ = some (.int .i64 a.to_) := by
 obtain ⟨ad, e, hc⟩ := h j a hj
 exact ⟨ad, e, hc 0 _ rfl, by rw [fadd _ _ _ (by decide)]; exact hc 1 _ rfl, by rw [fadd _ _ _ (by decide)]; exact hc 2 _ rfl⟩
theorem Fbk.at_ {w : World} {A : Option Addr} {vs : List Fs} (h : Fbk w A vs) {i : Nat} {v : Fs} (hi : vs[i]? = some v) : ∃ ad, A = some ad ∧ w.cell? (ad.add (i * 7)) = some (.string v.nm) ∧
  w.cell? ⟨(ad.add (i * 7)).block, (ad.add (i * 7)).off + 1, none⟩ = some (.int .i64 v.tag) ∧ w.cell? ⟨(ad.add (i * 7)).block, (ad.add (i * 7)).off + 2, none⟩ = some (.slice v.A2 v.n2 v.c2) ∧ w.cell? ⟨(ad.add (i * 7)).block, (ad.add (i * 7)).off + 3, none⟩ = some (.slice v.A3 v.arms.length v.c3) ∧
  w.cell? ⟨(ad.add (i * 7)).block, (ad.add (i * 7)).off + 4, none⟩ = some (.int .i64 v.time) ∧ w.cell? ⟨(ad.add (i * 7)).block, (ad.add (i * 7)).off + 5, none⟩ = some (.int .i64 v.try_) ∧ w.cell? ⟨(ad.add (i * 7)).block, (ad.add (i * 7)).off + 6, none⟩ = some (.int .i64 v.els) := by
 obtain ⟨ad, e, hc⟩ := h.st i v hi
 refine ⟨ad, e, hc 0 _ rfl, ?_, ?_, ?_, ?_, ?_, ?_⟩
 all_goals rw [fadd _ _ _ (by decide)]
 ·exact hc 1 _ rfl
 ·exact hc 2 _ rfl
 ·exact hc 3 _ rfl
 ·exact hc 4 _ rfl
 ·exact hc 5 _ rfl
 ·exact hc 6 _ rfl
def bok (vs : List Fs) (nv : Nat) (most : Int) : Bok := ⟨vs.map Fs.m, nv, most⟩
abbrev bval (A : Option Addr) (n c : Nat) (A1 : Option Addr) (nv c1 : Nat) (most : Int) : Value := .agg #[.slice A n c, .slice A1 nv c1, .int .i64 most]
abbrev sval (v : Fs) : Value := .agg #[.string v.nm, .int .i64 v.tag, .slice v.A2 v.n2 v.c2, .slice v.A3 v.arms.length v.c3, .int .i64 v.time, .int .i64 v.try_, .int .i64 v.els]
abbrev stval (s1 s2 s3 s4 : Int) (A : Option Addr) (n c : Nat) : Value := .agg #[.int .i64 s1, .int .i64 s2, .int .i64 s3, .int .i64 s4, .slice A n c]
end Go.Proofs.Ytfmkkklcgiaacaa.Fold
end
section
namespace Go.Proofs.Ytfmkkklcgiaacaa.Fold
open Go.RowKit
open Lex (Tx)
open Rec (Stt Vt Tvs txt)
theorem fbelow_drew {K : Nat} {w w' : World} (h : Below K w w') (m : Nat) : Below K w (w'.drewN m) := ⟨h.os, h.tape, h.output, h.size, h.block⟩
end Go.Proofs.Ytfmkkklcgiaacaa.Fold
end
section
namespace Go.Proofs.Ytfmkkklcgiaacaa.Fold
open Go.RowKit
open Lex (Tx)
open Rec (Stt Vt Tvs Trow txt)
def endB (t : Int) : Bool := decide (t = -1) || decide (t = -2) || decide (t = -3)
theorem endB_iff {t : Int} : endB t = true ↔ (-3 ≤ t ∧ t < 0) := by unfold endB; simp; omega
theorem endB_no {t : Int} (h : endB t = false) : t < -3 ∨ 0 ≤ t := by unfold endB at h; simp at h; omega
def tgtB (n : Nat) (t : Int) : Bool := endB t || (decide (0 ≤ t) && decide (t < (n : Int)))
theorem tgtB_iff {n : Nat} {t : Int} : tgtB n t = true ↔ (-3 ≤ t ∧ t < (n : Int)) := by
 unfold tgtB
 rw [Bool.or_eq_true, endB_iff]
 simp
 omega
def varB (n : Nat) (v : Int) : Bool := decide (v = -1) || (decide (0 ≤ v) && decide (v < (n : Int)))
theorem varB_iff {n : Nat} {t : Int} : varB n t = true ↔ (-1 ≤ t ∧ t < (n : Int)) := by unfold varB; simp; omega
def visB (s1 s2 most : Int) : Bool := decide (1 ≤ s2) && (if endB s1 = true then decide (s2 - 1 ≤ most) else decide (s2 ≤ most))
def triB (l : List Sp) (s1 s3 : Int) : Bool := if endB s1 = true then decide (s3 = 0) else decide (0 ≤ s3) && (match l[s1.toNat]? with
 | none => false
 | some p => decide (s3 - 1 ≤ p.try_))
def offB (s4 : Int) : Bool := decide (0 ≤ s4) && decide (s4 ≤ 2147483647)
def vrsB (l : List (List B)) (nv : Nat) : Bool := l.all (fun t => decide (t.length ≤ 100)) && decide (l.length = nv)
theorem right_eq (l : List Sp) (nv : Nat) (most s1 s2 s3 s4 : Int) (V : List (List B)) :
  right ⟨l, nv, most⟩ ⟨s1, s2, s3, s4, V⟩ = (tgtB l.length s1 && visB s1 s2 most && triB l s1 s3 && offB s4 && vrsB V nv) := by
 rw [Bool.eq_iff_iff]
 unfold right numsOk visB triB offB vrsB
 simp only [Bool.and_eq_true, tgtB_iff]
 by_cases h1 : s1 < 0
 ·rw [if_pos h1]
  by_cases h2 : -3 ≤ s1
  ·rw [if_pos (endB_iff.2 ⟨h2, h1⟩), if_pos (endB_iff.2 ⟨h2, h1⟩)]
   simp
   constructor
   ·rintro ⟨⟨h3, h4⟩, h5, h6⟩
    exact ⟨⟨⟨⟨⟨h2, by omega⟩, by omega, by omega⟩, h6⟩, by omega, by omega⟩, h4, by omega⟩
   ·rintro ⟨⟨⟨⟨⟨h3, h4⟩, h5, h6⟩, h7⟩, h8, h9⟩, h10, h11⟩
    exact ⟨⟨by omega, h10⟩, by omega, h7⟩
  ·simp
   constructor
   ·rintro ⟨⟨h3, h4⟩, h5, h6⟩
    omega
   ·rintro ⟨⟨⟨⟨⟨h3, h4⟩, h5⟩, h7⟩, h8, h9⟩, h10, h11⟩
    omega
 ·have he : ¬ endB s1 = true := fun h => by have := endB_iff.1 h; omega
  rw [if_neg h1, if_neg he, if_neg he]
  rcases hp : l[s1.toNat]? with _ | p
  ·simp
  ·simp
   constructor
   ·rintro ⟨⟨h3, h4⟩, h5, h6⟩
    exact ⟨⟨⟨⟨⟨by omega, by omega⟩, by omega, by omega⟩, by omega, by omega⟩, by omega, by omega⟩, h4, by omega⟩
   ·rintro ⟨⟨⟨⟨⟨h3, h4⟩, h5, h6⟩, h7, h7'⟩, h8, h9⟩, h10, h11⟩
    exact ⟨⟨by omega, h10⟩, by omega, by omega⟩
theorem end_ (w : World) (t : Int) : Calls Try.prog 74 #[.int .i64 t] w fun e w' => e = .returned (.bool (endB t)) ∧ w = w' := by
 obtain ⟨T, hT⟩ : ∃ T, T = endB t := ⟨_, rfl⟩
 rw [← hT]
 unfold endB at hT
 by_cases h1 : t = -1
 ·subst h1
  have HT := Lib.hid (show T = true by rw [hT]; rfl)
  clear hT
  go_enter Try.func74, Try.ntmps74
  go_wp2_with fail
  go_ret
  rw [HT.out]
  exact ⟨rfl, rfl⟩
 by_cases h2 : t = -2
 ·subst h2
  have HT := Lib.hid (show T = true by rw [hT]; rfl)
  clear hT
  go_enter Try.func74, Try.ntmps74
  go_wp2_with fail
  go_ret
  rw [HT.out]
  exact ⟨rfl, rfl⟩
 by_cases h3 : t = -3
 ·subst h3
  have HT := Lib.hid (show T = true by rw [hT]; rfl)
  clear hT
  go_enter Try.func74, Try.ntmps74
  go_wp2_with fail
  go_ret
  rw [HT.out]
  exact ⟨rfl, rfl⟩
 have HT := Lib.hid (show T = false by rw [hT]; simp [h1, h2, h3])
 have z1 : (t == -1) = false := by simpa using h1
 have z2 : (t == -2) = false := by simpa using h2
 have z3 : (t == -3) = false := by simpa using h3
 clear hT h1 h2 h3
 go_enter Try.func74, Try.ntmps74
 go_wp2_with fail
 go_ret
 rw [HT.out]
 exact ⟨rfl, rfl⟩
theorem target_ (w : World) (A : Option Addr) (n c : Nat) (A1 : Option Addr) (nv c1 : Nat) (most t : Int) : Calls Try.prog 69 #[bval A n c A1 nv c1 most, .int .i64 t] w fun e w' => e = .returned (.bool (tgtB n t)) ∧ Below w.heap.size w w' := by
 obtain ⟨W1, hW1⟩ : ∃ w1, w1 = w.alloc (.cells #[.slice A n c, .slice A1 nv c1, .int .i64 most] 25) := ⟨_, rfl⟩
 have hb1 : Below w.heap.size w W1 := by rw [hW1]; exact (Below.refl _ _).alloc (Nat.le_refl _) _
 have hc1 : Cel W1 w.heap.size 25 [.slice A n c, .slice A1 nv c1, .int .i64 most] := by rw [hW1]; exact Cel.new w _ _
 have HB1 := Lib.hid hb1
 have k0 := hc1.cell 0
 have con := end_ W1 t
 obtain ⟨T, hT⟩ : ∃ T, T = tgtB n t := ⟨_, rfl⟩
 rw [← hT]
 unfold tgtB at hT
 obtain ⟨b, hb⟩ : ∃ b, b = endB t := ⟨_, rfl⟩
 rw [← hb] at con hT
 have HT := Lib.hid hT
 clear hb hT hb1 hc1
 unfold bval
 go_enter Try.func69, Try.ntmps69
 go_upto_region 1 with fail
 rw [← hW1]
 clear hW1
 go_wp2_with fail
 refine con.mono ?_
 clear con
 rintro e w2 ⟨rfl, rfl⟩
 cases b with
 | true =>
  go_wp2_with fail
  go_ret
  rw [HT.out]
  exact ⟨rfl, HB1.out⟩
 | false =>
  by_cases h1 : 0 ≤ t
  ·have d1 : decide (0 ≤ t) = true := decide_eq_true h1
   obtain ⟨d, hd⟩ : ∃ d, d = decide (t < (n : Int)) := ⟨_, rfl⟩
   have HN := Lib.hid (show T = d by rw [HT.out, d1, hd]; rfl)
   clear h1
   go_wp2_with fail
   go_ret
   rw [HN.out, hd]
   exact ⟨rfl, HB1.out⟩
  ·have d1 : decide (0 ≤ t) = false := decide_eq_false h1
   have HN := Lib.hid (show T = false by rw [HT.out, d1]; rfl)
   clear h1
   go_wp2_with fail
   go_ret
   rw [HN.out]
   exact ⟨rfl, HB1.out⟩
theorem variable_ (w : World) (A : Option Addr) (n c : Nat) (A1 : Option Addr) (nv c1 : Nat) (most t : Int) : Calls Try.prog 75 #[bval A n c A1 nv c1 most, .int .i64 t] w fun e w' => e = .returned (.bool (varB nv t)) ∧ Below w.heap.size w w' := by
 obtain ⟨W1, hW1⟩ : ∃ w1, w1 = w.alloc (.cells #[.slice A n c, .slice A1 nv c1, .int .i64 most] 25) := ⟨_, rfl⟩
 have hb1 : Below w.heap.size w W1 := by rw [hW1]; exact (Below.refl _ _).alloc (Nat.le_refl _) _
 have hc1 : Cel W1 w.heap.size 25 [.slice A n c, .slice A1 nv c1, .int .i64 most] := by rw [hW1]; exact Cel.new w _ _
 have HB1 := Lib.hid hb1
 have k1 := hc1.cell 1
 obtain ⟨T, hT⟩ : ∃ T, T = varB nv t := ⟨_, rfl⟩
 rw [← hT]
 unfold varB at hT
 have HT := Lib.hid hT
 clear hT hb1 hc1
 unfold bval
 by_cases h0 : t = -1
 ·subst h0
  go_enter Try.func75, Try.ntmps75
  go_upto_region 1 with fail
  rw [← hW1]
  clear hW1
  go_wp2_with fail
  go_ret
  rw [HT.out]
  exact ⟨rfl, HB1.out⟩
 have z0 : (t == -1) = false := by simpa using h0
 have HT2 := Lib.hid (show T = (decide (0 ≤ t) && decide (t < (nv : Int))) by rw [HT.out, decide_eq_false h0]; rfl)
 clear HT h0
 go_enter Try.func75, Try.ntmps75
 go_upto_region 1 with fail
 rw [← hW1]
 clear hW1
 by_cases h1 : 0 ≤ t
 ·have d1 : decide (0 ≤ t) = true := decide_eq_true h1
  obtain ⟨d, hd⟩ : ∃ d, d = decide (t < (nv : Int)) := ⟨_, rfl⟩
  have HN := Lib.hid (show T = d by rw [HT2.out, d1, hd]; rfl)
  clear h1
  go_wp2_with fail
  go_ret
  rw [HN.out, hd]
  exact ⟨rfl, HB1.out⟩
 ·have d1 : decide (0 ≤ t) = false := decide_eq_false h1
  have HN := Lib.hid (show T = false by rw [HT2.out, d1]; rfl)
  clear h1
  go_wp2_with fail
  go_ret
  rw [HN.out]
  exact ⟨rfl, HB1.out⟩
end Go.Proofs.Ytfmkkklcgiaacaa.Fold
end
section
namespace Go.Proofs.Ytfmkkklcgiaacaa.Fold
open Go.RowKit
open Lex (Tx)
open Rec (Stt Vt Tvs Trow txt)
abbrev bcells (A : Option Addr) (n c : Nat) (A1 : Option Addr) (nv c1 : Nat) (most : Int) : List Value := [.slice A n c, .slice A1 nv c1, .int .i64 most]
abbrev scells (s1 s2 s3 s4 : Int) (AL : Option Addr) (m cL : Nat) : List Value := [.int .i64 s1, .int .i64 s2, .int .i64 s3, .int .i64 s4, .slice AL m cL]
section
variable (w : World) (A : Option Addr) (n c : Nat) (A1 : Option Addr) (nv c1 : Nat) (most s1 s2 s3 s4 : Int) (AL : Option Addr) (m cL : Nat)
theorem two_boxes : ∃ W1, W1 = (w.alloc (.cells #[.slice A n c, .slice A1 nv c1, .int .i64 most] 25)).alloc (.cells #[.int .i64 s1, .int .i64 s2, .int .i64 s3, .int .i64 s4, .slice AL m cL] 31) ∧ Below w.heap.size w W1 ∧ Cel W1 w.heap.size 25 (bcells A n c A1 nv c1 most) ∧ Cel W1 (w.heap.size + 1) 31 (scells s1 s2 s3 s4 AL m cL) :=
 ⟨_, rfl, ((Below.refl _ _).alloc (Nat.le_refl _) _).alloc (by simp) _, (Cel.new w _ _).alloc _, by simpa using Cel.new (w.alloc (.cells #[.slice A n c, .slice A1 nv c1, .int .i64 most] 25)) 31 (scells s1 s2 s3 s4 AL m cL)⟩
theorem visit_ (h2 : s2 < 9223372036854775808) : Calls Try.prog 70 #[bval A n c A1 nv c1 most, stval s1 s2 s3 s4 AL m cL] w fun e w' => e = .returned (.bool (visB s1 s2 most)) ∧ Below w.heap.size w w' := by
 obtain ⟨W1, hW1, hb1, hc1, hc2⟩ := two_boxes w A n c A1 nv c1 most s1 s2 s3 s4 AL m cL
 have HB1 := Lib.hid hb1
 have k2 := hc1.cell 2
 have q0 := hc2.cell 0
 have q1 := hc2.cell 1
 have con := end_ W1 s1
 obtain ⟨T, hT⟩ : ∃ T, T = visB s1 s2 most := ⟨_, rfl⟩
 rw [← hT]
 unfold visB at hT
 obtain ⟨b, hb⟩ : ∃ b, b = endB s1 := ⟨_, rfl⟩
 rw [← hb] at con hT
 have HT := Lib.hid hT
 clear hb hT hb1 hc1 hc2
 have H2 := Lib.hid h2
 clear h2
 unfold bval stval
 by_cases h1 : 1 ≤ s2
 case neg =>
  have d1 : decide (s2 < 1) = true := decide_eq_true (by omega)
  have HN := Lib.hid (show T = false by rw [HT.out, decide_eq_false h1]; rfl)
  clear h1
  go_enter Try.func70, Try.ntmps70
  go_upto_region 1 with fail
  rw [← hW1]
  clear hW1
  go_wp2_with fail
  go_ret
  rw [HN.out]
  exact ⟨rfl, HB1.out⟩
 have d1 : decide (s2 < 1) = false := decide_eq_false (by omega)
 have w1 : wrap64 (s2 - 1) = s2 - 1 := by have := H2.out; unfold wrap64; omega
 have w2 : IntKind.i64.wrap (s2 - 1) = s2 - 1 := by have := H2.out; rw [IntKind.wrap_i64]; omega
 have HT2 := Lib.hid (show T = (if b = true then decide (s2 - 1 ≤ most) else decide (s2 ≤ most)) by rw [HT.out, decide_eq_true h1, Bool.true_and])
 clear h1 HT H2
 go_enter Try.func70, Try.ntmps70
 go_upto_region 1 with fail
 rw [← hW1]
 clear hW1
 go_wp2_with fail
 refine con.mono ?_
 clear con
 rintro e w2 ⟨rfl, rfl⟩
 cases b with
 | true =>
  obtain ⟨d, hd⟩ : ∃ d, d = decide (s2 - 1 ≤ most) := ⟨_, rfl⟩
  have HN := Lib.hid (show T = d by rw [HT2.out, if_pos rfl, hd])
  have HD := Lib.hid hd
  clear hd
  go_wp2_with fail
  go_ret
  rw [HN.out, HD.out]
  exact ⟨rfl, HB1.out⟩
 | false =>
  obtain ⟨d, hd⟩ : ∃ d, d = decide (s2 ≤ most) := ⟨_, rfl⟩
  have HN := Lib.hid (show T = d by rw [HT2.out, if_neg (by decide), hd])
  have HD := Lib.hid hd
  clear hd
  go_wp2_with fail
  go_ret
  rw [HN.out, HD.out]
  exact ⟨rfl, HB1.out⟩
theorem tries_ (h3 : s3 < 9223372036854775808) (vs : List Fs) (hf : Fbk w A vs) (hl : vs.length = n) (ht : tgtB n s1 = true) : Calls Try.prog 71 #[bval A n c A1 nv c1 most, stval s1 s2 s3 s4 AL m cL] w fun e w' => e = .returned (.bool (triB (vs.map Fs.m) s1 s3)) ∧ Below w.heap.size w w' := by
 obtain ⟨W1, hW1, hb1, hc1, hc2⟩ := two_boxes w A n c A1 nv c1 most s1 s2 s3 s4 AL m cL
 have HB1 := Lib.hid hb1
 have k0 := hc1.cell 0
 have q0 := hc2.cell 0
 have q2 := hc2.cell 2
 have con := end_ W1 s1
 obtain ⟨T, hT⟩ : ∃ T, T = triB (vs.map Fs.m) s1 s3 := ⟨_, rfl⟩
 rw [← hT]
 unfold triB at hT
 unfold bval stval
 cases hb : endB s1 with
 | true =>
  rw [hb] at con hT
  obtain ⟨d, hd⟩ : ∃ d, d = decide (s3 = 0) := ⟨_, rfl⟩
  have HN := Lib.hid (show T = d by rw [hT, if_pos rfl, hd])
  have HD := Lib.hid hd
  clear hd hb hT hb1 hc1 hc2 hf hl ht h3
  go_enter Try.func71, Try.ntmps71
  go_upto_region 1 with fail
  rw [← hW1]
  clear hW1
  go_wp2_with fail
  refine con.mono ?_
  clear con
  rintro e w2 ⟨rfl, rfl⟩
  go_wp2_with fail
  go_ret
  rw [HN.out, HD.out]
  exact ⟨rfl, HB1.out⟩
 | false =>
  rw [hb] at con hT
  have h0 := endB_no hb
  have h1 := tgtB_iff.1 ht
  obtain ⟨j, rfl⟩ : ∃ j : Nat, s1 = (j : Int) := ⟨s1.toNat, by omega⟩
  have hj : j < n := by omega
  obtain ⟨f, hff⟩ : ∃ f, vs[j]? = some f := ⟨_, List.getElem?_eq_getElem (by rw [hl]; exact hj)⟩
  obtain ⟨ad, rfl, _, _, _, _, _, kt, _⟩ := (hf.below hb1).at_ hff
  have hm : (vs.map Fs.m)[((j : Int)).toNat]? = some f.m := by rw [Int.toNat_natCast, List.getElem?_map, hff]; rfl
  rw [if_neg (by decide), hm] at hT
  have HT := Lib.hid (show T = (decide (0 ≤ s3) && decide (s3 - 1 ≤ f.try_)) from hT)
  have H3 := Lib.hid h3
  clear h0 h1 hff hm hT hb ht hf hl hb1 hc1 hc2 h3
  go_enter Try.func71, Try.ntmps71
  go_upto_region 1 with fail
  rw [← hW1]
  clear hW1
  go_wp2_with fail
  refine con.mono ?_
  clear con
  rintro e w2 ⟨rfl, rfl⟩
  by_cases h1 : 0 ≤ s3
  ·have d1 : decide (0 ≤ s3) = true := decide_eq_true h1
   have w1 : wrap64 (s3 - 1) = s3 - 1 := by have := H3.out; unfold wrap64; omega
   have w2 : IntKind.i64.wrap (s3 - 1) = s3 - 1 := by have := H3.out; rw [IntKind.wrap_i64]; omega
   obtain ⟨d, hd⟩ : ∃ d, d = decide (s3 - 1 ≤ f.try_) := ⟨_, rfl⟩
   have HN := Lib.hid (show T = d by rw [HT.out, d1, hd]; rfl)
   have HD := Lib.hid hd
   clear hd h1
   go_wp2_with fail
   go_quiet (fail)
   go_wp2_with fail
   go_ret
   rw [HN.out, HD.out]
   exact ⟨rfl, fbelow_drew HB1.out _⟩
  ·have d1 : decide (0 ≤ s3) = false := decide_eq_false h1
   have HN := Lib.hid (show T = false by rw [HT.out, d1]; rfl)
   clear h1
   go_wp2_with fail
   go_quiet (fail)
   go_wp2_with fail
   go_ret
   rw [HN.out]
   exact ⟨rfl, fbelow_drew HB1.out _⟩
theorem offset_ : Calls Try.prog 72 #[stval s1 s2 s3 s4 AL m cL] w fun e w' => e = .returned (.bool (offB s4)) ∧ Below w.heap.size w w' := by
 obtain ⟨W1, hW1⟩ : ∃ w1, w1 = w.alloc (.cells #[.int .i64 s1, .int .i64 s2, .int .i64 s3, .int .i64 s4, .slice AL m cL] 31) := ⟨_, rfl⟩
 have hb1 : Below w.heap.size w W1 := by rw [hW1]; exact (Below.refl _ _).alloc (Nat.le_refl _) _
 have hc1 : Cel W1 w.heap.size 31 (scells s1 s2 s3 s4 AL m cL) := by rw [hW1]; exact Cel.new w _ _
 have HB1 := Lib.hid hb1
 have q3 := hc1.cell 3
 obtain ⟨T, hT⟩ : ∃ T, T = offB s4 := ⟨_, rfl⟩
 rw [← hT]
 unfold offB at hT
 have HT := Lib.hid hT
 clear hT hb1 hc1
 unfold stval
 by_cases h1 : 0 ≤ s4
 ·have d1 : decide (0 ≤ s4) = true := decide_eq_true h1
  obtain ⟨d, hd⟩ : ∃ d, d = decide (s4 ≤ 2147483647) := ⟨_, rfl⟩
  have HN := Lib.hid (show T = d by rw [HT.out, d1, hd]; rfl)
  have HD := Lib.hid hd
  clear h1 hd
  go_enter Try.func72, Try.ntmps72
  go_upto_region 1 with fail
  rw [← hW1]
  clear hW1
  go_wp2_with fail
  go_ret
  rw [HN.out, HD.out]
  exact ⟨rfl, HB1.out⟩
 ·have d1 : decide (0 ≤ s4) = false := decide_eq_false h1
  have HN := Lib.hid (show T = false by rw [HT.out, d1]; rfl)
  clear h1
  go_enter Try.func72, Try.ntmps72
  go_upto_region 1 with fail
  rw [← hW1]
  clear hW1
  go_wp2_with fail
  go_ret
  rw [HN.out]
  exact ⟨rfl, HB1.out⟩
end
theorem vrs_no {vs : List Vt} {v : Vt} {nv : Nat} (hv : v ∈ vs) (h : 100 < v.t.length) : vrsB (txt vs) nv = false := by
 unfold vrsB txt
 rw [Bool.and_eq_false_iff]
 left
 rw [List.all_eq_false]
 exact ⟨v.t, List.mem_map.2 ⟨v, hv, rfl⟩, by simp; omega⟩
theorem vrs_yes {vs : List Vt} {nv m : Nat} (hl : vs.length = m) (h : ∀ v ∈ vs, v.t.length ≤ 100) : vrsB (txt vs) nv = decide (m = nv) := by
 unfold vrsB txt
 rw [List.all_eq_true.2 (fun t ht => by
  obtain ⟨v, hv, rfl⟩ := List.mem_map.1 ht
  simpa using h v hv), Bool.true_and, List.length_map, hl]
theorem vars_ (w : World) (K : Nat) (hK : K ≤ w.heap.size) (A : Option Addr) (n c : Nat) (A1 : Option Addr) (nv c1 : Nat) (most s1 s2 s3 s4 : Int) (AL : Option Addr) (m cL : Nat) (us : List Vt) (h : Tvs w K AL us) (hl : us.length = m) (hm : m ≤ maxLen) :
  Calls Try.prog 73 #[bval A n c A1 nv c1 most, stval s1 s2 s3 s4 AL m cL] w fun e w' => e = .returned (.bool (vrsB (txt us) nv)) ∧ Below w.heap.size w w' := by
 unfold maxLen at hm
 obtain ⟨W1, hW1, hb1, hc1, hc2⟩ := two_boxes w A n c A1 nv c1 most s1 s2 s3 s4 AL m cL
 have HB1 := Lib.hid hb1
 have k1 := hc1.cell 1
 have q4 := hc2.cell 4
 have H := Lib.hid (h.below hK hb1)
 have HL := Lib.hid hl
 clear hb1 hc1 hc2 h hl
 unfold bval stval
 go_enter Try.func73, Try.ntmps73
 go_upto_region 1 with fail
 rw [← hW1]
 clear hW1
 go_wp2_with fail
 go_loopw [10] (fun v10 wr => ∃ (i : Nat), i ≤ m ∧ v10 = .int .i64 (i : Int) ∧ W1 = wr ∧ Hid (∀ v ∈ us.take i, v.t.length ≤ 100)) (fun v10 _ => m - (intOf v10).toNat)
 case atStart => exact ⟨0, Nat.zero_le _, rfl, rfl, Lib.hid (by simp)⟩
 case round =>
  obtain ⟨i, hi, rfl, rfl, HK⟩ := hrel
  rcases Nat.lt_or_ge i m with hlt | hge
  ·obtain ⟨v, hv⟩ : ∃ v, us[i]? = some v := ⟨_, List.getElem?_eq_getElem (by rw [HL.out]; exact hlt)⟩
   obtain ⟨ad, rfl, k0⟩ := H.out.cr i v hv
   have hm := (H.out.tx v (List.mem_of_getElem? hv)).2
   unfold maxLen at hm
   have HV := Lib.hid hv
   clear hv
   obtain ⟨vA, vc, vt⟩ := v
   change _ = some (Value.slice vA vt.length vc) at k0
   obtain ⟨tl, htl⟩ : ∃ tl, tl = vt.length := ⟨_, rfl⟩
   change vt.length ≤ _ at hm
   rw [← htl] at k0 hm
   have HTL := Lib.hid htl
   clear htl
   by_cases t1 : 100 < tl
   ·have dt1 : decide ((100 : Int) < (tl : Int)) = true := by simp; omega
    go_wp2_with fail
    go_ret
    rw [vrs_no (List.mem_of_getElem? HV.out) (by show 100 < vt.length; rw [← HTL.out]; exact t1)]
    exact ⟨rfl, HB1.out⟩
   ·have dt1 : decide ((100 : Int) < (tl : Int)) = false := by simp; omega
    go_wp2_with fail
    refine ⟨⟨i + 1, by omega, by rw [show ((i + 1 : Nat) : Int) = (i : Int) + 1 by omega], by trivial, Lib.hid fun u hu => ?_⟩, by simp [intOf]; omega⟩
    rcases Rec.mem_take HV.out hu with hu | rfl
    ·exact HK.out u hu
    ·show vt.length ≤ 100
     rw [← HTL.out]
     omega
  ·obtain rfl : i = m := by omega
   have hk := HK.out
   rw [← HL.out, List.take_length] at hk
   have HE := Lib.hid (vrs_yes (nv := nv) HL.out hk)
   clear hk HK
   by_cases e : i = nv
   ·have z : ((i : Int) == (nv : Int)) = true := by simp; omega
    have HE2 := Lib.hid (show vrsB (txt us) nv = true by rw [HE.out, decide_eq_true e])
    clear e HE
    go_wp2_with fail
    go_ret
    rw [HE2.out]
    exact ⟨rfl, HB1.out⟩
   ·have z : ((i : Int) == (nv : Int)) = false := by simp; omega
    have HE2 := Lib.hid (show vrsB (txt us) nv = false by rw [HE.out, decide_eq_false e])
    clear e HE
    go_wp2_with fail
    go_ret
    rw [HE2.out]
    exact ⟨rfl, HB1.out⟩
end Go.Proofs.Ytfmkkklcgiaacaa.Fold
end
section
namespace Go.Proofs.Ytfmkkklcgiaacaa.Ord
open Go.RowKit
section
variable {l n : Nat} {P : Program} {ops : Array Oper} {Q : Exit → Act → World → Prop} {md : Region.Mode}
/-! ### A region whose last operations write what its first ones read: S is asked behind all operations but those of N. -/
variable {S : World → Prop} {N : List Nat}
def wpAnyN (P : Program) (md : Region.Mode) (ops : Array Oper) (Q : Exit → Act → World → Prop) (S : World → Prop) (N : List Nat) : Nat → Array Bool → Act → World → Prop
 | 0, listed, a, w => Region.ready md ops listed = [] ∧ Q .normal a w
 | fuel + 1, listed, a, w =>
  (Region.ready md ops listed = [] → Q .normal a w) ∧
  ∀ i ∈ Region.ready md ops listed, wpOp P ops Q i (fun a' w' => (i ∉ N → S w') ∧ wpAnyN P md ops Q S N fuel (listed.setIfInBounds i true) a' w') a w
theorem wpAny_of_N : ∀ (fuel : Nat) (listed : Array Bool) (a : Act) (w : World), wpAnyN P md ops Q S N fuel listed a w → wpAny P md ops Q fuel listed a w
 | 0, _, _, _, h => h
 | fuel + 1, _, _, _, h => ⟨h.1, fun i hi => wpOp_mono (fun a' w' h' => wpAny_of_N fuel _ a' w' h'.2) (h.2 i hi)⟩
def waits (md : Region.Mode) (ops : Array Oper) (i : Nat) (D : List Nat) : Bool := D.all fun j => match ops[j]? with
 | some o => o.after.any fun e => Region.binds md e && (e.on == i || D.contains e.on)
 | none => false
structure Pend (md : Region.Mode) (ops : Array Oper) (i : Nat) (D : List Nat) (L : Array Bool) : Prop where
 now : i ∈ Region.ready md ops L
 none : ∀ d ∈ D, L.getD d true = false
theorem listed_no {L : Array Bool} {k : Nat} (h : L.getD k true = false) (h' : L.getD k false = true) : False := by
 rcases Nat.lt_or_ge k L.size with hk | hk
 ·simp [hk] at h h'
  rw [h] at h'
  cases h'
 ·simp [Array.getElem?_eq_none hk] at h'
theorem ready_edge {L : Array Bool} {j : Nat} {o : Oper} (hj : j ∈ Region.ready md ops L) (ho : ops[j]? = some o) : ∀ e ∈ o.after, Region.binds md e = true → L.getD e.on true ≠ false := by
 obtain ⟨_, o', ho', hall⟩ := mem_ready.1 hj
 rw [ho] at ho'
 cases ho'
 intro e he hb hc
 exact listed_no hc (by simpa using hall e he hb)
namespace Pend
variable {i j : Nat} {D : List Nat} {L : Array Bool} {oj : Oper}
theorem open_ (h : Pend md ops i D L) : L.getD i true = false := (mem_ready.1 h.now).1
theorem apart_ (h : Pend md ops i D L) (hj : j ∈ Region.ready md ops L) (ho : ops[j]? = some oj) : ∀ e ∈ oj.after, Region.binds md e = true → e.on ≠ i :=
 fun e he hb hi => ready_edge hj ho e he hb (by rw [hi]; exact h.open_)
theorem not_D (h : Pend md ops i D L) (hD : waits md ops i D = true) (hj : j ∈ Region.ready md ops L) : j ∉ D := by
 intro hm
 have h1 := List.all_eq_true.1 hD j hm
 cases ho : ops[j]? with
 | none => rw [ho] at h1; cases h1
 | some o =>
  rw [ho] at h1
  simp only [Array.any_eq_true] at h1
  obtain ⟨k, hk, h2⟩ := h1
  rw [Bool.and_eq_true, Bool.or_eq_true, beq_iff_eq, List.contains_iff_mem] at h2
  refine ready_edge hj ho _ (Array.getElem_mem hk) h2.1 ?_
  rcases h2.2 with e | e
  ·rw [e]; exact h.open_
  ·exact h.none _ e
theorem step (h : Pend md ops i D L) (hD : waits md ops i D = true) (hj : j ∈ Region.ready md ops L) (hne : j ≠ i) : Pend md ops i D (L.setIfInBounds j true) :=
 ⟨ready_mono h.now (Ne.symm hne), fun d hd => by
  have hjd : j ≠ d := fun e => h.not_D hD hj (by rw [e]; exact hd)
  rw [getD_set_ne true hjd]
  exact h.none d hd⟩
end Pend
theorem wpAnyN_first {i : Nat} {oi : Oper} {v : Value} {D : List Nat} (hDw : waits md ops i D = true) (hND : ∀ n ∈ N, n ∈ D) (hi : ops[i]? = some oi) (hsel : ∀ (j : Nat) (o : Oper) cs b, ops[j]? = some o → o.op ≠ .select cs b)
  (hQ : ∀ c a w, Q (.panic c) (a.put oi.dst v) w → Q (.panic c) a w) {L0 : Array Bool}
  (hfree : ∀ j oj, ops[j]? = some oj → j ≠ i → L0.getD j true = false → (∀ e ∈ oj.after, Region.binds md e = true → e.on ≠ i) → oi.apart ops oj = true) :
  ∀ (fuel : Nat) (L : Array Bool) (a : Act) (w : World), (∀ j, L.getD j true = false → L0.getD j true = false) → Pend md ops i D L → YieldsIf P ops S oi v a → S w →
   wpAnyN P md ops Q S N fuel (L.setIfInBounds i true) (a.put oi.dst v) w → wpAnyN P md ops Q S N (fuel + 1) L a w := by
 intro fuel
 induction fuel with
 | zero =>
  intro L a w _ hp hy hS H
  refine ⟨fun h => absurd hp.now (by rw [h]; simp), fun j hj => ?_⟩
  rcases Decidable.em (j = i) with rfl | hne
  ·exact hy.wpOp hi hS ⟨fun _ => hS, H⟩
  ·exact absurd (ready_mono hj hne) (by rw [H.1]; simp)
 | succ fuel ih =>
  intro L a w hL hp hy hS H
  refine ⟨fun h => absurd hp.now (by rw [h]; simp), fun j hj => ?_⟩
  rcases Decidable.em (j = i) with rfl | hne
  ·exact hy.wpOp hi hS ⟨fun _ => hS, H⟩
  ·obtain ⟨hju, oj, hoj, _⟩ := mem_ready.1 hj
   have hap := hfree j oj hoj hne (hL j hju) (hp.apart_ hj hoj)
   have hnN : j ∉ N := fun hn => hp.not_D hDw hj (hND j hn)
   refine wpOp_mono (fun a' w' h => ⟨h.2.1, ih _ a' w' (fun k hk => ?_) (hp.step hDw hj hne) h.1 (h.2.1 hnN) (by rw [Array.setIfInBounds_comm _ _ hne]; exact h.2.2)⟩)
    (wpOp_putIf hoj hap (fun cs b => hsel i oi cs b hi) (fun cs b => hsel j oj cs b hoj) hQ hy (H.2 j (ready_mono hj hne)))
   rcases Decidable.em (j = k) with rfl | hjk
   ·exact hL j hju
   ·rw [getD_set_ne true hjk] at hk; exact hL k hk
theorem wpAnyN_take {i : Nat} {oi : Oper} {v : Value} {fuel : Nat} {listed : Array Bool} {a : Act} {w : World} (D : List Nat) (hDw : (waits md ops i D && N.all D.contains && !D.contains i && D.all (fun d => !listed.getD d true)) = true) (hi : ops[i]? = some oi)
  (hs : Region.noSelect ops = true) (hf : Region.free md ops listed i = true) (hr : (Region.ready md ops listed).contains i = true)
  (hQ : ∀ c a w, Q (.panic c) (a.put oi.dst v) w → Q (.panic c) a w) (hy : YieldsIf P ops S oi v a) (hS : S w)
  (h : wpAnyN P md ops Q S N fuel (listed.setIfInBounds i true) (a.put oi.dst v) w) : wpAnyN P md ops Q S N (fuel + 1) listed a w := by
 simp only [Bool.and_eq_true] at hDw
 obtain ⟨⟨⟨h1, h2⟩, _⟩, h4⟩ := hDw
 rw [List.all_eq_true] at h2 h4
 exact wpAnyN_first h1 (fun n hn => List.contains_iff_mem.1 (h2 n hn)) hi (Region.noSelect_spec hs) hQ (Region.free_spec hi hf) fuel listed a w (fun _ h => h) ⟨by simpa using hr, fun d hd => by simpa using h4 d hd⟩ hy hS h
theorem wpAnyN_one {i : Nat} {o : Oper} {fuel : Nat} {listed : Array Bool} {a : Act} {w : World} (hr : Region.ready md ops listed = [i]) (ho : ops[i]? = some o)
  (h : ∀ K' : Act → World → Prop, Shut (∀ a w, (i ∈ N ∨ S w) → wpAnyN P md ops Q S N fuel (listed.setIfInBounds i true) a w → K' a w) → if Region.wanted o (yielded ops a.tmps) = true then Oper.wp P o a w K' Q else K' (a.put o.dst undef) w) :
  wpAnyN P md ops Q S N (fuel + 1) listed a w :=
 ⟨fun h0 => (by rw [hr] at h0; cases h0), fun j hj => by
  rw [hr, List.mem_singleton] at hj
  subst hj
  exact wpOp_step ho (fun K' hK => h K' (fun a w hS hW => hK a w ⟨fun hn => hS.resolve_left hn, hW⟩))⟩
theorem wpAnyN_done {listed : Array Bool} {a : Act} {w : World} (hr : Region.ready md ops listed = []) (h : Q .normal a w) :
  ∀ fuel, wpAnyN P md ops Q S N fuel listed a w
 | 0 => ⟨hr, h⟩
 | _ + 1 => ⟨fun _ => h, by rw [hr]; simp⟩
theorem wp_region_N (N : List Nat) (S : World → Prop) {id : Nat} {a : Act} {w : World} (hm : P.follows .mixedOrders = true)
  (h : wpAnyN P .any ops Q S N ops.size (Array.replicate ops.size false) a w.drew) : (Code.region id ops true).wp P Q a w :=
 wp_region_any hm (wpAny_of_N _ _ _ _ h)
end
theorem lay_ : (∀ (l : List Value) (i : Nat) (v : Value), l.toArray.setIfInBounds i v = (l.set i v).toArray) ∧ (∀ (x : Value) (l : List Value) (v : Value), (x :: l).set 0 v = v :: l) ∧ (∀ (x : Value) (l : List Value) (n : Nat) (v : Value), (x :: l).set (n + 1) v = x :: l.set n v) ∧
 (∀ (α : Type) (l : List α) (i : Nat) (h : i < l.toArray.size), l.toArray[i] = l[i]'h) ∧ (∀ (α : Type) (x : α) (l : List α) (i : Nat) (h : i + 1 < (x :: l).length), (x :: l)[i + 1] = l[i]'(Nat.lt_of_succ_lt_succ h)) ∧ (∀ (α : Type) (x : α) (l : List α) (h : 0 < (x :: l).length), (x :: l)[0] = x) :=
 ⟨fun _ _ _ => List.setIfInBounds_toArray .., fun _ _ _ => rfl, fun _ _ _ _ => rfl, fun _ _ _ _ => rfl, fun _ _ _ _ _ => rfl, fun _ _ _ _ => rfl⟩
theorem tk_ {P : Program} {ops : Array Oper} {Q : Exit → Act → World → Prop} {md : Region.Mode} {S : World → Prop} {N : List Nat} {fuel : Nat} {listed : Array Bool} {a : Act} {w : World} (i : Nat) (v : Value) (D : List Nat) {oi : Oper} (hi : ops[i]? = some oi) (hS : S w) (hy : ∀ w, S w → (execOp a.eval oi).run P w = .ok (.value v) w)
  (h : wpAnyN P md ops Q S N fuel (listed.setIfInBounds i true) (a.put oi.dst v) w)
  (hDw : (waits md ops i D && N.all D.contains && !D.contains i && D.all (fun d => !listed.getD d true)) = true := by kernel_rfl) (hs : Region.noSelect ops = true := by kernel_rfl) (hf : Region.free md ops listed i = true := by kernel_rfl) (hr : (Region.ready md ops listed).contains i = true := by kernel_rfl)
  (hQ : ∀ c a w, Q (.panic c) (a.put oi.dst v) w → Q (.panic c) a w := by exact fun _ _ _ h => h) (hw : Region.wanted oi (yielded ops a.tmps) = true := by rfl) : wpAnyN P md ops Q S N (fuel + 1) listed a w :=
 wpAnyN_take D hDw hi hs hf hr hQ (Or.inl ⟨hw, hy⟩) hS h
end Go.Proofs.Ytfmkkklcgiaacaa.Ord
end
section
namespace Go.Proofs.Ytfmkkklcgiaacaa.Rec
open Go.RowKit Go.Proofs.Ytfmkkklcgiaacaa.Ord
open Lex (Tx)
theorem results_recget {P : Program} {fn : Func} {tmps : Array Value} {w : World} (a : Tmp) (t : TypeId) (b : Tmp) (hr : fn.results = #[.cell a t, .tmp b]) (ad : Addr) (ha : tmps.getD a undef = .pointer (some ad)) (v u : Value) (hu : tmps.getD b undef = u) (hl : (loadVar t ad).run P w = .ok v w) :
  (results fn tmps).run P w = .ok (.tuple #[v, u]) w := by
 unfold results
 rw [hr]
 simp only [List.mapM_toArray, List.mapM_cons, List.mapM_nil, ha, hu, asAddr]
 simp [hl]
theorem rok_nil {w : World} {K : Nat} {r : Rc} (h1 : r.s.vars = []) (h2 : r.value = []) : Rok w K ⟨r, none, 0, [], none, 0⟩ :=
 ⟨h1, ⟨by simp, by simp⟩, Nat.zero_le _, by show Tx w K none r.value; rw [h2]; exact .inl Bs.nil_, by show r.value.length ≤ _; rw [h2]; exact Nat.zero_le _⟩
theorem infoRw : (Try.prog.info? 29).map (fun i => (i.zero, i.size, i.bytes)) = some (some (.slice none 0 0), 1, 24) := by kernel_rfl
end Go.Proofs.Ytfmkkklcgiaacaa.Rec
end
section
namespace Go.Proofs.Ytfmkkklcgiaacaa.Rec
open Go.RowKit
open Lex (Tx)
theorem results_cell_ {P : Program} {fn : Func} {tmps : Array Value} {w : World} (a : Tmp) (t : TypeId) (hr : fn.results = #[.cell a t]) (ad : Addr) (ha : tmps.getD a undef = .pointer (some ad)) (v : Value) (hl : (loadVar t ad).run P w = .ok v w) :
  (results fn tmps).run P w = .ok v w := by
 unfold results
 rw [hr]
 simp only [List.mapM_toArray, List.mapM_cons, List.mapM_nil, ha, asAddr]
 simp [hl]
end Go.Proofs.Ytfmkkklcgiaacaa.Rec
end
