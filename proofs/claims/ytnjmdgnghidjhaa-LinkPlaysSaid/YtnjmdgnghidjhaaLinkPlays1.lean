/-
Texts: RowTy By Slices LexRef LexText LexOne LexSame VarsNames BookVals Orders
-/
import Derived.Test.YtnjmdgnghidjhaaLinkPlays0
import Derived.WalkKit
import Derived.ProofKit
import Derived.OrdersHeld
import Derived.Deep.RegionHeld
import Derived.Test.YtnjmdgnghidjhaaChecked
import Derived.BigQuiet
import Derived.Deep.CutBlock
import Derived.Deep.CutRange
import Derived.Deep.DeepCutAuto
set_option linter.unusedVariables false
set_option linter.unusedSimpArgs false
section
namespace Go.Proofs.Ytnjmdgnghidjhaa
open Go.RowKit
def Ry (t : TypeId) (w : World) (A : Option Addr) (cs : List Value) : Prop :=
 cs ≠ [] → ∃ ad, A = some ad ∧ (∃ o fz, w.heap[ad.block]? = some (.cells o t fz)) ∧ ∀ j u, cs[j]? = some u → w.cell? (ad.add j) = some u
namespace Ry
variable {w w' : World} {t : TypeId} {A : Option Addr} {cs : List Value}
theorem nil_ : Ry t w A [] := fun h => absurd rfl h
theorem keep (h : Ry t w A cs) (hk : ∀ (k : Nat) o fz, w.heap[k]? = some (Obj.cells o t fz) → w'.heap[k]? = w.heap[k]?) : Ry t w' A cs := fun hn => by
 obtain ⟨ad, e, ⟨o, fz, hb⟩, hc⟩ := h hn
 have h1 := hk _ _ _ hb
 exact ⟨ad, e, ⟨o, fz, h1.trans hb⟩, fun j u hj => (World.cell?_of_block (by rw [add_block]; exact h1)).trans (hc j u hj)⟩
theorem below (h : Ry t w A cs) (hb : Below w.heap.size w w') : Ry t w' A cs := h.keep fun k _ _ hk => hb.block k (Array.getElem?_eq_some_iff.1 hk).1
theorem frm (h : Ry t w A cs) {l : List Nat} (hf : Frm l w w') (hl : ∀ k ∈ l, ∀ o fz, w.heap[k]? ≠ some (Obj.cells o t fz)) : Ry t w' A cs :=
 h.keep fun k o fz hk => hf.block k (Array.getElem?_eq_some_iff.1 hk).1 fun hm => hl k hm o fz hk
theorem of_cel {g : Nat} (h : Cel w g t cs) : Ry t w (some ⟨g, 0, none⟩) cs := fun _ => ⟨_, rfl, ⟨_, _, h⟩, fun j u hj => by rw [add_row, h.cell j, hj]⟩
theorem of_own {base size n c : Nat} (h : w.ownsRow base t size (.slice A n c) n cs) (hs : 0 < size) : Ry t w A cs := fun hn => by
 have hl : cs.length = n * size := h.1
 rcases h.2 with ⟨hv, h0⟩ | ⟨g, cap, cur, hv, hb, hg, _⟩
 ·exfalso
  subst h0
  exact hn (List.eq_nil_of_length_eq_zero (by omega))
 ·have hA : A = some ⟨g, 0, none⟩ := by injection hv
  subst hA
  refine ⟨_, rfl, ⟨_, _, hg⟩, fun j u hj => h.cells (g := g) rfl j _ ?_⟩
  exact hj
theorem src (h : Ry t w A cs) {m : Nat} (hm : 0 < m → cs ≠ []) : 0 < m → ∃ ad, A = some ad ∧ ∀ j u, cs[j]? = some u → w.cell? (ad.add j) = some u := fun h0 => by
 obtain ⟨ad, e, _, hc⟩ := h (hm h0)
 exact ⟨ad, e, hc⟩
end Ry
theorem Cel.not_ty {w : World} {g : Nat} {t t' : TypeId} {cs : List Value} (h : Cel w g t cs) (hne : t ≠ t') : ∀ o fz, w.heap[g]? ≠ some (Obj.cells o t' fz) := fun o fz e => by
 unfold Cel at h
 rw [h] at e
 injection e with e
 injection e with _ e2
 exact hne e2
theorem own_not_ty {w : World} {base e size n : Nat} {v : Value} {xs : List Value} {t' : TypeId} (h : w.ownsRow base e size v n xs) (hne : e ≠ t') : ∀ (g : Nat) o fz, v.ownBlock = some g → w.heap[g]? ≠ some (Obj.cells o t' fz) := fun g o fz hv hg => by
 rcases h.2 with ⟨rfl, _⟩ | ⟨g', cap, cur, rfl, _, hg', _⟩
 ·simp [Value.ownBlock] at hv
 ·obtain rfl : g' = g := by simpa [Value.ownBlock] using hv
  rw [hg] at hg'
  simp at hg'
  exact hne hg'.2.1.symm
theorem Cel.grown {w w' : World} {g : Nat} {t : TypeId} {cs : List Value} (h : Cel w g t cs) {row : Option Nat} (hg : w.grownBy w' row) (hr : row ≠ some g) : Cel w' g t cs := (hg.block g h.lt (fun e => hr e.symm)).trans h
theorem own_frm {w w' : World} {base e size n : Nat} {v : Value} {us : List Value} {l : List Nat} (h : w.ownsRow base e size v n us) (hf : Frm l w w') (hl : ∀ g ∈ l, v.ownBlock ≠ some g) : w'.ownsRow base e size v n us := by
 refine ⟨h.1, h.2.imp id fun ⟨g', cap, cur, h1, h2, h3, h4⟩ => ⟨g', cap, cur, h1, h2, ?_, h4⟩⟩
 rw [hf.block g' (Array.getElem?_eq_some_iff.1 h3).1 (fun hm => hl g' hm (by rw [h1]; simp [Value.ownBlock]))]
 exact h3
theorem own_ne {w : World} {base e size n g : Nat} {v : Value} {us : List Value} (h : w.ownsRow base e size v n us) (hg : g < base) : v.ownBlock ≠ some g := fun e' => by
 rcases h.2 with ⟨rfl, _⟩ | ⟨g', cap, cur, rfl, hb, _⟩
 ·simp [Value.ownBlock] at e'
 ·obtain rfl : g' = g := by simpa [Value.ownBlock] using e'
  omega
theorem own_ty_ne {w : World} {base e size n g : Nat} {t : TypeId} {v : Value} {us cs : List Value} (h : w.ownsRow base e size v n us) (hc : Cel w g t cs) (hne : e ≠ t) : v.ownBlock ≠ some g := fun e' =>
 own_not_ty h hne g _ _ e' hc
theorem own_ge {w : World} {base e size n : Nat} {v : Value} {us : List Value} (h : w.ownsRow base e size v n us) : ∀ g, v.ownBlock = some g → base ≤ g := fun g e' =>
 Nat.le_of_not_lt fun hg => own_ne h hg e'
theorem own_two {w : World} {base base' e e' size size' n n' : Nat} {v v' : Value} {us us' : List Value} (h : w.ownsRow base e size v n us) (h' : w.ownsRow base' e' size' v' n' us') (hne : e ≠ e') : ∀ g, v.ownBlock = some g → v'.ownBlock ≠ some g := fun g hg hg' => by
 rcases h.2 with ⟨rfl, _⟩ | ⟨g1, cap, cur, rfl, _, h1, _⟩
 ·simp [Value.ownBlock] at hg
 ·obtain rfl : g1 = g := by simpa [Value.ownBlock] using hg
  exact own_not_ty h' (fun q => hne q.symm) g1 _ _ hg' h1
theorem own_lt {w : World} {base e size n : Nat} {v : Value} {us : List Value} (h : w.ownsRow base e size v n us) : ∀ g, v.ownBlock = some g → g < w.heap.size := fun g e' => by
 rcases h.2 with ⟨rfl, _⟩ | ⟨g', cap, cur, rfl, _, h1, _⟩
 ·simp [Value.ownBlock] at e'
 ·obtain rfl : g' = g := by simpa [Value.ownBlock] using e'
  exact (Array.getElem?_eq_some_iff.1 h1).1
end Go.Proofs.Ytnjmdgnghidjhaa
end
section
namespace Go.Proofs.Ytnjmdgnghidjhaa
open Go.RowKit
def By (w : World) (A : Option Addr) (n : Nat) (bs : List (BitVec 8)) : Prop :=
 bs.length = n ∧ (0 < n → ∃ ad, A = some ad ∧ (∃ cs fz, w.heap[ad.block]? = some (.cells cs 5 fz)) ∧ ∀ j, j < n → w.cell? (ad.add j) = some (v8 (bs.getD j 0#8)))
namespace By
variable {w w' : World} {A : Option Addr} {n : Nat} {bs : List (BitVec 8)}
theorem keep (h : By w A n bs) (hk : ∀ (k : Nat) cs fz, w.heap[k]? = some (Obj.cells cs 5 fz) → w'.heap[k]? = w.heap[k]?) : By w' A n bs :=
 ⟨h.1, fun hn => by
  obtain ⟨ad, e, ⟨cs, fz, hb⟩, hc⟩ := h.2 hn
  have h1 := hk _ _ _ hb
  exact ⟨ad, e, ⟨cs, fz, h1.trans hb⟩, fun j hj => (World.cell?_of_block (by rw [add_block]; exact h1)).trans (hc j hj)⟩⟩
theorem rd (h : By w A n bs) : Bs w w.heap.size A n bs :=
 ⟨h.1, fun hn => by
  obtain ⟨ad, e, ⟨cs, fz, hb⟩, hc⟩ := h.2 hn
  exact ⟨ad, e, (Array.getElem?_eq_some_iff.1 hb).1, hc⟩⟩
theorem below (h : By w A n bs) (hb : Below w.heap.size w w') : By w' A n bs := h.keep fun k _ _ hk => hb.block k (Array.getElem?_eq_some_iff.1 hk).1
theorem grown (h : By w A n bs) {row : Option Nat} (hg : w.grownBy w' row) (hr : ∀ (g : Nat) cs fz, row = some g → w.heap[g]? ≠ some (Obj.cells cs 5 fz)) : By w' A n bs :=
 h.keep fun k cs fz hk => hg.block k (Array.getElem?_eq_some_iff.1 hk).1 (fun e => hr k cs fz e.symm hk)
theorem of_own {base c : Nat} (h : w.ownsRow base 5 1 (.slice A n c) n (bs.map v8)) : By w A n bs := by
 have hl : bs.length = n := by simpa using h.1
 refine ⟨hl, fun hn => ?_⟩
 rcases h.2 with ⟨hv, h0⟩ | ⟨g, cap, cur, hv, hb, hg, _⟩
 ·omega
 ·have hA : A = some ⟨g, 0, none⟩ := by injection hv
  subst hA
  refine ⟨_, rfl, ⟨_, _, hg⟩, fun j hj => h.cells (g := g) rfl j _ ?_⟩
  rw [List.getElem?_map, List.getElem?_eq_getElem (by omega), List.getD_eq_getElem?_getD, List.getElem?_eq_getElem (by omega)]
  rfl
end By
theorem not_bytes {w : World} {base e size n : Nat} {v : Value} {xs : List Value} (h : w.ownsRow base e size v n xs) (he : e ≠ 5) : ∀ (g : Nat) cs fz, v.ownBlock = some g → w.heap[g]? ≠ some (Obj.cells cs 5 fz) := by
 intro g cs fz hv hg
 rcases h.2 with ⟨rfl, _⟩ | ⟨g', cap, cur, rfl, _, hg', _⟩
 ·simp [Value.ownBlock] at hv
 ·obtain rfl : g' = g := by simpa [Value.ownBlock] using hv
  rw [hg] at hg'
  simp at hg'
  exact he hg'.2.1.symm
end Go.Proofs.Ytnjmdgnghidjhaa
end
section
namespace Go.Proofs.Ytnjmdgnghidjhaa
open Go.RowKit
section
variable {P : Program}
theorem run_cutTo (w : World) {t e : TypeId} {size : Nat} (ht : P.underlying t = some (.slice e)) (hs : (P.info? e).map (·.size) = some size) (A : Option Addr) (n c k : Nat) (q : IntKind) (hk : k ≤ c) :
  (Instr.sliceAt t (.slice A n c) none (some (.int q k)) none).run P w = .ok (.slice A k c) w := by
 have he : P.elem t = e := by unfold Program.elem; rw [ht]
 have ht' : P.underlying t = some (.slice (P.elem t)) := by rw [he]; exact ht
 rw [run_sliceAt_slice w t _ _ _ _ ht', run_slice_h w t A n c ht' q k (by omega) (by omega)]
 have hso : (sizeOf (P.elem t)).run P w = .ok size w := by
  rw [he]
  cases hq : P.info? e with
  | none => rw [hq] at hs; cases hs
  | some i => rw [hq] at hs; simp at hs; simp [sizeOf, typeInfo, hq, hs]
 rw [hso]
 simp only [Result.andThen, sliced, Int.toNat_natCast, Nat.zero_mul, Nat.sub_zero]
 congr 2
 split
 ·rfl
 ·cases A with
  | none => rfl
  | some ad => simp [Addr.add]
theorem run_cutFrom (w : World) {t e : TypeId} {size : Nat} (ht : P.underlying t = some (.slice e)) (hs : (P.info? e).map (·.size) = some size) (A : Option Addr) (n c k : Nat) (q : IntKind) (hk : k ≤ n) :
  (Instr.sliceAt t (.slice A n c) (some (.int q k)) none none).run P w = .ok (.slice (if c = k then A else A.map (·.add (k * size))) (n - k) (c - k)) w := by
 have he : P.elem t = e := by unfold Program.elem; rw [ht]
 have ht' : P.underlying t = some (.slice (P.elem t)) := by rw [he]; exact ht
 rw [run_sliceAt_slice w t _ _ _ _ ht', run_slice_l w t A n c ht' q k (by omega) (by omega)]
 have hso : (sizeOf (P.elem t)).run P w = .ok size w := by
  rw [he]
  cases hq : P.info? e with
  | none => rw [hq] at hs; cases hs
  | some i => rw [hq] at hs; simp at hs; simp [sizeOf, typeInfo, hq, hs]
 rw [hso]
 simp only [Result.andThen, sliced, Int.toNat_natCast]
end
end Go.Proofs.Ytnjmdgnghidjhaa
end
section
namespace Go.Proofs.Ytnjmdgnghidjhaa.Lex
open Go.RowKit
theorem b_lit {x : BitVec 8} {k : Nat} (hk : k < 256) : ((x.toNat : Int) == (k : Int)) = decide (x = BitVec.ofNat 8 k) := by
 rw [Bool.eq_iff_iff]
 simp only [beq_iff_eq, decide_eq_true_eq]
 constructor
 ·intro h
  apply BitVec.eq_of_toNat_eq
  rw [BitVec.toNat_ofNat, Nat.mod_eq_of_lt (by omega)]
  omega
 ·rintro rfl
  rw [BitVec.toNat_ofNat, Nat.mod_eq_of_lt (by omega)]
theorem b_ne {x : BitVec 8} {k : Nat} (hk : k < 256) (h : x ≠ BitVec.ofNat 8 k) : ((x.toNat : Int) == (k : Int)) = false := by rw [b_lit hk]; exact decide_eq_false h
end Go.Proofs.Ytnjmdgnghidjhaa.Lex
end
section
namespace Go.Proofs.Ytnjmdgnghidjhaa.Lex
open Go.RowKit
theorem rowB : ByteRow Try.prog 37 5 := ByteRow.mk' Try.underlying37 (by kernel_rfl)
theorem own_room {w : World} {base n c e size : Nat} {A : Option Addr} {us : List Value} (h : w.ownsRow base e size (.slice A n c) n us) : n ≤ c := by
 rcases h.2 with ⟨hv, rfl⟩ | ⟨g, cap, cur, hv, _, _, h1, _⟩
 ·exact Nat.zero_le _
 ·simp only [Value.slice.injEq] at hv
  obtain ⟨_, _, rfl⟩ := hv
  exact h1
def Owb (w : World) (B : Nat) (A : Option Addr) (n c : Nat) (o : List (BitVec 8)) : Prop := w.ownsRow B 5 1 (.slice A n c) n (o.map v8)
theorem Owb.len {w : World} {B n c : Nat} {A : Option Addr} {o : List (BitVec 8)} (h : Owb w B A n c o) : o.length = n := by have := h.1; simpa using this
theorem Owb.nil_ (w : World) (B : Nat) : Owb w B none 0 0 [] := World.ownsRow_nil _ _ _ _
theorem Owb.below {w w' : World} {B n c : Nat} {A : Option Addr} {o : List (BitVec 8)} (h : Owb w B A n c o) (hb : Below w.heap.size w w') : Owb w' B A n c o := own_frm (l := []) h (Frm.of_below hb) (by simp)
theorem lit_one (w : World) (x : BitVec 8) : Bs (w.alloc (.cells #[v8 x] 5)) (w.heap.size + 1) (some ⟨w.heap.size, 0, none⟩) 1 [x] := Bs.lit w 5 (0, 0) #[v8 x] [x] rfl 1 rfl
theorem Owb.grew {w w' : World} {B n c : Nat} {A : Option Addr} {o : List (BitVec 8)} (h : Owb w B A n c o) (hg : w.grownBy w' (Value.slice A n c).ownBlock) (hB : B ≤ w.heap.size) : Below B w w' :=
 ⟨hg.os, hg.tape, hg.output, hg.size, fun k hk => hg.block k (by omega) fun e => by have := own_ge h k e.symm; omega⟩
end Go.Proofs.Ytnjmdgnghidjhaa.Lex
end
section
namespace Go.Proofs.Ytnjmdgnghidjhaa.Lex
open Go.RowKit
def Tx (w : World) (B : Nat) (A : Option Addr) (t : List (BitVec 8)) : Prop := Bs w B A t.length t ∨ By w A t.length t
theorem Tx.below {w w' : World} {B : Nat} {A : Option Addr} {t : List (BitVec 8)} (h : Tx w B A t) (hB : B ≤ w.heap.size) (hb : Below w.heap.size w w') : Tx w' B A t := by
 rcases h with h | h
 ·exact .inl (h.below (hb.mono hB))
 ·exact .inr (h.below hb)
def fw4 (w : World) (g : Nat) (a b c d : Value) : World := (((w.setCell ⟨g, 0, none⟩ a).setCell ⟨g, 1, none⟩ b).setCell ⟨g, 2, none⟩ c).setCell ⟨g, 3, none⟩ d
theorem fw4_cel {w : World} {g : Nat} {t : TypeId} {x y z u a b c d : Value} (h : Cel w g t [x, y, z, u]) : Cel (fw4 w g a b c d) g t [a, b, c, d] := (((h.set 0 a).set 1 b).set 2 c).set 3 d
theorem fw4_frm (w : World) (g : Nat) (a b c d : Value) : Frm [g] w (fw4 w g a b c d) := ((((Frm.refl [g] w).set (p := ⟨g, 0, none⟩) (by simp) a).set (p := ⟨g, 1, none⟩) (by simp) b).set (p := ⟨g, 2, none⟩) (by simp) c).set (p := ⟨g, 3, none⟩) (by simp) d
theorem bs_cut {w : World} {B m c f t : Nat} {A : Option Addr} {bs : List (BitVec 8)} (h : Bs w B A m bs) (hf : f ≤ t) (ht : t ≤ m) (hc : m ≤ c) : Bs w B (if c = f then A else A.map (·.add (f * 1))) (t - f) ((bs.take t).drop f) := by
 have := ((Bs.bp h).take ht).cut (cap := c) hf (by omega)
 rw [Nat.mul_one]
 exact this
end Go.Proofs.Ytnjmdgnghidjhaa.Lex
end
section
namespace Go.Proofs.Ytnjmdgnghidjhaa.Lex
open Go.RowKit
theorem add_at4 (ad : Addr) (i k : Nat) (hk : 0 < k) : (⟨(ad.add i).block, (ad.add i).off + k, none⟩ : Addr) = ad.add (i + k) := by
 rw [← add_add]
 generalize ad.add i = q
 unfold Addr.add
 rw [if_neg (by omega)]
theorem lbelow_drew {B : Nat} {w w' : World} (h : Below B w w') (m : Nat) : Below B w (w'.drewN m) := ⟨h.os, h.tape, h.output, h.size, h.block⟩
theorem Tx.bs {w : World} {B : Nat} {A : Option Addr} {t : List (BitVec 8)} (h : Tx w B A t) (hB : B ≤ w.heap.size) : Bs w w.heap.size A t.length t := by
 rcases h with h | h
 ·exact h.more hB
 ·exact h.rd
theorem Tx.str {w : World} {B : Nat} {A : Option Addr} {t : List (BitVec 8)} (h : Tx w B A t) (hB : B ≤ w.heap.size) (c m : Nat) : (convert 37 9 (.slice A t.length c)).run Try.prog (w.drewN m) = .ok (.string (str t)) (w.drewN m) :=
 (Bs.bp ((h.bs hB).drewN m)).string c Try.underlying37 Try.underlying5 Try.underlying9
end Go.Proofs.Ytnjmdgnghidjhaa.Lex
end
section
namespace Go.Proofs.Ytnjmdgnghidjhaa.Vars
open Go.RowKit
open Lex (letter digit within b_ne Owb lit_one rowB bs_cut)
theorem infoStr : (Try.prog.info? 9).map (fun i => (i.zero, i.size, i.bytes)) = some (some (.string ByteArray.empty), 1, 16) := by kernel_rfl
theorem rowStr : ElemRow Try.prog 32 9 1 16 := ElemRow.mk' Try.underlying32 infoStr rfl (by decide)
def scell (n : List (BitVec 8)) : Value := .string (str n)
end Go.Proofs.Ytnjmdgnghidjhaa.Vars
end
section
namespace Go.Proofs.Ytnjmdgnghidjhaa.Book
open Go.RowKit
open Lex (Tok Tk B cut Tx)
theorem str_toList (a : List (BitVec 8)) : (str a).toList = a.map UInt8.ofBitVec := by rw [ByteArray.toList_eq]; simp [str]
theorem ofBV_inj {x y : BitVec 8} (h : UInt8.ofBitVec x = UInt8.ofBitVec y) : x = y := by have := congrArg UInt8.toBitVec h; simpa using this
theorem map_inj : ∀ {a b : List (BitVec 8)}, a.map UInt8.ofBitVec = b.map UInt8.ofBitVec → a = b
 | [], [], _ => rfl
 | [], _ :: _, h => by simp at h
 | _ :: _, [], h => by simp at h
 | x :: a, y :: b, h => by
  simp only [List.map_cons, List.cons.injEq] at h
  rw [ofBV_inj h.1, map_inj h.2]
theorem str_beq (a b : List (BitVec 8)) : ((str a).toList == (str b).toList) = decide (a = b) := by
 rw [str_toList, str_toList]
 by_cases h : a = b
 ·subst h; simp
 ·rw [decide_eq_false h]
  exact beq_false_of_ne fun e => h (map_inj e)
end Go.Proofs.Ytnjmdgnghidjhaa.Book
end
section
namespace Go.Proofs.Ytnjmdgnghidjhaa.Ord
open Go.RowKit
section
variable {l n : Nat} {P : Program} {ops : Array Oper} {Q : Exit → Act → World → Prop} {md : Region.Mode}
/-! ### A region whose last operations write what its first ones read: S is asked behind all operations but those of N. -/
variable {S : World → Prop} {N : List Nat}
def wpAnyN (P : Program) (md : Region.Mode) (ops : Array Oper) (Q : Exit → Act → World → Prop) (S : World → Prop) (N : List Nat) : Nat → Array Bool → Act → World → Prop
 | 0, listed, a, w => Region.ready md ops listed = [] ∧ Q .normal a w
 | fuel + 1, listed, a, w =>
  (Region.ready md ops listed = [] → Q .normal a w) ∧
  ∀ i ∈ Region.ready md ops listed, wpOp P ops Q i (fun a' w' => (i ∉ N → S w') ∧ wpAnyN P md ops Q S N fuel (listed.setIfInBounds i true) a' w') a w
theorem wpAny_of_N : ∀ (fuel : Nat) (listed : Array Bool) (a : Act) (w : World), wpAnyN P md ops Q S N fuel listed a w → wpAny P md ops Q fuel listed a w
 | 0, _, _, _, h => h
 | fuel + 1, _, _, _, h => ⟨h.1, fun i hi => wpOp_mono (fun a' w' h' => wpAny_of_N fuel _ a' w' h'.2) (h.2 i hi)⟩
def waits (md : Region.Mode) (ops : Array Oper) (i : Nat) (D : List Nat) : Bool := D.all fun j => match ops[j]? with
 | some o => o.after.any fun e => Region.binds md e && (e.on == i || D.contains e.on)
 | none => false
structure Pend (md : Region.Mode) (ops : Array Oper) (i : Nat) (D : List Nat) (L : Array Bool) : Prop where
 now : i ∈ Region.ready md ops L
 none : ∀ d ∈ D, L.getD d true = false
theorem listed_no {L : Array Bool} {k : Nat} (h : L.getD k true = false) (h' : L.getD k false = true) : False := by
 rcases Nat.lt_or_ge k L.size with hk | hk
 ·simp [hk] at h h'
  rw [h] at h'
  cases h'
 ·simp [Array.getElem?_eq_none hk] at h'
theorem ready_edge {L : Array Bool} {j : Nat} {o : Oper} (hj : j ∈ Region.ready md ops L) (ho : ops[j]? = some o) : ∀ e ∈ o.after, Region.binds md e = true → L.getD e.on true ≠ false := by
 obtain ⟨_, o', ho', hall⟩ := mem_ready.1 hj
 rw [ho] at ho'
 cases ho'
 intro e he hb hc
 exact listed_no hc (by simpa using hall e he hb)
namespace Pend
variable {i j : Nat} {D : List Nat} {L : Array Bool} {oj : Oper}
theorem open_ (h : Pend md ops i D L) : L.getD i true = false := (mem_ready.1 h.now).1
theorem apart_ (h : Pend md ops i D L) (hj : j ∈ Region.ready md ops L) (ho : ops[j]? = some oj) : ∀ e ∈ oj.after, Region.binds md e = true → e.on ≠ i :=
 fun e he hb hi => ready_edge hj ho e he hb (by rw [hi]; exact h.open_)
theorem not_D (h : Pend md ops i D L) (hD : waits md ops i D = true) (hj : j ∈ Region.ready md ops L) : j ∉ D := by
 intro hm
 have h1 := List.all_eq_true.1 hD j hm
 cases ho : ops[j]? with
 | none => rw [ho] at h1; cases h1
 | some o =>
  rw [ho] at h1
  simp only [Array.any_eq_true] at h1
  obtain ⟨k, hk, h2⟩ := h1
  rw [Bool.and_eq_true, Bool.or_eq_true, beq_iff_eq, List.contains_iff_mem] at h2
  refine ready_edge hj ho _ (Array.getElem_mem hk) h2.1 ?_
  rcases h2.2 with e | e
  ·rw [e]; exact h.open_
  ·exact h.none _ e
theorem step (h : Pend md ops i D L) (hD : waits md ops i D = true) (hj : j ∈ Region.ready md ops L) (hne : j ≠ i) : Pend md ops i D (L.setIfInBounds j true) :=
 ⟨ready_mono h.now (Ne.symm hne), fun d hd => by
  have hjd : j ≠ d := fun e => h.not_D hD hj (by rw [e]; exact hd)
  rw [getD_set_ne true hjd]
  exact h.none d hd⟩
end Pend
theorem wpAnyN_first {i : Nat} {oi : Oper} {v : Value} {D : List Nat} (hDw : waits md ops i D = true) (hND : ∀ n ∈ N, n ∈ D) (hi : ops[i]? = some oi) (hsel : ∀ (j : Nat) (o : Oper) cs b, ops[j]? = some o → o.op ≠ .select cs b)
  (hQ : ∀ c a w, Q (.panic c) (a.put oi.dst v) w → Q (.panic c) a w) {L0 : Array Bool}
  (hfree : ∀ j oj, ops[j]? = some oj → j ≠ i → L0.getD j true = false → (∀ e ∈ oj.after, Region.binds md e = true → e.on ≠ i) → oi.apart ops oj = true) :
  ∀ (fuel : Nat) (L : Array Bool) (a : Act) (w : World), (∀ j, L.getD j true = false → L0.getD j true = false) → Pend md ops i D L → YieldsIf P ops S oi v a → S w →
   wpAnyN P md ops Q S N fuel (L.setIfInBounds i true) (a.put oi.dst v) w → wpAnyN P md ops Q S N (fuel + 1) L a w := by
 intro fuel
 induction fuel with
 | zero =>
  intro L a w _ hp hy hS H
  refine ⟨fun h => absurd hp.now (by rw [h]; simp), fun j hj => ?_⟩
  rcases Decidable.em (j = i) with rfl | hne
  ·exact hy.wpOp hi hS ⟨fun _ => hS, H⟩
  ·exact absurd (ready_mono hj hne) (by rw [H.1]; simp)
 | succ fuel ih =>
  intro L a w hL hp hy hS H
  refine ⟨fun h => absurd hp.now (by rw [h]; simp), fun j hj => ?_⟩
  rcases Decidable.em (j = i) with rfl | hne
  ·exact hy.wpOp hi hS ⟨fun _ => hS, H⟩
  ·obtain ⟨hju, oj, hoj, _⟩ := mem_ready.1 hj
   have hap := hfree j oj hoj hne (hL j hju) (hp.apart_ hj hoj)
   have hnN : j ∉ N := fun hn => hp.not_D hDw hj (hND j hn)
   refine wpOp_mono (fun a' w' h => ⟨h.2.1, ih _ a' w' (fun k hk => ?_) (hp.step hDw hj hne) h.1 (h.2.1 hnN) (by rw [Array.setIfInBounds_comm _ _ hne]; exact h.2.2)⟩)
    (wpOp_putIf hoj hap (fun cs b => hsel i oi cs b hi) (fun cs b => hsel j oj cs b hoj) hQ hy (H.2 j (ready_mono hj hne)))
   rcases Decidable.em (j = k) with rfl | hjk
   ·exact hL j hju
   ·rw [getD_set_ne true hjk] at hk; exact hL k hk
theorem wpAnyN_take {i : Nat} {oi : Oper} {v : Value} {fuel : Nat} {listed : Array Bool} {a : Act} {w : World} (D : List Nat) (hDw : (waits md ops i D && N.all D.contains && !D.contains i && D.all (fun d => !listed.getD d true)) = true) (hi : ops[i]? = some oi)
  (hs : Region.noSelect ops = true) (hf : Region.free md ops listed i = true) (hr : (Region.ready md ops listed).contains i = true)
  (hQ : ∀ c a w, Q (.panic c) (a.put oi.dst v) w → Q (.panic c) a w) (hy : YieldsIf P ops S oi v a) (hS : S w)
  (h : wpAnyN P md ops Q S N fuel (listed.setIfInBounds i true) (a.put oi.dst v) w) : wpAnyN P md ops Q S N (fuel + 1) listed a w := by
 simp only [Bool.and_eq_true] at hDw
 obtain ⟨⟨⟨h1, h2⟩, _⟩, h4⟩ := hDw
 rw [List.all_eq_true] at h2 h4
 exact wpAnyN_first h1 (fun n hn => List.contains_iff_mem.1 (h2 n hn)) hi (Region.noSelect_spec hs) hQ (Region.free_spec hi hf) fuel listed a w (fun _ h => h) ⟨by simpa using hr, fun d hd => by simpa using h4 d hd⟩ hy hS h
theorem wpAnyN_one {i : Nat} {o : Oper} {fuel : Nat} {listed : Array Bool} {a : Act} {w : World} (hr : Region.ready md ops listed = [i]) (ho : ops[i]? = some o)
  (h : ∀ K' : Act → World → Prop, Shut (∀ a w, (i ∈ N ∨ S w) → wpAnyN P md ops Q S N fuel (listed.setIfInBounds i true) a w → K' a w) → if Region.wanted o (yielded ops a.tmps) = true then Oper.wp P o a w K' Q else K' (a.put o.dst undef) w) :
  wpAnyN P md ops Q S N (fuel + 1) listed a w :=
 ⟨fun h0 => (by rw [hr] at h0; cases h0), fun j hj => by
  rw [hr, List.mem_singleton] at hj
  subst hj
  exact wpOp_step ho (fun K' hK => h K' (fun a w hS hW => hK a w ⟨fun hn => hS.resolve_left hn, hW⟩))⟩
theorem wpAnyN_done {listed : Array Bool} {a : Act} {w : World} (hr : Region.ready md ops listed = []) (h : Q .normal a w) :
  ∀ fuel, wpAnyN P md ops Q S N fuel listed a w
 | 0 => ⟨hr, h⟩
 | _ + 1 => ⟨fun _ => h, by rw [hr]; simp⟩
theorem wp_region_N (N : List Nat) (S : World → Prop) {id : Nat} {a : Act} {w : World} (hm : P.follows .mixedOrders = true)
  (h : wpAnyN P .any ops Q S N ops.size (Array.replicate ops.size false) a w.drew) : (Code.region id ops true).wp P Q a w :=
 wp_region_any hm (wpAny_of_N _ _ _ _ h)
end
theorem lay_ : (∀ (l : List Value) (i : Nat) (v : Value), l.toArray.setIfInBounds i v = (l.set i v).toArray) ∧ (∀ (x : Value) (l : List Value) (v : Value), (x :: l).set 0 v = v :: l) ∧ (∀ (x : Value) (l : List Value) (n : Nat) (v : Value), (x :: l).set (n + 1) v = x :: l.set n v) ∧
 (∀ (α : Type) (l : List α) (i : Nat) (h : i < l.toArray.size), l.toArray[i] = l[i]'h) ∧ (∀ (α : Type) (x : α) (l : List α) (i : Nat) (h : i + 1 < (x :: l).length), (x :: l)[i + 1] = l[i]'(Nat.lt_of_succ_lt_succ h)) ∧ (∀ (α : Type) (x : α) (l : List α) (h : 0 < (x :: l).length), (x :: l)[0] = x) :=
 ⟨fun _ _ _ => List.setIfInBounds_toArray .., fun _ _ _ => rfl, fun _ _ _ _ => rfl, fun _ _ _ _ => rfl, fun _ _ _ _ _ => rfl, fun _ _ _ _ => rfl⟩
theorem tk_ {P : Program} {ops : Array Oper} {Q : Exit → Act → World → Prop} {md : Region.Mode} {S : World → Prop} {N : List Nat} {fuel : Nat} {listed : Array Bool} {a : Act} {w : World} (i : Nat) (v : Value) (D : List Nat) {oi : Oper} (hi : ops[i]? = some oi) (hS : S w) (hy : ∀ w, S w → (execOp a.eval oi).run P w = .ok (.value v) w)
  (h : wpAnyN P md ops Q S N fuel (listed.setIfInBounds i true) (a.put oi.dst v) w)
  (hDw : (waits md ops i D && N.all D.contains && !D.contains i && D.all (fun d => !listed.getD d true)) = true := by kernel_rfl) (hs : Region.noSelect ops = true := by kernel_rfl) (hf : Region.free md ops listed i = true := by kernel_rfl) (hr : (Region.ready md ops listed).contains i = true := by kernel_rfl)
  (hQ : ∀ c a w, Q (.panic c) (a.put oi.dst v) w → Q (.panic c) a w := by exact fun _ _ _ h => h) (hw : Region.wanted oi (yielded ops a.tmps) = true := by rfl) : wpAnyN P md ops Q S N (fuel + 1) listed a w :=
 wpAnyN_take D hDw hi hs hf hr hQ (Or.inl ⟨hw, hy⟩) hS h
end Go.Proofs.Ytnjmdgnghidjhaa.Ord
end
