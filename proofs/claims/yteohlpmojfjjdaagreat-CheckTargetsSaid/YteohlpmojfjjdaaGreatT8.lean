/-
Texts: LexCut LexSame BookVals LexAs VarsRef VarsNames ChkRef ChkOpen ChkVars NfaWords RegFew ChkArm ChkCheck ChkOut
-/
import Derived.Test.YteohlpmojfjjdaaGreatT0
import Derived.Test.YteohlpmojfjjdaaGreatT1
import Derived.Test.YteohlpmojfjjdaaGreatT2
import Derived.Test.YteohlpmojfjjdaaGreatT3
import Derived.Test.YteohlpmojfjjdaaGreatT4
import Derived.Test.YteohlpmojfjjdaaGreatT5
import Derived.Test.YteohlpmojfjjdaaGreatT7
import Derived.Deep.CutBlock
import Derived.Deep.CutRange
import Derived.Deep.DeepCutAuto
import Derived.BigQuiet
import Derived.Deep.Cut
set_option linter.unusedVariables false
set_option linter.unusedSimpArgs false
set_option maxRecDepth 100000
set_option maxHeartbeats 4000000
section
namespace Go.Proofs.YteohlpmojfjjdaaGreat.Lex
open Go.RowKit
structure Tv where
 t : Tok
 A : Option Addr
 c : Nat
def Tv.cells (v : Tv) : List Value := [.int .i64 v.t.t.kind, .int .i64 (v.t.at_ : Int), .int .i64 v.t.t.n, .slice v.A v.t.t.text.length v.c]
def tflat (vs : List Tv) : List Value := vs.flatMap Tv.cells
theorem tflat_app (us vs : List Tv) : tflat (us ++ vs) = tflat us ++ tflat vs := by simp [tflat]
theorem tflat_len (us : List Tv) : (tflat us).length = us.length * 4 := by
 induction us with
 | nil => rfl
 | cons x l ih => rw [tflat, List.flatMap_cons, List.length_append, show (l.flatMap Tv.cells) = tflat l from rfl, ih]; show 4 + l.length * 4 = (l.length + 1) * 4; omega
def Caps (vs : List Tv) : Prop := ∀ v ∈ vs, v.t.t.text.length ≤ v.c
end Go.Proofs.YteohlpmojfjjdaaGreat.Lex
end
section
namespace Go.Proofs.YteohlpmojfjjdaaGreat.Lex
open Go.RowKit
theorem flat4 : ∀ (vs : List Tv) (i k : Nat) (v : Tv), vs[i]? = some v → k < 4 → (tflat vs)[i * 4 + k]? = v.cells[k]?
 | [], _, _, _, h, _ => by simp at h
 | u :: us, 0, k, v, h, hk => by
  simp at h
  subst h
  rw [tflat, List.flatMap_cons, List.getElem?_append_left (by rw [Nat.zero_mul, Nat.zero_add]; exact hk), Nat.zero_mul, Nat.zero_add]
 | u :: us, i + 1, k, v, h, hk => by
  have h1 := flat4 us i k v (by simpa using h) hk
  rw [tflat, List.flatMap_cons, List.getElem?_append_right (by show 4 ≤ _; omega)]
  rw [← h1]
  show _ = (us.flatMap Tv.cells)[i * 4 + k]?
  congr 1
  show (i + 1) * 4 + k - 4 = _
  omega
theorem add_at4 (ad : Addr) (i k : Nat) (hk : 0 < k) : (⟨(ad.add i).block, (ad.add i).off + k, none⟩ : Addr) = ad.add (i + k) := by
 rw [← add_add]
 generalize ad.add i = q
 unfold Addr.add
 rw [if_neg (by omega)]
theorem lbelow_drew {B : Nat} {w w' : World} (h : Below B w w') (m : Nat) : Below B w (w'.drewN m) := ⟨h.os, h.tape, h.output, h.size, h.block⟩
theorem Tx.bs {w : World} {B : Nat} {A : Option Addr} {t : List (BitVec 8)} (h : Tx w B A t) (hB : B ≤ w.heap.size) : Bs w w.heap.size A t.length t := by
 rcases h with h | h
 ·exact h.more hB
 ·exact h.rd
end Go.Proofs.YteohlpmojfjjdaaGreat.Lex
end
section
namespace Go.Proofs.YteohlpmojfjjdaaGreat.Book
open Go.RowKit
open Lex (Tok Tk B cut Tv Tx tflat)
theorem str_toList (a : List (BitVec 8)) : (str a).toList = a.map UInt8.ofBitVec := by rw [ByteArray.toList_eq]; simp [str]
theorem ofBV_inj {x y : BitVec 8} (h : UInt8.ofBitVec x = UInt8.ofBitVec y) : x = y := by have := congrArg UInt8.toBitVec h; simpa using this
theorem map_inj : ∀ {a b : List (BitVec 8)}, a.map UInt8.ofBitVec = b.map UInt8.ofBitVec → a = b
 | [], [], _ => rfl
 | [], _ :: _, h => by simp at h
 | _ :: _, [], h => by simp at h
 | x :: a, y :: b, h => by
  simp only [List.map_cons, List.cons.injEq] at h
  rw [ofBV_inj h.1, map_inj h.2]
theorem str_beq (a b : List (BitVec 8)) : ((str a).toList == (str b).toList) = decide (a = b) := by
 rw [str_toList, str_toList]
 by_cases h : a = b
 ·subst h; simp
 ·rw [decide_eq_false h]
  exact beq_false_of_ne fun e => h (map_inj e)
def toks (vs : List Tv) : T := vs.map (·.t)
theorem Tx.keep {w w' : World} {B : Nat} {A : Option Addr} {t : List (BitVec 8)} (h : Tx w B A t) (hk : ∀ k, k < w.heap.size → (k < B ∨ ∃ cs fz, w.heap[k]? = some (Obj.cells cs 5 fz)) → w'.heap[k]? = w.heap[k]?) : Tx w' B A t := by
 rcases h with h | h
 ·refine .inl ⟨h.1, fun hn => ?_⟩
  obtain ⟨ad, e, hb, hc⟩ := h.2 hn
  have hlt : ad.block < w.heap.size := by have := cell_lt (hc 0 hn); rwa [add_block] at this
  exact ⟨ad, e, hb, fun j hj => (World.cell?_of_block (by rw [add_block]; exact hk _ hlt (.inl hb))).trans (hc j hj)⟩
 ·exact .inr (By.keep h fun k cs fz hb => hk k (Array.getElem?_eq_some_iff.1 hb).1 (.inr ⟨cs, fz, hb⟩))
theorem Tx.frm {w w' : World} {B : Nat} {A : Option Addr} {t : List (BitVec 8)} {l : List Nat} (h : Tx w B A t) (hf : Frm l w w') (hl : ∀ k ∈ l, B ≤ k ∧ ∀ cs fz, w.heap[k]? ≠ some (Obj.cells cs 5 fz)) : Tx w' B A t :=
 Tx.keep h fun k hk hc => hf.block k hk fun hm => by
  obtain ⟨h1, h2⟩ := hl k hm
  rcases hc with hc | ⟨cs, fz, hc⟩
  ·omega
  ·exact h2 cs fz hc
def Tc (w : World) (B : Nat) (A : Option Addr) (c : Nat) (t : List (BitVec 8)) : Prop := Tx w B A t ∧ t.length ≤ c
structure Av where
 a : Arm
 A : Option Addr
 c : Nat
def Av.cells (v : Av) : List Value := [.int .i64 (v.a.at_ : Int), .slice v.A v.a.pat.length v.c, .string (str v.a.as_), .string (str v.a.go)]
def aflat (vs : List Av) : List Value := vs.flatMap Av.cells
theorem aflat_app (us vs : List Av) : aflat (us ++ vs) = aflat us ++ aflat vs := by simp [aflat]
def cells9 (s : Step) (A4 : Option Addr) (c4 : Nat) (A5 : Option Addr) (c5 : Nat) : List Value := [.int .i64 (s.at_ : Int), .string (str s.name), .int .i64 s.tag, .bool s.sends, .slice A4 s.send.length c4, .slice A5 s.arms.length c5, .int .i64 s.time, .int .i64 s.try_, .string (str s.els)]
structure Bv where
 s : Step
 A4 : Option Addr
 c4 : Nat
 A5 : Option Addr
 c5 : Nat
 avs : List Av
def Bv.cells (v : Bv) : List Value := cells9 v.s v.A4 v.c4 v.A5 v.c5
def s9flat (vs : List Bv) : List Value := vs.flatMap Bv.cells
theorem s9flat_app (us vs : List Bv) : s9flat (us ++ vs) = s9flat us ++ s9flat vs := by simp [s9flat]
def asText (n : Nat) : Except T Book → Except (Nat × Nat) Book
 | .error [] => .error (n, 2)
 | .error (x :: _) => .error (x.at_, 2)
 | .ok b => .ok b
theorem cut_few {s : List B} {ts : List Tok} (h : cut s = .ok ts) : ts.length ≤ 2000 := by
 obtain ⟨h1, h2⟩ := Lex.cut_alone h
 have hi : ∀ (i : Nat) (t : Tok), ts[i]? = some t → i ≤ t.at_ := by
  intro i
  induction i with
  | zero => intro t _; exact Nat.zero_le _
  | succ i ih =>
   intro t ht
   have hl := (List.getElem?_eq_some_iff.1 ht).1
   have hu : ts[i]? = some ts[i] := List.getElem?_eq_getElem (by omega)
   have h3 := ih _ hu
   have h4 := (h2 i _ hu).1
   unfold Lex.next at h4
   rw [ht] at h4
   dsimp only at h4
   omega
 rcases Nat.eq_zero_or_pos ts.length with h0 | h0
 ·omega
 ·have hu : ts[ts.length - 1]? = some ts[ts.length - 1] := List.getElem?_eq_getElem (by omega)
  have h3 := hi _ _ hu
  have h4 := h2 _ _ hu
  omega
theorem bookOf_cut {s : List B} {l : T} (h : cut s = .ok l) : bookOf s = asText s.length (bookR l) := by
 unfold bookOf
 rw [h]
 dsimp only
 cases bookR l with
 | error e => cases e <;> rfl
 | ok b => rfl
end Go.Proofs.YteohlpmojfjjdaaGreat.Book
end
section
namespace Go.Proofs.YteohlpmojfjjdaaGreat.Lex
open Go.RowKit Go.Proofs.YteohlpmojfjjdaaGreat.Ord
def Cr (w : World) (A : Option Addr) (cs : List Value) : Prop := cs ≠ [] → ∃ ad, A = some ad ∧ ∀ j u, cs[j]? = some u → w.cell? (ad.add j) = some u
theorem cr_ry {t : TypeId} {w : World} {A : Option Addr} {cs : List Value} (h : Ry t w A cs) : Cr w A cs := fun hn => by
 obtain ⟨ad, e, _, hc⟩ := h hn
 exact ⟨ad, e, hc⟩
theorem Cr.below {w w' : World} {A : Option Addr} {cs : List Value} (h : Cr w A cs) (hb : Below w.heap.size w w') : Cr w' A cs := fun hn => by
 obtain ⟨ad, e, hc⟩ := h hn
 exact ⟨ad, e, fun j u hj => (hb.cell (cell_lt (hc j u hj))).trans (hc j u hj)⟩
structure Ptk (w : World) (B : Nat) (A : Option Addr) (vs : List Tv) : Prop where
 ry : Cr w A (tflat vs)
 tx : ∀ v ∈ vs, Tx w B v.A v.t.t.text
theorem Ptk.below {w w' : World} {B : Nat} {A : Option Addr} {vs : List Tv} (h : Ptk w B A vs) (hB : B ≤ w.heap.size) (hb : Below w.heap.size w w') : Ptk w' B A vs := ⟨h.ry.below hb, fun v hv => (h.tx v hv).below hB hb⟩
theorem Ptk.at_ {w : World} {B : Nat} {A : Option Addr} {vs : List Tv} (h : Ptk w B A vs) {i : Nat} {v : Tv} (hi : vs[i]? = some v) : ∃ ad, A = some ad ∧ w.cell? (ad.add (i * 4)) = some (.int .i64 v.t.t.kind) ∧
  w.cell? ⟨(ad.add (i * 4)).block, (ad.add (i * 4)).off + 1, none⟩ = some (.int .i64 (v.t.at_ : Int)) ∧ w.cell? ⟨(ad.add (i * 4)).block, (ad.add (i * 4)).off + 2, none⟩ = some (.int .i64 v.t.t.n) ∧ w.cell? ⟨(ad.add (i * 4)).block, (ad.add (i * 4)).off + 3, none⟩ = some (.slice v.A v.t.t.text.length v.c) := by
 have e : ∀ k, k < 4 → (tflat vs)[i * 4 + k]? = v.cells[k]? := fun k hk => flat4 vs i k v hi hk
 obtain ⟨ad, rfl, hc⟩ := h.ry (fun q => by have := e 0 (by decide); rw [q] at this; simp [Tv.cells] at this)
 exact ⟨ad, rfl, hc _ _ (e 0 (by decide)), by rw [add_at4 _ _ 1 (by decide)]; exact hc _ _ (e 1 (by decide)), by rw [add_at4 _ _ 2 (by decide)]; exact hc _ _ (e 2 (by decide)), by rw [add_at4 _ _ 3 (by decide)]; exact hc _ _ (e 3 (by decide))⟩
end Go.Proofs.YteohlpmojfjjdaaGreat.Lex
end
section
namespace Go.Proofs.YteohlpmojfjjdaaGreat.Vars
open Go.RowKit
open Lex (letter digit within b_ne drop_at Owb lit_one rowB)
def more (n : Nat) (l : List B) : Nat := if n = 0 then nameR l else (l.takeWhile within).length
theorem more_go {n : Nat} {x : B} {l : List B} (h : letter x = true ∨ 0 < n ∧ within x = true) : more n (x :: l) = 1 + more (n + 1) l := by
 unfold more
 rw [if_neg (show ¬ n + 1 = 0 by omega)]
 by_cases h0 : n = 0
 ·rw [if_pos h0]
  have hl : letter x = true := by rcases h with h | h; exact h; omega
  rw [nameR_cons, if_pos hl]
 ·rw [if_neg h0]
  have hw : within x = true := by rcases h with h | h; exact Lex.letter_within h; exact h.2
  rw [List.takeWhile_cons, if_pos hw, List.length_cons, Nat.add_comm]
theorem more_no {n : Nat} {x : B} {l : List B} (h1 : letter x = false) (h2 : n = 0 ∨ within x = false) : more n (x :: l) = 0 := by
 unfold more
 by_cases h0 : n = 0
 ·rw [if_pos h0, nameR_cons, if_neg (by simp [h1])]
 ·rw [if_neg h0]
  have hw : within x = false := by rcases h2 with h | h; exact absurd h h0; exact h
  rw [List.takeWhile_cons, if_neg (by simp [hw])]; rfl
theorem more_nil (n : Nat) : more n [] = 0 := by unfold more; split <;> rfl
end Go.Proofs.YteohlpmojfjjdaaGreat.Vars
end
section
namespace Go.Proofs.YteohlpmojfjjdaaGreat.Vars
open Go.RowKit
open Lex (letter digit within b_ne drop_at Owb lit_one rowB)
theorem infoStr : (Tryz.prog.info? 9).map (fun i => (i.zero, i.size, i.bytes)) = some (some (.string ByteArray.empty), 1, 16) := by kernel_rfl
theorem rowStr : ElemRow Tryz.prog 28 9 1 16 := ElemRow.mk' Tryz.underlying28 infoStr rfl (by decide)
def scell (n : List (BitVec 8)) : Value := .string (str n)
def Ons (w : World) (D : Nat) (A : Option Addr) (n c : Nat) (ns : List (List (BitVec 8))) : Prop := w.ownsRow D 9 1 (.slice A n c) n (ns.map scell)
theorem Ons.len {w : World} {D n c : Nat} {A : Option Addr} {ns : List (List (BitVec 8))} (h : Ons w D A n c ns) : ns.length = n := by have := h.1; simpa using this
theorem Ons.nil_ (w : World) (D : Nat) : Ons w D none 0 0 [] := World.ownsRow_nil _ _ _ _
theorem Ons.below {w w' : World} {D n c : Nat} {A : Option Addr} {ns : List (List (BitVec 8))} (h : Ons w D A n c ns) (hb : Below w.heap.size w w') : Ons w' D A n c ns := own_frm (l := []) h (Frm.of_below hb) (by simp)
theorem Ons.grew {w w' : World} {D n c : Nat} {A : Option Addr} {ns : List (List (BitVec 8))} (h : Ons w D A n c ns) (hg : w.grownBy w' (Value.slice A n c).ownBlock) (hB : D ≤ w.heap.size) : Below D w w' :=
 ⟨hg.os, hg.tape, hg.output, hg.size, fun k hk => hg.block k (by omega) fun e => by have := own_ge h k e.symm; omega⟩
end Go.Proofs.YteohlpmojfjjdaaGreat.Vars
end
section
namespace Go.Proofs.YteohlpmojfjjdaaGreat.Chk
open Go.RowKit
open Lex (Tx Cr cr_ry)
open Vars (scell)
open Book (str_beq)
structure Ga where
 g : GArm
 A : Option Addr
 c : Nat
def Ga.cells (v : Ga) : List Value := [.int .i64 v.g.at_, .slice v.A v.g.pat.length v.c, .string (str v.g.as_), .string (str v.g.go)]
def gaflat (vs : List Ga) : List Value := vs.flatMap Ga.cells
structure Gs where
 g : GStep
 A4 : Option Addr
 c4 : Nat
 A5 : Option Addr
 c5 : Nat
 avs : List Ga
def Gs.cells (v : Gs) : List Value := [.int .i64 v.g.at_, .string (str v.g.name), .int .i64 v.g.tag, .bool v.g.sends, .slice v.A4 v.g.send.length v.c4, .slice v.A5 v.g.arms.length v.c5, .int .i64 v.g.time, .int .i64 v.g.try_, .string (str v.g.els)]
def gsflat (vs : List Gs) : List Value := vs.flatMap Gs.cells
structure Gbk (w : World) (B : Nat) (A : Option Addr) (vs : List Gs) : Prop where
 ry : Cr w A (gsflat vs)
 send : ∀ v ∈ vs, Tx w B v.A4 v.g.send
 arms : ∀ v ∈ vs, Cr w v.A5 (gaflat v.avs) ∧ v.avs.map (·.g) = v.g.arms
 pats : ∀ v ∈ vs, ∀ u ∈ v.avs, Tx w B u.A u.g.pat
theorem Gbk.below {w w' : World} {B : Nat} {A : Option Addr} {vs : List Gs} (h : Gbk w B A vs) (hB : B ≤ w.heap.size) (hb : Below w.heap.size w w') : Gbk w' B A vs :=
 ⟨h.ry.below hb, fun v hv => (h.send v hv).below hB hb, fun v hv => ⟨(h.arms v hv).1.below hb, (h.arms v hv).2⟩, fun v hv u hu => (h.pats v hv u hu).below hB hb⟩
theorem flat_at {α : Type} (f : α → List Value) (m : Nat) (hm : ∀ x, (f x).length = m) : ∀ (vs : List α) (i k : Nat) (v : α), vs[i]? = some v → k < m → (vs.flatMap f)[i * m + k]? = (f v)[k]?
 | [], _, _, _, h, _ => by simp at h
 | u :: us, 0, k, v, h, hk => by
  simp at h
  subst h
  rw [List.flatMap_cons, List.getElem?_append_left (by rw [hm]; omega), Nat.zero_mul, Nat.zero_add]
 | u :: us, i + 1, k, v, h, hk => by
  have h1 := flat_at f m hm us i k v (by simpa using h) hk
  rw [List.flatMap_cons, List.getElem?_append_right (by rw [hm]; have := Nat.le_add_left m (i * m); rw [Nat.succ_mul]; omega), hm, ← h1]
  congr 1
  rw [Nat.succ_mul]; omega
theorem add_at9 (ad : Addr) (i k : Nat) (hk : 0 < k) : (⟨(ad.add i).block, (ad.add i).off + k, none⟩ : Addr) = ad.add (i + k) := Lex.add_at4 ad i k hk
theorem Gbk.cell {w : World} {B : Nat} {A : Option Addr} {vs : List Gs} (h : Gbk w B A vs) {i : Nat} {v : Gs} (hi : vs[i]? = some v) : ∃ ad, A = some ad ∧ ∀ k u, v.cells[k]? = some u → w.cell? (ad.add (i * 9 + k)) = some u := by
 have e : ∀ k, k < 9 → (gsflat vs)[i * 9 + k]? = v.cells[k]? := fun k hk => flat_at Gs.cells 9 (fun _ => rfl) vs i k v hi hk
 obtain ⟨ad, rfl, hc⟩ := h.ry (fun q => by have := e 0 (by decide); rw [q] at this; simp [Gs.cells] at this)
 refine ⟨ad, rfl, fun k u hu => hc _ _ ?_⟩
 rw [e k (by have := (List.getElem?_eq_some_iff.1 hu).1; exact this)]
 exact hu
theorem Gbk.acell {w : World} {B : Nat} {A : Option Addr} {vs : List Gs} (h : Gbk w B A vs) {i : Nat} {v : Gs} (hi : vs[i]? = some v) {j : Nat} {a : Ga} (hj : v.avs[j]? = some a) : ∃ ad, v.A5 = some ad ∧ ∀ k u, a.cells[k]? = some u → w.cell? (ad.add (j * 4 + k)) = some u := by
 have e : ∀ k, k < 4 → (gaflat v.avs)[j * 4 + k]? = a.cells[k]? := fun k hk => flat_at Ga.cells 4 (fun _ => rfl) v.avs j k a hj hk
 obtain ⟨ad, h5, hc⟩ := (h.arms v (List.mem_of_getElem? hi)).1 (fun q => by have := e 0 (by decide); rw [q] at this; simp [Ga.cells] at this)
 refine ⟨ad, h5, fun k u hu => hc _ _ ?_⟩
 rw [e k (by have := (List.getElem?_eq_some_iff.1 hu).1; exact this)]
 exact hu
def Nms (w : World) (A : Option Addr) (ns : List (List B)) : Prop := Cr w A (ns.map scell)
theorem Nms.at_ {w : World} {A : Option Addr} {ns : List (List B)} (h : Nms w A ns) {i : Nat} {x : List B} (hi : ns[i]? = some x) : ∃ ad, A = some ad ∧ w.cell? (ad.add i) = some (.string (str x)) := by
 have e : (ns.map scell)[i]? = some (scell x) := by rw [List.getElem?_map, hi]; rfl
 obtain ⟨ad, rfl, hc⟩ := h (fun q => by rw [q] at e; simp at e)
 exact ⟨ad, rfl, hc _ _ e⟩
theorem at_ (w : World) (A : Option Addr) (n c : Nat) (ns : List (List B)) (h : Nms w A ns) (hl : ns.length = n) (hn : n ≤ 100000) (nm : List B) :
  Calls Tryz.prog 20 #[.slice A n c, .string (str nm)] w fun e w' => e = .returned (.int .i64 (atOf ns nm)) ∧ w = w' := by
 have H := Lib.hid h
 have HL := Lib.hid hl
 have HS := Lib.hid (fun x : List B => str_beq x nm)
 generalize hs' : str nm = s' at *
 clear h hl hs'
 go_enter Tryz.func20, Tryz.ntmps20
 go_wp2_with fail
 go_loopw [5] (fun v5 wr => ∃ (i : Nat), i ≤ n ∧ v5 = .int .i64 (i : Int) ∧ w = wr ∧ Hid (atOf ns nm = atF (ns.drop i) nm i)) (fun v5 _ => n - (intOf v5).toNat)
 case atStart => exact ⟨0, Nat.zero_le _, rfl, rfl, Lib.hid rfl⟩
 case round =>
  obtain ⟨i, hi, rfl, hw, HK⟩ := hrel
  obtain ⟨W0, rfl⟩ : ∃ W0, W0 = wr := ⟨_, rfl⟩
  subst hw
  rcases Nat.lt_or_ge i n with hlt | hge
  ·obtain ⟨x, hx⟩ : ∃ x, ns[i]? = some x := ⟨_, List.getElem?_eq_getElem (by rw [HL.out]; exact hlt)⟩
   obtain ⟨ad, rfl, k0⟩ := H.out.at_ hx
   have hlx : i < ns.length := by rw [HL.out]; exact hlt
   have HD := Lib.hid (show ns.drop i = x :: ns.drop (i + 1) by
    rw [List.drop_eq_getElem_cons hlx]
    have := (List.getElem?_eq_some_iff.1 hx).2
    rw [this])
   have hsx := HS.out x
   obtain ⟨sx, hsx'⟩ : ∃ sx, sx = str x := ⟨_, rfl⟩
   rw [← hsx'] at hsx k0
   clear hx hsx' hlx
   by_cases he : x = nm
   ·rw [decide_eq_true he] at hsx
    have HE := Lib.hid (show atOf ns nm = (i : Int) by rw [HK.out, HD.out, atF_hit he])
    clear he HK
    go_wp2_with fail
    go_ret
    exact ⟨by rw [HE.out]; rfl, rfl⟩
   ·rw [decide_eq_false he] at hsx
    have HK2 := Lib.hid (show atOf ns nm = atF (ns.drop (i + 1)) nm (i + 1) by rw [HK.out, HD.out, atF_miss he])
    clear he HK
    go_wp2_with fail
    exact ⟨⟨i + 1, by omega, by rw [show ((i + 1 : Nat) : Int) = (i : Int) + 1 by omega], trivial, HK2⟩, by simp [intOf]; omega⟩
  ·obtain rfl : i = n := by omega
   have HE := Lib.hid (show atOf ns nm = -1 by rw [HK.out, List.drop_eq_nil_of_le (by rw [HL.out]; exact Nat.le_refl _)]; rfl)
   go_wp2_with fail
   go_ret
   exact ⟨by rw [HE.out]; rfl, rfl⟩
end Go.Proofs.YteohlpmojfjjdaaGreat.Chk
end
section
namespace Go.Proofs.YteohlpmojfjjdaaGreat.Chk
open Go.RowKit
open Lex (Tx Cr cr_ry)
theorem u8_of {x : Int} (h : (Lit.int .u8 x).wf = true) : ∃ b : BitVec 8, x = (b.toNat : Int) := by
 simp [Lit.wf, IntKind.min, IntKind.max, IntKind.bits, IntKind.signed] at h
 refine ⟨BitVec.ofNat 8 x.toNat, ?_⟩
 rw [BitVec.toNat_ofNat, Nat.mod_eq_of_lt (by omega)]
 omega
theorem i64_of {x : Int} (h : (Lit.int .i64 x).wf = true) : -9223372036854775808 ≤ x ∧ x < 9223372036854775808 := by
 simp [Lit.wf, IntKind.min, IntKind.max, IntKind.bits, IntKind.signed] at h
 omega
theorem pick {α : Type} (P : Nat → α → Prop) : ∀ n, (∀ i, i < n → ∃ x, P i x) → ∃ l : List α, l.length = n ∧ ∀ i x, l[i]? = some x → P i x
 | 0, _ => ⟨[], rfl, by simp⟩
 | n + 1, h => by
  obtain ⟨l, hl, hp⟩ := pick P n (fun i hi => h i (by omega))
  obtain ⟨x, hx⟩ := h n (by omega)
  refine ⟨l ++ [x], by simp [hl], fun i y hy => ?_⟩
  rcases Nat.lt_or_ge i l.length with hi | hi
  ·rw [List.getElem?_append_left hi] at hy
   exact hp i y hy
  ·have hi2 : i = n := by have := (List.getElem?_eq_some_iff.1 hy).1; simp at this; omega
   subst hi2
   rw [List.getElem?_append_right hi, show i - l.length = 0 by omega] at hy
   simp at hy
   subst hy
   exact hx
theorem flat_len {α : Type} (f : α → List Value) (m : Nat) (hf : ∀ x, (f x).length = m) : ∀ l : List α, (l.flatMap f).length = l.length * m
 | [] => by simp
 | x :: l => by rw [List.flatMap_cons, List.length_append, hf, flat_len f m hf l, List.length_cons, Nat.succ_mul, Nat.add_comm]
theorem cr_of {α : Type} (f : α → List Value) (m : Nat) (hm : 0 < m) (hf : ∀ x, (f x).length = m) {w : World} {ad : Addr} {l : List α}
  (h : ∀ i x k, l[i]? = some x → k < m → ∀ u, (f x)[k]? = some u → w.cell? (ad.add (i * m + k)) = some u) : Cr w (some ad) (l.flatMap f) := fun _ => ⟨ad, rfl, fun j u hj => by
 have hjl := (List.getElem?_eq_some_iff.1 hj).1
 rw [flat_len f m hf] at hjl
 have hq : j / m < l.length := Nat.div_lt_of_lt_mul (by rw [Nat.mul_comm]; exact hjl)
 have hx : l[j / m]? = some l[j / m] := List.getElem?_eq_getElem hq
 have hk := Nat.mod_lt j hm
 have e := flat_at f m hf l (j / m) (j % m) _ hx hk
 have d : j / m * m + j % m = j := by rw [Nat.mul_comm]; exact Nat.div_add_mod j m
 rw [d] at e
 have q := h _ _ _ hx hk u (e ▸ hj)
 rwa [d] at q⟩
theorem str_of (s : ByteArray) : ∃ bs : List (BitVec 8), s = str bs ∧ bs.length = s.size := by
 refine ⟨s.data.toList.map UInt8.toBitVec, ?_, by rw [List.length_map]; rfl⟩
 unfold str
 rw [List.map_map]
 obtain ⟨d⟩ := s
 congr 1
 apply Array.ext'
 simp [Function.comp_def]
theorem bytes_of_isv {w : World} {A : Option Addr} {l c : Nat} (h : IsV w (.slice (.int .u8)) (.slice A l c)) : ∃ bs : List (BitVec 8), bs.length = l ∧ l ≤ c ∧ l ≤ maxLen ∧ Bs w w.heap.size A l bs := by
 cases h with
 | nil => exact ⟨[], rfl, Nat.le_refl _, Nat.zero_le _, Bs.nil_⟩
 | slice U hl hc hcell hU =>
  rename_i x
  obtain ⟨bs, hbl, hp⟩ := pick (fun i (b : BitVec 8) => U i = v8 b) l (fun i hi => by
   have u0 := hU i hi
   generalize U i = a0 at *
   cases u0 with | int h0 =>
   obtain ⟨b, rfl⟩ := u8_of h0
   exact ⟨b, rfl⟩)
  refine ⟨bs, hbl, hl, by omega, hbl, fun hn => ⟨x, rfl, ?_, fun j hj => ?_⟩⟩
  ·have := cell_lt (hcell 0 hn)
   rwa [add_block] at this
  ·have hj2 : j < bs.length := by omega
   rw [hcell j hj, hp j _ (List.getElem?_eq_getElem hj2), List.getD_eq_getElem?_getD, List.getElem?_eq_getElem hj2]
   rfl
def FitA (a : GArm) : Prop := a.pat.length ≤ maxLen ∧ a.as_.length ≤ maxLen ∧ a.go.length ≤ maxLen ∧ -9223372036854775808 ≤ a.at_ ∧ a.at_ < 9223372036854775808
def FitS (s : GStep) : Prop := s.name.length ≤ maxLen ∧ s.els.length ≤ maxLen ∧ s.send.length ≤ maxLen ∧ s.arms.length ≤ maxLen ∧ (-9223372036854775808 ≤ s.at_ ∧ s.at_ < 9223372036854775808) ∧ (-9223372036854775808 ≤ s.tag ∧ s.tag < 9223372036854775808) ∧
 (-9223372036854775808 ≤ s.time ∧ s.time < 9223372036854775808) ∧ (-9223372036854775808 ≤ s.try_ ∧ s.try_ < 9223372036854775808) ∧ ∀ a ∈ s.arms, FitA a
theorem garms_of_isv {w : World} {A : Option Addr} {l c : Nat} (h : IsV w (.recs [.int .i64, .slice (.int .u8), .string, .string]) (.slice A l c)) :
  ∃ us : List Ga, us.length = l ∧ l ≤ maxLen ∧ Cr w A (gaflat us) ∧ ∀ u ∈ us, Tx w w.heap.size u.A u.g.pat ∧ u.g.pat.length ≤ u.c ∧ FitA u.g := by
 cases h with
 | rnil => exact ⟨[], rfl, by unfold maxLen; omega, fun h => absurd rfl h, by simp⟩
 | recs U hl hc hcell hU =>
  rename_i x
  obtain ⟨us, hsl, hp⟩ := pick (fun i (s : Ga) => (U i 0 = .int .i64 s.g.at_ ∧ U i 1 = .slice s.A s.g.pat.length s.c ∧ U i 2 = .string (str s.g.as_) ∧ U i 3 = .string (str s.g.go)) ∧ Tx w w.heap.size s.A s.g.pat ∧ s.g.pat.length ≤ s.c ∧ FitA s.g) l (fun i hi => by
   have u0 := hU i 0 _ hi rfl
   have u1 := hU i 1 _ hi rfl
   have u2 := hU i 2 _ hi rfl
   have u3 := hU i 3 _ hi rfl
   generalize U i 0 = a0 at *
   generalize U i 1 = a1 at *
   generalize U i 2 = a2 at *
   generalize U i 3 = a3 at *
   cases u0 with | int h0 =>
   obtain ⟨kA, kl, kc, rfl⟩ : ∃ A l c, a1 = .slice A l c := by cases u1 <;> exact ⟨_, _, _, rfl⟩
   cases u2 with | string h2 =>
   cases u3 with | string h3 =>
   rename_i s2 s3
   obtain ⟨pat, rfl, hpc, hpm, hbs⟩ := bytes_of_isv u1
   obtain ⟨b2, rfl, e2⟩ := str_of s2
   obtain ⟨b3, rfl, e3⟩ := str_of s3
   exact ⟨⟨⟨_, pat, b2, b3⟩, kA, kc⟩, ⟨rfl, rfl, rfl, rfl⟩, .inl hbs, hpc, hpm, by show b2.length ≤ _; omega, by show b3.length ≤ _; omega, i64_of h0⟩)
  refine ⟨us, hsl, by omega, cr_of Ga.cells 4 (by decide) (fun _ => rfl) fun i s k hi hk u hu => ?_, fun u hu => ?_⟩
  ·have hil : i < l := by have := (List.getElem?_eq_some_iff.1 hi).1; omega
   obtain ⟨⟨e0, e1, e2, e3⟩, _⟩ := hp i s hi
   have c0 := hcell i 0 hil (by decide)
   have c1 := hcell i 1 hil (by decide)
   have c2 := hcell i 2 hil (by decide)
   have c3 := hcell i 3 hil (by decide)
   rw [e0] at c0
   rw [e1] at c1
   rw [e2] at c2
   rw [e3] at c3
   match k, hk with
   | 0, _ => cases hu; exact c0
   | 1, _ => cases hu; exact c1
   | 2, _ => cases hu; exact c2
   | 3, _ => cases hu; exact c3
  ·obtain ⟨i, hi⟩ := List.mem_iff_getElem?.1 hu
   exact (hp i u hi).2
theorem steps_of_isv {w : World} {A : Option Addr} {l c : Nat} (h : IsV w (.recs [.int .i64, .string, .int .i64, .bool, .slice (.int .u8), .recs [.int .i64, .slice (.int .u8), .string, .string], .int .i64, .int .i64, .string]) (.slice A l c)) :
  ∃ vs : List Gs, vs.length = l ∧ l ≤ maxLen ∧ Gbk w w.heap.size A vs ∧ ∀ v ∈ vs, v.g.send.length ≤ v.c4 ∧ FitS v.g := by
 cases h with
 | rnil => exact ⟨[], rfl, by unfold maxLen; omega, ⟨fun h => absurd rfl h, by simp, by simp, by simp⟩, by simp⟩
 | recs U hl hc hcell hU =>
  rename_i x
  obtain ⟨vs, hsl, hp⟩ := pick (fun i (v : Gs) => (∀ k u, v.cells[k]? = some u → U i k = u) ∧ Tx w w.heap.size v.A4 v.g.send ∧ (Cr w v.A5 (gaflat v.avs) ∧ v.avs.map (·.g) = v.g.arms) ∧ (∀ u ∈ v.avs, Tx w w.heap.size u.A u.g.pat) ∧ v.g.send.length ≤ v.c4 ∧ FitS v.g) l (fun i hi => by
   have u0 := hU i 0 _ hi rfl
   have u1 := hU i 1 _ hi rfl
   have u2 := hU i 2 _ hi rfl
   have u3 := hU i 3 _ hi rfl
   have u4 := hU i 4 _ hi rfl
   have u5 := hU i 5 _ hi rfl
   have u6 := hU i 6 _ hi rfl
   have u7 := hU i 7 _ hi rfl
   have u8 := hU i 8 _ hi rfl
   obtain ⟨F, hF⟩ : ∃ F : Nat → Value, F = U i := ⟨_, rfl⟩
   rw [← hF] at u0 u1 u2 u3 u4 u5 u6 u7 u8 ⊢
   clear hU hcell hF
   generalize h0 : F 0 = a0 at *
   generalize h1 : F 1 = a1 at *
   generalize h2 : F 2 = a2 at *
   generalize h3 : F 3 = a3 at *
   generalize h4 : F 4 = a4 at *
   generalize h5 : F 5 = a5 at *
   generalize h6 : F 6 = a6 at *
   generalize h7 : F 7 = a7 at *
   generalize h8 : F 8 = a8 at *
   cases u0 with | int f0 =>
   cases u1 with | string f1 =>
   cases u2 with | int f2 =>
   cases u3 with | bool b3 =>
   obtain ⟨A4, l4, c4, rfl⟩ : ∃ A l c, a4 = .slice A l c := by cases u4 <;> exact ⟨_, _, _, rfl⟩
   obtain ⟨A5, l5, c5, rfl⟩ : ∃ A l c, a5 = .slice A l c := by cases u5 <;> exact ⟨_, _, _, rfl⟩
   cases u6 with | int f6 =>
   cases u7 with | int f7 =>
   cases u8 with | string f8 =>
   rename_i s1 _ _ _ s8
   obtain ⟨send, rfl, hpc, hpm, hbs⟩ := bytes_of_isv u4
   obtain ⟨us, rfl, hum, hcr, hus⟩ := garms_of_isv u5
   obtain ⟨b1, rfl, e1⟩ := str_of s1
   obtain ⟨b8, rfl, e8⟩ := str_of s8
   refine ⟨⟨⟨_, b1, _, b3, send, us.map (·.g), _, _, b8⟩, A4, c4, A5, c5, us⟩, fun k u hu => ?_, .inl hbs, ⟨hcr, rfl⟩, fun u hu => (hus u hu).1, hpc, by show b1.length ≤ _; omega, by show b8.length ≤ _; omega, hpm, by show (us.map (·.g)).length ≤ _; rw [List.length_map]; exact hum, i64_of f0, i64_of f2, i64_of f6, i64_of f7, fun a ha => ?_⟩
   ·have hk : k < 9 := (List.getElem?_eq_some_iff.1 hu).1
    match k, hk with
    | 0, _ => cases hu; exact h0
    | 1, _ => cases hu; exact h1
    | 2, _ => cases hu; exact h2
    | 3, _ => cases hu; exact h3
    | 4, _ => cases hu; exact h4
    | 5, _ => cases hu; rw [h5]; show _ = Value.slice A5 (us.map (·.g)).length c5; rw [List.length_map]
    | 6, _ => cases hu; exact h6
    | 7, _ => cases hu; exact h7
    | 8, _ => cases hu; exact h8
   ·obtain ⟨u, hu, rfl⟩ := List.mem_map.1 ha
    exact (hus u hu).2.2)
  refine ⟨vs, hsl, by omega, ⟨cr_of Gs.cells 9 (by decide) (fun _ => rfl) fun i s k hi hk u hu => ?_, fun v hv => ?_, fun v hv => ?_, fun v hv => ?_⟩, fun v hv => ?_⟩
  ·have hil : i < l := by have := (List.getElem?_eq_some_iff.1 hi).1; omega
   have c0 := hcell i k hil hk
   rw [(hp i s hi).1 k u hu] at c0
   exact c0
  ·obtain ⟨i, hi⟩ := List.mem_iff_getElem?.1 hv
   exact (hp i v hi).2.1
  ·obtain ⟨i, hi⟩ := List.mem_iff_getElem?.1 hv
   exact (hp i v hi).2.2.1
  ·obtain ⟨i, hi⟩ := List.mem_iff_getElem?.1 hv
   exact (hp i v hi).2.2.2.1
  ·obtain ⟨i, hi⟩ := List.mem_iff_getElem?.1 hv
   exact (hp i v hi).2.2.2.2
end Go.Proofs.YteohlpmojfjjdaaGreat.Chk
end
section
namespace Go.Proofs.YteohlpmojfjjdaaGreat.Chk
open Go.RowKit
open Lex (Tx Cr cr_ry)
open Vars (scell Ons rowStr)
open Book (str_beq)
def sumA (vs : List Gs) : Nat := (vs.map fun v => v.g.arms.length).sum
theorem drop_at' {α : Type} {l : List α} {i : Nat} {x : α} (h : l[i]? = some x) : l.drop i = x :: l.drop (i + 1) := by
 obtain ⟨hl, hx⟩ := List.getElem?_eq_some_iff.1 h
 rw [List.drop_eq_getElem_cons hl, hx]
theorem sumA_at {vs : List Gs} {i : Nat} {v : Gs} (h : vs[i]? = some v) : sumA (vs.drop i) = v.g.arms.length + sumA (vs.drop (i + 1)) := by
 rw [drop_at' h]; simp [sumA]
theorem str_empty {a : List (BitVec 8)} : ((str a).toList == []) = decide (a = []) := by
 rw [Book.str_toList]
 cases a <;> simp
end Go.Proofs.YteohlpmojfjjdaaGreat.Chk
end
section
namespace Go.Proofs.YteohlpmojfjjdaaGreat.Nfa
open Go.RowKit
open Reg (Ov oflat sflat results_at range_of setCells2)
theorem flat_at {α : Type} (f : α → List Value) (m : Nat) (hf : ∀ x, (f x).length = m) : ∀ (xs : List α) (i k : Nat) (x : α), xs[i]? = some x → k < m → (xs.flatMap f)[i * m + k]? = (f x)[k]?
 | [], _, _, _, h, _ => by simp at h
 | y :: ys, 0, k, x, h, hk => by
  simp at h
  subst h
  rw [List.flatMap_cons, List.getElem?_append_left (by rw [hf]; omega), Nat.zero_mul, Nat.zero_add]
 | y :: ys, i + 1, k, x, h, hk => by
  have h1 := flat_at f m hf ys i k x (by simpa using h) hk
  rw [List.flatMap_cons, List.getElem?_append_right (by rw [hf, Nat.succ_mul]; omega)]
  rw [← h1, hf]
  congr 1
  rw [Nat.succ_mul]
  omega
theorem add_at (ad : Addr) (i k : Nat) (hk : 0 < k) : (⟨(ad.add i).block, (ad.add i).off + k, none⟩ : Addr) = ad.add (i + k) := by
 rw [← add_add]
 generalize ad.add i = q
 unfold Addr.add
 rw [if_neg (by omega)]
structure Iv where
 i : In
 A : Option Addr
 c : Nat
def Iv.cells (u : Iv) : List Value := [.int .i64 u.i.kind, .int .i64 u.i.x, .int .i64 u.i.y, .bool u.i.neg, .slice u.A u.i.sp.length u.c]
def iflat (us : List Iv) : List Value := us.flatMap Iv.cells
theorem iflat_length (us : List Iv) : (iflat us).length = us.length * 5 := by
 induction us with
 | nil => rfl
 | cons x l ih => rw [iflat, List.flatMap_cons, List.length_append, show (l.flatMap Iv.cells) = iflat l from rfl, ih]; show 5 + l.length * 5 = (l.length + 1) * 5; omega
theorem iflat_app (us vs : List Iv) : iflat (us ++ vs) = iflat us ++ iflat vs := by simp [iflat]
theorem iflat_one (us : List Iv) : ∀ u ∈ iflat us, u.oneCell' = true := by
 intro u hu
 obtain ⟨x, _, hx⟩ := List.mem_flatMap.1 hu
 simp [Iv.cells] at hx
 rcases hx with rfl | rfl | rfl | rfl | rfl <;> rfl
section
variable {w w' : World} {B B' n c : Nat} {A : Option Addr} {us : List Iv}
end
end Go.Proofs.YteohlpmojfjjdaaGreat.Nfa
end
section
namespace Go.Proofs.YteohlpmojfjjdaaGreat.Reg
theorem escS_len (c : BitVec 8) : (escS c).length ≤ 4 := by
 unfold escS
 split
 ·split <;> simp
 ·unfold classOf
  repeat' split
  all_goals simp
theorem atomL_sp {s : List (BitVec 8)} {k : Nat} {c : BitVec 8} {o : Rop} {j : Nat} (h : atomL s k c = .ok (o, j)) (hc : s[k]? = some c) (hs : s.length ≤ 80) : o.sp.length ≤ 1000 := by
 have hk := get_lt hc
 unfold atomL at h
 split at h
 ·cases h
 ·split at h
  ·have := setR_ok h hk
   omega
  ·split at h
   ·unfold escape at h
    split at h
    ·cases h
    ·rename_i c' hc'
     have := escS_len c'
     rcases e : escS c' with _ | ⟨x, t⟩ <;> rw [e] at h
     ·cases h
     ·injection h with h; injection h with e1 e2; subst e1
      rw [e] at this
      exact Nat.le_trans this (by omega)
   ·split at h <;> (injection h with h; injection h with e1 e2; subst e1; show 1 ≤ 1000; omega)
theorem one_sp (k : Int) : (one k).sp.length ≤ 1000 := Nat.zero_le _
theorem piece_sp {s : List (BitVec 8)} {x : St} (h : ∀ o ∈ x.ops, o.sp.length ≤ 1000) : ∀ o ∈ (pieceEnd s x).ops, o.sp.length ≤ 1000 := by
 intro o ho
 unfold pieceEnd at ho
 simp only [List.mem_append] at ho
 rcases ho with (ho | ho) | ho
 ·exact h o ho
 ·split at ho
  ·simp at ho
  ·rw [List.mem_singleton.1 ho]; exact one_sp _
 ·split at ho
  ·rw [List.mem_singleton.1 ho]; exact one_sp _
  ·simp at ho
theorem branch_sp {x : St} (h : ∀ o ∈ x.ops, o.sp.length ≤ 1000) : ∀ o ∈ (branchEnd x).ops, o.sp.length ≤ 1000 := by
 intro o ho
 unfold branchEnd at ho
 simp only [List.mem_append] at ho
 rcases ho with (ho | ho) | ho
 ·exact h o ho
 ·split at ho
  ·simp at ho
  ·rw [List.mem_singleton.1 ho]; exact one_sp _
 ·split at ho
  ·rw [List.mem_singleton.1 ho]; exact one_sp _
  ·simp at ho
theorem step_sp {s : List (BitVec 8)} {x y : St} {c : BitVec 8} (h : step s x c = .ok y) (hc : s[x.at_]? = some c) (hs : s.length ≤ 80) (hx : ∀ o ∈ x.ops, o.sp.length ≤ 1000) : ∀ o ∈ y.ops, o.sp.length ≤ 1000 := by
 unfold step at h
 split at h
 ·split at h
  ·cases h
  ·injection h with h; subst h; exact hx
 ·split at h
  ·split at h
   ·cases h
   ·injection h with h; subst h; exact piece_sp (branch_sp hx)
  ·split at h
   ·injection h with h; subst h; exact branch_sp hx
   ·split at h
    ·cases h
    ·rename_i o j e
     injection h with h; subst h
     refine piece_sp fun o' ho => ?_
     rcases List.mem_append.1 ho with ho | ho
     ·exact hx o' ho
     ·rw [List.mem_singleton.1 ho]; exact atomL_sp e hc hs
theorem runF_sp {s : List (BitVec 8)} (hs : s.length ≤ 80) : ∀ (n : Nat) (x : St) (l : List Rop), (∀ o ∈ x.ops, o.sp.length ≤ 1000) → runF s n x = .ok l → ∀ o ∈ l, o.sp.length ≤ 1000 := by
 intro n
 induction n with
 | zero => intro x l _ h; cases h
 | succ n ih =>
  intro x l hx h
  unfold runF at h
  split at h
  ·split at h
   ·cases h
   ·injection h with h; subst h; exact branch_sp hx
  ·rename_i c hc
   split at h
   ·cases h
   ·rename_i y hy
    exact ih y l (step_sp hy hc hs hx) h
theorem parse_sp {s : List (BitVec 8)} {l : List Rop} (h : parse s = .ok l) : ∀ o ∈ l, o.sp.length ≤ 1000 := by
 unfold parse at h
 split at h
 ·cases h
 ·exact runF_sp (by omega) _ _ _ (by simp [St0]) h
theorem piled_kinds : ∀ (l : List Rop) (n m : Nat), piled n l = some m → ∀ o ∈ l, 1 ≤ o.kind ∧ o.kind ≤ 7
 | [], _, _, _ => by simp
 | o :: l, n, m, h => by
  unfold piled at h
  split at h
  ·cases h
  ·rename_i k e
   have h2 := piled_kinds l k m h
   intro x hx
   rcases List.mem_cons.1 hx with rfl | hx
   ·unfold does at e
    split at e
    ·cases e
    ·rename_i t ht
     unfold takes at ht
     split at ht
     ·omega
     ·split at ht
      ·omega
      ·split at ht
       ·omega
       ·cases ht
   ·exact h2 x hx
theorem runF_len {s : List (BitVec 8)} : ∀ (n : Nat) (x : St) (l : List Rop), runF s n x = .ok l → l.length ≤ x.ops.length + 4 * n := by
 intro n
 induction n with
 | zero => intro x l h; cases h
 | succ n ih =>
  intro x l h
  unfold runF at h
  split at h
  ·split at h
   ·cases h
   ·injection h with h
    subst h
    unfold branchEnd
    simp only [List.length_append]
    split <;> split <;> simp <;> omega
  ·rename_i c hc
   split at h
   ·cases h
   ·rename_i y hy
    have h1 := (step_few hy).1
    have h2 := ih y l h
    omega
theorem parse_len {s : List (BitVec 8)} {l : List Rop} (h : parse s = .ok l) : l.length ≤ 1000 := by
 have h80 := (parse_good h).1
 unfold parse at h
 split at h
 ·cases h
 ·have := runF_len _ _ _ h
  simp [St0] at this
  omega
end Go.Proofs.YteohlpmojfjjdaaGreat.Reg
end
section
namespace Go.Proofs.YteohlpmojfjjdaaGreat.Chk
open Go.RowKit Nfa Go.Proofs.YteohlpmojfjjdaaGreat.Ord
open Reg (Sp sflat Ov oflat Rop parse parse_len)
open Lex (Tx Cr cr_ry)
open Vars (scell Ons rowStr)
def IntSays (w : World) (z : Int) (e : Ending) (w' : World) : Prop := e = .returned (.int .i64 z) ∧ Below w.heap.size w w'
end Go.Proofs.YteohlpmojfjjdaaGreat.Chk
end
section
namespace Go.Proofs.YteohlpmojfjjdaaGreat.Chk
open Go.RowKit Go.Proofs.YteohlpmojfjjdaaGreat.Ord
open Lex (Tx Cr cr_ry lbelow_drew)
theorem armsBad_hit {b : GBook} {k : Nat} {a : GArm} {l : List GArm} (h : armBad b k a ≠ 0) : armsBad b k (a :: l) = (armBad b k a, a.at_) := by unfold armsBad; rw [if_pos h]
theorem armsBad_miss {b : GBook} {k : Nat} {a : GArm} {l : List GArm} (h : armBad b k a = 0) : armsBad b k (a :: l) = armsBad b (k + 1) l := by
 conv => lhs; unfold armsBad
 rw [if_neg (by simp [h])]
theorem stepsBad_hit {b : GBook} {i : Nat} {s : GStep} {l : List GStep} (h : stepBad b i s ≠ 0) : stepsBad b i (s :: l) = (stepBad b i s, s.at_) := by unfold stepsBad; rw [if_pos h]
theorem stepsBad_arm {b : GBook} {i : Nat} {s : GStep} {l : List GStep} (h : stepBad b i s = 0) (h2 : (armsBad b 0 s.arms).1 ≠ 0) : stepsBad b i (s :: l) = armsBad b 0 s.arms := by
 unfold stepsBad; rw [if_neg (by simp [h]), if_pos h2]
theorem stepsBad_miss {b : GBook} {i : Nat} {s : GStep} {l : List GStep} (h : stepBad b i s = 0) (h2 : (armsBad b 0 s.arms).1 = 0) : stepsBad b i (s :: l) = stepsBad b (i + 1) l := by
 conv => lhs; unfold stepsBad
 rw [if_neg (by simp [h]), if_neg (by simp [h2])]
end Go.Proofs.YteohlpmojfjjdaaGreat.Chk
end
section
namespace Go.Proofs.YteohlpmojfjjdaaGreat.Chk
open Go.RowKit
open Lex (Tx Cr cr_ry)
open Book (Tx.frm)
open Vars (scell)
structure Ca where
 c : CArm
 A : Option Addr
 k : Nat
def Ca.cells (v : Ca) : List Value := [.slice v.A v.c.pat.length v.k, .int .i64 v.c.var, .int .i64 v.c.to]
def caflat (vs : List Ca) : List Value := vs.flatMap Ca.cells
structure Cs where
 s : CStep
 A2 : Option Addr
 k2 : Nat
 A3 : Option Addr
 k3 : Nat
 cas : List Ca
def Cs.cells (v : Cs) : List Value := [.string (str v.s.name), .int .i64 v.s.tag, .slice v.A2 v.s.send.length v.k2, .slice v.A3 v.s.arms.length v.k3, .int .i64 v.s.time, .int .i64 v.s.try_, .int .i64 v.s.els]
def csflat (vs : List Cs) : List Value := vs.flatMap Cs.cells
theorem caflat_app (us vs : List Ca) : caflat (us ++ vs) = caflat us ++ caflat vs := by simp [caflat]
theorem csflat_app (us vs : List Cs) : csflat (us ++ vs) = csflat us ++ csflat vs := by simp [csflat]
theorem infoCa : (Tryz.prog.info? 54).map (fun i => (i.zero, i.size, i.bytes)) = some (some (.agg #[.slice none 0 0, .int .i64 0, .int .i64 0]), 3, 40) := by kernel_rfl
theorem rowCa : ElemRow Tryz.prog 47 54 3 40 := ElemRow.mk' Tryz.underlying47 infoCa rfl (by decide)
theorem infoCs : (Tryz.prog.info? 49).map (fun i => (i.zero, i.size, i.bytes)) = some (some (.agg #[.string ⟨#[]⟩, .int .i64 0, .slice none 0 0, .slice none 0 0, .int .i64 0, .int .i64 0, .int .i64 0]), 7, 96) := by kernel_rfl
theorem rowCs : ElemRow Tryz.prog 27 49 7 96 := ElemRow.mk' Tryz.underlying27 infoCs rfl (by decide)
def CParts (w : World) (T : Nat) (v : Cs) : Prop := Tx w T v.A2 v.s.send ∧ Ry 54 w v.A3 (caflat v.cas) ∧ v.cas.map (·.c) = v.s.arms ∧ ∀ u ∈ v.cas, Tx w T u.A u.c.pat
theorem CParts.below {w w' : World} {T : Nat} {v : Cs} (h : CParts w T v) (hT : T ≤ w.heap.size) (hb : Below w.heap.size w w') : CParts w' T v :=
 ⟨h.1.below hT hb, h.2.1.below hb, h.2.2.1, fun u hu => (h.2.2.2 u hu).below hT hb⟩
theorem CParts.frm {w w' : World} {T : Nat} {v : Cs} {l : List Nat} (h : CParts w T v) (hf : Frm l w w') (hl : ∀ k ∈ l, T ≤ k ∧ (∀ cs fz, w.heap[k]? ≠ some (Obj.cells cs 5 fz)) ∧ ∀ cs fz, w.heap[k]? ≠ some (Obj.cells cs 54 fz)) : CParts w' T v :=
 ⟨Tx.frm h.1 hf fun k hk => ⟨(hl k hk).1, (hl k hk).2.1⟩, h.2.1.frm hf fun k hk => (hl k hk).2.2, h.2.2.1, fun u hu => Tx.frm (h.2.2.2 u hu) hf fun k hk => ⟨(hl k hk).1, (hl k hk).2.1⟩⟩
structure Cbk (w : World) (T : Nat) (A : Option Addr) (vs : List Cs) : Prop where
 ry : Ry 49 w A (csflat vs)
 parts : ∀ v ∈ vs, CParts w T v
def CmSays (w : World) (T : Nat) (r : Except (Int × Int) CBook) (e : Ending) (w' : World) : Prop := Below w.heap.size w w' ∧ match r with
 | .error (bad, p) => bad ≠ 0 ∧ e = .returned (.tuple #[.agg #[.slice none 0 0, .slice none 0 0, .int .i64 0], .int .i64 p, .int .i64 bad])
 | .ok b => ∃ A k A1 k1 vs, e = .returned (.tuple #[.agg #[.slice A b.steps.length k, .slice A1 b.vars.length k1, .int .i64 b.most], .int .i64 0, .int .i64 0]) ∧ Cbk w' T A vs ∧ vs.map (·.s) = b.steps ∧ Ry 9 w' A1 (b.vars.map scell)
end Go.Proofs.YteohlpmojfjjdaaGreat.Chk
end
