/-
Texts: RegMem Orders RegStep Slices
-/
import Derived.Test.YteohlpmojfjjdaaGreatR0
import Derived.Test.YteohlpmojfjjdaaGreatR1
import Derived.Test.YteohlpmojfjjdaaGreatR2
import Derived.Test.YteohlpmojfjjdaaGreatR3
import Derived.WalkKit
import Derived.ProofKit
import Derived.OrdersHeld
import Derived.Deep.RegionHeld
set_option linter.unusedVariables false
set_option linter.unusedSimpArgs false
set_option maxRecDepth 100000
set_option maxHeartbeats 4000000
section
namespace Go.Proofs.YteohlpmojfjjdaaGreat.Reg
open Go.RowKit
structure Ov where
 o : Rop
 A : Option Addr
 c : Nat
def Ov.cells (u : Ov) : List Value := [.int .i64 u.o.kind, .bool u.o.neg, .slice u.A u.o.sp.length u.c]
def oflat (us : List Ov) : List Value := us.flatMap Ov.cells
theorem oflat_snoc (us : List Ov) (u : Ov) : oflat (us ++ [u]) = oflat us ++ u.cells := by rw [oflat, List.flatMap_append]; simp [oflat]
def lflat (L : List Lv) : List Value := L.flatMap fun l => [.bool l.hb, .bool l.hp]
theorem lflat_snoc (L : List Lv) (l : Lv) : lflat (L ++ [l]) = lflat L ++ [.bool l.hb, .bool l.hp] := by rw [lflat, List.flatMap_append]; rfl
theorem lflat_length (L : List Lv) : (lflat L).length = L.length * 2 := by
 induction L with
 | nil => rfl
 | cons x l ih => rw [lflat, List.flatMap_cons, List.length_append, show (l.flatMap fun l => [Value.bool l.hb, .bool l.hp]) = lflat l from rfl, ih]; show 2 + l.length * 2 = (l.length + 1) * 2; omega
structure Ows (w : World) (B : Nat) (v : Value) (ops : List Rop) : Prop where
 row : ∃ us : List Ov, w.ownsRow B 223 3 v ops.length (oflat us) ∧ us.map (·.o) = ops ∧ ∀ u ∈ us, Spn w u.A u.o.sp
def Lws (w : World) (B : Nat) (v : Value) (L : List Lv) : Prop := w.ownsRow B 190 2 v L.length (lflat L.reverse)
structure Pz (w : World) (B b : Nat) (A : Option Addr) (n c : Nat) (s : List (BitVec 8)) (x : St) : Prop where
 low : B ≤ b
 bs : Bs w B A n s
 st : ∃ ov iv, Pc w b (.slice A n c) x.at_ ov x.inner.hb x.inner.hp iv ∧ Ows w B ov x.ops ∧ Lws w B iv x.outer
structure Fr (B : Nat) (w w' : World) : Prop where
 low : Below B w w'
 keep : ∀ (k : Nat) o t fz, w.heap[k]? = some (Obj.cells o t fz) → t ≠ 195 → t ≠ 223 → w'.heap[k]? = w.heap[k]?
theorem Fr.refl (B : Nat) (w : World) : Fr B w w := ⟨Below.refl _ _, fun _ _ _ _ _ _ _ => rfl⟩
theorem Fr.trans {B : Nat} {w w1 w2 : World} (h : Fr B w w1) (h2 : Fr B w1 w2) : Fr B w w2 := ⟨h.low.trans h2.low, fun k o t fz hk h1 h36 => by
 have e := h.keep k o t fz hk h1 h36
 rw [h2.keep k o t fz (e.trans hk) h1 h36, e]⟩
theorem Fr.size {B : Nat} {w w' : World} (h : Fr B w w') : w.heap.size ≤ w'.heap.size := h.low.size
theorem Fr.of_below {B : Nat} {w w' : World} (h : Below w.heap.size w w') (hB : B ≤ w.heap.size) : Fr B w w' := ⟨h.mono hB, fun k _ _ _ hk _ _ => h.block k (Array.getElem?_eq_some_iff.1 hk).1⟩
theorem Fr.of_frm {B b k : Nat} {w w' : World} {sv ov iv : Value} {hb hp : Bool} (h : Frm [b] w w') (hp : Pc w b sv k ov hb hp iv) (hB : B ≤ b) (hw : B ≤ w.heap.size) : Fr B w w' :=
 ⟨h.below hw (by simp; omega), fun g o t fz hg h1 _ => h.block g (Array.getElem?_eq_some_iff.1 hg).1 fun hm => by
  rw [List.mem_singleton.1 hm] at hg
  exact Cel.not_ty hp (fun e => h1 e.symm) o fz hg⟩
theorem Fr.cel {B : Nat} {w w' : World} (h : Fr B w w') {g : Nat} {t : TypeId} {cs : List Value} (hc : Cel w g t cs) (h1 : t ≠ 195) (h2 : t ≠ 223) : Cel w' g t cs := (h.keep g _ t _ hc h1 h2).trans hc
section
variable {w w1 w2 : World} {B b n c : Nat} {A : Option Addr} {s : List (BitVec 8)} {x : St} {v : Value} {ops : List Rop} {L : List Lv}
theorem Ows.frm {l : List Nat} (h : Ows w B v ops) (hf : Frm l w w1) (hl : ∀ k ∈ l, ∃ t cs, Cel w k t cs ∧ t ≠ 223 ∧ t ≠ 245) : Ows w1 B v ops := by
 obtain ⟨us, h1, h2, h3⟩ := h.row
 refine ⟨us, own_frm h1 hf fun g hg => ?_, h2, fun u hu => Ry.frm (h3 u hu) hf fun k hk => ?_⟩
 ·obtain ⟨t, cs, hc, ht, _⟩ := hl g hg
  exact own_ty_ne h1 hc (Ne.symm ht)
 ·obtain ⟨t, cs, hc, _, ht⟩ := hl k hk
  exact hc.not_ty ht
theorem Lws.frm {l : List Nat} (h : Lws w B v L) (hf : Frm l w w1) (hl : ∀ k ∈ l, ∃ t cs, Cel w k t cs ∧ t ≠ 190) : Lws w1 B v L :=
 own_frm h hf fun g hg => by
  obtain ⟨t, cs, hc, ht⟩ := hl g hg
  exact own_ty_ne h hc (Ne.symm ht)
theorem Ows.below (h : Ows w B v ops) (hb : Below w.heap.size w w1) : Ows w1 B v ops := h.frm (l := []) (Frm.of_below hb) (by simp)
theorem Lws.below (h : Lws w B v L) (hb : Below w.heap.size w w1) : Lws w1 B v L := Lws.frm (l := []) h (Frm.of_below hb) (by simp)
theorem Pz.open_ (h : Pz w B b A n c s x) : ∃ ov iv, Pc w b (.slice A n c) x.at_ ov x.inner.hb x.inner.hp iv ∧ ∀ w1 k, At w w1 b (.slice A n c) k ov x.inner.hb x.inner.hp iv → Pz w1 B b A n c s ⟨k, x.ops, x.inner, x.outer⟩ := by
 obtain ⟨ov, iv, hp, ho, hl⟩ := h.st
 refine ⟨ov, iv, hp, fun w1 k this => ?_⟩
 have hb : ∀ k ∈ [b], ∃ t cs, Cel w k t cs ∧ t ≠ 223 ∧ t ≠ 245 := fun k hk => by
  rw [List.mem_singleton.1 hk]; exact ⟨_, _, hp, by decide, by decide⟩
 have hb2 : ∀ k ∈ [b], ∃ t cs, Cel w k t cs ∧ t ≠ 190 := fun k hk => by
  rw [List.mem_singleton.1 hk]; exact ⟨_, _, hp, by decide⟩
 exact ⟨h.low, this.bs h.bs h.low hp.lt, ov, iv, this.pc, ho.frm this.frm hb, Lws.frm hl this.frm hb2⟩
theorem At.low {w w1 : World} {B b k : Nat} {sv ov iv : Value} {hb hp : Bool} (h : At w w1 b sv k ov hb hp iv) (hB : B ≤ w.heap.size) (hlow : B ≤ b) : Below B w w1 := h.frm.below hB (by simp; omega)
theorem Pz.below (h : Pz w B b A n c s x) (hb : Below w.heap.size w w1) (hB : B ≤ w.heap.size) : Pz w1 B b A n c s x := by
 obtain ⟨ov, iv, hp, ho, hl⟩ := h.st
 exact ⟨h.low, h.bs.below (hb.mono hB), ov, iv, Cel.below hp hb hp.lt, ho.below hb, Lws.below hl hb⟩
theorem set_below (w : World) {B b : Nat} (hB : B ≤ b) (i : Nat) (u : Value) : Below B w (w.setCell ⟨b, i, none⟩ u) := ⟨rfl, rfl, rfl, by simp [World.setCell], fun k hk => Below.heap_setCell _ _ _ _ (by simp; omega)⟩
theorem Pz.set (h : Pz w B b A n c s x) : ∃ ov iv, Pc w b (.slice A n c) x.at_ ov x.inner.hb x.inner.hp iv ∧ ∀ (i : Nat) (u : Value) (k : Nat) (lv : Lv), [Value.slice A n c, .int .i64 (x.at_ : Int), ov, .bool x.inner.hb, .bool x.inner.hp, iv].set i u = [Value.slice A n c, .int .i64 (k : Int), ov, .bool lv.hb, .bool lv.hp, iv] → Pz (w.setCell ⟨b, i, none⟩ u) B b A n c s ⟨k, x.ops, lv, x.outer⟩ := by
 obtain ⟨ov, iv, hp, ho, hl⟩ := h.st
 refine ⟨ov, iv, hp, fun i u k lv e => ?_⟩
 have hf : Frm [b] w (w.setCell ⟨b, i, none⟩ u) := (Frm.refl [b] w).set (by simp) _
 have hb : ∀ k ∈ [b], ∃ t cs, Cel w k t cs ∧ t ≠ 223 ∧ t ≠ 245 := fun k hk => by
  rw [List.mem_singleton.1 hk]; exact ⟨_, _, hp, by decide, by decide⟩
 have hb2 : ∀ k ∈ [b], ∃ t cs, Cel w k t cs ∧ t ≠ 190 := fun k hk => by
  rw [List.mem_singleton.1 hk]; exact ⟨_, _, hp, by decide⟩
 refine ⟨h.low, h.bs.below (set_below w h.low i u), ov, iv, ?_, ho.frm hf hb, Lws.frm hl hf hb2⟩
 have := Cel.set hp i u
 rw [e] at this
 exact this
theorem Fr.pushed {w5 w8 : World} {ov v' : Value} {us : List Value} {ln k : Nat} {sv iv : Value} {hb hp : Bool} (hlow : B ≤ b) (hB : B ≤ w.heap.size) (h5 : Below w.heap.size w w5) (h1 : w5.ownsRow B 223 3 ov ln us) (hg : w5.grownBy w8 ov.ownBlock) (hp8 : Pc w8 b sv k ov hb hp iv) : Fr B w (w8.setCell ⟨b, 2, none⟩ v') := by
 have hs5 := h5.size
 have h58 : Fr B w5 w8 := ⟨⟨hg.os, hg.tape, hg.output, hg.size, fun k hk => hg.block k (by omega) fun e => by have := own_ge h1 k e.symm; omega⟩, fun k o t fz hk _ h36 => hg.block k (Array.getElem?_eq_some_iff.1 hk).1 fun e => own_not_ty h1 (fun q => h36 q.symm) k o fz e.symm hk⟩
 exact ((Fr.of_below h5 hB).trans h58).trans (Fr.of_frm ((Frm.refl [b] w8).set (p := ⟨b, 2, none⟩) (by simp) v') hp8 hlow (by have := hg.size; omega))
theorem Pz.pushed {w5 w8 : World} {ov iv v' : Value} {u : Ov} {us : List Ov} {ln : Nat} (hln : x.ops.length = ln) (hlow : B ≤ b) (hbs : Bs w B A n s) (hp : Pc w b (.slice A n c) x.at_ ov x.inner.hb x.inner.hp iv) (hl : Lws w B iv x.outer) (hB : B ≤ w.heap.size)
  (h5 : Below w.heap.size w w5) (h1 : w5.ownsRow B 223 3 ov ln (oflat us)) (h2 : us.map (·.o) = x.ops) (h3 : ∀ u ∈ us, Spn w u.A u.o.sp) (hu : Spn w5 u.A u.o.sp)
  (h8 : w8.ownsRow B 223 3 v' (ln + 1) (oflat (us ++ [u]))) (hg : w5.grownBy w8 ov.ownBlock) :
  Pc w8 b (.slice A n c) x.at_ ov x.inner.hb x.inner.hp iv ∧ Pz (w8.setCell ⟨b, 2, none⟩ v') B b A n c s ⟨x.at_, x.ops ++ [u.o], x.inner, x.outer⟩ ∧ Fr B w (w8.setCell ⟨b, 2, none⟩ v') := by
 subst hln
 have hp5 : Pc w5 b (.slice A n c) x.at_ ov x.inner.hb x.inner.hp iv := Cel.below hp h5 hp.lt
 have hl5 := Lws.below hl h5
 have hp8 : Pc w8 b (.slice A n c) x.at_ ov x.inner.hb x.inner.hp iv := Cel.grown hp5 hg (own_ty_ne h1 hp5 (by decide))
 have hs5 := h5.size
 have hb8 : Below B w w8 := ((h5.mono hB).trans ⟨hg.os, hg.tape, hg.output, hg.size, fun k hk => hg.block k (by omega) fun e => by have := own_ge h1 k e.symm; omega⟩)
 have hb9 : Below B w (w8.setCell ⟨b, 2, none⟩ v') := hb8.trans (set_below w8 hlow 2 v')
 have hf : Frm [b] w8 (w8.setCell ⟨b, 2, none⟩ v') := (Frm.refl [b] w8).set (by simp) _
 refine ⟨hp8, ⟨hlow, hbs.below hb9, v', iv, Cel.set hp8 2 v', ⟨us ++ [u], ?_, ?_, ?_⟩, ?_⟩, ?_⟩
 ·have q : (x.ops ++ [u.o]).length = x.ops.length + 1 := by simp
  show World.ownsRow _ _ _ _ _ (x.ops ++ [u.o]).length _
  rw [q]
  exact own_frm h8 hf fun g hg' => by rw [List.mem_singleton.1 hg']; exact own_ty_ne h8 hp8 (by decide)
 ·show (us ++ [u]).map _ = x.ops ++ [u.o]
  rw [List.map_append, h2]; rfl
 ·intro y hy
  have h5y : Spn w5 y.A y.o.sp := by
   rcases List.mem_append.1 hy with hy | hy
   ·exact Ry.below (h3 y hy) h5
   ·rw [List.mem_singleton.1 hy]; exact hu
  exact Ry.set (Ry.grown h5y hg (own_not_ty h1 (by decide))) (hp8.not_ty (by decide)) v'
 ·show Lws _ B iv x.outer
  refine Lws.frm (own_frm (l := ov.ownBlock.toList) hl5 ((Frm.refl _ _).grown hg (fun g e _ => by rw [e]; simp)) fun g hg' e => ?_) hf fun k hk => by
   rw [List.mem_singleton.1 hk]; exact ⟨_, _, hp8, by decide⟩
  have e2 : ov.ownBlock = some g := by simpa using hg'
  rcases h1.2 with ⟨rfl, _⟩ | ⟨g1, cap, cur, rfl, _, hg1, _⟩
  ·simp [Value.ownBlock] at e2
  ·obtain rfl : g1 = g := by simpa [Value.ownBlock] using e2
   exact own_not_ty hl5 (t' := 223) (by decide) _ _ _ e hg1
 ·exact Fr.pushed hlow hB h5 h1 hg hp8
theorem Pz.lpushed {w5 w8 : World} {ov iv v' : Value} {l : Lv} {ln : Nat} (hln : x.outer.length = ln) (hlow : B ≤ b) (hbs : Bs w B A n s) (hp : Pc w b (.slice A n c) x.at_ ov x.inner.hb x.inner.hp iv) (ho : Ows w B ov x.ops) (hB : B ≤ w.heap.size)
  (h5 : Below w.heap.size w w5) (h1 : w5.ownsRow B 190 2 iv ln (lflat x.outer.reverse))
  (h8 : w8.ownsRow B 190 2 v' (ln + 1) (lflat x.outer.reverse ++ [.bool l.hb, .bool l.hp])) (hg : w5.grownBy w8 iv.ownBlock) :
  Pc w8 b (.slice A n c) x.at_ ov x.inner.hb x.inner.hp iv ∧ Pz (w8.setCell ⟨b, 5, none⟩ v') B b A n c s ⟨x.at_, x.ops, x.inner, l :: x.outer⟩ ∧ Below B w (w8.setCell ⟨b, 5, none⟩ v') := by
 subst hln
 have hp5 : Pc w5 b (.slice A n c) x.at_ ov x.inner.hb x.inner.hp iv := Cel.below hp h5 hp.lt
 have ho5 := ho.below h5
 have hp8 : Pc w8 b (.slice A n c) x.at_ ov x.inner.hb x.inner.hp iv := Cel.grown hp5 hg (own_ty_ne h1 hp5 (by decide))
 have hs5 := h5.size
 have hb8 : Below B w w8 := ((h5.mono hB).trans ⟨hg.os, hg.tape, hg.output, hg.size, fun k hk => hg.block k (by omega) fun e => by have := own_ge h1 k e.symm; omega⟩)
 have hb9 : Below B w (w8.setCell ⟨b, 5, none⟩ v') := hb8.trans (set_below w8 hlow 5 v')
 have hf : Frm [b] w8 (w8.setCell ⟨b, 5, none⟩ v') := (Frm.refl [b] w8).set (by simp) _
 obtain ⟨us, q1, q2, q3⟩ := ho5.row
 refine ⟨hp8, ⟨hlow, hbs.below hb9, ov, v', Cel.set hp8 5 v', ⟨us, ?_, q2, ?_⟩, ?_⟩, hb9⟩
 ·refine own_frm (own_frm (l := iv.ownBlock.toList) q1 ((Frm.refl _ _).grown hg (fun g e _ => by rw [e]; simp)) fun g hg' e => ?_) hf fun k hk => by
   rw [List.mem_singleton.1 hk]
   refine own_ty_ne (own_frm (l := iv.ownBlock.toList) q1 ((Frm.refl _ _).grown hg (fun g e _ => by rw [e]; simp)) fun g hg' e => ?_) hp8 (by decide)
   exact own_two h1 q1 (by decide) g (by simpa using hg') e
  exact own_two h1 q1 (by decide) g (by simpa using hg') e
 ·intro y hy
  exact Ry.set (Ry.grown (q3 y hy) hg (own_not_ty h1 (by decide))) (hp8.not_ty (by decide)) v'
 ·show World.ownsRow _ _ _ _ _ (l :: x.outer).length (lflat (l :: x.outer).reverse)
  rw [List.reverse_cons, lflat_snoc]
  exact own_frm h8 hf fun g hg' => by rw [List.mem_singleton.1 hg']; exact own_ty_ne h8 hp8 (by decide)
end
end Go.Proofs.YteohlpmojfjjdaaGreat.Reg
end
section
namespace Go.Proofs.YteohlpmojfjjdaaGreat.Ord
open Go.RowKit
section
variable {l n : Nat} {P : Program} {ops : Array Oper} {Q : Exit → Act → World → Prop} {md : Region.Mode}
/-! ### A region whose last operations write what its first ones read: S is asked behind all operations but those of N. -/
variable {S : World → Prop} {N : List Nat}
def wpAnyN (P : Program) (md : Region.Mode) (ops : Array Oper) (Q : Exit → Act → World → Prop) (S : World → Prop) (N : List Nat) : Nat → Array Bool → Act → World → Prop
 | 0, listed, a, w => Region.ready md ops listed = [] ∧ Q .normal a w
 | fuel + 1, listed, a, w =>
  (Region.ready md ops listed = [] → Q .normal a w) ∧
  ∀ i ∈ Region.ready md ops listed, wpOp P ops Q i (fun a' w' => (i ∉ N → S w') ∧ wpAnyN P md ops Q S N fuel (listed.setIfInBounds i true) a' w') a w
theorem wpAny_of_N : ∀ (fuel : Nat) (listed : Array Bool) (a : Act) (w : World), wpAnyN P md ops Q S N fuel listed a w → wpAny P md ops Q fuel listed a w
 | 0, _, _, _, h => h
 | fuel + 1, _, _, _, h => ⟨h.1, fun i hi => wpOp_mono (fun a' w' h' => wpAny_of_N fuel _ a' w' h'.2) (h.2 i hi)⟩
def waits (md : Region.Mode) (ops : Array Oper) (i : Nat) (D : List Nat) : Bool := D.all fun j => match ops[j]? with
 | some o => o.after.any fun e => Region.binds md e && (e.on == i || D.contains e.on)
 | none => false
structure Pend (md : Region.Mode) (ops : Array Oper) (i : Nat) (D : List Nat) (L : Array Bool) : Prop where
 now : i ∈ Region.ready md ops L
 none : ∀ d ∈ D, L.getD d true = false
theorem listed_no {L : Array Bool} {k : Nat} (h : L.getD k true = false) (h' : L.getD k false = true) : False := by
 rcases Nat.lt_or_ge k L.size with hk | hk
 ·simp [hk] at h h'
  rw [h] at h'
  cases h'
 ·simp [Array.getElem?_eq_none hk] at h'
theorem ready_edge {L : Array Bool} {j : Nat} {o : Oper} (hj : j ∈ Region.ready md ops L) (ho : ops[j]? = some o) : ∀ e ∈ o.after, Region.binds md e = true → L.getD e.on true ≠ false := by
 obtain ⟨_, o', ho', hall⟩ := mem_ready.1 hj
 rw [ho] at ho'
 cases ho'
 intro e he hb hc
 exact listed_no hc (by simpa using hall e he hb)
namespace Pend
variable {i j : Nat} {D : List Nat} {L : Array Bool} {oj : Oper}
theorem open_ (h : Pend md ops i D L) : L.getD i true = false := (mem_ready.1 h.now).1
theorem apart_ (h : Pend md ops i D L) (hj : j ∈ Region.ready md ops L) (ho : ops[j]? = some oj) : ∀ e ∈ oj.after, Region.binds md e = true → e.on ≠ i :=
 fun e he hb hi => ready_edge hj ho e he hb (by rw [hi]; exact h.open_)
theorem not_D (h : Pend md ops i D L) (hD : waits md ops i D = true) (hj : j ∈ Region.ready md ops L) : j ∉ D := by
 intro hm
 have h1 := List.all_eq_true.1 hD j hm
 cases ho : ops[j]? with
 | none => rw [ho] at h1; cases h1
 | some o =>
  rw [ho] at h1
  simp only [Array.any_eq_true] at h1
  obtain ⟨k, hk, h2⟩ := h1
  rw [Bool.and_eq_true, Bool.or_eq_true, beq_iff_eq, List.contains_iff_mem] at h2
  refine ready_edge hj ho _ (Array.getElem_mem hk) h2.1 ?_
  rcases h2.2 with e | e
  ·rw [e]; exact h.open_
  ·exact h.none _ e
theorem step (h : Pend md ops i D L) (hD : waits md ops i D = true) (hj : j ∈ Region.ready md ops L) (hne : j ≠ i) : Pend md ops i D (L.setIfInBounds j true) :=
 ⟨ready_mono h.now (Ne.symm hne), fun d hd => by
  have hjd : j ≠ d := fun e => h.not_D hD hj (by rw [e]; exact hd)
  rw [getD_set_ne true hjd]
  exact h.none d hd⟩
end Pend
theorem wpAnyN_first {i : Nat} {oi : Oper} {v : Value} {D : List Nat} (hDw : waits md ops i D = true) (hND : ∀ n ∈ N, n ∈ D) (hi : ops[i]? = some oi) (hsel : ∀ (j : Nat) (o : Oper) cs b, ops[j]? = some o → o.op ≠ .select cs b)
  (hQ : ∀ c a w, Q (.panic c) (a.put oi.dst v) w → Q (.panic c) a w) {L0 : Array Bool}
  (hfree : ∀ j oj, ops[j]? = some oj → j ≠ i → L0.getD j true = false → (∀ e ∈ oj.after, Region.binds md e = true → e.on ≠ i) → oi.apart ops oj = true) :
  ∀ (fuel : Nat) (L : Array Bool) (a : Act) (w : World), (∀ j, L.getD j true = false → L0.getD j true = false) → Pend md ops i D L → YieldsIf P ops S oi v a → S w →
   wpAnyN P md ops Q S N fuel (L.setIfInBounds i true) (a.put oi.dst v) w → wpAnyN P md ops Q S N (fuel + 1) L a w := by
 intro fuel
 induction fuel with
 | zero =>
  intro L a w _ hp hy hS H
  refine ⟨fun h => absurd hp.now (by rw [h]; simp), fun j hj => ?_⟩
  rcases Decidable.em (j = i) with rfl | hne
  ·exact hy.wpOp hi hS ⟨fun _ => hS, H⟩
  ·exact absurd (ready_mono hj hne) (by rw [H.1]; simp)
 | succ fuel ih =>
  intro L a w hL hp hy hS H
  refine ⟨fun h => absurd hp.now (by rw [h]; simp), fun j hj => ?_⟩
  rcases Decidable.em (j = i) with rfl | hne
  ·exact hy.wpOp hi hS ⟨fun _ => hS, H⟩
  ·obtain ⟨hju, oj, hoj, _⟩ := mem_ready.1 hj
   have hap := hfree j oj hoj hne (hL j hju) (hp.apart_ hj hoj)
   have hnN : j ∉ N := fun hn => hp.not_D hDw hj (hND j hn)
   refine wpOp_mono (fun a' w' h => ⟨h.2.1, ih _ a' w' (fun k hk => ?_) (hp.step hDw hj hne) h.1 (h.2.1 hnN) (by rw [Array.setIfInBounds_comm _ _ hne]; exact h.2.2)⟩)
    (wpOp_putIf hoj hap (fun cs b => hsel i oi cs b hi) (fun cs b => hsel j oj cs b hoj) hQ hy (H.2 j (ready_mono hj hne)))
   rcases Decidable.em (j = k) with rfl | hjk
   ·exact hL j hju
   ·rw [getD_set_ne true hjk] at hk; exact hL k hk
theorem wpAnyN_take {i : Nat} {oi : Oper} {v : Value} {fuel : Nat} {listed : Array Bool} {a : Act} {w : World} (D : List Nat) (hDw : (waits md ops i D && N.all D.contains && !D.contains i && D.all (fun d => !listed.getD d true)) = true) (hi : ops[i]? = some oi)
  (hs : Region.noSelect ops = true) (hf : Region.free md ops listed i = true) (hr : (Region.ready md ops listed).contains i = true)
  (hQ : ∀ c a w, Q (.panic c) (a.put oi.dst v) w → Q (.panic c) a w) (hy : YieldsIf P ops S oi v a) (hS : S w)
  (h : wpAnyN P md ops Q S N fuel (listed.setIfInBounds i true) (a.put oi.dst v) w) : wpAnyN P md ops Q S N (fuel + 1) listed a w := by
 simp only [Bool.and_eq_true] at hDw
 obtain ⟨⟨⟨h1, h2⟩, _⟩, h4⟩ := hDw
 rw [List.all_eq_true] at h2 h4
 exact wpAnyN_first h1 (fun n hn => List.contains_iff_mem.1 (h2 n hn)) hi (Region.noSelect_spec hs) hQ (Region.free_spec hi hf) fuel listed a w (fun _ h => h) ⟨by simpa using hr, fun d hd => by simpa using h4 d hd⟩ hy hS h
theorem wpAnyN_one {i : Nat} {o : Oper} {fuel : Nat} {listed : Array Bool} {a : Act} {w : World} (hr : Region.ready md ops listed = [i]) (ho : ops[i]? = some o)
  (h : ∀ K' : Act → World → Prop, Shut (∀ a w, (i ∈ N ∨ S w) → wpAnyN P md ops Q S N fuel (listed.setIfInBounds i true) a w → K' a w) → if Region.wanted o (yielded ops a.tmps) = true then Oper.wp P o a w K' Q else K' (a.put o.dst undef) w) :
  wpAnyN P md ops Q S N (fuel + 1) listed a w :=
 ⟨fun h0 => (by rw [hr] at h0; cases h0), fun j hj => by
  rw [hr, List.mem_singleton] at hj
  subst hj
  exact wpOp_step ho (fun K' hK => h K' (fun a w hS hW => hK a w ⟨fun hn => hS.resolve_left hn, hW⟩))⟩
theorem wpAnyN_done {listed : Array Bool} {a : Act} {w : World} (hr : Region.ready md ops listed = []) (h : Q .normal a w) :
  ∀ fuel, wpAnyN P md ops Q S N fuel listed a w
 | 0 => ⟨hr, h⟩
 | _ + 1 => ⟨fun _ => h, by rw [hr]; simp⟩
theorem wp_region_N (N : List Nat) (S : World → Prop) {id : Nat} {a : Act} {w : World} (hm : P.follows .mixedOrders = true)
  (h : wpAnyN P .any ops Q S N ops.size (Array.replicate ops.size false) a w.drew) : (Code.region id ops true).wp P Q a w :=
 wp_region_any hm (wpAny_of_N _ _ _ _ h)
end
theorem lay_ : (∀ (l : List Value) (i : Nat) (v : Value), l.toArray.setIfInBounds i v = (l.set i v).toArray) ∧ (∀ (x : Value) (l : List Value) (v : Value), (x :: l).set 0 v = v :: l) ∧ (∀ (x : Value) (l : List Value) (n : Nat) (v : Value), (x :: l).set (n + 1) v = x :: l.set n v) ∧
 (∀ (α : Type) (l : List α) (i : Nat) (h : i < l.toArray.size), l.toArray[i] = l[i]'h) ∧ (∀ (α : Type) (x : α) (l : List α) (i : Nat) (h : i + 1 < (x :: l).length), (x :: l)[i + 1] = l[i]'(Nat.lt_of_succ_lt_succ h)) ∧ (∀ (α : Type) (x : α) (l : List α) (h : 0 < (x :: l).length), (x :: l)[0] = x) :=
 ⟨fun _ _ _ => List.setIfInBounds_toArray .., fun _ _ _ => rfl, fun _ _ _ _ => rfl, fun _ _ _ _ => rfl, fun _ _ _ _ _ => rfl, fun _ _ _ _ => rfl⟩
theorem tk_ {P : Program} {ops : Array Oper} {Q : Exit → Act → World → Prop} {md : Region.Mode} {S : World → Prop} {N : List Nat} {fuel : Nat} {listed : Array Bool} {a : Act} {w : World} (i : Nat) (v : Value) (D : List Nat) {oi : Oper} (hi : ops[i]? = some oi) (hS : S w) (hy : ∀ w, S w → (execOp a.eval oi).run P w = .ok (.value v) w)
  (h : wpAnyN P md ops Q S N fuel (listed.setIfInBounds i true) (a.put oi.dst v) w)
  (hDw : (waits md ops i D && N.all D.contains && !D.contains i && D.all (fun d => !listed.getD d true)) = true := by kernel_rfl) (hs : Region.noSelect ops = true := by kernel_rfl) (hf : Region.free md ops listed i = true := by kernel_rfl) (hr : (Region.ready md ops listed).contains i = true := by kernel_rfl)
  (hQ : ∀ c a w, Q (.panic c) (a.put oi.dst v) w → Q (.panic c) a w := by exact fun _ _ _ h => h) (hw : Region.wanted oi (yielded ops a.tmps) = true := by rfl) : wpAnyN P md ops Q S N (fuel + 1) listed a w :=
 wpAnyN_take D hDw hi hs hf hr hQ (Or.inl ⟨hw, hy⟩) hS h
end Go.Proofs.YteohlpmojfjjdaaGreat.Ord
end
section
namespace Go.Proofs.YteohlpmojfjjdaaGreat.Reg
open Go.RowKit
theorem infoOp : (Tryz.prog.info? 223).map (fun i => (i.zero, i.size, i.bytes)) = some (some (.agg #[.int .i64 0, .bool false, .slice none 0 0]), 3, 40) := by kernel_rfl
theorem rowOp : ElemRow Tryz.prog 153 223 3 40 := ElemRow.mk' Tryz.underlying153 infoOp rfl (by decide)
theorem infoLv : (Tryz.prog.info? 190).map (fun i => (i.zero, i.size, i.bytes)) = some (some (.agg #[.bool false, .bool false]), 2, 2) := by kernel_rfl
theorem rowLv : ElemRow Tryz.prog 191 190 2 2 := ElemRow.mk' Tryz.underlying191 infoLv rfl (by decide)
theorem emit_call (w : World) (B b : Nat) (A : Option Addr) (n c : Nat) (s : List (BitVec 8)) (x : St) (kind : Int) (h : Pz w B b A n c s x) (hB : B ≤ w.heap.size) (hlen : x.ops.length ≤ 10000) :
  Calls Tryz.prog 167 #[.pointer (some ⟨b, 0, none⟩), .int .i64 kind] w fun e w' => e = .returned (.tuple #[]) ∧ Pz w' B b A n c s ⟨x.at_, x.ops ++ [one kind], x.inner, x.outer⟩ ∧ Fr B w w' := by
 obtain ⟨ov, iv, hp, ho, hl⟩ := h.st
 obtain ⟨us, h1, h2, h3⟩ := ho.row
 obtain ⟨Ao, co, rfl⟩ := own_form h1
 have q2 := Cel.cell hp 2
 have hlow := h.low
 have HBS := Lib.hid h.bs
 have HP := Lib.hid hp
 have HL := Lib.hid hl
 have H2 := Lib.hid h2
 have H3 := Lib.hid h3
 have hb5 := (Below.refl w.heap.size w).alloc (Nat.le_refl _) (.cells #[.int .i64 kind, .bool false, .slice none 0 0] 223)
 have HB5 := Lib.hid hb5
 have H5 := Lib.hid (World.ownsRow.alloc h1 (.cells #[.int .i64 kind, .bool false, .slice none 0 0] 223))
 have hsrc := Lib.hid (Ry.src (m := 1) (Ry.of_cel (Cel.new w 223 [.int .i64 kind, .bool false, .slice none 0 0])) (by simp))
 have hfl : oflat us ++ [.int .i64 kind, .bool false, .slice none 0 0] = oflat (us ++ [⟨one kind, none, 0⟩]) := (oflat_snoc us ⟨one kind, none, 0⟩).symm
 have HFL := Lib.hid hfl
 clear h hp hl ho h1 h2 h3 hb5 hfl
 generalize hln : x.ops.length = ln at *
 have HLN := Lib.hid hln
 clear hln
 go_enter Tryz.func167, Tryz.ntmps167
 go_wp2_with ((at_builtin; refine wpList_append_any _ rfl _ _ 153 rfl B 223 rowOp (.slice Ao ln co) ln (oflat us) rfl H5.out (some ⟨w.heap.size, 0, none⟩) 1 1 [.int .i64 kind, .bool false, .slice none 0 0] rfl rfl hsrc.out (by intro u hu; simp at hu; rcases hu with rfl | rfl | rfl <;> rfl) (ln + 1) (oflat (us ++ [⟨one kind, none, 0⟩])) rfl HFL.out (by unfold maxLen; omega) (by omega) (by simp; omega) ?_; intro A8 c8 w8 ho8 hg8 _; have hpd := Pz.pushed (u := ⟨one kind, none, 0⟩) HLN.out hlow HBS.out HP.out HL.out hB HB5.out H5.out H2.out H3.out Ry.nil_ ho8 hg8; have y2 := Cel.cell hpd.1 2; have g2 := Cel.free hpd.1 2; have HPD := Lib.hid hpd.2; clear hpd ho8 hg8))
 go_end0
 exact ⟨rfl, HPD.out⟩
theorem Fr.set {w : World} {B b k : Nat} {sv ov iv : Value} {hb hp : Bool} (h : Pc w b sv k ov hb hp iv) (hlow : B ≤ b) (hB : B ≤ w.heap.size) (i : Nat) (u : Value) : Fr B w (w.setCell ⟨b, i, none⟩ u) := Fr.of_frm ((Frm.refl [b] w).set (by simp) u) h hlow hB
theorem Fr.set2 {w : World} {B b k : Nat} {sv ov iv : Value} {hb hp : Bool} (h : Pc w b sv k ov hb hp iv) (hlow : B ≤ b) (hB : B ≤ w.heap.size) (u v : Value) : Fr B w ((w.setCell ⟨b, 3, none⟩ u).setCell ⟨b, 4, none⟩ v) := Fr.of_frm (((Frm.refl [b] w).set (by simp) u).set (by simp) v) h hlow hB
theorem endPiece_call (w : World) (B b : Nat) (A : Option Addr) (n c : Nat) (s : List (BitVec 8)) (x : St) (h : Pz w B b A n c s x) (hB : B ≤ w.heap.size) (hk : x.at_ ≤ n) (hn : n ≤ 100000) (hlen : x.ops.length ≤ 9000) :
  Calls Tryz.prog 166 #[.pointer (some ⟨b, 0, none⟩)] w fun e w' => e = .returned (.tuple #[]) ∧ Pz w' B b A n c s (pieceEnd s x) ∧ Fr B w w' := by
 obtain ⟨ov, iv, hp, hre⟩ := h.open_
 have con := repet_call w B b A n c x.at_ s ov x.inner.hb x.inner.hp iv hp h.bs h.low hk hn
 have hlow := h.low
 have hpe : pieceEnd s x = ⟨if repet s x.at_ = 0 then x.at_ else x.at_ + 1, x.ops ++ (if repet s x.at_ = 0 then [] else [one (repet s x.at_)]) ++ (if x.inner.hp then [one 3] else []), ⟨x.inner.hb, true⟩, x.outer⟩ := rfl
 generalize hr : repet s x.at_ = r at *
 have HPE := Lib.hid hpe
 have HP0 := Lib.hid hp
 have HRE := Lib.hid hre
 have HLEN := Lib.hid hlen
 clear h hp hpe hre hlen hr
 go_enter Tryz.func166, Tryz.ntmps166
 go_wp2_with fail
 refine con.mono ?_
 clear con
 rintro e w1 ⟨rfl, hw1⟩
 have hz1 := HRE.out w1 _ hw1
 have HZ1 := Lib.hid hz1
 have HB1 := Lib.hid (Fr.of_frm hw1.frm HP0.out hlow hB)
 have hs1 := HB1.out.size
 clear hw1 hz1
 by_cases h0 : r = 0
 case' pos =>
  subst h0
  rw [if_pos rfl, if_pos rfl, List.append_nil] at HPE
  rw [if_pos rfl] at HZ1
  obtain ⟨w2, ops2, k2, HZ2, HB2, HP2, hl2, hs2⟩ : ∃ w2 ops2 k2, Hid (Pz w2 B b A n c s ⟨k2, ops2, x.inner, x.outer⟩) ∧ Hid (Fr B w w2) ∧ Hid (pieceEnd s x = ⟨k2, ops2 ++ (if x.inner.hp then [one 3] else []), ⟨x.inner.hb, true⟩, x.outer⟩) ∧ Hid (ops2.length ≤ 9001) ∧ w2 = w1 := ⟨w1, x.ops, _, HZ1, HB1, HPE, Lib.hid (by have := HLEN.out; omega), rfl⟩
  subst hs2
 case' neg =>
  have d0 : (r != 0) = true := by rw [bne_iff_ne]; exact h0
  rw [if_neg h0, if_neg h0] at HPE
  rw [if_neg h0] at HZ1
  clear h0
  go_wp2_with fail
  refine (emit_call w1 B b A n c s _ r HZ1.out (by omega) (by have := HLEN.out; show x.ops.length ≤ _; omega)).mono ?_
  rintro e w2 ⟨rfl, hz2, hb2⟩
  have HZ2 := Lib.hid hz2
  have HB2 := Lib.hid (HB1.out.trans hb2)
  have HP2 := HPE
  have hl2 := Lib.hid (show (x.ops ++ [one r]).length ≤ 9001 by have := HLEN.out; simp; omega)
  dsimp only at HZ2
  generalize x.ops ++ [one r] = ops2 at *
  generalize x.at_ + 1 = k2 at *
  clear hz2 hb2
 all_goals
  obtain ⟨ov2, iv2, hp2, -⟩ := HZ2.out.open_
  have p4 := Cel.cell hp2 4
  have hs2 := HB2.out.size
  clear hp2
  try dsimp only at p4
  cases hhp : x.inner.hp <;> rw [hhp] at HP2 p4
  ·obtain ⟨ov3, iv3, hp3, hset⟩ := HZ2.out.set
   have HQ3 := Lib.hid hp3
   have q4 := Cel.cell hp3 4
   have f4 := Cel.free hp3 4
   have HS := Lib.hid (hset 4 (.bool true) k2 ⟨x.inner.hb, true⟩ rfl)
   clear hp3 hset hhp
   go_wp2_with fail
   go_end0
   rw [HP2.out]
   refine ⟨rfl, ?_, HB2.out.trans (Fr.set HQ3.out hlow (by omega) 4 _)⟩
   simpa using HS.out
  ·clear hhp
   go_wp2_with fail
   refine (emit_call w2 B b A n c s _ 3 HZ2.out (by omega) (by have := hl2.out; show ops2.length ≤ _; omega)).mono ?_
   rintro e w3 ⟨rfl, hz3, hb3⟩
   obtain ⟨ov3, iv3, hp3, hset⟩ := hz3.set
   have HQ3 := Lib.hid hp3
   have q4 := Cel.cell hp3 4
   have f4 := Cel.free hp3 4
   have HS := Lib.hid (hset 4 (.bool true) k2 ⟨x.inner.hb, true⟩ rfl)
   have HB3 := Lib.hid (HB2.out.trans hb3)
   clear hp3 hset hz3 hb3
   go_wp2_with fail
   go_end0
   rw [HP2.out]
   exact ⟨rfl, HS.out, HB3.out.trans (Fr.set HQ3.out hlow (by have := HB3.out.size; omega) 4 _)⟩
theorem Pz.level {w : World} {B b n c : Nat} {A : Option Addr} {s : List (BitVec 8)} {x : St} (h : Pz w B b A n c s x) (u v : Bool) : Pz ((w.setCell ⟨b, 3, none⟩ (.bool u)).setCell ⟨b, 4, none⟩ (.bool v)) B b A n c s ⟨x.at_, x.ops, ⟨u, v⟩, x.outer⟩ := by
 obtain ⟨ov, iv, hp, hset⟩ := h.set
 have h1 := hset 3 (.bool u) x.at_ ⟨u, x.inner.hp⟩ rfl
 obtain ⟨ov2, iv2, hp2, hset2⟩ := h1.set
 exact hset2 4 (.bool v) x.at_ ⟨u, v⟩ rfl
theorem set2_below (w : World) {B b : Nat} (hB : B ≤ b) (i j : Nat) (u v : Value) : Below B w ((w.setCell ⟨b, i, none⟩ u).setCell ⟨b, j, none⟩ v) := (set_below w hB i u).trans (set_below _ hB j v)
theorem endBranch_call (w : World) (B b : Nat) (A : Option Addr) (n c : Nat) (s : List (BitVec 8)) (x : St) (h : Pz w B b A n c s x) (hB : B ≤ w.heap.size) (hlen : x.ops.length ≤ 9000) :
  Calls Tryz.prog 157 #[.pointer (some ⟨b, 0, none⟩)] w fun e w' => e = .returned (.tuple #[]) ∧ Pz w' B b A n c s (branchEnd x) ∧ Fr B w w' := by
 obtain ⟨ov, iv, hp, -⟩ := h.open_
 have hlow := h.low
 have hpe : branchEnd x = ⟨x.at_, x.ops ++ (if x.inner.hp then [] else [one 2]) ++ (if x.inner.hb then [one 4] else []), ⟨true, false⟩, x.outer⟩ := rfl
 have p4 := Cel.cell hp 4
 have H := Lib.hid h
 have HPE := Lib.hid hpe
 have HLEN := Lib.hid hlen
 clear h hp hpe hlen
 try dsimp only at p4
 cases hhp : x.inner.hp <;> rw [hhp] at p4 HPE
 case' false =>
  go_enter Tryz.func157, Tryz.ntmps157
  go_wp2_with fail
  refine (emit_call w B b A n c s _ 2 H.out (by omega) (by have := HLEN.out; omega)).mono ?_
  rintro e w2 ⟨rfl, hz2, hb2⟩
  have HZ2 := Lib.hid hz2
  have HB2 := Lib.hid hb2
  have hl2 := Lib.hid (show (x.ops ++ [one 2]).length ≤ 9001 by have := HLEN.out; simp; omega)
  have HP2 : Hid (branchEnd x = ⟨x.at_, (x.ops ++ [one 2]) ++ (if x.inner.hb then [one 4] else []), ⟨true, false⟩, x.outer⟩) := Lib.hid (by simpa using HPE.out)
  generalize x.ops ++ [one 2] = ops2 at *
  clear hz2 hb2 hhp p4 HPE
 case' true =>
  obtain ⟨w2, ops2, HZ2, HB2, HP2, hl2, hs2⟩ : ∃ w2 ops2, Hid (Pz w2 B b A n c s ⟨x.at_, ops2, x.inner, x.outer⟩) ∧ Hid (Fr B w w2) ∧ Hid (branchEnd x = ⟨x.at_, ops2 ++ (if x.inner.hb then [one 4] else []), ⟨true, false⟩, x.outer⟩) ∧ Hid (ops2.length ≤ 9001) ∧ w2 = w := ⟨w, x.ops, Lib.hid H.out, Lib.hid (Fr.refl _ _), Lib.hid (by simpa using HPE.out), Lib.hid (by have := HLEN.out; omega), rfl⟩
  subst hs2
  clear hhp HPE
  go_enter Tryz.func157, Tryz.ntmps157
 all_goals
  obtain ⟨ov2, iv2, hp2, -⟩ := HZ2.out.open_
  have p3 := Cel.cell hp2 3
  have hs2 := HB2.out.size
  try dsimp only at p3
  cases hhb : x.inner.hb <;> rw [hhb] at HP2 p3
  ·obtain ⟨ov3, iv3, hp3, -⟩ := HZ2.out.set
   have HQ3 := Lib.hid hp3
   have q3 := Cel.cell hp3 3
   have f3 := Cel.free hp3 3
   have q4 := Cel.cell hp3 4
   have f4 := Cel.free hp3 4
   have HS := Lib.hid (HZ2.out.level true false)
   clear hp2 hp3 hhb
   go_wp2_with fail
   go_end0
   rw [HP2.out]
   refine ⟨rfl, ?_, HB2.out.trans (Fr.set2 HQ3.out hlow (by omega) _ _)⟩
   simpa using HS.out
  ·clear hhb hp2
   go_wp2_with fail
   refine (emit_call w2 B b A n c s _ 4 HZ2.out (by omega) (by have := hl2.out; show ops2.length ≤ _; omega)).mono ?_
   rintro e w3 ⟨rfl, hz3, hb3⟩
   obtain ⟨ov3, iv3, hp3, -⟩ := hz3.set
   have HQ3 := Lib.hid hp3
   have q3 := Cel.cell hp3 3
   have f3 := Cel.free hp3 3
   have q4 := Cel.cell hp3 4
   have f4 := Cel.free hp3 4
   have HS := Lib.hid (hz3.level true false)
   have HB3 := Lib.hid (HB2.out.trans hb3)
   clear hp3 hz3 hb3
   go_wp2_with fail
   go_end0
   rw [HP2.out]
   exact ⟨rfl, HS.out, HB3.out.trans (Fr.set2 HQ3.out hlow (by have := HB3.out.size; omega) _ _)⟩
end Go.Proofs.YteohlpmojfjjdaaGreat.Reg
end
section
namespace Go.Proofs.YteohlpmojfjjdaaGreat
open Go.RowKit
section
variable {P : Program}
theorem run_cutTo (w : World) {t e : TypeId} {size : Nat} (ht : P.underlying t = some (.slice e)) (hs : (P.info? e).map (·.size) = some size) (A : Option Addr) (n c k : Nat) (q : IntKind) (hk : k ≤ c) :
  (Instr.sliceAt t (.slice A n c) none (some (.int q k)) none).run P w = .ok (.slice A k c) w := by
 have he : P.elem t = e := by unfold Program.elem; rw [ht]
 have ht' : P.underlying t = some (.slice (P.elem t)) := by rw [he]; exact ht
 rw [run_sliceAt_slice w t _ _ _ _ ht', run_slice_h w t A n c ht' q k (by omega) (by omega)]
 have hso : (sizeOf (P.elem t)).run P w = .ok size w := by
  rw [he]
  cases hq : P.info? e with
  | none => rw [hq] at hs; cases hs
  | some i => rw [hq] at hs; simp at hs; simp [sizeOf, typeInfo, hq, hs]
 rw [hso]
 simp only [Result.andThen, sliced, Int.toNat_natCast, Nat.zero_mul, Nat.sub_zero]
 congr 2
 split
 ·rfl
 ·cases A with
  | none => rfl
  | some ad => simp [Addr.add]
theorem run_cutFrom (w : World) {t e : TypeId} {size : Nat} (ht : P.underlying t = some (.slice e)) (hs : (P.info? e).map (·.size) = some size) (A : Option Addr) (n c k : Nat) (q : IntKind) (hk : k ≤ n) :
  (Instr.sliceAt t (.slice A n c) (some (.int q k)) none none).run P w = .ok (.slice (if c = k then A else A.map (·.add (k * size))) (n - k) (c - k)) w := by
 have he : P.elem t = e := by unfold Program.elem; rw [ht]
 have ht' : P.underlying t = some (.slice (P.elem t)) := by rw [he]; exact ht
 rw [run_sliceAt_slice w t _ _ _ _ ht', run_slice_l w t A n c ht' q k (by omega) (by omega)]
 have hso : (sizeOf (P.elem t)).run P w = .ok size w := by
  rw [he]
  cases hq : P.info? e with
  | none => rw [hq] at hs; cases hs
  | some i => rw [hq] at hs; simp at hs; simp [sizeOf, typeInfo, hq, hs]
 rw [hso]
 simp only [Result.andThen, sliced, Int.toNat_natCast]
theorem yieldsIf_slice {ops : Array Oper} {S : World → Prop} {op : Oper} {a : Act} (hw : Region.wanted op (yielded ops a.tmps) = true) (t : TypeId) (x : Operand) (lo hi mx : Option Operand) (ho : op.op = .slice t x lo hi mx) (v : Value)
  (h : ∀ w, (Instr.sliceAt t (a.eval x) (lo.map a.eval) (hi.map a.eval) (mx.map a.eval)).run P w = .ok v w) : YieldsIf P ops S op v a :=
 .inl ⟨hw, fun w _ => by
  unfold execOp
  simp only [ho, Sem.run_bind, Sem.run_pure, Result.andThen_ok, h w]⟩
theorem wpList_slice {ops : Array Oper} {rest : List Oper} {o : Oper} {a : Act} {w : World} {Q : Exit → Act → World → Prop} (hgd : o.guard = none) (t : TypeId) (x : Operand) (lo hi mx : Option Operand) (ho : o.op = .slice t x lo hi mx) (v : Value)
  (h : (Instr.sliceAt t (a.eval x) (lo.map a.eval) (hi.map a.eval) (mx.map a.eval)).run P w = .ok v w) (hK : wpList P ops Q rest (a.put o.dst v) w) : wpList P ops Q (o :: rest) a w :=
 wpList_plain hgd fun K hk => by
  unfold Oper.wp execOp
  simp only [ho, Sem.run_bind, Sem.run_pure, Result.andThen_ok, h]
  exact hk _ _ hK
end
end Go.Proofs.YteohlpmojfjjdaaGreat
end
