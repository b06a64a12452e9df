/-
  The program's parser of patterns in memory (layer 8): its ops, its pile of levels; what an append to them comes to.
-/
import Derived.Test.YtjpbndpfbdfhjaaMRegAtom
namespace Go.Proofs.Ytjpbndpfbdfhjaa.Reg
open Go.RowKit
set_option linter.unusedVariables false
set_option linter.unusedSimpArgs false

/-- An op, and where its spans lie. -/
structure Ov where
  o : Rop
  A : Option Addr
  c : Nat
def Ov.cells (u : Ov) : List Value := [.int .i64 u.o.kind, .bool u.o.neg, .slice u.A u.o.sp.length u.c]
def oflat (us : List Ov) : List Value := us.flatMap Ov.cells
theorem oflat_snoc (us : List Ov) (u : Ov) : oflat (us ++ [u]) = oflat us ++ u.cells := by rw [oflat, List.flatMap_append]; simp [oflat]
def lflat (L : List Lv) : List Value := L.flatMap fun l => [.bool l.hb, .bool l.hp]
theorem lflat_snoc (L : List Lv) (l : Lv) : lflat (L ++ [l]) = lflat L ++ [.bool l.hb, .bool l.hp] := by rw [lflat, List.flatMap_append]; rfl
theorem lflat_length (L : List Lv) : (lflat L).length = L.length * 2 := by
  induction L with
  | nil => rfl
  | cons x l ih => rw [lflat, List.flatMap_cons, List.length_append, show (l.flatMap fun l => [Value.bool l.hb, .bool l.hp]) = lflat l from rfl, ih]; show 2 + l.length * 2 = (l.length + 1) * 2; omega

/-- The program's ops, in an own row. -/
structure Ows (w : World) (B : Nat) (v : Value) (ops : List Rop) : Prop where
  row : ∃ us : List Ov, w.ownsRow B 122 3 v ops.length (oflat us) ∧ us.map (·.o) = ops ∧ ∀ u ∈ us, Spn w u.A u.o.sp
/-- The program's pile of levels, in an own row. -/
def Lws (w : World) (B : Nat) (v : Value) (L : List Lv) : Prop := w.ownsRow B 93 2 v L.length (lflat L.reverse)
/-- The parser at block b has read as far as x. -/
structure Pz (w : World) (B b : Nat) (A : Option Addr) (n c : Nat) (s : List (BitVec 8)) (x : St) : Prop where
  low : B ≤ b
  bs : Bs w B A n s
  st : ∃ ov iv, Pc w b (.slice A n c) x.at_ ov x.inner.hb x.inner.hp iv ∧ Ows w B ov x.ops ∧ Lws w B iv x.outer

/-- What the parser's calls that only add ops leave: what lies below B, and each block that is no parser's and no op's. -/
structure Fr (B : Nat) (w w' : World) : Prop where
  low : Below B w w'
  keep : ∀ (k : Nat) o t fz, w.heap[k]? = some (Obj.cells o t fz) → t ≠ 98 → t ≠ 122 → w'.heap[k]? = w.heap[k]?
theorem Fr.refl (B : Nat) (w : World) : Fr B w w := ⟨Below.refl _ _, fun _ _ _ _ _ _ _ => rfl⟩
theorem Fr.trans {B : Nat} {w w1 w2 : World} (h : Fr B w w1) (h2 : Fr B w1 w2) : Fr B w w2 := ⟨h.low.trans h2.low, fun k o t fz hk h1 h36 => by
  have e := h.keep k o t fz hk h1 h36
  rw [h2.keep k o t fz (e.trans hk) h1 h36, e]⟩
theorem Fr.size {B : Nat} {w w' : World} (h : Fr B w w') : w.heap.size ≤ w'.heap.size := h.low.size
theorem Fr.of_below {B : Nat} {w w' : World} (h : Below w.heap.size w w') (hB : B ≤ w.heap.size) : Fr B w w' := ⟨h.mono hB, fun k _ _ _ hk _ _ => h.block k (Array.getElem?_eq_some_iff.1 hk).1⟩
theorem Fr.of_frm {B b k : Nat} {w w' : World} {sv ov iv : Value} {hb hp : Bool} (h : Frm [b] w w') (hp : Pc w b sv k ov hb hp iv) (hB : B ≤ b) (hw : B ≤ w.heap.size) : Fr B w w' :=
  ⟨h.below hw (by simp; omega), fun g o t fz hg h1 _ => h.block g (Array.getElem?_eq_some_iff.1 hg).1 fun hm => by
    rw [List.mem_singleton.1 hm] at hg
    exact Cel.not_ty hp (fun e => h1 e.symm) o fz hg⟩
theorem Fr.cel {B : Nat} {w w' : World} (h : Fr B w w') {g : Nat} {t : TypeId} {cs : List Value} (hc : Cel w g t cs) (h1 : t ≠ 98) (h2 : t ≠ 122) : Cel w' g t cs := (h.keep g _ t _ hc h1 h2).trans hc

section
variable {w w1 w2 : World} {B b n c : Nat} {A : Option Addr} {s : List (BitVec 8)} {x : St} {v : Value} {ops : List Rop} {L : List Lv}
theorem Ows.frm {l : List Nat} (h : Ows w B v ops) (hf : Frm l w w1) (hl : ∀ k ∈ l, ∃ t cs, Cel w k t cs ∧ t ≠ 122 ∧ t ≠ 71) : Ows w1 B v ops := by
  obtain ⟨us, h1, h2, h3⟩ := h.row
  refine ⟨us, own_frm h1 hf fun g hg => ?_, h2, fun u hu => Ry.frm (h3 u hu) hf fun k hk => ?_⟩
  · obtain ⟨t, cs, hc, ht, _⟩ := hl g hg
    exact own_ty_ne h1 hc (Ne.symm ht)
  · obtain ⟨t, cs, hc, _, ht⟩ := hl k hk
    exact hc.not_ty ht
theorem Lws.frm {l : List Nat} (h : Lws w B v L) (hf : Frm l w w1) (hl : ∀ k ∈ l, ∃ t cs, Cel w k t cs ∧ t ≠ 93) : Lws w1 B v L :=
  own_frm h hf fun g hg => by
    obtain ⟨t, cs, hc, ht⟩ := hl g hg
    exact own_ty_ne h hc (Ne.symm ht)
theorem Ows.below (h : Ows w B v ops) (hb : Below w.heap.size w w1) : Ows w1 B v ops := h.frm (l := []) (Frm.of_below hb) (by simp)
theorem Lws.below (h : Lws w B v L) (hb : Below w.heap.size w w1) : Lws w1 B v L := Lws.frm (l := []) h (Frm.of_below hb) (by simp)
/-- The parser's block, and what reading on leaves. -/
theorem Pz.open_ (h : Pz w B b A n c s x) : ∃ ov iv, Pc w b (.slice A n c) x.at_ ov x.inner.hb x.inner.hp iv ∧ ∀ w1 k, At w w1 b (.slice A n c) k ov x.inner.hb x.inner.hp iv → Pz w1 B b A n c s ⟨k, x.ops, x.inner, x.outer⟩ := by
  obtain ⟨ov, iv, hp, ho, hl⟩ := h.st
  refine ⟨ov, iv, hp, fun w1 k this => ?_⟩
  have hb : ∀ k ∈ [b], ∃ t cs, Cel w k t cs ∧ t ≠ 122 ∧ t ≠ 71 := fun k hk => by
    rw [List.mem_singleton.1 hk]; exact ⟨_, _, hp, by decide, by decide⟩
  have hb2 : ∀ k ∈ [b], ∃ t cs, Cel w k t cs ∧ t ≠ 93 := fun k hk => by
    rw [List.mem_singleton.1 hk]; exact ⟨_, _, hp, by decide⟩
  exact ⟨h.low, this.bs h.bs h.low hp.lt, ov, iv, this.pc, ho.frm this.frm hb, Lws.frm hl this.frm hb2⟩
theorem At.low {w w1 : World} {B b k : Nat} {sv ov iv : Value} {hb hp : Bool} (h : At w w1 b sv k ov hb hp iv) (hB : B ≤ w.heap.size) (hlow : B ≤ b) : Below B w w1 := h.frm.below hB (by simp; omega)
theorem Pz.below (h : Pz w B b A n c s x) (hb : Below w.heap.size w w1) (hB : B ≤ w.heap.size) : Pz w1 B b A n c s x := by
  obtain ⟨ov, iv, hp, ho, hl⟩ := h.st
  exact ⟨h.low, h.bs.below (hb.mono hB), ov, iv, Cel.below hp hb hp.lt, ho.below hb, Lws.below hl hb⟩
theorem Pz.lt (h : Pz w B b A n c s x) : b < w.heap.size := by
  obtain ⟨ov, iv, hp, _⟩ := h.st
  exact hp.lt
theorem set_below (w : World) {B b : Nat} (hB : B ≤ b) (i : Nat) (u : Value) : Below B w (w.setCell ⟨b, i, none⟩ u) := ⟨rfl, rfl, rfl, by simp [World.setCell], fun k hk => Below.heap_setCell _ _ _ _ (by simp; omega)⟩
/-- A cell of the parser that is written. -/
theorem Pz.set (h : Pz w B b A n c s x) : ∃ ov iv, Pc w b (.slice A n c) x.at_ ov x.inner.hb x.inner.hp iv ∧ ∀ (i : Nat) (u : Value) (k : Nat) (lv : Lv), [Value.slice A n c, .int .i64 (x.at_ : Int), ov, .bool x.inner.hb, .bool x.inner.hp, iv].set i u = [Value.slice A n c, .int .i64 (k : Int), ov, .bool lv.hb, .bool lv.hp, iv] → Pz (w.setCell ⟨b, i, none⟩ u) B b A n c s ⟨k, x.ops, lv, x.outer⟩ := by
  obtain ⟨ov, iv, hp, ho, hl⟩ := h.st
  refine ⟨ov, iv, hp, fun i u k lv e => ?_⟩
  have hf : Frm [b] w (w.setCell ⟨b, i, none⟩ u) := (Frm.refl [b] w).set (by simp) _
  have hb : ∀ k ∈ [b], ∃ t cs, Cel w k t cs ∧ t ≠ 122 ∧ t ≠ 71 := fun k hk => by
    rw [List.mem_singleton.1 hk]; exact ⟨_, _, hp, by decide, by decide⟩
  have hb2 : ∀ k ∈ [b], ∃ t cs, Cel w k t cs ∧ t ≠ 93 := fun k hk => by
    rw [List.mem_singleton.1 hk]; exact ⟨_, _, hp, by decide⟩
  refine ⟨h.low, h.bs.below (set_below w h.low i u), ov, iv, ?_, ho.frm hf hb, Lws.frm hl hf hb2⟩
  have := Cel.set hp i u
  rw [e] at this
  exact this
/-- What an append to the ops leaves. -/
theorem Fr.pushed {w5 w8 : World} {ov v' : Value} {us : List Value} {ln k : Nat} {sv iv : Value} {hb hp : Bool} (hlow : B ≤ b) (hB : B ≤ w.heap.size) (h5 : Below w.heap.size w w5) (h1 : w5.ownsRow B 122 3 ov ln us) (hg : w5.grownBy w8 ov.ownBlock) (hp8 : Pc w8 b sv k ov hb hp iv) : Fr B w (w8.setCell ⟨b, 2, none⟩ v') := by
  have hs5 := h5.size
  have h58 : Fr B w5 w8 := ⟨⟨hg.os, hg.tape, hg.output, hg.size, fun k hk => hg.block k (by omega) fun e => by have := own_ge h1 k e.symm; omega⟩, fun k o t fz hk _ h36 => hg.block k (Array.getElem?_eq_some_iff.1 hk).1 fun e => own_not_ty h1 (fun q => h36 q.symm) k o fz e.symm hk⟩
  exact ((Fr.of_below h5 hB).trans h58).trans (Fr.of_frm ((Frm.refl [b] w8).set (p := ⟨b, 2, none⟩) (by simp) v') hp8 hlow (by have := hg.size; omega))
/-- An op was appended to the ops, and the row's slice stored: w5, where the memory was made; w8, behind the append. -/
theorem Pz.pushed {w5 w8 : World} {ov iv v' : Value} {u : Ov} {us : List Ov} {ln : Nat} (hln : x.ops.length = ln) (hlow : B ≤ b) (hbs : Bs w B A n s) (hp : Pc w b (.slice A n c) x.at_ ov x.inner.hb x.inner.hp iv) (hl : Lws w B iv x.outer) (hB : B ≤ w.heap.size)
    (h5 : Below w.heap.size w w5) (h1 : w5.ownsRow B 122 3 ov ln (oflat us)) (h2 : us.map (·.o) = x.ops) (h3 : ∀ u ∈ us, Spn w u.A u.o.sp) (hu : Spn w5 u.A u.o.sp)
    (h8 : w8.ownsRow B 122 3 v' (ln + 1) (oflat (us ++ [u]))) (hg : w5.grownBy w8 ov.ownBlock) :
    Pc w8 b (.slice A n c) x.at_ ov x.inner.hb x.inner.hp iv ∧ Pz (w8.setCell ⟨b, 2, none⟩ v') B b A n c s ⟨x.at_, x.ops ++ [u.o], x.inner, x.outer⟩ ∧ Fr B w (w8.setCell ⟨b, 2, none⟩ v') := by
  subst hln
  have hp5 : Pc w5 b (.slice A n c) x.at_ ov x.inner.hb x.inner.hp iv := Cel.below hp h5 hp.lt
  have hl5 := Lws.below hl h5
  have hp8 : Pc w8 b (.slice A n c) x.at_ ov x.inner.hb x.inner.hp iv := Cel.grown hp5 hg (own_ty_ne h1 hp5 (by decide))
  have hs5 := h5.size
  have hb8 : Below B w w8 := ((h5.mono hB).trans ⟨hg.os, hg.tape, hg.output, hg.size, fun k hk => hg.block k (by omega) fun e => by have := own_ge h1 k e.symm; omega⟩)
  have hb9 : Below B w (w8.setCell ⟨b, 2, none⟩ v') := hb8.trans (set_below w8 hlow 2 v')
  have hf : Frm [b] w8 (w8.setCell ⟨b, 2, none⟩ v') := (Frm.refl [b] w8).set (by simp) _
  refine ⟨hp8, ⟨hlow, hbs.below hb9, v', iv, Cel.set hp8 2 v', ⟨us ++ [u], ?_, ?_, ?_⟩, ?_⟩, ?_⟩
  · have q : (x.ops ++ [u.o]).length = x.ops.length + 1 := by simp
    show World.ownsRow _ _ _ _ _ (x.ops ++ [u.o]).length _
    rw [q]
    exact own_frm h8 hf fun g hg' => by rw [List.mem_singleton.1 hg']; exact own_ty_ne h8 hp8 (by decide)
  · show (us ++ [u]).map _ = x.ops ++ [u.o]
    rw [List.map_append, h2]; rfl
  · intro y hy
    have h5y : Spn w5 y.A y.o.sp := by
      rcases List.mem_append.1 hy with hy | hy
      · exact Ry.below (h3 y hy) h5
      · rw [List.mem_singleton.1 hy]; exact hu
    exact Ry.set (Ry.grown h5y hg (own_not_ty h1 (by decide))) (hp8.not_ty (by decide)) v'
  · show Lws _ B iv x.outer
    refine Lws.frm (own_frm (l := ov.ownBlock.toList) hl5 ((Frm.refl _ _).grown hg (fun g e _ => by rw [e]; simp)) fun g hg' e => ?_) hf fun k hk => by
      rw [List.mem_singleton.1 hk]; exact ⟨_, _, hp8, by decide⟩
    have e2 : ov.ownBlock = some g := by simpa using hg'
    rcases h1.2 with ⟨rfl, _⟩ | ⟨g1, cap, cur, rfl, _, hg1, _⟩
    · simp [Value.ownBlock] at e2
    · obtain rfl : g1 = g := by simpa [Value.ownBlock] using e2
      exact own_not_ty hl5 (t' := 122) (by decide) _ _ _ e hg1
  · exact Fr.pushed hlow hB h5 h1 hg hp8
/-- A level was appended to the pile, and the row's slice stored. -/
theorem Pz.lpushed {w5 w8 : World} {ov iv v' : Value} {l : Lv} {ln : Nat} (hln : x.outer.length = ln) (hlow : B ≤ b) (hbs : Bs w B A n s) (hp : Pc w b (.slice A n c) x.at_ ov x.inner.hb x.inner.hp iv) (ho : Ows w B ov x.ops) (hB : B ≤ w.heap.size)
    (h5 : Below w.heap.size w w5) (h1 : w5.ownsRow B 93 2 iv ln (lflat x.outer.reverse))
    (h8 : w8.ownsRow B 93 2 v' (ln + 1) (lflat x.outer.reverse ++ [.bool l.hb, .bool l.hp])) (hg : w5.grownBy w8 iv.ownBlock) :
    Pc w8 b (.slice A n c) x.at_ ov x.inner.hb x.inner.hp iv ∧ Pz (w8.setCell ⟨b, 5, none⟩ v') B b A n c s ⟨x.at_, x.ops, x.inner, l :: x.outer⟩ ∧ Below B w (w8.setCell ⟨b, 5, none⟩ v') := by
  subst hln
  have hp5 : Pc w5 b (.slice A n c) x.at_ ov x.inner.hb x.inner.hp iv := Cel.below hp h5 hp.lt
  have ho5 := ho.below h5
  have hp8 : Pc w8 b (.slice A n c) x.at_ ov x.inner.hb x.inner.hp iv := Cel.grown hp5 hg (own_ty_ne h1 hp5 (by decide))
  have hs5 := h5.size
  have hb8 : Below B w w8 := ((h5.mono hB).trans ⟨hg.os, hg.tape, hg.output, hg.size, fun k hk => hg.block k (by omega) fun e => by have := own_ge h1 k e.symm; omega⟩)
  have hb9 : Below B w (w8.setCell ⟨b, 5, none⟩ v') := hb8.trans (set_below w8 hlow 5 v')
  have hf : Frm [b] w8 (w8.setCell ⟨b, 5, none⟩ v') := (Frm.refl [b] w8).set (by simp) _
  obtain ⟨us, q1, q2, q3⟩ := ho5.row
  refine ⟨hp8, ⟨hlow, hbs.below hb9, ov, v', Cel.set hp8 5 v', ⟨us, ?_, q2, ?_⟩, ?_⟩, hb9⟩
  · refine own_frm (own_frm (l := iv.ownBlock.toList) q1 ((Frm.refl _ _).grown hg (fun g e _ => by rw [e]; simp)) fun g hg' e => ?_) hf fun k hk => by
      rw [List.mem_singleton.1 hk]
      refine own_ty_ne (own_frm (l := iv.ownBlock.toList) q1 ((Frm.refl _ _).grown hg (fun g e _ => by rw [e]; simp)) fun g hg' e => ?_) hp8 (by decide)
      exact own_two h1 q1 (by decide) g (by simpa using hg') e
    exact own_two h1 q1 (by decide) g (by simpa using hg') e
  · intro y hy
    exact Ry.set (Ry.grown (q3 y hy) hg (own_not_ty h1 (by decide))) (hp8.not_ty (by decide)) v'
  · show World.ownsRow _ _ _ _ _ (l :: x.outer).length (lflat (l :: x.outer).reverse)
    rw [List.reverse_cons, lflat_snoc]
    exact own_frm h8 hf fun g hg' => by rw [List.mem_singleton.1 hg']; exact own_ty_ne h8 hp8 (by decide)
end
end Go.Proofs.Ytjpbndpfbdfhjaa.Reg
