/-
  The program's sequences of instructions in memory (layer 9): the state, insert, emit, pushEmpty, last, join.
  The program's sequences in memory (layer 9): insert and emit, pushEmpty, last, join.
  What the program's makers do (layer 9): set, none, cat, alt, star, plus, opt.
-/
import Derived.Test.YtjpbndpfbdfhjaaMNfaLow
import Derived.Test.YtjpbndpfbdfhjaaMNfaInsert
section
namespace Go.Proofs.Ytjpbndpfbdfhjaa.Nfa
open Go.RowKit Go.Proofs.Ytjpbndpfbdfhjaa.Ord
open Go.Proofs.Ytjpbndpfbdfhjaa.Reg (Sp sflat)
set_option linter.unusedVariables false
set_option linter.unusedSimpArgs false

/-- What the calls write: new blocks, and those that are the sequences', instructions' or numbers'. -/
structure Wr (w w' : World) : Prop where
  size : w.heap.size ≤ w'.heap.size
  keep : ∀ k, k < w.heap.size → (∀ o t fz, w.heap[k]? = some (Obj.cells o t fz) → t ≠ 103 ∧ t ≠ 39 ∧ t ≠ 3) → w'.heap[k]? = w.heap[k]?
theorem Wr.refl (w : World) : Wr w w := ⟨Nat.le_refl _, fun _ _ _ => rfl⟩
theorem Wr.trans {w w1 w2 : World} (h : Wr w w1) (h2 : Wr w1 w2) : Wr w w2 := ⟨Nat.le_trans h.size h2.size, fun k hk ht => by
  have e := h.keep k hk ht
  rw [h2.keep k (Nat.lt_of_lt_of_le hk h.size) (by rw [e]; exact ht), e]⟩
theorem Wr.of_below {w w' : World} (h : Below w.heap.size w w') : Wr w w' := ⟨h.size, fun k hk _ => h.block k hk⟩
theorem Wr.of_grown {w w' : World} {B n size : Nat} {t : TypeId} {v : Value} {cs : List Value} (ho : w.ownsRow B t size v n cs) (ht : t = 39 ∨ t = 3) (hg : w.grownBy w' v.ownBlock) : Wr w w' := ⟨hg.size, fun k hk h => hg.block k hk fun e => by
  rcases ho.2 with ⟨rfl, _⟩ | ⟨g, cap, cur, rfl, _, hc, _⟩
  · simp [Value.ownBlock] at e
  · obtain rfl : k = g := by simpa [Value.ownBlock] using e
    have := h _ _ _ hc
    rcases ht with rfl | rfl
    · exact this.2.1 rfl
    · exact this.2.2 rfl⟩
theorem Wr.of_set {w : World} {s : Nat} {cs : List Value} (h : Cel w s 103 cs) (i : Nat) (u : Value) : Wr w (w.setCell ⟨s, i, none⟩ u) := ⟨by simp [World.setCell], fun k hk ht => Below.heap_setCell _ _ _ _ (fun e => by
  obtain rfl : k = s := e
  exact (ht _ _ _ h).1 rfl)⟩
def goI (b : Nat) : Value := .int .i64 (b : Int)
theorem goI_one (l : List Nat) : ∀ u ∈ l.map goI, u.oneCell' = true := by
  intro u hu
  obtain ⟨b, _, rfl⟩ := List.mem_map.1 hu
  rfl
theorem infoInt : (Try.prog.info? 3).map (fun i => (i.zero, i.size, i.bytes)) = some (some (.int .i64 0), 1, 8) := by kernel_rfl
theorem rowInt : ElemRow Try.prog 101 3 1 8 := ElemRow.mk' Try.underlying101 infoInt rfl (by decide)

/-- The memory of a state: the block s, the row of code, the row of beginnings. -/
structure Sm (w0 w : World) (s : Nat) (Ac : Option Addr) (cc : Nat) (Ab : Option Addr) (cb n m : Nat) (big : Bool) (us : List Iv) (bs : List Nat) : Prop where
  low : Below w0.heap.size w0 w
  ge : w0.heap.size ≤ s
  cel : Cel w s 103 [.slice Ac n cc, .slice Ab m cb, .bool big]
  code : w.ownsRow w0.heap.size 39 5 (.slice Ac n cc) n (iflat us)
  begs : w.ownsRow w0.heap.size 3 1 (.slice Ab m cb) m (bs.reverse.map goI)
/-- The sequences at block s are q; w0: the world at the start. -/
structure Sq (w0 w : World) (s : Nat) (q : Lw) : Prop where
  ok : Ok q
  ex : ∃ Ac cc Ab cb us, us.map (·.i) = q.code ∧ (∀ u ∈ us, Cz w0 u.A (sflat u.i.sp)) ∧ Sm w0 w s Ac cc Ab cb q.code.length q.bs.length q.big us q.bs
section
variable {w0 w w' w1 w2 : World} {s cc cb n m : Nat} {Ac Ab : Option Addr} {big : Bool} {us : List Iv} {bs : List Nat} {q : Lw}
theorem Sm.below (h : Sm w0 w s Ac cc Ab cb n m big us bs) (hb : Below w.heap.size w w') : Sm w0 w' s Ac cc Ab cb n m big us bs :=
  ⟨h.low.trans (hb.mono h.low.size), h.ge, Cel.below h.cel hb h.cel.lt, own_frm (l := []) h.code (Frm.of_below hb) (by simp), own_frm (l := []) h.begs (Frm.of_below hb) (by simp)⟩
theorem Sm.lt (h : Sm w0 w s Ac cc Ab cb n m big us bs) : s < w.heap.size := h.cel.lt
theorem Sq.below (h : Sq w0 w s q) (hb : Below w.heap.size w w') : Sq w0 w' s q := by
  obtain ⟨Ac, cc, Ab, cb, us, h1, h2, h3⟩ := h.ex
  exact ⟨h.ok, Ac, cc, Ab, cb, us, h1, h2, h3.below hb⟩
theorem Sq.low (h : Sq w0 w s q) : Below w0.heap.size w0 w := by
  obtain ⟨Ac, cc, Ab, cb, us, h1, h2, h3⟩ := h.ex
  exact h3.low
/-- The code's row has turned (w1, ahead of it; w2, behind), and is stored. -/
theorem Sm.recode {A' : Option Addr} {c' n' : Nat} {vs : List Iv} (h : Sm w0 w1 s Ac cc Ab cb n m big us bs) (hg : w1.grownBy w2 (Value.slice Ac n cc).ownBlock) (ho : w2.ownsRow w0.heap.size 39 5 (.slice A' n' c') n' (iflat vs)) :
    Cel w2 s 103 [.slice Ac n cc, .slice Ab m cb, .bool big] ∧ Sm w0 (w2.setCell ⟨s, 0, none⟩ (.slice A' n' c')) s A' c' Ab cb n' m big vs bs ∧ Wr w1 (w2.setCell ⟨s, 0, none⟩ (.slice A' n' c')) := by
  have hc : Cel w2 s 103 [.slice Ac n cc, .slice Ab m cb, .bool big] := h.cel.grown hg (own_ty_ne h.code h.cel (by decide))
  have hf : Frm [s] w2 (w2.setCell ⟨s, 0, none⟩ (.slice A' n' c')) := (Frm.refl [s] w2).set (by simp) _
  have hb2 : w2.ownsRow w0.heap.size 3 1 (.slice Ab m cb) m (bs.reverse.map goI) := own_frm (l := (Value.slice Ac n cc).ownBlock.toList) h.begs ((Frm.refl _ _).grown hg (fun g e _ => by rw [e]; simp)) fun g hg' e => by
    exact own_two h.begs h.code (by decide) g e (by simpa using hg')
  refine ⟨hc, ⟨?_, h.ge, Cel.set hc 0 _, own_frm ho hf fun g hg' => ?_, own_frm hb2 hf fun g hg' => ?_⟩, (Wr.of_grown h.code (.inl rfl) hg).trans (Wr.of_set hc 0 _)⟩
  · have h12 : Below w0.heap.size w1 w2 := ⟨hg.os, hg.tape, hg.output, hg.size, fun k hk => hg.block k (Nat.lt_of_lt_of_le hk h.low.size) fun e => by have := own_ge h.code k e.symm; omega⟩
    exact (h.low.trans h12).trans (hf.below (Nat.le_trans h.low.size hg.size) (by have := h.ge; simp; omega))
  · rw [List.mem_singleton.1 hg']; exact own_ty_ne ho hc (by decide)
  · rw [List.mem_singleton.1 hg']; exact own_ty_ne hb2 hc (by decide)
/-- The row of beginnings has turned, and is stored. -/
theorem Sm.rebegs {A' : Option Addr} {c' n' : Nat} {bs' : List Nat} (h : Sm w0 w1 s Ac cc Ab cb n m big us bs) (hg : w1.grownBy w2 (Value.slice Ab m cb).ownBlock) (ho : w2.ownsRow w0.heap.size 3 1 (.slice A' n' c') n' (bs'.reverse.map goI)) :
    Cel w2 s 103 [.slice Ac n cc, .slice Ab m cb, .bool big] ∧ Sm w0 (w2.setCell ⟨s, 1, none⟩ (.slice A' n' c')) s Ac cc A' c' n n' big us bs' ∧ Wr w1 (w2.setCell ⟨s, 1, none⟩ (.slice A' n' c')) := by
  have hc : Cel w2 s 103 [.slice Ac n cc, .slice Ab m cb, .bool big] := h.cel.grown hg (own_ty_ne h.begs h.cel (by decide))
  have hf : Frm [s] w2 (w2.setCell ⟨s, 1, none⟩ (.slice A' n' c')) := (Frm.refl [s] w2).set (by simp) _
  have hb2 : w2.ownsRow w0.heap.size 39 5 (.slice Ac n cc) n (iflat us) := own_frm (l := (Value.slice Ab m cb).ownBlock.toList) h.code ((Frm.refl _ _).grown hg (fun g e _ => by rw [e]; simp)) fun g hg' e => by
    exact own_two h.code h.begs (by decide) g e (by simpa using hg')
  refine ⟨hc, ⟨?_, h.ge, Cel.set hc 1 _, own_frm hb2 hf fun g hg' => ?_, own_frm ho hf fun g hg' => ?_⟩, (Wr.of_grown h.begs (.inr rfl) hg).trans (Wr.of_set hc 1 _)⟩
  · have h12 : Below w0.heap.size w1 w2 := ⟨hg.os, hg.tape, hg.output, hg.size, fun k hk => hg.block k (Nat.lt_of_lt_of_le hk h.low.size) fun e => by have := own_ge h.begs k e.symm; omega⟩
    exact (h.low.trans h12).trans (hf.below (Nat.le_trans h.low.size hg.size) (by have := h.ge; simp; omega))
  · rw [List.mem_singleton.1 hg']; exact own_ty_ne hb2 hc (by decide)
  · rw [List.mem_singleton.1 hg']; exact own_ty_ne ho hc (by decide)
/-- The mark is set. -/
theorem Sm.mark (h : Sm w0 w s Ac cc Ab cb n m big us bs) : Sm w0 (w.setCell ⟨s, 2, none⟩ (.bool true)) s Ac cc Ab cb n m true us bs ∧ Wr w (w.setCell ⟨s, 2, none⟩ (.bool true)) := by
  have hf : Frm [s] w (w.setCell ⟨s, 2, none⟩ (.bool true)) := (Frm.refl [s] w).set (by simp) _
  refine ⟨⟨h.low.trans (hf.below h.low.size (by have := h.ge; simp; omega)), h.ge, Cel.set h.cel 2 _, own_frm h.code hf fun g hg' => ?_, own_frm h.begs hf fun g hg' => ?_⟩, Wr.of_set h.cel 2 _⟩
  · rw [List.mem_singleton.1 hg']; exact own_ty_ne h.code h.cel (by decide)
  · rw [List.mem_singleton.1 hg']; exact own_ty_ne h.begs h.cel (by decide)
end

/-- What a call does that takes the state on. -/
def QSays (w0 w : World) (s : Nat) (q : Lw) (e : Ending) (w' : World) : Prop := e = .returned (.tuple #[]) ∧ Sq w0 w' s q ∧ Wr w w'
/-- What insert's last region reads. -/
def SI (s b : Nat) (cv : Value) (kd x y : Int) (ng : Bool) (sv : Value) (V : World) : Prop :=
  V.cell? ⟨s, 0, none⟩ = some cv ∧ V.cell? ⟨b, 0, none⟩ = some (.int .i64 kd) ∧ V.cell? ⟨b, 1, none⟩ = some (.int .i64 x) ∧ V.cell? ⟨b, 2, none⟩ = some (.int .i64 y) ∧ V.cell? ⟨b, 3, none⟩ = some (.bool ng) ∧ V.cell? ⟨b, 4, none⟩ = some sv
theorem SI.of {s b : Nat} {cs : List Value} {cv : Value} {t : TypeId} {kd x y : Int} {ng : Bool} {sv : Value} {V : World} (h : Cel V s t cs) (h0 : cs[0]? = some cv) (hb : Cel V b 39 [.int .i64 kd, .int .i64 x, .int .i64 y, .bool ng, sv]) : SI s b cv kd x y ng sv V :=
  ⟨by rw [h.cell 0]; exact h0, hb.cell 0, hb.cell 1, hb.cell 2, hb.cell 3, hb.cell 4⟩

set_option maxRecDepth 100000 in
set_option maxHeartbeats 1000000 in
theorem ins_full_call (w0 w : World) (s at_ : Nat) (q : Lw) (h : Sq w0 w s q) (hf : q.code.length = 200) (kd x y : Int) (ng : Bool) (A : Option Addr) (l c : Nat) :
    Calls Try.prog 49 #[.pointer (some ⟨s, 0, none⟩), .int .i64 (at_ : Int), .agg #[.int .i64 kd, .int .i64 x, .int .i64 y, .bool ng, .slice A l c]] w (QSays w0 w s ⟨q.code, q.bs, true⟩) := by
  obtain ⟨Ac, cc, Ab, cb, us, h1, h2, h3⟩ := h.ex
  rw [hf] at h3
  generalize hW : w.alloc (.cells #[.int .i64 kd, .int .i64 x, .int .i64 y, .bool ng, .slice A l c] 39) = W
  have hbW : Below w.heap.size w W := by rw [← hW]; exact (Below.refl _ _).alloc (Nat.le_refl _) _
  have h3W := h3.below hbW
  have c0 := h3W.cel.cell 0
  have c2 := h3W.cel.cell 2
  have f2 := h3W.cel.free 2
  obtain ⟨hm, hw⟩ := h3W.mark
  have HM := Lib.hid (show Sq w0 (W.setCell ⟨s, 2, none⟩ (.bool true)) s ⟨q.code, q.bs, true⟩ from ⟨⟨h.ok.len, h.ok.bs⟩, Ac, cc, Ab, cb, us, h1, h2, by rw [hf]; exact hm⟩)
  have HWR := Lib.hid ((Wr.of_below hbW).trans hw)
  clear h h1 h2 h3 h3W hm hw hbW hf
  go_enter Try.func49, Try.ntmps49
  go_wp2_with fail
  go_end0
  exact ⟨rfl, HM.out, HWR.out⟩

set_option maxRecDepth 100000 in
set_option maxHeartbeats 1000000 in
theorem ins_room_call (w0 w : World) (s at_ : Nat) (q : Lw) (h : Sq w0 w s q) (hf : q.code.length < 200) (hat : at_ ≤ q.code.length) (kd x y : Int) (ng : Bool) (A : Option Addr) (sp : List Sp) (l c : Nat) (hsp : Cz w0 A (sflat sp)) (hl : sp.length = l) :
    Calls Try.prog 49 #[.pointer (some ⟨s, 0, none⟩), .int .i64 (at_ : Int), .agg #[.int .i64 kd, .int .i64 x, .int .i64 y, .bool ng, .slice A l c]] w (QSays w0 w s ⟨q.code.take at_ ++ ⟨kd, x, y, ng, sp⟩ :: q.code.drop at_, q.bs, q.big⟩) := by
  obtain ⟨Ac, cc, Ab, cb, us, h1, h2, h3⟩ := h.ex
  have hul : us.length = q.code.length := by rw [← h1, List.length_map]
  obtain ⟨n, hn⟩ : ∃ n, n = q.code.length := ⟨_, rfl⟩
  rw [← hn] at h3 hf hat hul
  generalize hW : w.alloc (.cells #[.int .i64 kd, .int .i64 x, .int .i64 y, .bool ng, .slice A l c] 39) = W
  have hWs : W.heap.size = w.heap.size + 1 := by rw [← hW]; simp
  have hbW : Below w.heap.size w W := by rw [← hW]; exact (Below.refl _ _).alloc (Nat.le_refl _) _
  have hcW : Cel W w.heap.size 39 [.int .i64 kd, .int .i64 x, .int .i64 y, .bool ng, .slice A l c] := by rw [← hW]; exact Cel.new w _ _
  have h3W := h3.below hbW
  have c0 := h3W.cel.cell 0
  have hH : SI s w.heap.size (.slice Ac n cc) kd x y ng (.slice A l c) W.drew := SI.of (t := 103) h3W.cel rfl hcW
  have hb5 : Below W.heap.size W (W.drew.alloc (.cells #[.int .i64 kd, .int .i64 x, .int .i64 y, .bool ng, .slice A l c] 39)) := ((Below.refl _ _).drew).alloc (Nat.le_refl _) _
  have H5 := Lib.hid (h3W.below hb5)
  have HC5 := Lib.hid (hcW.below hb5 hcW.lt)
  have HV5 := Lib.hid (show Cel (W.drew.alloc (.cells #[.int .i64 kd, .int .i64 x, .int .i64 y, .bool ng, .slice A l c] 39)) (w.heap.size + 1) 39 (Iv.cells ⟨⟨kd, x, y, ng, sp⟩, A, c⟩) by
    rw [← hWs]
    have := Cel.new W.drew 39 [.int .i64 kd, .int .i64 x, .int .i64 y, .bool ng, .slice A l c]
    rw [← hl] at this ⊢
    exact this)
  have HB5 := Lib.hid (hbW.trans (hb5.mono (by omega)))
  have HSP := Lib.hid hsp
  have HL := Lib.hid hl
  have HOK := Lib.hid h.ok
  have H1 := Lib.hid h1
  have H2 := Lib.hid h2
  have HN := Lib.hid hn
  have HUL := Lib.hid hul
  have HNE := Lib.hid (show (Value.slice Ac n cc).ownBlock ≠ some w.heap.size from fun e => by have := own_lt h3.code _ e; omega)
  have HWR := Lib.hid ((Wr.of_below hbW).trans (Wr.of_below hb5))
  have CON := Lib.hid (insert_call _ w0.heap.size n cc at_ Ac us (w.heap.size + 1) ⟨⟨kd, x, y, ng, sp⟩, A, c⟩ H5.out.code hul hat (by omega) HV5.out (fun e => by have := own_lt h3W.code _ e; omega) H5.out.low.size)
  have hne : ¬ ((n : Int) = 200) := by omega
  clear h h1 h2 h3 h3W hb5 hbW hcW hsp hl hn hul
  go_enter Try.func49, Try.ntmps49
  go_wp2_with fail
  clear hW
  refine wp_region_N [9, 10, 11] (SI s w.heap.size (.slice Ac n cc) kd x y ng (.slice A l c)) (by kernel_rfl) ?_
  refine wpAnyN_take (i := 0) (v := .pointer (some ⟨s, 0, none⟩)) [9, 10, 11] (by kernel_rfl) rfl (by kernel_rfl) (by kernel_rfl) (by kernel_rfl) (fun _ _ _ h => h) (Or.inl ⟨by rfl, ?_⟩) hH ?_
  · intro V hV; go_simp
  try simp only [Act.put, List.setIfInBounds_toArray, List.set_cons_zero, List.set_cons_succ, List.getElem_toArray, List.getElem_cons_succ, List.getElem_cons_zero]
  refine wpAnyN_take (i := 1) (v := .pointer (some ⟨s, 0, none⟩)) [9, 10, 11] (by kernel_rfl) rfl (by kernel_rfl) (by kernel_rfl) (by kernel_rfl) (fun _ _ _ h => h) (Or.inl ⟨by rfl, ?_⟩) hH ?_
  · intro V hV; go_simp
  try simp only [Act.put, List.setIfInBounds_toArray, List.set_cons_zero, List.set_cons_succ, List.getElem_toArray, List.getElem_cons_succ, List.getElem_cons_zero]
  refine wpAnyN_take (i := 2) (v := .pointer (some ⟨s, 0, none⟩)) [9, 10, 11] (by kernel_rfl) rfl (by kernel_rfl) (by kernel_rfl) (by kernel_rfl) (fun _ _ _ h => h) (Or.inl ⟨by rfl, ?_⟩) hH ?_
  · intro V hV; go_simp
  try simp only [Act.put, List.setIfInBounds_toArray, List.set_cons_zero, List.set_cons_succ, List.getElem_toArray, List.getElem_cons_succ, List.getElem_cons_zero]
  refine wpAnyN_take (i := 3) (v := .pointer (some ⟨s, 0, none⟩)) [9, 10, 11] (by kernel_rfl) rfl (by kernel_rfl) (by kernel_rfl) (by kernel_rfl) (fun _ _ _ h => h) (Or.inl ⟨by rfl, ?_⟩) hH ?_
  · intro V hV; go_simp
  try simp only [Act.put, List.setIfInBounds_toArray, List.set_cons_zero, List.set_cons_succ, List.getElem_toArray, List.getElem_cons_succ, List.getElem_cons_zero]
  refine wpAnyN_take (i := 4) (v := .slice Ac n cc) [9, 10, 11] (by kernel_rfl) rfl (by kernel_rfl) (by kernel_rfl) (by kernel_rfl) (fun _ _ _ h => h) (Or.inl ⟨by rfl, ?_⟩) hH ?_
  · intro V hV; obtain ⟨k0, k1, k2, k3, k4, k5⟩ := hV; go_simp
  try simp only [Act.put, List.setIfInBounds_toArray, List.set_cons_zero, List.set_cons_succ, List.getElem_toArray, List.getElem_cons_succ, List.getElem_cons_zero]
  refine wpAnyN_take (i := 5) (v := .int .i64 (at_ : Int)) [9, 10, 11] (by kernel_rfl) rfl (by kernel_rfl) (by kernel_rfl) (by kernel_rfl) (fun _ _ _ h => h) (Or.inl ⟨by rfl, ?_⟩) hH ?_
  · intro V hV; go_simp
  try simp only [Act.put, List.setIfInBounds_toArray, List.set_cons_zero, List.set_cons_succ, List.getElem_toArray, List.getElem_cons_succ, List.getElem_cons_zero]
  refine wpAnyN_take (i := 6) (v := .agg #[.int .i64 kd, .int .i64 x, .int .i64 y, .bool ng, .slice A l c]) [9, 10, 11] (by kernel_rfl) rfl (by kernel_rfl) (by kernel_rfl) (by kernel_rfl) (fun _ _ _ h => h) (Or.inl ⟨by rfl, ?_⟩) hH ?_
  · intro V hV; obtain ⟨k0, k1, k2, k3, k4, k5⟩ := hV; go_simp
  try simp only [Act.put, List.setIfInBounds_toArray, List.set_cons_zero, List.set_cons_succ, List.getElem_toArray, List.getElem_cons_succ, List.getElem_cons_zero]
  refine wpAnyN_one (i := 7) (by kernel_rfl) rfl (fun K hK => ?_)
  go_simp
  refine hK.out _ _ (.inr ?_) ?_
  · exact SI.of H5.out.cel rfl HC5.out
  clear hK K
  try simp only [Act.put, List.setIfInBounds_toArray, List.set_cons_zero, List.set_cons_succ, List.getElem_toArray, List.getElem_cons_succ, List.getElem_cons_zero]
  refine wpAnyN_one (i := 8) (by kernel_rfl) rfl (fun K hK => ?_)
  go_simp
  refine CON.out.mono ?_
  rintro e w8 ⟨A8, c8, rfl, ho8, hg8⟩
  go_wp2_with fail
  obtain ⟨hp8, hm9, hw9⟩ := H5.out.recode hg8 ho8
  have hc8 := HC5.out.grown hg8 HNE.out
  have y8 := hp8.cell 0
  have g8 := hp8.free 0
  have hS8 := SI.of (t := 103) hp8 rfl hc8
  have HQ9 := Lib.hid (show Sq w0 (w8.setCell ⟨s, 0, none⟩ (.slice A8 (n + 1 : Nat) c8)) s ⟨q.code.take at_ ++ ⟨kd, x, y, ng, sp⟩ :: q.code.drop at_, q.bs, q.big⟩ from by
      have hlen : (q.code.take at_ ++ ⟨kd, x, y, ng, sp⟩ :: q.code.drop at_).length = n + 1 := by simp only [List.length_append, List.length_take, List.length_cons, List.length_drop, ← HN.out]; omega
      have hok := HOK.out.ins ⟨kd, x, y, ng, sp⟩ (a := at_) (by rw [← HN.out]; exact hat)
      rw [ins_room (by rw [← HN.out]; exact hf)] at hok
      refine ⟨hok, A8, c8, Ab, cb, _, ?_, ?_, by rw [hlen]; exact hm9⟩
      · rw [List.map_append, List.map_cons, List.map_take, List.map_drop, H1.out]
      · intro u hu
        rcases List.mem_append.1 hu with hu | hu
        · exact H2.out u (List.mem_of_mem_take hu)
        rcases List.mem_cons.1 hu with rfl | hu
        · exact HSP.out
        · exact H2.out u (List.mem_of_mem_drop hu))
  have HW9 := Lib.hid (HWR.out.trans hw9)
  refine hK.out _ _ (.inr hS8) ?_
  clear hK K hm9 hw9 ho8 hg8 hp8 hc8 hS8
  try simp only [Act.put, List.setIfInBounds_toArray, List.set_cons_zero, List.set_cons_succ, List.getElem_toArray, List.getElem_cons_succ, List.getElem_cons_zero]
  refine wpAnyN_one (i := 9) (by kernel_rfl) rfl (fun K hK => ?_)
  go_simp
  refine hK.out _ _ (.inl (by decide)) ?_
  clear hK K
  try simp only [Act.put, List.setIfInBounds_toArray, List.set_cons_zero, List.set_cons_succ, List.getElem_toArray, List.getElem_cons_succ, List.getElem_cons_zero]
  refine wpAnyN_one (i := 10) (by kernel_rfl) rfl (fun K hK => ?_)
  go_simp
  refine hK.out _ _ (.inl (by decide)) ?_
  clear hK K
  try simp only [Act.put, List.setIfInBounds_toArray, List.set_cons_zero, List.set_cons_succ, List.getElem_toArray, List.getElem_cons_succ, List.getElem_cons_zero]
  refine wpAnyN_one (i := 11) (by kernel_rfl) rfl (fun K hK => ?_)
  go_simp
  refine hK.out _ _ (.inl (by decide)) ?_
  clear hK K
  try simp only [Act.put, List.setIfInBounds_toArray, List.set_cons_zero, List.set_cons_succ, List.getElem_toArray, List.getElem_cons_succ, List.getElem_cons_zero]
  refine wpAnyN_done (by kernel_rfl) ?_ _
  go_wp2_with fail
  go_end0
  exact ⟨rfl, HQ9.out, HW9.out⟩

end Go.Proofs.Ytjpbndpfbdfhjaa.Nfa
end

section
namespace Go.Proofs.Ytjpbndpfbdfhjaa.Nfa
open Go.RowKit Go.Proofs.Ytjpbndpfbdfhjaa.Ord
open Go.Proofs.Ytjpbndpfbdfhjaa.Reg (Sp sflat)
set_option linter.unusedVariables false
set_option linter.unusedSimpArgs false

theorem ins_call (w0 w : World) (s at_ : Nat) (q : Lw) (h : Sq w0 w s q) (hat : at_ ≤ q.code.length) (kd x y : Int) (ng : Bool) (A : Option Addr) (sp : List Sp) (l c : Nat) (hsp : Cz w0 A (sflat sp)) (hl : sp.length = l) :
    Calls Try.prog 49 #[.pointer (some ⟨s, 0, none⟩), .int .i64 (at_ : Int), .agg #[.int .i64 kd, .int .i64 x, .int .i64 y, .bool ng, .slice A l c]] w (QSays w0 w s (q.ins at_ ⟨kd, x, y, ng, sp⟩)) := by
  have hle := h.ok.len
  by_cases hf : q.code.length = 200
  · rw [ins_full hf]
    exact ins_full_call w0 w s at_ q h hf kd x y ng A l c
  · rw [ins_room (by omega)]
    exact ins_room_call w0 w s at_ q h (by omega) hat kd x y ng A sp l c hsp hl
theorem cz_nil (w : World) (A : Option Addr) : Cz w A (sflat []) := fun h => absurd rfl h
/-- What emit's region reads. -/
def SE (s b : Nat) (cv : Value) (kd x y : Int) (ng : Bool) (sv : Value) (V : World) : Prop := SI s b cv kd x y ng sv V
/-- What pushEmpty's and join's regions read. -/
def SB (s : Nat) (cv bv : Value) (V : World) : Prop := V.cell? ⟨s, 0, none⟩ = some cv ∧ V.cell? ⟨s, 1, none⟩ = some bv
/-- A number of the row of beginnings. -/
theorem begs_at {w0 w : World} {s : Nat} {Ac Ab : Option Addr} {cc cb n m : Nat} {big : Bool} {us : List Iv} {bs : List Nat} (h : Sm w0 w s Ac cc Ab cb n m big us bs) {i b : Nat} (hi : bs.reverse[i]? = some b) : ∃ g, Ab = some ⟨g, 0, none⟩ ∧ w.cell? ⟨g, i, none⟩ = some (goI b) ∧ g < w.heap.size ∧ bs.length = m ∧ m ≤ cb := by
  have hlen : bs.length = m := by have := h.begs.1; simpa using this
  have him : i < m := by
    have := (List.getElem?_eq_some_iff.1 hi).1
    simp at this; omega
  have hcb : m ≤ cb := by
    rcases h.begs.2 with ⟨hv, h0⟩ | ⟨g', cap', cur, hv, _, _, h1, h2, _⟩
    · omega
    · cases hv; exact h1
  obtain ⟨g, cap, hv, hg, hlt⟩ := h.begs.form (by omega)
  cases hv
  refine ⟨g, rfl, ?_, hlt, hlen, hcb⟩
  rw [h.begs.cellAt i (by simp; omega), List.getElem?_map, hi]
  rfl

set_option maxRecDepth 100000 in
set_option maxHeartbeats 1000000 in
theorem emit_call (w0 w : World) (s : Nat) (q : Lw) (h : Sq w0 w s q) (kd x y : Int) (ng : Bool) (A : Option Addr) (sp : List Sp) (l c : Nat) (hsp : Cz w0 A (sflat sp)) (hl : sp.length = l) :
    Calls Try.prog 37 #[.pointer (some ⟨s, 0, none⟩), .agg #[.int .i64 kd, .int .i64 x, .int .i64 y, .bool ng, .slice A l c]] w (QSays w0 w s (q.emit ⟨kd, x, y, ng, sp⟩)) := by
  obtain ⟨Ac, cc, Ab, cb, us, h1, h2, h3⟩ := h.ex
  obtain ⟨n, hn⟩ : ∃ n, n = q.code.length := ⟨_, rfl⟩
  rw [← hn] at h3
  generalize hW : w.alloc (.cells #[.int .i64 kd, .int .i64 x, .int .i64 y, .bool ng, .slice A l c] 39) = W
  have hbW : Below w.heap.size w W := by rw [← hW]; exact (Below.refl _ _).alloc (Nat.le_refl _) _
  have hcW : Cel W w.heap.size 39 [.int .i64 kd, .int .i64 x, .int .i64 y, .bool ng, .slice A l c] := by rw [← hW]; exact Cel.new w _ _
  have h3W := h3.below hbW
  have hH : SE s w.heap.size (.slice Ac n cc) kd x y ng (.slice A l c) W.drew := SI.of (t := 103) h3W.cel rfl hcW
  have hbD : Below w.heap.size w W.drew := hbW.drew
  have CON := Lib.hid (ins_call w0 W.drew s n q (h.below hbD) (by omega) kd x y ng A sp l c hsp hl)
  have HWR := Lib.hid (Wr.of_below hbD)
  rw [show q.emit ⟨kd, x, y, ng, sp⟩ = q.ins n ⟨kd, x, y, ng, sp⟩ by rw [hn]; rfl]
  clear h h1 h2 h3 h3W hbW hbD hcW hsp hl hn
  go_enter Try.func37, Try.ntmps37
  go_wp2_with fail
  clear hW
  refine wp_region_N [7] (SE s w.heap.size (.slice Ac n cc) kd x y ng (.slice A l c)) (by kernel_rfl) ?_
  refine wpAnyN_take (i := 0) (v := .pointer (some ⟨s, 0, none⟩)) [7] (by kernel_rfl) rfl (by kernel_rfl) (by kernel_rfl) (by kernel_rfl) (fun _ _ _ h => h) (Or.inl ⟨by rfl, ?_⟩) hH ?_
  · intro V hV; go_simp
  try simp only [Act.put, List.setIfInBounds_toArray, List.set_cons_zero, List.set_cons_succ, List.getElem_toArray, List.getElem_cons_succ, List.getElem_cons_zero]
  refine wpAnyN_take (i := 1) (v := .pointer (some ⟨s, 0, none⟩)) [2, 3, 4, 5, 7] (by kernel_rfl) rfl (by kernel_rfl) (by kernel_rfl) (by kernel_rfl) (fun _ _ _ h => h) (Or.inl ⟨by rfl, ?_⟩) hH ?_
  · intro V hV; go_simp
  try simp only [Act.put, List.setIfInBounds_toArray, List.set_cons_zero, List.set_cons_succ, List.getElem_toArray, List.getElem_cons_succ, List.getElem_cons_zero]
  refine wpAnyN_take (i := 2) (v := .pointer (some ⟨s, 0, none⟩)) [3, 4, 5, 7] (by kernel_rfl) rfl (by kernel_rfl) (by kernel_rfl) (by kernel_rfl) (fun _ _ _ h => h) (Or.inl ⟨by rfl, ?_⟩) hH ?_
  · intro V hV; go_simp
  try simp only [Act.put, List.setIfInBounds_toArray, List.set_cons_zero, List.set_cons_succ, List.getElem_toArray, List.getElem_cons_succ, List.getElem_cons_zero]
  refine wpAnyN_take (i := 3) (v := .pointer (some ⟨s, 0, none⟩)) [4, 5, 7] (by kernel_rfl) rfl (by kernel_rfl) (by kernel_rfl) (by kernel_rfl) (fun _ _ _ h => h) (Or.inl ⟨by rfl, ?_⟩) hH ?_
  · intro V hV; go_simp
  try simp only [Act.put, List.setIfInBounds_toArray, List.set_cons_zero, List.set_cons_succ, List.getElem_toArray, List.getElem_cons_succ, List.getElem_cons_zero]
  refine wpAnyN_take (i := 4) (v := .slice Ac n cc) [5, 7] (by kernel_rfl) rfl (by kernel_rfl) (by kernel_rfl) (by kernel_rfl) (fun _ _ _ h => h) (Or.inl ⟨by rfl, ?_⟩) hH ?_
  · intro V hV; obtain ⟨k0, k1, k2, k3, k4, k5⟩ := hV; go_simp
  try simp only [Act.put, List.setIfInBounds_toArray, List.set_cons_zero, List.set_cons_succ, List.getElem_toArray, List.getElem_cons_succ, List.getElem_cons_zero]
  refine wpAnyN_take (i := 5) (v := .int .i64 (n : Int)) [7] (by kernel_rfl) rfl (by kernel_rfl) (by kernel_rfl) (by kernel_rfl) (fun _ _ _ h => h) (Or.inl ⟨by rfl, ?_⟩) hH ?_
  · intro V hV; go_simp
  try simp only [Act.put, List.setIfInBounds_toArray, List.set_cons_zero, List.set_cons_succ, List.getElem_toArray, List.getElem_cons_succ, List.getElem_cons_zero]
  refine wpAnyN_take (i := 6) (v := .agg #[.int .i64 kd, .int .i64 x, .int .i64 y, .bool ng, .slice A l c]) [7] (by kernel_rfl) rfl (by kernel_rfl) (by kernel_rfl) (by kernel_rfl) (fun _ _ _ h => h) (Or.inl ⟨by rfl, ?_⟩) hH ?_
  · intro V hV; obtain ⟨k0, k1, k2, k3, k4, k5⟩ := hV; go_simp
  try simp only [Act.put, List.setIfInBounds_toArray, List.set_cons_zero, List.set_cons_succ, List.getElem_toArray, List.getElem_cons_succ, List.getElem_cons_zero]
  refine wpAnyN_one (i := 7) (by kernel_rfl) rfl (fun K hK => ?_)
  go_simp
  refine CON.out.mono ?_
  rintro e w8 ⟨rfl, hq8, hw8⟩
  go_wp2_with fail
  have HQ8 := Lib.hid hq8
  have HW8 := Lib.hid (HWR.out.trans hw8)
  refine hK.out _ _ (.inl (by decide)) ?_
  clear hK K hq8 hw8
  try simp only [Act.put, List.setIfInBounds_toArray, List.set_cons_zero, List.set_cons_succ, List.getElem_toArray, List.getElem_cons_succ, List.getElem_cons_zero]
  refine wpAnyN_done (by kernel_rfl) ?_ _
  go_wp2_with fail
  go_end0
  exact ⟨rfl, HQ8.out, HW8.out⟩

set_option maxRecDepth 100000 in
set_option maxHeartbeats 1000000 in
theorem push_call (w0 w : World) (s : Nat) (q : Lw) (h : Sq w0 w s q) (hlen : q.bs.length ≤ 100000) :
    Calls Try.prog 73 #[.pointer (some ⟨s, 0, none⟩)] w (QSays w0 w s q.push) := by
  obtain ⟨Ac, cc, Ab, cb, us, h1, h2, h3⟩ := h.ex
  have HOK := Lib.hid h.ok.push
  have hle := h.ok.len
  obtain ⟨n, hn⟩ : ∃ n, n = q.code.length := ⟨_, rfl⟩
  obtain ⟨m, hm⟩ : ∃ m, m = q.bs.length := ⟨_, rfl⟩
  rw [← hn, ← hm] at h3
  rw [← hn] at hle
  rw [← hm] at hlen
  have hH : SB s (.slice Ac n cc) (.slice Ab m cb) w.drew := ⟨(h3.cel.drew).cell 0, (h3.cel.drew).cell 1⟩
  have hb5 : Below w.heap.size w (w.drew.alloc (.cells #[.int .i64 n] 3)) := ((Below.refl _ _).drew).alloc (Nat.le_refl _) _
  have H5 := Lib.hid (h3.below hb5)
  have HSRC := Lib.hid (src_of_cel (show Cel (w.drew.alloc (.cells #[.int .i64 n] 3)) w.heap.size 3 [goI n] from Cel.new w.drew _ _) 1)
  have H1 := Lib.hid h1
  have H2 := Lib.hid h2
  have HN := Lib.hid hn
  have HM := Lib.hid hm
  have HWR := Lib.hid (Wr.of_below hb5)
  clear h h1 h2 h3 hb5 hn hm
  go_enter Try.func73, Try.ntmps73
  go_wp2_with fail
  refine wp_region_N [12, 13, 14] (SB s (.slice Ac n cc) (.slice Ab m cb)) (by kernel_rfl) ?_
  refine wpAnyN_take (i := 0) (v := .pointer (some ⟨s, 0, none⟩)) [12, 13, 14] (by kernel_rfl) rfl (by kernel_rfl) (by kernel_rfl) (by kernel_rfl) (fun _ _ _ h => h) (Or.inl ⟨by rfl, ?_⟩) hH ?_
  · intro V hV; go_simp
  try simp only [Act.put, List.setIfInBounds_toArray, List.set_cons_zero, List.set_cons_succ, List.getElem_toArray, List.getElem_cons_succ, List.getElem_cons_zero]
  refine wpAnyN_take (i := 1) (v := .pointer (some ⟨s, 0, none⟩)) [12, 13, 14] (by kernel_rfl) rfl (by kernel_rfl) (by kernel_rfl) (by kernel_rfl) (fun _ _ _ h => h) (Or.inl ⟨by rfl, ?_⟩) hH ?_
  · intro V hV; go_simp
  try simp only [Act.put, List.setIfInBounds_toArray, List.set_cons_zero, List.set_cons_succ, List.getElem_toArray, List.getElem_cons_succ, List.getElem_cons_zero]
  refine wpAnyN_take (i := 2) (v := .pointer (some ⟨s, 0, none⟩)) [12, 13, 14] (by kernel_rfl) rfl (by kernel_rfl) (by kernel_rfl) (by kernel_rfl) (fun _ _ _ h => h) (Or.inl ⟨by rfl, ?_⟩) hH ?_
  · intro V hV; go_simp
  try simp only [Act.put, List.setIfInBounds_toArray, List.set_cons_zero, List.set_cons_succ, List.getElem_toArray, List.getElem_cons_succ, List.getElem_cons_zero]
  refine wpAnyN_take (i := 3) (v := .pointer (some ⟨s, 1, none⟩)) [12, 13, 14] (by kernel_rfl) rfl (by kernel_rfl) (by kernel_rfl) (by kernel_rfl) (fun _ _ _ h => h) (Or.inl ⟨by rfl, ?_⟩) hH ?_
  · intro V hV; go_simp
  try simp only [Act.put, List.setIfInBounds_toArray, List.set_cons_zero, List.set_cons_succ, List.getElem_toArray, List.getElem_cons_succ, List.getElem_cons_zero]
  refine wpAnyN_take (i := 4) (v := .slice Ab m cb) [12, 13, 14] (by kernel_rfl) rfl (by kernel_rfl) (by kernel_rfl) (by kernel_rfl) (fun _ _ _ h => h) (Or.inl ⟨by rfl, ?_⟩) hH ?_
  · intro V hV; obtain ⟨k0, k1⟩ := hV; go_simp
  try simp only [Act.put, List.setIfInBounds_toArray, List.set_cons_zero, List.set_cons_succ, List.getElem_toArray, List.getElem_cons_succ, List.getElem_cons_zero]
  refine wpAnyN_take (i := 5) (v := .pointer (some ⟨s, 0, none⟩)) [12, 13, 14] (by kernel_rfl) rfl (by kernel_rfl) (by kernel_rfl) (by kernel_rfl) (fun _ _ _ h => h) (Or.inl ⟨by rfl, ?_⟩) hH ?_
  · intro V hV; go_simp
  try simp only [Act.put, List.setIfInBounds_toArray, List.set_cons_zero, List.set_cons_succ, List.getElem_toArray, List.getElem_cons_succ, List.getElem_cons_zero]
  refine wpAnyN_take (i := 6) (v := .pointer (some ⟨s, 0, none⟩)) [12, 13, 14] (by kernel_rfl) rfl (by kernel_rfl) (by kernel_rfl) (by kernel_rfl) (fun _ _ _ h => h) (Or.inl ⟨by rfl, ?_⟩) hH ?_
  · intro V hV; go_simp
  try simp only [Act.put, List.setIfInBounds_toArray, List.set_cons_zero, List.set_cons_succ, List.getElem_toArray, List.getElem_cons_succ, List.getElem_cons_zero]
  refine wpAnyN_take (i := 7) (v := .pointer (some ⟨s, 0, none⟩)) [12, 13, 14] (by kernel_rfl) rfl (by kernel_rfl) (by kernel_rfl) (by kernel_rfl) (fun _ _ _ h => h) (Or.inl ⟨by rfl, ?_⟩) hH ?_
  · intro V hV; go_simp
  try simp only [Act.put, List.setIfInBounds_toArray, List.set_cons_zero, List.set_cons_succ, List.getElem_toArray, List.getElem_cons_succ, List.getElem_cons_zero]
  refine wpAnyN_take (i := 8) (v := .slice Ac n cc) [12, 13, 14] (by kernel_rfl) rfl (by kernel_rfl) (by kernel_rfl) (by kernel_rfl) (fun _ _ _ h => h) (Or.inl ⟨by rfl, ?_⟩) hH ?_
  · intro V hV; obtain ⟨k0, k1⟩ := hV; go_simp
  try simp only [Act.put, List.setIfInBounds_toArray, List.set_cons_zero, List.set_cons_succ, List.getElem_toArray, List.getElem_cons_succ, List.getElem_cons_zero]
  refine wpAnyN_take (i := 9) (v := .int .i64 (n : Int)) [12, 13, 14] (by kernel_rfl) rfl (by kernel_rfl) (by kernel_rfl) (by kernel_rfl) (fun _ _ _ h => h) (Or.inl ⟨by rfl, ?_⟩) hH ?_
  · intro V hV; go_simp
  try simp only [Act.put, List.setIfInBounds_toArray, List.set_cons_zero, List.set_cons_succ, List.getElem_toArray, List.getElem_cons_succ, List.getElem_cons_zero]
  refine wpAnyN_one (i := 10) (by kernel_rfl) rfl (fun K hK => ?_)
  go_simp
  refine hK.out _ _ (.inr ?_) ?_
  · exact ⟨H5.out.cel.cell 0, H5.out.cel.cell 1⟩
  try simp only [Act.put, List.setIfInBounds_toArray, List.set_cons_zero, List.set_cons_succ, List.getElem_toArray, List.getElem_cons_succ, List.getElem_cons_zero]
  clear hK K
  refine wpAnyN_one (i := 11) (by kernel_rfl) rfl (fun K hK => ?_)
  rw [if_pos (by rfl)]
  refine wp_append_any _ _ _ 101 rfl w0.heap.size 3 rowInt (.slice Ab m cb) m (q.bs.reverse.map goI) rfl H5.out.begs (some ⟨w.heap.size, 0, none⟩) 1 1 [goI n] rfl rfl HSRC.out (goI_one [n]) (m + 1) ((n :: q.bs).reverse.map goI) rfl (by simp) (by unfold maxLen; omega) (by omega) H5.out.low.size ?_
  intro A8 c8 w8 ho8 hg8 _
  obtain ⟨hp8, hm9, hw9⟩ := H5.out.rebegs hg8 ho8
  have hS8 : SB s (.slice Ac n cc) (.slice Ab m cb) w8 := ⟨hp8.cell 0, hp8.cell 1⟩
  have y8 := hp8.cell 1
  have g8 := hp8.free 1
  have HQ9 := Lib.hid (show Sq w0 (w8.setCell ⟨s, 1, none⟩ (.slice A8 (m + 1 : Nat) c8)) s q.push from ⟨HOK.out, Ac, cc, A8, c8, us, H1.out, H2.out, by show Sm w0 _ s Ac cc A8 c8 q.code.length (q.code.length :: q.bs).length q.big us (q.code.length :: q.bs); rw [List.length_cons, ← HN.out, ← HM.out]; exact hm9⟩)
  have HW9 := Lib.hid (HWR.out.trans hw9)
  refine hK.out _ _ (.inr hS8) ?_
  clear hK K hm9 hw9 ho8 hg8 hp8
  try simp only [Act.put, List.setIfInBounds_toArray, List.set_cons_zero, List.set_cons_succ, List.getElem_toArray, List.getElem_cons_succ, List.getElem_cons_zero]
  refine wpAnyN_one (i := 12) (by kernel_rfl) rfl (fun K hK => ?_)
  go_simp
  refine hK.out _ _ (.inr hS8) ?_
  clear hK K
  try simp only [Act.put, List.setIfInBounds_toArray, List.set_cons_zero, List.set_cons_succ, List.getElem_toArray, List.getElem_cons_succ, List.getElem_cons_zero]
  refine wpAnyN_one (i := 13) (by kernel_rfl) rfl (fun K hK => ?_)
  go_simp
  refine hK.out _ _ (.inr hS8) ?_
  clear hK K
  try simp only [Act.put, List.setIfInBounds_toArray, List.set_cons_zero, List.set_cons_succ, List.getElem_toArray, List.getElem_cons_succ, List.getElem_cons_zero]
  refine wpAnyN_one (i := 14) (by kernel_rfl) rfl (fun K hK => ?_)
  go_simp
  refine hK.out _ _ (.inl (by decide)) ?_
  clear hK K
  try simp only [Act.put, List.setIfInBounds_toArray, List.set_cons_zero, List.set_cons_succ, List.getElem_toArray, List.getElem_cons_succ, List.getElem_cons_zero]
  refine wpAnyN_done (by kernel_rfl) ?_ _
  go_wp2_with fail
  go_end0
  exact ⟨rfl, HQ9.out, HW9.out⟩

set_option maxRecDepth 100000 in
set_option maxHeartbeats 1000000 in
theorem last_no (w0 w : World) (s : Nat) (q : Lw) (h : Sq w0 w s q) (hb : q.bs = []) :
    Calls Try.prog 75 #[.pointer (some ⟨s, 0, none⟩)] w fun e w' => e = .returned (.tuple #[.int .i64 0, .int .i64 0, .bool false]) ∧ Below w.heap.size w w' := by
  obtain ⟨Ac, cc, Ab, cb, us, h1, h2, h3⟩ := h.ex
  rw [hb] at h3
  have c1 := h3.cel.cell 1
  clear h h1 h2 h3
  go_enter Try.func75, Try.ntmps75
  go_wp2_with fail
  go_ret3
  exact ⟨rfl, Below.refl _ _⟩

set_option maxRecDepth 100000 in
set_option maxHeartbeats 1000000 in
theorem last_ok (w0 w : World) (s : Nat) (q : Lw) (a : Nat) (r : List Nat) (h : Sq w0 w s q) (hb : q.bs = a :: r) (hlen : q.bs.length ≤ 100000) :
    Calls Try.prog 75 #[.pointer (some ⟨s, 0, none⟩)] w fun e w' => e = .returned (.tuple #[.int .i64 (a : Int), .int .i64 (q.size a), .bool true]) ∧ Below w.heap.size w w' := by
  obtain ⟨Ac, cc, Ab, cb, us, h1, h2, h3⟩ := h.ex
  have hle := h.ok.len
  have hal := h.ok.bs a (by rw [hb]; simp)
  obtain ⟨n, hn⟩ : ∃ n, n = q.code.length := ⟨_, rfl⟩
  obtain ⟨m, hm⟩ : ∃ m, m = r.length := ⟨_, rfl⟩
  rw [hb] at h3 hlen
  rw [List.length_cons, ← hm] at h3 hlen
  rw [← hn] at h3 hle hal
  obtain ⟨g, rfl, hc, hg, _, _⟩ := begs_at h3 (i := m) (b := a) (by rw [List.reverse_cons, List.getElem?_append_right (by simp; omega)]; simp [hm])
  replace hc : w.cell? ⟨g, m, none⟩ = some (.int .i64 (a : Int)) := hc
  have c0 := h3.cel.cell 0
  have c1 := h3.cel.cell 1
  have ew : IntKind.i64.wrap ((n : Int) - (a : Int)) = (n : Int) - (a : Int) := (IntWalk.i64_in _ (by omega))
  have hz : q.size a = (n : Int) - (a : Int) := by rw [hn]; rfl
  have hne : ¬ (((m + 1 : Nat) : Int) = 0) := by omega
  rw [hz]
  clear h h1 h2 h3 hb hz hm hn
  go_enter Try.func75, Try.ntmps75
  go_wp2_with fail
  go_quiet (fail)
  go_wp2_with fail
  go_quiet (fail)
  go_wp2_with fail
  go_ret3
  exact ⟨rfl, ⟨rfl, rfl, rfl, Nat.le_refl _, fun _ _ => rfl⟩⟩

theorem undInts : Try.prog.underlying 101 = some (.slice 3) := Try.underlying101
theorem sizeInt : (Try.prog.info? 3).map (·.size) = some 1 := by kernel_rfl
set_option maxRecDepth 100000 in
set_option maxHeartbeats 1000000 in
theorem join_no (w0 w : World) (s : Nat) (q : Lw) (h : Sq w0 w s q) (hb : q.bs.length < 2) :
    Calls Try.prog 74 #[.pointer (some ⟨s, 0, none⟩)] w fun e w' => e = .returned (.tuple #[.int .i64 0, .int .i64 0, .bool false]) ∧ Below w.heap.size w w' := by
  obtain ⟨Ac, cc, Ab, cb, us, h1, h2, h3⟩ := h.ex
  obtain ⟨m, hm⟩ : ∃ m, m = q.bs.length := ⟨_, rfl⟩
  rw [← hm] at h3 hb
  have c1 := h3.cel.cell 1
  have ew : IntKind.i64.wrap ((m : Int) - 1) = (m : Int) - 1 := (IntWalk.i64_in _ (by omega))
  have hne : (m : Int) - 1 < 1 := by omega
  clear h h1 h2 h3
  go_enter Try.func74, Try.ntmps74
  go_wp2_with fail
  go_ret3
  exact ⟨rfl, Below.refl _ _⟩

set_option maxRecDepth 100000 in
set_option maxHeartbeats 1000000 in
theorem join_ok (w0 w : World) (s : Nat) (q : Lw) (a b : Nat) (r : List Nat) (h : Sq w0 w s q) (hb : q.bs = b :: a :: r) (hlen : q.bs.length ≤ 100000) :
    Calls Try.prog 74 #[.pointer (some ⟨s, 0, none⟩)] w fun e w' => e = .returned (.tuple #[.int .i64 (a : Int), .int .i64 (b : Int), .bool true]) ∧ Sq w0 w' s ⟨q.code, a :: r, q.big⟩ ∧ Wr w w' := by
  obtain ⟨Ac, cc, Ab, cb, us, h1, h2, h3⟩ := h.ex
  have hok : Ok ⟨q.code, a :: r, q.big⟩ := ⟨h.ok.len, fun x hx => h.ok.bs x (by rw [hb]; exact List.mem_cons_of_mem _ hx)⟩
  obtain ⟨n, hn⟩ : ∃ n, n = q.code.length := ⟨_, rfl⟩
  obtain ⟨m, hm⟩ : ∃ m, m = r.length := ⟨_, rfl⟩
  rw [hb] at h3 hlen
  rw [List.length_cons, List.length_cons, ← hm] at h3 hlen
  rw [← hn] at h3
  obtain ⟨g, rfl, hc, hg, _, hcb⟩ := begs_at h3 (i := m + 1) (b := b) (by rw [List.reverse_cons, List.getElem?_append_right (by simp; omega)]; simp [hm])
  obtain ⟨g', e', hc2, _, _, _⟩ := begs_at h3 (i := m) (b := a) (by rw [List.reverse_cons, List.reverse_cons, List.getElem?_append_left (by simp; omega), List.getElem?_append_right (by simp; omega)]; simp [hm])
  cases e'
  have c0 := h3.cel.cell 0
  have c1 := h3.cel.cell 1
  have f1 := h3.cel.free 1
  have HQ9 := Lib.hid (show ∀ k, Sq w0 ((w.drewN k).setCell ⟨s, 1, none⟩ (.slice (some ⟨g, 0, none⟩) (m + 1) cb)) s ⟨q.code, a :: r, q.big⟩ ∧ Wr w ((w.drewN k).setCell ⟨s, 1, none⟩ (.slice (some ⟨g, 0, none⟩) (m + 1) cb)) from fun k => by
    have hb5 : Below w.heap.size w (w.drewN k) := ⟨rfl, rfl, rfl, Nat.le_refl _, fun _ _ => rfl⟩
    have h35 := h3.below hb5
    have hcut := own_cut h35.begs (Nat.le_succ (m + 1))
    have hrow : (w.drewN k).ownsRow w0.heap.size 3 1 (.slice (some ⟨g, 0, none⟩) (m + 1) cb) (m + 1) ((a :: r).reverse.map goI) := by
      rw [List.reverse_cons, List.map_append, List.take_append_of_le_length (by simp; omega), List.take_of_length_le (by simp; omega)] at hcut
      exact hcut
    obtain ⟨_, hm9, hw9⟩ := h35.rebegs (w2 := w.drewN k) (bs' := a :: r) ⟨rfl, rfl, rfl, Nat.le_refl _, fun _ _ _ => rfl⟩ hrow
    exact ⟨⟨hok, Ac, cc, _, cb, us, h1, h2, by show Sm w0 _ s Ac cc _ cb q.code.length (a :: r).length q.big us (a :: r); rw [List.length_cons, ← hn, ← hm]; exact hm9⟩, (Wr.of_below hb5).trans hw9⟩)
  replace hc : w.cell? ⟨g, m + 1, none⟩ = some (.int .i64 (b : Int)) := hc
  replace hc2 : w.cell? ⟨g, m, none⟩ = some (.int .i64 (a : Int)) := hc2
  have ew : IntKind.i64.wrap (((m + 1 + 1 : Nat) : Int) - 1) = ((m + 1 : Nat) : Int) := (IntWalk.i64_in _ (by omega)).trans (by omega)
  have ew2 : IntKind.i64.wrap (((m + 1 : Nat) : Int) - 1) = (m : Int) := (IntWalk.i64_in _ (by omega)).trans (by omega)
  have hne : ¬ (((m + 1 : Nat) : Int) < 1) := by omega
  clear h h1 h2 h3 hb hok hm hn
  go_enter Try.func74, Try.ntmps74
  go_wp2_with fail
  go_quiet (fail)
  go_wp2_with fail
  go_ret3
  exact ⟨rfl, HQ9.out _⟩
end Go.Proofs.Ytjpbndpfbdfhjaa.Nfa
end

section
namespace Go.Proofs.Ytjpbndpfbdfhjaa.Nfa
open Go.RowKit Go.Proofs.Ytjpbndpfbdfhjaa.Ord
open Go.Proofs.Ytjpbndpfbdfhjaa.Reg (Sp sflat Rop)
set_option linter.unusedVariables false
set_option linter.unusedSimpArgs false

theorem Wr.cel {w w' : World} (h : Wr w w') {g : Nat} {t : TypeId} {cs : List Value} (hc : Cel w g t cs) (ht : t ≠ 103 ∧ t ≠ 39 ∧ t ≠ 3) : Cel w' g t cs :=
  (h.keep g hc.lt (fun o t' fz e => by have := hc.symm.trans e; cases this; exact ht)).trans hc
theorem Below.drewN_ (w : World) (B k : Nat) : Below B w (w.drewN k) := ⟨rfl, rfl, rfl, Nat.le_refl _, fun _ _ => rfl⟩
theorem alt_len (q : Lw) (a b : Nat) (r : List Nat) (x : In) (hal : a ≤ q.code.length) (hbl : b ≤ q.code.length) : a ≤ (Lw.ins ⟨q.code, a :: r, q.big⟩ b x).code.length := Nat.le_trans hal (ins_len ⟨q.code, a :: r, q.big⟩ b x hbl).1
/-- What a maker does: r, where its op can be done. -/
def MSays (w0 w : World) (s : Nat) (r : Option Lw) (e : Ending) (w' : World) : Prop := match r with
  | none => e = .returned (.bool false) ∧ Below w0.heap.size w0 w' ∧ Wr w w'
  | some q => e = .returned (.bool true) ∧ Sq w0 w' s q ∧ Wr w w'

set_option maxRecDepth 100000 in
set_option maxHeartbeats 1000000 in
theorem set_call (w0 w : World) (s : Nat) (q : Lw) (h : Sq w0 w s q) (hlen : q.bs.length ≤ 100000) (kd : Int) (ng : Bool) (A : Option Addr) (l c : Nat) (sp : List Sp) (hsp : Cz w0 A (sflat sp)) (hl : sp.length = l) :
    Calls Try.prog 57 #[.pointer (some ⟨s, 0, none⟩), .agg #[.int .i64 kd, .bool ng, .slice A l c]] w (MSays w0 w s (some (q.push.emit ⟨1, 0, 0, ng, sp⟩))) := by
  generalize hW : w.alloc (.cells #[.int .i64 kd, .bool ng, .slice A l c] 122) = W
  have hbW : Below w.heap.size w W := by rw [← hW]; exact (Below.refl _ _).alloc (Nat.le_refl _) _
  have hcW : Cel W w.heap.size 122 [.int .i64 kd, .bool ng, .slice A l c] := by rw [← hW]; exact Cel.new w _ _
  have hqW := h.below hbW
  have HC := Lib.hid hcW
  have HW := Lib.hid (Wr.of_below hbW)
  have hle := h.ok.len
  have con := push_call w0 W s q hqW hlen
  clear h hbW hcW hqW
  go_enter Try.func57, Try.ntmps57
  go_wp2_with fail
  clear hW
  refine con.mono ?_
  rintro e w1 ⟨rfl, hq1, hw1⟩
  have hc1 := hw1.cel HC.out (by decide)
  have x1 := hc1.cell 1
  have x2 := hc1.cell 2
  have HW1 := Lib.hid (HW.out.trans hw1)
  have con2 := emit_call w0 w1 s q.push hq1 1 0 0 ng A sp l c hsp hl
  clear hq1 hw1 hc1
  go_wp2_with fail
  refine con2.mono ?_
  rintro e w2 ⟨rfl, hq2, hw2⟩
  have HQ := Lib.hid hq2
  have HWW := Lib.hid (HW1.out.trans hw2)
  clear hq2 hw2
  go_wp2_with fail
  go_ret
  exact ⟨rfl, HQ.out, HWW.out⟩

set_option maxRecDepth 100000 in
set_option maxHeartbeats 1000000 in
theorem none_call (w0 w : World) (s : Nat) (q : Lw) (h : Sq w0 w s q) (hlen : q.bs.length ≤ 100000) (kd : Int) (ng : Bool) (A : Option Addr) (l c : Nat) :
    Calls Try.prog 58 #[.pointer (some ⟨s, 0, none⟩), .agg #[.int .i64 kd, .bool ng, .slice A l c]] w (MSays w0 w s (some q.push)) := by
  generalize hW : w.alloc (.cells #[.int .i64 kd, .bool ng, .slice A l c] 122) = W
  have hbW : Below w.heap.size w W := by rw [← hW]; exact (Below.refl _ _).alloc (Nat.le_refl _) _
  have hcW : Cel W w.heap.size 122 [.int .i64 kd, .bool ng, .slice A l c] := by rw [← hW]; exact Cel.new w _ _
  have hqW := h.below hbW
  have HC := Lib.hid hcW
  have HW := Lib.hid (Wr.of_below hbW)
  have hle := h.ok.len
  have con := push_call w0 W s q hqW hlen
  clear h hbW hcW hqW
  go_enter Try.func58, Try.ntmps58
  go_wp2_with fail
  clear hW
  refine con.mono ?_
  rintro e w1 ⟨rfl, hq1, hw1⟩
  have HQ := Lib.hid hq1
  have HWW := Lib.hid (HW.out.trans hw1)
  clear hq1 hw1
  go_wp2_with fail
  go_ret
  exact ⟨rfl, HQ.out, HWW.out⟩

set_option maxRecDepth 100000 in
set_option maxHeartbeats 1000000 in
theorem cat_no (w0 w : World) (s : Nat) (q : Lw) (h : Sq w0 w s q) (hlen : q.bs.length ≤ 100000) (kd : Int) (ng : Bool) (A : Option Addr) (l c : Nat) (hb : q.bs.length < 2) :
    Calls Try.prog 59 #[.pointer (some ⟨s, 0, none⟩), .agg #[.int .i64 kd, .bool ng, .slice A l c]] w (MSays w0 w s (none)) := by
  generalize hW : w.alloc (.cells #[.int .i64 kd, .bool ng, .slice A l c] 122) = W
  have hbW : Below w.heap.size w W := by rw [← hW]; exact (Below.refl _ _).alloc (Nat.le_refl _) _
  have hcW : Cel W w.heap.size 122 [.int .i64 kd, .bool ng, .slice A l c] := by rw [← hW]; exact Cel.new w _ _
  have hqW := h.below hbW
  have HC := Lib.hid hcW
  have HW := Lib.hid (Wr.of_below hbW)
  have hle := h.ok.len
  have con := join_no w0 W s q hqW hb
  have HQ0 := Lib.hid hqW
  clear h hbW hcW hqW
  go_enter Try.func59, Try.ntmps59
  go_wp2_with fail
  clear hW
  refine con.mono ?_
  rintro e w1 ⟨rfl, hb1⟩
  have HB := Lib.hid (HQ0.out.low.trans (hb1.mono HQ0.out.low.size))
  have HWW := Lib.hid (HW.out.trans (Wr.of_below hb1))
  clear hb1
  go_wp2_with fail
  go_ret
  exact ⟨rfl, HB.out, HWW.out⟩

set_option maxRecDepth 100000 in
set_option maxHeartbeats 1000000 in
theorem alt_no (w0 w : World) (s : Nat) (q : Lw) (h : Sq w0 w s q) (hlen : q.bs.length ≤ 100000) (kd : Int) (ng : Bool) (A : Option Addr) (l c : Nat) (hb : q.bs.length < 2) :
    Calls Try.prog 60 #[.pointer (some ⟨s, 0, none⟩), .agg #[.int .i64 kd, .bool ng, .slice A l c]] w (MSays w0 w s (none)) := by
  generalize hW : w.alloc (.cells #[.int .i64 kd, .bool ng, .slice A l c] 122) = W
  have hbW : Below w.heap.size w W := by rw [← hW]; exact (Below.refl _ _).alloc (Nat.le_refl _) _
  have hcW : Cel W w.heap.size 122 [.int .i64 kd, .bool ng, .slice A l c] := by rw [← hW]; exact Cel.new w _ _
  have hqW := h.below hbW
  have HC := Lib.hid hcW
  have HW := Lib.hid (Wr.of_below hbW)
  have hle := h.ok.len
  have con := join_no w0 W s q hqW hb
  have HQ0 := Lib.hid hqW
  clear h hbW hcW hqW
  go_enter Try.func60, Try.ntmps60
  go_wp2_with fail
  clear hW
  refine con.mono ?_
  rintro e w1 ⟨rfl, hb1⟩
  have HB := Lib.hid (HQ0.out.low.trans (hb1.mono HQ0.out.low.size))
  have HWW := Lib.hid (HW.out.trans (Wr.of_below hb1))
  clear hb1
  go_wp2_with fail
  go_ret
  exact ⟨rfl, HB.out, HWW.out⟩

set_option maxRecDepth 100000 in
set_option maxHeartbeats 1000000 in
theorem star_no (w0 w : World) (s : Nat) (q : Lw) (h : Sq w0 w s q) (hlen : q.bs.length ≤ 100000) (kd : Int) (ng : Bool) (A : Option Addr) (l c : Nat) (hb : q.bs = []) :
    Calls Try.prog 61 #[.pointer (some ⟨s, 0, none⟩), .agg #[.int .i64 kd, .bool ng, .slice A l c]] w (MSays w0 w s (none)) := by
  generalize hW : w.alloc (.cells #[.int .i64 kd, .bool ng, .slice A l c] 122) = W
  have hbW : Below w.heap.size w W := by rw [← hW]; exact (Below.refl _ _).alloc (Nat.le_refl _) _
  have hcW : Cel W w.heap.size 122 [.int .i64 kd, .bool ng, .slice A l c] := by rw [← hW]; exact Cel.new w _ _
  have hqW := h.below hbW
  have HC := Lib.hid hcW
  have HW := Lib.hid (Wr.of_below hbW)
  have hle := h.ok.len
  have con := last_no w0 W s q hqW hb
  have HQ0 := Lib.hid hqW
  clear h hbW hcW hqW
  go_enter Try.func61, Try.ntmps61
  go_wp2_with fail
  clear hW
  refine con.mono ?_
  rintro e w1 ⟨rfl, hb1⟩
  have HB := Lib.hid (HQ0.out.low.trans (hb1.mono HQ0.out.low.size))
  have HWW := Lib.hid (HW.out.trans (Wr.of_below hb1))
  clear hb1
  go_wp2_with fail
  go_ret
  exact ⟨rfl, HB.out, HWW.out⟩

set_option maxRecDepth 100000 in
set_option maxHeartbeats 1000000 in
theorem plus_no (w0 w : World) (s : Nat) (q : Lw) (h : Sq w0 w s q) (hlen : q.bs.length ≤ 100000) (kd : Int) (ng : Bool) (A : Option Addr) (l c : Nat) (hb : q.bs = []) :
    Calls Try.prog 62 #[.pointer (some ⟨s, 0, none⟩), .agg #[.int .i64 kd, .bool ng, .slice A l c]] w (MSays w0 w s (none)) := by
  generalize hW : w.alloc (.cells #[.int .i64 kd, .bool ng, .slice A l c] 122) = W
  have hbW : Below w.heap.size w W := by rw [← hW]; exact (Below.refl _ _).alloc (Nat.le_refl _) _
  have hcW : Cel W w.heap.size 122 [.int .i64 kd, .bool ng, .slice A l c] := by rw [← hW]; exact Cel.new w _ _
  have hqW := h.below hbW
  have HC := Lib.hid hcW
  have HW := Lib.hid (Wr.of_below hbW)
  have hle := h.ok.len
  have con := last_no w0 W s q hqW hb
  have HQ0 := Lib.hid hqW
  clear h hbW hcW hqW
  go_enter Try.func62, Try.ntmps62
  go_wp2_with fail
  clear hW
  refine con.mono ?_
  rintro e w1 ⟨rfl, hb1⟩
  have HB := Lib.hid (HQ0.out.low.trans (hb1.mono HQ0.out.low.size))
  have HWW := Lib.hid (HW.out.trans (Wr.of_below hb1))
  clear hb1
  go_wp2_with fail
  go_ret
  exact ⟨rfl, HB.out, HWW.out⟩

set_option maxRecDepth 100000 in
set_option maxHeartbeats 1000000 in
theorem opt_no (w0 w : World) (s : Nat) (q : Lw) (h : Sq w0 w s q) (hlen : q.bs.length ≤ 100000) (kd : Int) (ng : Bool) (A : Option Addr) (l c : Nat) (hb : q.bs = []) :
    Calls Try.prog 63 #[.pointer (some ⟨s, 0, none⟩), .agg #[.int .i64 kd, .bool ng, .slice A l c]] w (MSays w0 w s (none)) := by
  generalize hW : w.alloc (.cells #[.int .i64 kd, .bool ng, .slice A l c] 122) = W
  have hbW : Below w.heap.size w W := by rw [← hW]; exact (Below.refl _ _).alloc (Nat.le_refl _) _
  have hcW : Cel W w.heap.size 122 [.int .i64 kd, .bool ng, .slice A l c] := by rw [← hW]; exact Cel.new w _ _
  have hqW := h.below hbW
  have HC := Lib.hid hcW
  have HW := Lib.hid (Wr.of_below hbW)
  have hle := h.ok.len
  have con := last_no w0 W s q hqW hb
  have HQ0 := Lib.hid hqW
  clear h hbW hcW hqW
  go_enter Try.func63, Try.ntmps63
  go_wp2_with fail
  clear hW
  refine con.mono ?_
  rintro e w1 ⟨rfl, hb1⟩
  have HB := Lib.hid (HQ0.out.low.trans (hb1.mono HQ0.out.low.size))
  have HWW := Lib.hid (HW.out.trans (Wr.of_below hb1))
  clear hb1
  go_wp2_with fail
  go_ret
  exact ⟨rfl, HB.out, HWW.out⟩

set_option maxRecDepth 100000 in
set_option maxHeartbeats 1000000 in
theorem cat_ok (w0 w : World) (s : Nat) (q : Lw) (h : Sq w0 w s q) (hlen : q.bs.length ≤ 100000) (kd : Int) (ng : Bool) (A : Option Addr) (l c : Nat) (a b : Nat) (r : List Nat) (hb : q.bs = b :: a :: r) :
    Calls Try.prog 59 #[.pointer (some ⟨s, 0, none⟩), .agg #[.int .i64 kd, .bool ng, .slice A l c]] w (MSays w0 w s (some ⟨q.code, a :: r, q.big⟩)) := by
  generalize hW : w.alloc (.cells #[.int .i64 kd, .bool ng, .slice A l c] 122) = W
  have hbW : Below w.heap.size w W := by rw [← hW]; exact (Below.refl _ _).alloc (Nat.le_refl _) _
  have hcW : Cel W w.heap.size 122 [.int .i64 kd, .bool ng, .slice A l c] := by rw [← hW]; exact Cel.new w _ _
  have hqW := h.below hbW
  have HC := Lib.hid hcW
  have HW := Lib.hid (Wr.of_below hbW)
  have hle := h.ok.len
  have con := join_ok w0 W s q a b r hqW hb hlen
  clear h hbW hcW hqW
  go_enter Try.func59, Try.ntmps59
  go_wp2_with fail
  clear hW
  refine con.mono ?_
  rintro e w1 ⟨rfl, hq1, hw1⟩
  have HQ := Lib.hid hq1
  have HWW := Lib.hid (HW.out.trans hw1)
  clear hq1 hw1
  go_wp2_with fail
  go_ret
  exact ⟨rfl, HQ.out, HWW.out⟩

set_option maxRecDepth 100000 in
set_option maxHeartbeats 1000000 in
theorem alt_ok (w0 w : World) (s : Nat) (q : Lw) (h : Sq w0 w s q) (hlen : q.bs.length ≤ 100000) (kd : Int) (ng : Bool) (A : Option Addr) (l c : Nat) (a b : Nat) (r : List Nat) (hb : q.bs = b :: a :: r) :
    Calls Try.prog 60 #[.pointer (some ⟨s, 0, none⟩), .agg #[.int .i64 kd, .bool ng, .slice A l c]] w (MSays w0 w s (some ((Lw.ins ⟨q.code, a :: r, q.big⟩ b (go (q.size b + 1))).ins a (two 1 ((b : Int) - a + 2))))) := by
  generalize hW : w.alloc (.cells #[.int .i64 kd, .bool ng, .slice A l c] 122) = W
  have hbW : Below w.heap.size w W := by rw [← hW]; exact (Below.refl _ _).alloc (Nat.le_refl _) _
  have hcW : Cel W w.heap.size 122 [.int .i64 kd, .bool ng, .slice A l c] := by rw [← hW]; exact Cel.new w _ _
  have hqW := h.below hbW
  have HC := Lib.hid hcW
  have HW := Lib.hid (Wr.of_below hbW)
  have hle := h.ok.len
  have con := join_ok w0 W s q a b r hqW hb hlen
  have hbl : b ≤ q.code.length := h.ok.bs b (by rw [hb]; simp)
  have hal : a ≤ q.code.length := h.ok.bs a (by rw [hb]; simp)
  obtain ⟨n, hn⟩ : ∃ n, n = q.code.length := ⟨_, rfl⟩
  rw [← hn] at hbl hal hle
  have hz : q.size b = (n : Int) - (b : Int) := by rw [hn]; rfl
  rw [hz]
  clear h hbW hcW hqW
  go_enter Try.func60, Try.ntmps60
  go_wp2_with fail
  clear hW
  refine con.mono ?_
  rintro e w1 ⟨rfl, hq1, hw1⟩
  obtain ⟨Ac, cc, Ab, cb, us, _, _, h3⟩ := hq1.ex
  have c0 := h3.cel.cell 0
  clear h3
  replace c0 : w1.cell? ⟨s, 0, none⟩ = some (.slice Ac n cc) := by rw [hn]; exact c0
  have ew1 : IntKind.i64.wrap ((n : Int) - (b : Int)) = (n : Int) - (b : Int) := (IntWalk.i64_in _ (by omega))
  have ew2 : IntKind.i64.wrap ((b : Int) - (a : Int)) = (b : Int) - (a : Int) := (IntWalk.i64_in _ (by omega))
  have ew3 : IntKind.i64.wrap ((n : Int) - (b : Int) + 1) = (n : Int) - (b : Int) + 1 := (IntWalk.i64_in _ (by omega))
  have ew4 : IntKind.i64.wrap ((b : Int) - (a : Int) + 2) = (b : Int) - (a : Int) + 2 := (IntWalk.i64_in _ (by omega))
  have con2 := fun k => ins_call w0 (w1.drewN k) s b ⟨q.code, a :: r, q.big⟩ (hq1.below (Below.drewN_ _ _ k)) (by rw [← hn]; exact hbl) 3 ((n : Int) - (b : Int) + 1) 0 false none [] 0 0 (cz_nil _ _) rfl
  have HAL := Lib.hid (fun z => alt_len q a b r (go z) (by rw [← hn]; exact hal) (by rw [← hn]; exact hbl))
  have HW1 := Lib.hid (fun k => (HW.out.trans hw1).trans (Wr.of_below (Below.drewN_ w1 w1.heap.size k)))
  have HN := Lib.hid hn
  clear hq1 hw1 hz hn
  go_wp2_with fail
  go_quiet (fail)
  go_wp2_with fail
  refine (con2 _).mono ?_
  rintro e w2 ⟨rfl, hq2, hw2⟩
  have hn2 := HAL.out ((n : Int) - (b : Int) + 1)
  have con3 := ins_call w0 w2 s a (Lw.ins ⟨q.code, a :: r, q.big⟩ b (go ((n : Int) - (b : Int) + 1))) hq2 hn2 2 1 ((b : Int) - (a : Int) + 2) false none [] 0 0 (cz_nil _ _) rfl
  have HW2 := Lib.hid ((HW1.out _).trans hw2)
  clear hq2 hw2 hn2
  go_wp2_with fail
  refine con3.mono ?_
  rintro e w3 ⟨rfl, hq3, hw3⟩
  have HQ := Lib.hid hq3
  have HWW := Lib.hid (HW2.out.trans hw3)
  clear hq3 hw3
  go_wp2_with fail
  go_ret
  exact ⟨rfl, HQ.out, HWW.out⟩

set_option maxRecDepth 100000 in
set_option maxHeartbeats 1000000 in
theorem star_ok (w0 w : World) (s : Nat) (q : Lw) (h : Sq w0 w s q) (hlen : q.bs.length ≤ 100000) (kd : Int) (ng : Bool) (A : Option Addr) (l c : Nat) (a : Nat) (r : List Nat) (hb : q.bs = a :: r) :
    Calls Try.prog 61 #[.pointer (some ⟨s, 0, none⟩), .agg #[.int .i64 kd, .bool ng, .slice A l c]] w (MSays w0 w s (some ((q.ins a (two 1 (q.size a + 2))).emit (go (-q.size a - 1))))) := by
  generalize hW : w.alloc (.cells #[.int .i64 kd, .bool ng, .slice A l c] 122) = W
  have hbW : Below w.heap.size w W := by rw [← hW]; exact (Below.refl _ _).alloc (Nat.le_refl _) _
  have hcW : Cel W w.heap.size 122 [.int .i64 kd, .bool ng, .slice A l c] := by rw [← hW]; exact Cel.new w _ _
  have hqW := h.below hbW
  have HC := Lib.hid hcW
  have HW := Lib.hid (Wr.of_below hbW)
  have hle := h.ok.len
  have con := last_ok w0 W s q a r hqW hb hlen
  have hal : a ≤ q.code.length := h.ok.bs a (by rw [hb]; simp)
  obtain ⟨n, hn⟩ : ∃ n, n = q.code.length := ⟨_, rfl⟩
  have HQ0 := Lib.hid hqW
  rw [← hn] at hal hle
  have hz : q.size a = (n : Int) - (a : Int) := by rw [hn]; rfl
  rw [hz] at con ⊢
  have ew0 : IntKind.i64.wrap ((n : Int) - (a : Int) + 2) = (n : Int) - (a : Int) + 2 := (IntWalk.i64_in _ (by omega))
  have ew1 : IntKind.i64.wrap (-((n : Int) - (a : Int))) = -((n : Int) - (a : Int)) := (IntWalk.i64_in _ (by omega))
  have ew2 : IntKind.i64.wrap (-((n : Int) - (a : Int)) - 1) = -((n : Int) - (a : Int)) - 1 := (IntWalk.i64_in _ (by omega))
  have HN := Lib.hid hn
  clear hz hn
  clear h hbW hcW hqW
  go_enter Try.func61, Try.ntmps61
  go_wp2_with fail
  clear hW
  refine con.mono ?_
  rintro e w1 ⟨rfl, hb1⟩
  have HW1 := Lib.hid (HW.out.trans (Wr.of_below hb1))
  have hq1 := HQ0.out.below hb1
  have con2 := ins_call w0 w1 s a q hq1 (by rw [← HN.out]; exact hal) 2 1 ((n : Int) - (a : Int) + 2) false none [] 0 0 (cz_nil _ _) rfl
  clear hb1 hq1
  go_wp2_with fail
  refine con2.mono ?_
  rintro e w2 ⟨rfl, hq2, hw2⟩
  have con3 := emit_call w0 w2 s _ hq2 3 (-((n : Int) - (a : Int)) - 1) 0 false none [] 0 0 (cz_nil _ _) rfl
  have HW2 := Lib.hid (HW1.out.trans hw2)
  clear hq2 hw2
  go_wp2_with fail
  refine con3.mono ?_
  rintro e w3 ⟨rfl, hq3, hw3⟩
  have HQ := Lib.hid hq3
  have HWW := Lib.hid (HW2.out.trans hw3)
  clear hq3 hw3
  go_wp2_with fail
  go_ret
  exact ⟨rfl, HQ.out, HWW.out⟩

set_option maxRecDepth 100000 in
set_option maxHeartbeats 1000000 in
theorem plus_ok (w0 w : World) (s : Nat) (q : Lw) (h : Sq w0 w s q) (hlen : q.bs.length ≤ 100000) (kd : Int) (ng : Bool) (A : Option Addr) (l c : Nat) (a : Nat) (r : List Nat) (hb : q.bs = a :: r) :
    Calls Try.prog 62 #[.pointer (some ⟨s, 0, none⟩), .agg #[.int .i64 kd, .bool ng, .slice A l c]] w (MSays w0 w s (some (q.emit (two (-q.size a) 1)))) := by
  generalize hW : w.alloc (.cells #[.int .i64 kd, .bool ng, .slice A l c] 122) = W
  have hbW : Below w.heap.size w W := by rw [← hW]; exact (Below.refl _ _).alloc (Nat.le_refl _) _
  have hcW : Cel W w.heap.size 122 [.int .i64 kd, .bool ng, .slice A l c] := by rw [← hW]; exact Cel.new w _ _
  have hqW := h.below hbW
  have HC := Lib.hid hcW
  have HW := Lib.hid (Wr.of_below hbW)
  have hle := h.ok.len
  have con := last_ok w0 W s q a r hqW hb hlen
  have hal : a ≤ q.code.length := h.ok.bs a (by rw [hb]; simp)
  obtain ⟨n, hn⟩ : ∃ n, n = q.code.length := ⟨_, rfl⟩
  have HQ0 := Lib.hid hqW
  rw [← hn] at hal hle
  have hz : q.size a = (n : Int) - (a : Int) := by rw [hn]; rfl
  rw [hz] at con ⊢
  have ew0 : IntKind.i64.wrap (-((n : Int) - (a : Int))) = -((n : Int) - (a : Int)) := (IntWalk.i64_in _ (by omega))
  have HN := Lib.hid hn
  clear hz hn
  clear h hbW hcW hqW
  go_enter Try.func62, Try.ntmps62
  go_wp2_with fail
  clear hW
  refine con.mono ?_
  rintro e w1 ⟨rfl, hb1⟩
  have HW1 := Lib.hid (HW.out.trans (Wr.of_below hb1))
  have hq1 := HQ0.out.below hb1
  have con2 := emit_call w0 w1 s q hq1 2 (-((n : Int) - (a : Int))) 1 false none [] 0 0 (cz_nil _ _) rfl
  clear hb1 hq1
  go_wp2_with fail
  refine con2.mono ?_
  rintro e w2 ⟨rfl, hq2, hw2⟩
  have HQ := Lib.hid hq2
  have HWW := Lib.hid (HW1.out.trans hw2)
  clear hq2 hw2
  go_wp2_with fail
  go_ret
  exact ⟨rfl, HQ.out, HWW.out⟩

set_option maxRecDepth 100000 in
set_option maxHeartbeats 1000000 in
theorem opt_ok (w0 w : World) (s : Nat) (q : Lw) (h : Sq w0 w s q) (hlen : q.bs.length ≤ 100000) (kd : Int) (ng : Bool) (A : Option Addr) (l c : Nat) (a : Nat) (r : List Nat) (hb : q.bs = a :: r) :
    Calls Try.prog 63 #[.pointer (some ⟨s, 0, none⟩), .agg #[.int .i64 kd, .bool ng, .slice A l c]] w (MSays w0 w s (some (q.ins a (two 1 (q.size a + 1))))) := by
  generalize hW : w.alloc (.cells #[.int .i64 kd, .bool ng, .slice A l c] 122) = W
  have hbW : Below w.heap.size w W := by rw [← hW]; exact (Below.refl _ _).alloc (Nat.le_refl _) _
  have hcW : Cel W w.heap.size 122 [.int .i64 kd, .bool ng, .slice A l c] := by rw [← hW]; exact Cel.new w _ _
  have hqW := h.below hbW
  have HC := Lib.hid hcW
  have HW := Lib.hid (Wr.of_below hbW)
  have hle := h.ok.len
  have con := last_ok w0 W s q a r hqW hb hlen
  have hal : a ≤ q.code.length := h.ok.bs a (by rw [hb]; simp)
  obtain ⟨n, hn⟩ : ∃ n, n = q.code.length := ⟨_, rfl⟩
  have HQ0 := Lib.hid hqW
  rw [← hn] at hal hle
  have hz : q.size a = (n : Int) - (a : Int) := by rw [hn]; rfl
  rw [hz] at con ⊢
  have ew0 : IntKind.i64.wrap ((n : Int) - (a : Int) + 1) = (n : Int) - (a : Int) + 1 := (IntWalk.i64_in _ (by omega))
  have HN := Lib.hid hn
  clear hz hn
  clear h hbW hcW hqW
  go_enter Try.func63, Try.ntmps63
  go_wp2_with fail
  clear hW
  refine con.mono ?_
  rintro e w1 ⟨rfl, hb1⟩
  have HW1 := Lib.hid (HW.out.trans (Wr.of_below hb1))
  have hq1 := HQ0.out.below hb1
  have con2 := ins_call w0 w1 s a q hq1 (by rw [← HN.out]; exact hal) 2 1 ((n : Int) - (a : Int) + 1) false none [] 0 0 (cz_nil _ _) rfl
  clear hb1 hq1
  go_wp2_with fail
  refine con2.mono ?_
  rintro e w2 ⟨rfl, hq2, hw2⟩
  have HQ := Lib.hid hq2
  have HWW := Lib.hid (HW1.out.trans hw2)
  clear hq2 hw2
  go_wp2_with fail
  go_ret
  exact ⟨rfl, HQ.out, HWW.out⟩

end Go.Proofs.Ytjpbndpfbdfhjaa.Nfa
end
