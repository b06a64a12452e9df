/-
  The program's sequences of instructions in memory (layer 9): the state, insert, emit, pushEmpty, last, join.
-/
import Derived.Test.YtpfogoncholiaaaNfaLow
import Derived.Test.YtpfogoncholiaaaNfaInsert
namespace Go.Proofs.Ytpfogoncholiaaa.Nfa
open Go.RowKit Go.Proofs.Ytpfogoncholiaaa.Ord
open Go.Proofs.Ytpfogoncholiaaa.Reg (Sp sflat)
set_option linter.unusedVariables false
set_option linter.unusedSimpArgs false

/-- What the calls write: new blocks, and those that are the sequences', instructions' or numbers'. -/
structure Wr (w w' : World) : Prop where
  size : w.heap.size ≤ w'.heap.size
  keep : ∀ k, k < w.heap.size → (∀ o t fz, w.heap[k]? = some (Obj.cells o t fz) → t ≠ 53 ∧ t ≠ 38 ∧ t ≠ 3) → w'.heap[k]? = w.heap[k]?
theorem Wr.refl (w : World) : Wr w w := ⟨Nat.le_refl _, fun _ _ _ => rfl⟩
theorem Wr.trans {w w1 w2 : World} (h : Wr w w1) (h2 : Wr w1 w2) : Wr w w2 := ⟨Nat.le_trans h.size h2.size, fun k hk ht => by
  have e := h.keep k hk ht
  rw [h2.keep k (Nat.lt_of_lt_of_le hk h.size) (by rw [e]; exact ht), e]⟩
theorem Wr.of_below {w w' : World} (h : Below w.heap.size w w') : Wr w w' := ⟨h.size, fun k hk _ => h.block k hk⟩
theorem Wr.of_grown {w w' : World} {B n size : Nat} {t : TypeId} {v : Value} {cs : List Value} (ho : w.ownsRow B t size v n cs) (ht : t = 38 ∨ t = 3) (hg : w.grownBy w' v.ownBlock) : Wr w w' := ⟨hg.size, fun k hk h => hg.block k hk fun e => by
  rcases ho.2 with ⟨rfl, _⟩ | ⟨g, cap, cur, rfl, _, hc, _⟩
  · simp [Value.ownBlock] at e
  · obtain rfl : k = g := by simpa [Value.ownBlock] using e
    have := h _ _ _ hc
    rcases ht with rfl | rfl
    · exact this.2.1 rfl
    · exact this.2.2 rfl⟩
theorem Wr.of_set {w : World} {s : Nat} {cs : List Value} (h : Cel w s 53 cs) (i : Nat) (u : Value) : Wr w (w.setCell ⟨s, i, none⟩ u) := ⟨by simp [World.setCell], fun k hk ht => Below.heap_setCell _ _ _ _ (fun e => by
  obtain rfl : k = s := e
  exact (ht _ _ _ h).1 rfl)⟩
def goI (b : Nat) : Value := .int .i64 (b : Int)
theorem goI_one (l : List Nat) : ∀ u ∈ l.map goI, u.oneCell' = true := by
  intro u hu
  obtain ⟨b, _, rfl⟩ := List.mem_map.1 hu
  rfl
theorem infoInt : (Try.prog.info? 3).map (fun i => (i.zero, i.size, i.bytes)) = some (some (.int .i64 0), 1, 8) := by kernel_rfl
theorem rowInt : ElemRow Try.prog 51 3 1 8 := ElemRow.mk' Try.underlying51 infoInt rfl (by decide)

/-- The memory of a state: the block s, the row of code, the row of beginnings. -/
structure Sm (w0 w : World) (s : Nat) (Ac : Option Addr) (cc : Nat) (Ab : Option Addr) (cb n m : Nat) (big : Bool) (us : List Iv) (bs : List Nat) : Prop where
  low : Below w0.heap.size w0 w
  ge : w0.heap.size ≤ s
  cel : Cel w s 53 [.slice Ac n cc, .slice Ab m cb, .bool big]
  code : w.ownsRow w0.heap.size 38 5 (.slice Ac n cc) n (iflat us)
  begs : w.ownsRow w0.heap.size 3 1 (.slice Ab m cb) m (bs.reverse.map goI)
/-- The sequences at block s are q; w0: the world at the start. -/
structure Sq (w0 w : World) (s : Nat) (q : Lw) : Prop where
  ok : Ok q
  ex : ∃ Ac cc Ab cb us, us.map (·.i) = q.code ∧ (∀ u ∈ us, Cz w0 u.A (sflat u.i.sp)) ∧ Sm w0 w s Ac cc Ab cb q.code.length q.bs.length q.big us q.bs
section
variable {w0 w w' w1 w2 : World} {s cc cb n m : Nat} {Ac Ab : Option Addr} {big : Bool} {us : List Iv} {bs : List Nat} {q : Lw}
theorem Sm.below (h : Sm w0 w s Ac cc Ab cb n m big us bs) (hb : Below w.heap.size w w') : Sm w0 w' s Ac cc Ab cb n m big us bs :=
  ⟨h.low.trans (hb.mono h.low.size), h.ge, Cel.below h.cel hb h.cel.lt, own_frm (l := []) h.code (Frm.of_below hb) (by simp), own_frm (l := []) h.begs (Frm.of_below hb) (by simp)⟩
theorem Sm.lt (h : Sm w0 w s Ac cc Ab cb n m big us bs) : s < w.heap.size := h.cel.lt
theorem Sq.below (h : Sq w0 w s q) (hb : Below w.heap.size w w') : Sq w0 w' s q := by
  obtain ⟨Ac, cc, Ab, cb, us, h1, h2, h3⟩ := h.ex
  exact ⟨h.ok, Ac, cc, Ab, cb, us, h1, h2, h3.below hb⟩
theorem Sq.low (h : Sq w0 w s q) : Below w0.heap.size w0 w := by
  obtain ⟨Ac, cc, Ab, cb, us, h1, h2, h3⟩ := h.ex
  exact h3.low
/-- The code's row has turned (w1, ahead of it; w2, behind), and is stored. -/
theorem Sm.recode {A' : Option Addr} {c' n' : Nat} {vs : List Iv} (h : Sm w0 w1 s Ac cc Ab cb n m big us bs) (hg : w1.grownBy w2 (Value.slice Ac n cc).ownBlock) (ho : w2.ownsRow w0.heap.size 38 5 (.slice A' n' c') n' (iflat vs)) :
    Cel w2 s 53 [.slice Ac n cc, .slice Ab m cb, .bool big] ∧ Sm w0 (w2.setCell ⟨s, 0, none⟩ (.slice A' n' c')) s A' c' Ab cb n' m big vs bs ∧ Wr w1 (w2.setCell ⟨s, 0, none⟩ (.slice A' n' c')) := by
  have hc : Cel w2 s 53 [.slice Ac n cc, .slice Ab m cb, .bool big] := h.cel.grown hg (own_ty_ne h.code h.cel (by decide))
  have hf : Frm [s] w2 (w2.setCell ⟨s, 0, none⟩ (.slice A' n' c')) := (Frm.refl [s] w2).set (by simp) _
  have hb2 : w2.ownsRow w0.heap.size 3 1 (.slice Ab m cb) m (bs.reverse.map goI) := own_frm (l := (Value.slice Ac n cc).ownBlock.toList) h.begs ((Frm.refl _ _).grown hg (fun g e _ => by rw [e]; simp)) fun g hg' e => by
    exact own_two h.begs h.code (by decide) g e (by simpa using hg')
  refine ⟨hc, ⟨?_, h.ge, Cel.set hc 0 _, own_frm ho hf fun g hg' => ?_, own_frm hb2 hf fun g hg' => ?_⟩, (Wr.of_grown h.code (.inl rfl) hg).trans (Wr.of_set hc 0 _)⟩
  · have h12 : Below w0.heap.size w1 w2 := ⟨hg.os, hg.tape, hg.output, hg.size, fun k hk => hg.block k (Nat.lt_of_lt_of_le hk h.low.size) fun e => by have := own_ge h.code k e.symm; omega⟩
    exact (h.low.trans h12).trans (hf.below (Nat.le_trans h.low.size hg.size) (by have := h.ge; simp; omega))
  · rw [List.mem_singleton.1 hg']; exact own_ty_ne ho hc (by decide)
  · rw [List.mem_singleton.1 hg']; exact own_ty_ne hb2 hc (by decide)
/-- The row of beginnings has turned, and is stored. -/
theorem Sm.rebegs {A' : Option Addr} {c' n' : Nat} {bs' : List Nat} (h : Sm w0 w1 s Ac cc Ab cb n m big us bs) (hg : w1.grownBy w2 (Value.slice Ab m cb).ownBlock) (ho : w2.ownsRow w0.heap.size 3 1 (.slice A' n' c') n' (bs'.reverse.map goI)) :
    Cel w2 s 53 [.slice Ac n cc, .slice Ab m cb, .bool big] ∧ Sm w0 (w2.setCell ⟨s, 1, none⟩ (.slice A' n' c')) s Ac cc A' c' n n' big us bs' ∧ Wr w1 (w2.setCell ⟨s, 1, none⟩ (.slice A' n' c')) := by
  have hc : Cel w2 s 53 [.slice Ac n cc, .slice Ab m cb, .bool big] := h.cel.grown hg (own_ty_ne h.begs h.cel (by decide))
  have hf : Frm [s] w2 (w2.setCell ⟨s, 1, none⟩ (.slice A' n' c')) := (Frm.refl [s] w2).set (by simp) _
  have hb2 : w2.ownsRow w0.heap.size 38 5 (.slice Ac n cc) n (iflat us) := own_frm (l := (Value.slice Ab m cb).ownBlock.toList) h.code ((Frm.refl _ _).grown hg (fun g e _ => by rw [e]; simp)) fun g hg' e => by
    exact own_two h.code h.begs (by decide) g e (by simpa using hg')
  refine ⟨hc, ⟨?_, h.ge, Cel.set hc 1 _, own_frm hb2 hf fun g hg' => ?_, own_frm ho hf fun g hg' => ?_⟩, (Wr.of_grown h.begs (.inr rfl) hg).trans (Wr.of_set hc 1 _)⟩
  · have h12 : Below w0.heap.size w1 w2 := ⟨hg.os, hg.tape, hg.output, hg.size, fun k hk => hg.block k (Nat.lt_of_lt_of_le hk h.low.size) fun e => by have := own_ge h.begs k e.symm; omega⟩
    exact (h.low.trans h12).trans (hf.below (Nat.le_trans h.low.size hg.size) (by have := h.ge; simp; omega))
  · rw [List.mem_singleton.1 hg']; exact own_ty_ne hb2 hc (by decide)
  · rw [List.mem_singleton.1 hg']; exact own_ty_ne ho hc (by decide)
/-- The mark is set. -/
theorem Sm.mark (h : Sm w0 w s Ac cc Ab cb n m big us bs) : Sm w0 (w.setCell ⟨s, 2, none⟩ (.bool true)) s Ac cc Ab cb n m true us bs ∧ Wr w (w.setCell ⟨s, 2, none⟩ (.bool true)) := by
  have hf : Frm [s] w (w.setCell ⟨s, 2, none⟩ (.bool true)) := (Frm.refl [s] w).set (by simp) _
  refine ⟨⟨h.low.trans (hf.below h.low.size (by have := h.ge; simp; omega)), h.ge, Cel.set h.cel 2 _, own_frm h.code hf fun g hg' => ?_, own_frm h.begs hf fun g hg' => ?_⟩, Wr.of_set h.cel 2 _⟩
  · rw [List.mem_singleton.1 hg']; exact own_ty_ne h.code h.cel (by decide)
  · rw [List.mem_singleton.1 hg']; exact own_ty_ne h.begs h.cel (by decide)
end

/-- What a call does that takes the state on. -/
def QSays (w0 w : World) (s : Nat) (q : Lw) (e : Ending) (w' : World) : Prop := e = .returned (.tuple #[]) ∧ Sq w0 w' s q ∧ Wr w w'
/-- What insert's last region reads. -/
def SI (s b : Nat) (cv : Value) (kd x y : Int) (ng : Bool) (sv : Value) (V : World) : Prop :=
  V.cell? ⟨s, 0, none⟩ = some cv ∧ V.cell? ⟨b, 0, none⟩ = some (.int .i64 kd) ∧ V.cell? ⟨b, 1, none⟩ = some (.int .i64 x) ∧ V.cell? ⟨b, 2, none⟩ = some (.int .i64 y) ∧ V.cell? ⟨b, 3, none⟩ = some (.bool ng) ∧ V.cell? ⟨b, 4, none⟩ = some sv
theorem SI.of {s b : Nat} {cs : List Value} {cv : Value} {t : TypeId} {kd x y : Int} {ng : Bool} {sv : Value} {V : World} (h : Cel V s t cs) (h0 : cs[0]? = some cv) (hb : Cel V b 38 [.int .i64 kd, .int .i64 x, .int .i64 y, .bool ng, sv]) : SI s b cv kd x y ng sv V :=
  ⟨by rw [h.cell 0]; exact h0, hb.cell 0, hb.cell 1, hb.cell 2, hb.cell 3, hb.cell 4⟩

set_option maxRecDepth 100000 in
set_option maxHeartbeats 1000000 in
theorem ins_full_call (w0 w : World) (s at_ : Nat) (q : Lw) (h : Sq w0 w s q) (hf : q.code.length = 200) (kd x y : Int) (ng : Bool) (A : Option Addr) (l c : Nat) :
    Calls Try.prog 25 #[.pointer (some ⟨s, 0, none⟩), .int .i64 (at_ : Int), .agg #[.int .i64 kd, .int .i64 x, .int .i64 y, .bool ng, .slice A l c]] w (QSays w0 w s ⟨q.code, q.bs, true⟩) := by
  obtain ⟨Ac, cc, Ab, cb, us, h1, h2, h3⟩ := h.ex
  rw [hf] at h3
  generalize hW : w.alloc (.cells #[.int .i64 kd, .int .i64 x, .int .i64 y, .bool ng, .slice A l c] 38) = W
  have hbW : Below w.heap.size w W := by rw [← hW]; exact (Below.refl _ _).alloc (Nat.le_refl _) _
  have h3W := h3.below hbW
  have c0 := h3W.cel.cell 0
  have c2 := h3W.cel.cell 2
  have f2 := h3W.cel.free 2
  obtain ⟨hm, hw⟩ := h3W.mark
  have HM := Lib.hid (show Sq w0 (W.setCell ⟨s, 2, none⟩ (.bool true)) s ⟨q.code, q.bs, true⟩ from ⟨⟨h.ok.len, h.ok.bs⟩, Ac, cc, Ab, cb, us, h1, h2, by rw [hf]; exact hm⟩)
  have HWR := Lib.hid ((Wr.of_below hbW).trans hw)
  clear h h1 h2 h3 h3W hm hw hbW hf
  go_enter Try.func25, Try.ntmps25
  go_wp2_with fail
  go_end0
  exact ⟨rfl, HM.out, HWR.out⟩

set_option maxRecDepth 100000 in
set_option maxHeartbeats 1000000 in
theorem ins_room_call (w0 w : World) (s at_ : Nat) (q : Lw) (h : Sq w0 w s q) (hf : q.code.length < 200) (hat : at_ ≤ q.code.length) (kd x y : Int) (ng : Bool) (A : Option Addr) (sp : List Sp) (l c : Nat) (hsp : Cz w0 A (sflat sp)) (hl : sp.length = l) :
    Calls Try.prog 25 #[.pointer (some ⟨s, 0, none⟩), .int .i64 (at_ : Int), .agg #[.int .i64 kd, .int .i64 x, .int .i64 y, .bool ng, .slice A l c]] w (QSays w0 w s ⟨q.code.take at_ ++ ⟨kd, x, y, ng, sp⟩ :: q.code.drop at_, q.bs, q.big⟩) := by
  obtain ⟨Ac, cc, Ab, cb, us, h1, h2, h3⟩ := h.ex
  have hul : us.length = q.code.length := by rw [← h1, List.length_map]
  obtain ⟨n, hn⟩ : ∃ n, n = q.code.length := ⟨_, rfl⟩
  rw [← hn] at h3 hf hat hul
  generalize hW : w.alloc (.cells #[.int .i64 kd, .int .i64 x, .int .i64 y, .bool ng, .slice A l c] 38) = W
  have hWs : W.heap.size = w.heap.size + 1 := by rw [← hW]; simp
  have hbW : Below w.heap.size w W := by rw [← hW]; exact (Below.refl _ _).alloc (Nat.le_refl _) _
  have hcW : Cel W w.heap.size 38 [.int .i64 kd, .int .i64 x, .int .i64 y, .bool ng, .slice A l c] := by rw [← hW]; exact Cel.new w _ _
  have h3W := h3.below hbW
  have c0 := h3W.cel.cell 0
  have hH : SI s w.heap.size (.slice Ac n cc) kd x y ng (.slice A l c) W.drew := SI.of (t := 53) h3W.cel rfl hcW
  have hb5 : Below W.heap.size W (W.drew.alloc (.cells #[.int .i64 kd, .int .i64 x, .int .i64 y, .bool ng, .slice A l c] 38)) := ((Below.refl _ _).drew).alloc (Nat.le_refl _) _
  have H5 := Lib.hid (h3W.below hb5)
  have HC5 := Lib.hid (hcW.below hb5 hcW.lt)
  have HV5 := Lib.hid (show Cel (W.drew.alloc (.cells #[.int .i64 kd, .int .i64 x, .int .i64 y, .bool ng, .slice A l c] 38)) (w.heap.size + 1) 38 (Iv.cells ⟨⟨kd, x, y, ng, sp⟩, A, c⟩) by
    rw [← hWs]
    have := Cel.new W.drew 38 [.int .i64 kd, .int .i64 x, .int .i64 y, .bool ng, .slice A l c]
    rw [← hl] at this ⊢
    exact this)
  have HB5 := Lib.hid (hbW.trans (hb5.mono (by omega)))
  have HSP := Lib.hid hsp
  have HL := Lib.hid hl
  have HOK := Lib.hid h.ok
  have H1 := Lib.hid h1
  have H2 := Lib.hid h2
  have HN := Lib.hid hn
  have HUL := Lib.hid hul
  have HNE := Lib.hid (show (Value.slice Ac n cc).ownBlock ≠ some w.heap.size from fun e => by have := own_lt h3.code _ e; omega)
  have HWR := Lib.hid ((Wr.of_below hbW).trans (Wr.of_below hb5))
  have CON := Lib.hid (insert_call _ w0.heap.size n cc at_ Ac us (w.heap.size + 1) ⟨⟨kd, x, y, ng, sp⟩, A, c⟩ H5.out.code hul hat (by omega) HV5.out (fun e => by have := own_lt h3W.code _ e; omega) H5.out.low.size)
  have hne : ¬ ((n : Int) = 200) := by omega
  clear h h1 h2 h3 h3W hb5 hbW hcW hsp hl hn hul
  go_enter Try.func25, Try.ntmps25
  go_wp2_with fail
  clear hW
  refine wp_region_N [9, 10, 11] (SI s w.heap.size (.slice Ac n cc) kd x y ng (.slice A l c)) (by kernel_rfl) ?_
  refine wpAnyN_take (i := 0) (v := .pointer (some ⟨s, 0, none⟩)) [9, 10, 11] (by kernel_rfl) rfl (by kernel_rfl) (by kernel_rfl) (by kernel_rfl) (fun _ _ _ h => h) (Or.inl ⟨by rfl, ?_⟩) hH ?_
  · intro V hV; go_simp
  try simp only [Act.put, List.setIfInBounds_toArray, List.set_cons_zero, List.set_cons_succ, List.getElem_toArray, List.getElem_cons_succ, List.getElem_cons_zero]
  refine wpAnyN_take (i := 1) (v := .pointer (some ⟨s, 0, none⟩)) [9, 10, 11] (by kernel_rfl) rfl (by kernel_rfl) (by kernel_rfl) (by kernel_rfl) (fun _ _ _ h => h) (Or.inl ⟨by rfl, ?_⟩) hH ?_
  · intro V hV; go_simp
  try simp only [Act.put, List.setIfInBounds_toArray, List.set_cons_zero, List.set_cons_succ, List.getElem_toArray, List.getElem_cons_succ, List.getElem_cons_zero]
  refine wpAnyN_take (i := 2) (v := .pointer (some ⟨s, 0, none⟩)) [9, 10, 11] (by kernel_rfl) rfl (by kernel_rfl) (by kernel_rfl) (by kernel_rfl) (fun _ _ _ h => h) (Or.inl ⟨by rfl, ?_⟩) hH ?_
  · intro V hV; go_simp
  try simp only [Act.put, List.setIfInBounds_toArray, List.set_cons_zero, List.set_cons_succ, List.getElem_toArray, List.getElem_cons_succ, List.getElem_cons_zero]
  refine wpAnyN_take (i := 3) (v := .pointer (some ⟨s, 0, none⟩)) [9, 10, 11] (by kernel_rfl) rfl (by kernel_rfl) (by kernel_rfl) (by kernel_rfl) (fun _ _ _ h => h) (Or.inl ⟨by rfl, ?_⟩) hH ?_
  · intro V hV; go_simp
  try simp only [Act.put, List.setIfInBounds_toArray, List.set_cons_zero, List.set_cons_succ, List.getElem_toArray, List.getElem_cons_succ, List.getElem_cons_zero]
  refine wpAnyN_take (i := 4) (v := .slice Ac n cc) [9, 10, 11] (by kernel_rfl) rfl (by kernel_rfl) (by kernel_rfl) (by kernel_rfl) (fun _ _ _ h => h) (Or.inl ⟨by rfl, ?_⟩) hH ?_
  · intro V hV; obtain ⟨k0, k1, k2, k3, k4, k5⟩ := hV; go_simp
  try simp only [Act.put, List.setIfInBounds_toArray, List.set_cons_zero, List.set_cons_succ, List.getElem_toArray, List.getElem_cons_succ, List.getElem_cons_zero]
  refine wpAnyN_take (i := 5) (v := .int .i64 (at_ : Int)) [9, 10, 11] (by kernel_rfl) rfl (by kernel_rfl) (by kernel_rfl) (by kernel_rfl) (fun _ _ _ h => h) (Or.inl ⟨by rfl, ?_⟩) hH ?_
  · intro V hV; go_simp
  try simp only [Act.put, List.setIfInBounds_toArray, List.set_cons_zero, List.set_cons_succ, List.getElem_toArray, List.getElem_cons_succ, List.getElem_cons_zero]
  refine wpAnyN_take (i := 6) (v := .agg #[.int .i64 kd, .int .i64 x, .int .i64 y, .bool ng, .slice A l c]) [9, 10, 11] (by kernel_rfl) rfl (by kernel_rfl) (by kernel_rfl) (by kernel_rfl) (fun _ _ _ h => h) (Or.inl ⟨by rfl, ?_⟩) hH ?_
  · intro V hV; obtain ⟨k0, k1, k2, k3, k4, k5⟩ := hV; go_simp
  try simp only [Act.put, List.setIfInBounds_toArray, List.set_cons_zero, List.set_cons_succ, List.getElem_toArray, List.getElem_cons_succ, List.getElem_cons_zero]
  refine wpAnyN_one (i := 7) (by kernel_rfl) rfl (fun K hK => ?_)
  go_simp
  refine hK.out _ _ (.inr ?_) ?_
  · exact SI.of H5.out.cel rfl HC5.out
  clear hK K
  try simp only [Act.put, List.setIfInBounds_toArray, List.set_cons_zero, List.set_cons_succ, List.getElem_toArray, List.getElem_cons_succ, List.getElem_cons_zero]
  refine wpAnyN_one (i := 8) (by kernel_rfl) rfl (fun K hK => ?_)
  go_simp
  refine CON.out.mono ?_
  rintro e w8 ⟨A8, c8, rfl, ho8, hg8⟩
  go_wp2_with fail
  obtain ⟨hp8, hm9, hw9⟩ := H5.out.recode hg8 ho8
  have hc8 := HC5.out.grown hg8 HNE.out
  have y8 := hp8.cell 0
  have g8 := hp8.free 0
  have hS8 := SI.of (t := 53) hp8 rfl hc8
  have HQ9 := Lib.hid (show Sq w0 (w8.setCell ⟨s, 0, none⟩ (.slice A8 (n + 1 : Nat) c8)) s ⟨q.code.take at_ ++ ⟨kd, x, y, ng, sp⟩ :: q.code.drop at_, q.bs, q.big⟩ from by
      have hlen : (q.code.take at_ ++ ⟨kd, x, y, ng, sp⟩ :: q.code.drop at_).length = n + 1 := by simp only [List.length_append, List.length_take, List.length_cons, List.length_drop, ← HN.out]; omega
      have hok := HOK.out.ins ⟨kd, x, y, ng, sp⟩ (a := at_) (by rw [← HN.out]; exact hat)
      rw [ins_room (by rw [← HN.out]; exact hf)] at hok
      refine ⟨hok, A8, c8, Ab, cb, _, ?_, ?_, by rw [hlen]; exact hm9⟩
      · rw [List.map_append, List.map_cons, List.map_take, List.map_drop, H1.out]
      · intro u hu
        rcases List.mem_append.1 hu with hu | hu
        · exact H2.out u (List.mem_of_mem_take hu)
        rcases List.mem_cons.1 hu with rfl | hu
        · exact HSP.out
        · exact H2.out u (List.mem_of_mem_drop hu))
  have HW9 := Lib.hid (HWR.out.trans hw9)
  refine hK.out _ _ (.inr hS8) ?_
  clear hK K hm9 hw9 ho8 hg8 hp8 hc8 hS8
  try simp only [Act.put, List.setIfInBounds_toArray, List.set_cons_zero, List.set_cons_succ, List.getElem_toArray, List.getElem_cons_succ, List.getElem_cons_zero]
  refine wpAnyN_one (i := 9) (by kernel_rfl) rfl (fun K hK => ?_)
  go_simp
  refine hK.out _ _ (.inl (by decide)) ?_
  clear hK K
  try simp only [Act.put, List.setIfInBounds_toArray, List.set_cons_zero, List.set_cons_succ, List.getElem_toArray, List.getElem_cons_succ, List.getElem_cons_zero]
  refine wpAnyN_one (i := 10) (by kernel_rfl) rfl (fun K hK => ?_)
  go_simp
  refine hK.out _ _ (.inl (by decide)) ?_
  clear hK K
  try simp only [Act.put, List.setIfInBounds_toArray, List.set_cons_zero, List.set_cons_succ, List.getElem_toArray, List.getElem_cons_succ, List.getElem_cons_zero]
  refine wpAnyN_one (i := 11) (by kernel_rfl) rfl (fun K hK => ?_)
  go_simp
  refine hK.out _ _ (.inl (by decide)) ?_
  clear hK K
  try simp only [Act.put, List.setIfInBounds_toArray, List.set_cons_zero, List.set_cons_succ, List.getElem_toArray, List.getElem_cons_succ, List.getElem_cons_zero]
  refine wpAnyN_done (by kernel_rfl) ?_ _
  go_wp2_with fail
  go_end0
  exact ⟨rfl, HQ9.out, HW9.out⟩

end Go.Proofs.Ytpfogoncholiaaa.Nfa
