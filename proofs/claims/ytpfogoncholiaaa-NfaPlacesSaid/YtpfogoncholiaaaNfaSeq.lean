/-
  The program's sequences in memory (layer 9): insert and emit, pushEmpty, last, join.
-/
import Derived.Test.YtpfogoncholiaaaNfaState
namespace Go.Proofs.Ytpfogoncholiaaa.Nfa
open Go.RowKit Go.Proofs.Ytpfogoncholiaaa.Ord
open Go.Proofs.Ytpfogoncholiaaa.Reg (Sp sflat)
set_option linter.unusedVariables false
set_option linter.unusedSimpArgs false

theorem ins_call (w0 w : World) (s at_ : Nat) (q : Lw) (h : Sq w0 w s q) (hat : at_ ≤ q.code.length) (kd x y : Int) (ng : Bool) (A : Option Addr) (sp : List Sp) (l c : Nat) (hsp : Cz w0 A (sflat sp)) (hl : sp.length = l) :
    Calls Try.prog 25 #[.pointer (some ⟨s, 0, none⟩), .int .i64 (at_ : Int), .agg #[.int .i64 kd, .int .i64 x, .int .i64 y, .bool ng, .slice A l c]] w (QSays w0 w s (q.ins at_ ⟨kd, x, y, ng, sp⟩)) := by
  have hle := h.ok.len
  by_cases hf : q.code.length = 200
  · rw [ins_full hf]
    exact ins_full_call w0 w s at_ q h hf kd x y ng A l c
  · rw [ins_room (by omega)]
    exact ins_room_call w0 w s at_ q h (by omega) hat kd x y ng A sp l c hsp hl
theorem cz_nil (w : World) (A : Option Addr) : Cz w A (sflat []) := fun h => absurd rfl h
/-- What emit's region reads. -/
def SE (s b : Nat) (cv : Value) (kd x y : Int) (ng : Bool) (sv : Value) (V : World) : Prop := SI s b cv kd x y ng sv V
/-- What pushEmpty's and join's regions read. -/
def SB (s : Nat) (cv bv : Value) (V : World) : Prop := V.cell? ⟨s, 0, none⟩ = some cv ∧ V.cell? ⟨s, 1, none⟩ = some bv
/-- A number of the row of beginnings. -/
theorem begs_at {w0 w : World} {s : Nat} {Ac Ab : Option Addr} {cc cb n m : Nat} {big : Bool} {us : List Iv} {bs : List Nat} (h : Sm w0 w s Ac cc Ab cb n m big us bs) {i b : Nat} (hi : bs.reverse[i]? = some b) : ∃ g, Ab = some ⟨g, 0, none⟩ ∧ w.cell? ⟨g, i, none⟩ = some (goI b) ∧ g < w.heap.size ∧ bs.length = m ∧ m ≤ cb := by
  have hlen : bs.length = m := by have := h.begs.1; simpa using this
  have him : i < m := by
    have := (List.getElem?_eq_some_iff.1 hi).1
    simp at this; omega
  have hcb : m ≤ cb := by
    rcases h.begs.2 with ⟨hv, h0⟩ | ⟨g', cap', cur, hv, _, _, h1, h2, _⟩
    · omega
    · cases hv; exact h1
  obtain ⟨g, cap, hv, hg, hlt⟩ := h.begs.form (by omega)
  cases hv
  refine ⟨g, rfl, ?_, hlt, hlen, hcb⟩
  rw [h.begs.cellAt i (by simp; omega), List.getElem?_map, hi]
  rfl

set_option maxRecDepth 100000 in
set_option maxHeartbeats 1000000 in
theorem emit_call (w0 w : World) (s : Nat) (q : Lw) (h : Sq w0 w s q) (kd x y : Int) (ng : Bool) (A : Option Addr) (sp : List Sp) (l c : Nat) (hsp : Cz w0 A (sflat sp)) (hl : sp.length = l) :
    Calls Try.prog 17 #[.pointer (some ⟨s, 0, none⟩), .agg #[.int .i64 kd, .int .i64 x, .int .i64 y, .bool ng, .slice A l c]] w (QSays w0 w s (q.emit ⟨kd, x, y, ng, sp⟩)) := by
  obtain ⟨Ac, cc, Ab, cb, us, h1, h2, h3⟩ := h.ex
  obtain ⟨n, hn⟩ : ∃ n, n = q.code.length := ⟨_, rfl⟩
  rw [← hn] at h3
  generalize hW : w.alloc (.cells #[.int .i64 kd, .int .i64 x, .int .i64 y, .bool ng, .slice A l c] 38) = W
  have hbW : Below w.heap.size w W := by rw [← hW]; exact (Below.refl _ _).alloc (Nat.le_refl _) _
  have hcW : Cel W w.heap.size 38 [.int .i64 kd, .int .i64 x, .int .i64 y, .bool ng, .slice A l c] := by rw [← hW]; exact Cel.new w _ _
  have h3W := h3.below hbW
  have hH : SE s w.heap.size (.slice Ac n cc) kd x y ng (.slice A l c) W.drew := SI.of (t := 53) h3W.cel rfl hcW
  have hbD : Below w.heap.size w W.drew := hbW.drew
  have CON := Lib.hid (ins_call w0 W.drew s n q (h.below hbD) (by omega) kd x y ng A sp l c hsp hl)
  have HWR := Lib.hid (Wr.of_below hbD)
  rw [show q.emit ⟨kd, x, y, ng, sp⟩ = q.ins n ⟨kd, x, y, ng, sp⟩ by rw [hn]; rfl]
  clear h h1 h2 h3 h3W hbW hbD hcW hsp hl hn
  go_enter Try.func17, Try.ntmps17
  go_wp2_with fail
  clear hW
  refine wp_region_N [7] (SE s w.heap.size (.slice Ac n cc) kd x y ng (.slice A l c)) (by kernel_rfl) ?_
  refine wpAnyN_take (i := 0) (v := .pointer (some ⟨s, 0, none⟩)) [7] (by kernel_rfl) rfl (by kernel_rfl) (by kernel_rfl) (by kernel_rfl) (fun _ _ _ h => h) (Or.inl ⟨by rfl, ?_⟩) hH ?_
  · intro V hV; go_simp
  try simp only [Act.put, List.setIfInBounds_toArray, List.set_cons_zero, List.set_cons_succ, List.getElem_toArray, List.getElem_cons_succ, List.getElem_cons_zero]
  refine wpAnyN_take (i := 1) (v := .pointer (some ⟨s, 0, none⟩)) [2, 3, 4, 5, 7] (by kernel_rfl) rfl (by kernel_rfl) (by kernel_rfl) (by kernel_rfl) (fun _ _ _ h => h) (Or.inl ⟨by rfl, ?_⟩) hH ?_
  · intro V hV; go_simp
  try simp only [Act.put, List.setIfInBounds_toArray, List.set_cons_zero, List.set_cons_succ, List.getElem_toArray, List.getElem_cons_succ, List.getElem_cons_zero]
  refine wpAnyN_take (i := 2) (v := .pointer (some ⟨s, 0, none⟩)) [3, 4, 5, 7] (by kernel_rfl) rfl (by kernel_rfl) (by kernel_rfl) (by kernel_rfl) (fun _ _ _ h => h) (Or.inl ⟨by rfl, ?_⟩) hH ?_
  · intro V hV; go_simp
  try simp only [Act.put, List.setIfInBounds_toArray, List.set_cons_zero, List.set_cons_succ, List.getElem_toArray, List.getElem_cons_succ, List.getElem_cons_zero]
  refine wpAnyN_take (i := 3) (v := .pointer (some ⟨s, 0, none⟩)) [4, 5, 7] (by kernel_rfl) rfl (by kernel_rfl) (by kernel_rfl) (by kernel_rfl) (fun _ _ _ h => h) (Or.inl ⟨by rfl, ?_⟩) hH ?_
  · intro V hV; go_simp
  try simp only [Act.put, List.setIfInBounds_toArray, List.set_cons_zero, List.set_cons_succ, List.getElem_toArray, List.getElem_cons_succ, List.getElem_cons_zero]
  refine wpAnyN_take (i := 4) (v := .slice Ac n cc) [5, 7] (by kernel_rfl) rfl (by kernel_rfl) (by kernel_rfl) (by kernel_rfl) (fun _ _ _ h => h) (Or.inl ⟨by rfl, ?_⟩) hH ?_
  · intro V hV; obtain ⟨k0, k1, k2, k3, k4, k5⟩ := hV; go_simp
  try simp only [Act.put, List.setIfInBounds_toArray, List.set_cons_zero, List.set_cons_succ, List.getElem_toArray, List.getElem_cons_succ, List.getElem_cons_zero]
  refine wpAnyN_take (i := 5) (v := .int .i64 (n : Int)) [7] (by kernel_rfl) rfl (by kernel_rfl) (by kernel_rfl) (by kernel_rfl) (fun _ _ _ h => h) (Or.inl ⟨by rfl, ?_⟩) hH ?_
  · intro V hV; go_simp
  try simp only [Act.put, List.setIfInBounds_toArray, List.set_cons_zero, List.set_cons_succ, List.getElem_toArray, List.getElem_cons_succ, List.getElem_cons_zero]
  refine wpAnyN_take (i := 6) (v := .agg #[.int .i64 kd, .int .i64 x, .int .i64 y, .bool ng, .slice A l c]) [7] (by kernel_rfl) rfl (by kernel_rfl) (by kernel_rfl) (by kernel_rfl) (fun _ _ _ h => h) (Or.inl ⟨by rfl, ?_⟩) hH ?_
  · intro V hV; obtain ⟨k0, k1, k2, k3, k4, k5⟩ := hV; go_simp
  try simp only [Act.put, List.setIfInBounds_toArray, List.set_cons_zero, List.set_cons_succ, List.getElem_toArray, List.getElem_cons_succ, List.getElem_cons_zero]
  refine wpAnyN_one (i := 7) (by kernel_rfl) rfl (fun K hK => ?_)
  go_simp
  refine CON.out.mono ?_
  rintro e w8 ⟨rfl, hq8, hw8⟩
  go_wp2_with fail
  have HQ8 := Lib.hid hq8
  have HW8 := Lib.hid (HWR.out.trans hw8)
  refine hK.out _ _ (.inl (by decide)) ?_
  clear hK K hq8 hw8
  try simp only [Act.put, List.setIfInBounds_toArray, List.set_cons_zero, List.set_cons_succ, List.getElem_toArray, List.getElem_cons_succ, List.getElem_cons_zero]
  refine wpAnyN_done (by kernel_rfl) ?_ _
  go_wp2_with fail
  go_end0
  exact ⟨rfl, HQ8.out, HW8.out⟩

set_option maxRecDepth 100000 in
set_option maxHeartbeats 1000000 in
theorem push_call (w0 w : World) (s : Nat) (q : Lw) (h : Sq w0 w s q) (hlen : q.bs.length ≤ 100000) :
    Calls Try.prog 44 #[.pointer (some ⟨s, 0, none⟩)] w (QSays w0 w s q.push) := by
  obtain ⟨Ac, cc, Ab, cb, us, h1, h2, h3⟩ := h.ex
  have HOK := Lib.hid h.ok.push
  have hle := h.ok.len
  obtain ⟨n, hn⟩ : ∃ n, n = q.code.length := ⟨_, rfl⟩
  obtain ⟨m, hm⟩ : ∃ m, m = q.bs.length := ⟨_, rfl⟩
  rw [← hn, ← hm] at h3
  rw [← hn] at hle
  rw [← hm] at hlen
  have hH : SB s (.slice Ac n cc) (.slice Ab m cb) w.drew := ⟨(h3.cel.drew).cell 0, (h3.cel.drew).cell 1⟩
  have hb5 : Below w.heap.size w (w.drew.alloc (.cells #[.int .i64 n] 3)) := ((Below.refl _ _).drew).alloc (Nat.le_refl _) _
  have H5 := Lib.hid (h3.below hb5)
  have HSRC := Lib.hid (src_of_cel (show Cel (w.drew.alloc (.cells #[.int .i64 n] 3)) w.heap.size 3 [goI n] from Cel.new w.drew _ _) 1)
  have H1 := Lib.hid h1
  have H2 := Lib.hid h2
  have HN := Lib.hid hn
  have HM := Lib.hid hm
  have HWR := Lib.hid (Wr.of_below hb5)
  clear h h1 h2 h3 hb5 hn hm
  go_enter Try.func44, Try.ntmps44
  go_wp2_with fail
  refine wp_region_N [12, 13, 14] (SB s (.slice Ac n cc) (.slice Ab m cb)) (by kernel_rfl) ?_
  refine wpAnyN_take (i := 0) (v := .pointer (some ⟨s, 0, none⟩)) [12, 13, 14] (by kernel_rfl) rfl (by kernel_rfl) (by kernel_rfl) (by kernel_rfl) (fun _ _ _ h => h) (Or.inl ⟨by rfl, ?_⟩) hH ?_
  · intro V hV; go_simp
  try simp only [Act.put, List.setIfInBounds_toArray, List.set_cons_zero, List.set_cons_succ, List.getElem_toArray, List.getElem_cons_succ, List.getElem_cons_zero]
  refine wpAnyN_take (i := 1) (v := .pointer (some ⟨s, 0, none⟩)) [12, 13, 14] (by kernel_rfl) rfl (by kernel_rfl) (by kernel_rfl) (by kernel_rfl) (fun _ _ _ h => h) (Or.inl ⟨by rfl, ?_⟩) hH ?_
  · intro V hV; go_simp
  try simp only [Act.put, List.setIfInBounds_toArray, List.set_cons_zero, List.set_cons_succ, List.getElem_toArray, List.getElem_cons_succ, List.getElem_cons_zero]
  refine wpAnyN_take (i := 2) (v := .pointer (some ⟨s, 0, none⟩)) [12, 13, 14] (by kernel_rfl) rfl (by kernel_rfl) (by kernel_rfl) (by kernel_rfl) (fun _ _ _ h => h) (Or.inl ⟨by rfl, ?_⟩) hH ?_
  · intro V hV; go_simp
  try simp only [Act.put, List.setIfInBounds_toArray, List.set_cons_zero, List.set_cons_succ, List.getElem_toArray, List.getElem_cons_succ, List.getElem_cons_zero]
  refine wpAnyN_take (i := 3) (v := .pointer (some ⟨s, 1, none⟩)) [12, 13, 14] (by kernel_rfl) rfl (by kernel_rfl) (by kernel_rfl) (by kernel_rfl) (fun _ _ _ h => h) (Or.inl ⟨by rfl, ?_⟩) hH ?_
  · intro V hV; go_simp
  try simp only [Act.put, List.setIfInBounds_toArray, List.set_cons_zero, List.set_cons_succ, List.getElem_toArray, List.getElem_cons_succ, List.getElem_cons_zero]
  refine wpAnyN_take (i := 4) (v := .slice Ab m cb) [12, 13, 14] (by kernel_rfl) rfl (by kernel_rfl) (by kernel_rfl) (by kernel_rfl) (fun _ _ _ h => h) (Or.inl ⟨by rfl, ?_⟩) hH ?_
  · intro V hV; obtain ⟨k0, k1⟩ := hV; go_simp
  try simp only [Act.put, List.setIfInBounds_toArray, List.set_cons_zero, List.set_cons_succ, List.getElem_toArray, List.getElem_cons_succ, List.getElem_cons_zero]
  refine wpAnyN_take (i := 5) (v := .pointer (some ⟨s, 0, none⟩)) [12, 13, 14] (by kernel_rfl) rfl (by kernel_rfl) (by kernel_rfl) (by kernel_rfl) (fun _ _ _ h => h) (Or.inl ⟨by rfl, ?_⟩) hH ?_
  · intro V hV; go_simp
  try simp only [Act.put, List.setIfInBounds_toArray, List.set_cons_zero, List.set_cons_succ, List.getElem_toArray, List.getElem_cons_succ, List.getElem_cons_zero]
  refine wpAnyN_take (i := 6) (v := .pointer (some ⟨s, 0, none⟩)) [12, 13, 14] (by kernel_rfl) rfl (by kernel_rfl) (by kernel_rfl) (by kernel_rfl) (fun _ _ _ h => h) (Or.inl ⟨by rfl, ?_⟩) hH ?_
  · intro V hV; go_simp
  try simp only [Act.put, List.setIfInBounds_toArray, List.set_cons_zero, List.set_cons_succ, List.getElem_toArray, List.getElem_cons_succ, List.getElem_cons_zero]
  refine wpAnyN_take (i := 7) (v := .pointer (some ⟨s, 0, none⟩)) [12, 13, 14] (by kernel_rfl) rfl (by kernel_rfl) (by kernel_rfl) (by kernel_rfl) (fun _ _ _ h => h) (Or.inl ⟨by rfl, ?_⟩) hH ?_
  · intro V hV; go_simp
  try simp only [Act.put, List.setIfInBounds_toArray, List.set_cons_zero, List.set_cons_succ, List.getElem_toArray, List.getElem_cons_succ, List.getElem_cons_zero]
  refine wpAnyN_take (i := 8) (v := .slice Ac n cc) [12, 13, 14] (by kernel_rfl) rfl (by kernel_rfl) (by kernel_rfl) (by kernel_rfl) (fun _ _ _ h => h) (Or.inl ⟨by rfl, ?_⟩) hH ?_
  · intro V hV; obtain ⟨k0, k1⟩ := hV; go_simp
  try simp only [Act.put, List.setIfInBounds_toArray, List.set_cons_zero, List.set_cons_succ, List.getElem_toArray, List.getElem_cons_succ, List.getElem_cons_zero]
  refine wpAnyN_take (i := 9) (v := .int .i64 (n : Int)) [12, 13, 14] (by kernel_rfl) rfl (by kernel_rfl) (by kernel_rfl) (by kernel_rfl) (fun _ _ _ h => h) (Or.inl ⟨by rfl, ?_⟩) hH ?_
  · intro V hV; go_simp
  try simp only [Act.put, List.setIfInBounds_toArray, List.set_cons_zero, List.set_cons_succ, List.getElem_toArray, List.getElem_cons_succ, List.getElem_cons_zero]
  refine wpAnyN_one (i := 10) (by kernel_rfl) rfl (fun K hK => ?_)
  go_simp
  refine hK.out _ _ (.inr ?_) ?_
  · exact ⟨H5.out.cel.cell 0, H5.out.cel.cell 1⟩
  try simp only [Act.put, List.setIfInBounds_toArray, List.set_cons_zero, List.set_cons_succ, List.getElem_toArray, List.getElem_cons_succ, List.getElem_cons_zero]
  clear hK K
  refine wpAnyN_one (i := 11) (by kernel_rfl) rfl (fun K hK => ?_)
  rw [if_pos (by rfl)]
  refine wp_append_any _ _ _ 51 rfl w0.heap.size 3 rowInt (.slice Ab m cb) m (q.bs.reverse.map goI) rfl H5.out.begs (some ⟨w.heap.size, 0, none⟩) 1 1 [goI n] rfl rfl HSRC.out (goI_one [n]) (m + 1) ((n :: q.bs).reverse.map goI) rfl (by simp) (by unfold maxLen; omega) (by omega) H5.out.low.size ?_
  intro A8 c8 w8 ho8 hg8 _
  obtain ⟨hp8, hm9, hw9⟩ := H5.out.rebegs hg8 ho8
  have hS8 : SB s (.slice Ac n cc) (.slice Ab m cb) w8 := ⟨hp8.cell 0, hp8.cell 1⟩
  have y8 := hp8.cell 1
  have g8 := hp8.free 1
  have HQ9 := Lib.hid (show Sq w0 (w8.setCell ⟨s, 1, none⟩ (.slice A8 (m + 1 : Nat) c8)) s q.push from ⟨HOK.out, Ac, cc, A8, c8, us, H1.out, H2.out, by show Sm w0 _ s Ac cc A8 c8 q.code.length (q.code.length :: q.bs).length q.big us (q.code.length :: q.bs); rw [List.length_cons, ← HN.out, ← HM.out]; exact hm9⟩)
  have HW9 := Lib.hid (HWR.out.trans hw9)
  refine hK.out _ _ (.inr hS8) ?_
  clear hK K hm9 hw9 ho8 hg8 hp8
  try simp only [Act.put, List.setIfInBounds_toArray, List.set_cons_zero, List.set_cons_succ, List.getElem_toArray, List.getElem_cons_succ, List.getElem_cons_zero]
  refine wpAnyN_one (i := 12) (by kernel_rfl) rfl (fun K hK => ?_)
  go_simp
  refine hK.out _ _ (.inr hS8) ?_
  clear hK K
  try simp only [Act.put, List.setIfInBounds_toArray, List.set_cons_zero, List.set_cons_succ, List.getElem_toArray, List.getElem_cons_succ, List.getElem_cons_zero]
  refine wpAnyN_one (i := 13) (by kernel_rfl) rfl (fun K hK => ?_)
  go_simp
  refine hK.out _ _ (.inr hS8) ?_
  clear hK K
  try simp only [Act.put, List.setIfInBounds_toArray, List.set_cons_zero, List.set_cons_succ, List.getElem_toArray, List.getElem_cons_succ, List.getElem_cons_zero]
  refine wpAnyN_one (i := 14) (by kernel_rfl) rfl (fun K hK => ?_)
  go_simp
  refine hK.out _ _ (.inl (by decide)) ?_
  clear hK K
  try simp only [Act.put, List.setIfInBounds_toArray, List.set_cons_zero, List.set_cons_succ, List.getElem_toArray, List.getElem_cons_succ, List.getElem_cons_zero]
  refine wpAnyN_done (by kernel_rfl) ?_ _
  go_wp2_with fail
  go_end0
  exact ⟨rfl, HQ9.out, HW9.out⟩

set_option maxRecDepth 100000 in
set_option maxHeartbeats 1000000 in
theorem last_no (w0 w : World) (s : Nat) (q : Lw) (h : Sq w0 w s q) (hb : q.bs = []) :
    Calls Try.prog 46 #[.pointer (some ⟨s, 0, none⟩)] w fun e w' => e = .returned (.tuple #[.int .i64 0, .int .i64 0, .bool false]) ∧ Below w.heap.size w w' := by
  obtain ⟨Ac, cc, Ab, cb, us, h1, h2, h3⟩ := h.ex
  rw [hb] at h3
  have c1 := h3.cel.cell 1
  clear h h1 h2 h3
  go_enter Try.func46, Try.ntmps46
  go_wp2_with fail
  go_ret3
  exact ⟨rfl, Below.refl _ _⟩

set_option maxRecDepth 100000 in
set_option maxHeartbeats 1000000 in
theorem last_ok (w0 w : World) (s : Nat) (q : Lw) (a : Nat) (r : List Nat) (h : Sq w0 w s q) (hb : q.bs = a :: r) (hlen : q.bs.length ≤ 100000) :
    Calls Try.prog 46 #[.pointer (some ⟨s, 0, none⟩)] w fun e w' => e = .returned (.tuple #[.int .i64 (a : Int), .int .i64 (q.size a), .bool true]) ∧ Below w.heap.size w w' := by
  obtain ⟨Ac, cc, Ab, cb, us, h1, h2, h3⟩ := h.ex
  have hle := h.ok.len
  have hal := h.ok.bs a (by rw [hb]; simp)
  obtain ⟨n, hn⟩ : ∃ n, n = q.code.length := ⟨_, rfl⟩
  obtain ⟨m, hm⟩ : ∃ m, m = r.length := ⟨_, rfl⟩
  rw [hb] at h3 hlen
  rw [List.length_cons, ← hm] at h3 hlen
  rw [← hn] at h3 hle hal
  obtain ⟨g, rfl, hc, hg, _, _⟩ := begs_at h3 (i := m) (b := a) (by rw [List.reverse_cons, List.getElem?_append_right (by simp; omega)]; simp [hm])
  replace hc : w.cell? ⟨g, m, none⟩ = some (.int .i64 (a : Int)) := hc
  have c0 := h3.cel.cell 0
  have c1 := h3.cel.cell 1
  have ew : IntKind.i64.wrap ((n : Int) - (a : Int)) = (n : Int) - (a : Int) := (IntWalk.i64_in _ (by omega))
  have hz : q.size a = (n : Int) - (a : Int) := by rw [hn]; rfl
  have hne : ¬ (((m + 1 : Nat) : Int) = 0) := by omega
  rw [hz]
  clear h h1 h2 h3 hb hz hm hn
  go_enter Try.func46, Try.ntmps46
  go_wp2_with fail
  go_quiet (fail)
  go_wp2_with fail
  go_quiet (fail)
  go_wp2_with fail
  go_ret3
  exact ⟨rfl, ⟨rfl, rfl, rfl, Nat.le_refl _, fun _ _ => rfl⟩⟩

theorem undInts : Try.prog.underlying 51 = some (.slice 3) := Try.underlying51
theorem sizeInt : (Try.prog.info? 3).map (·.size) = some 1 := by kernel_rfl
set_option maxRecDepth 100000 in
set_option maxHeartbeats 1000000 in
theorem join_no (w0 w : World) (s : Nat) (q : Lw) (h : Sq w0 w s q) (hb : q.bs.length < 2) :
    Calls Try.prog 45 #[.pointer (some ⟨s, 0, none⟩)] w fun e w' => e = .returned (.tuple #[.int .i64 0, .int .i64 0, .bool false]) ∧ Below w.heap.size w w' := by
  obtain ⟨Ac, cc, Ab, cb, us, h1, h2, h3⟩ := h.ex
  obtain ⟨m, hm⟩ : ∃ m, m = q.bs.length := ⟨_, rfl⟩
  rw [← hm] at h3 hb
  have c1 := h3.cel.cell 1
  have ew : IntKind.i64.wrap ((m : Int) - 1) = (m : Int) - 1 := (IntWalk.i64_in _ (by omega))
  have hne : (m : Int) - 1 < 1 := by omega
  clear h h1 h2 h3
  go_enter Try.func45, Try.ntmps45
  go_wp2_with fail
  go_ret3
  exact ⟨rfl, Below.refl _ _⟩

set_option maxRecDepth 100000 in
set_option maxHeartbeats 1000000 in
theorem join_ok (w0 w : World) (s : Nat) (q : Lw) (a b : Nat) (r : List Nat) (h : Sq w0 w s q) (hb : q.bs = b :: a :: r) (hlen : q.bs.length ≤ 100000) :
    Calls Try.prog 45 #[.pointer (some ⟨s, 0, none⟩)] w fun e w' => e = .returned (.tuple #[.int .i64 (a : Int), .int .i64 (b : Int), .bool true]) ∧ Sq w0 w' s ⟨q.code, a :: r, q.big⟩ ∧ Wr w w' := by
  obtain ⟨Ac, cc, Ab, cb, us, h1, h2, h3⟩ := h.ex
  have hok : Ok ⟨q.code, a :: r, q.big⟩ := ⟨h.ok.len, fun x hx => h.ok.bs x (by rw [hb]; exact List.mem_cons_of_mem _ hx)⟩
  obtain ⟨n, hn⟩ : ∃ n, n = q.code.length := ⟨_, rfl⟩
  obtain ⟨m, hm⟩ : ∃ m, m = r.length := ⟨_, rfl⟩
  rw [hb] at h3 hlen
  rw [List.length_cons, List.length_cons, ← hm] at h3 hlen
  rw [← hn] at h3
  obtain ⟨g, rfl, hc, hg, _, hcb⟩ := begs_at h3 (i := m + 1) (b := b) (by rw [List.reverse_cons, List.getElem?_append_right (by simp; omega)]; simp [hm])
  obtain ⟨g', e', hc2, _, _, _⟩ := begs_at h3 (i := m) (b := a) (by rw [List.reverse_cons, List.reverse_cons, List.getElem?_append_left (by simp; omega), List.getElem?_append_right (by simp; omega)]; simp [hm])
  cases e'
  have c0 := h3.cel.cell 0
  have c1 := h3.cel.cell 1
  have f1 := h3.cel.free 1
  have HQ9 := Lib.hid (show ∀ k, Sq w0 ((w.drewN k).setCell ⟨s, 1, none⟩ (.slice (some ⟨g, 0, none⟩) (m + 1) cb)) s ⟨q.code, a :: r, q.big⟩ ∧ Wr w ((w.drewN k).setCell ⟨s, 1, none⟩ (.slice (some ⟨g, 0, none⟩) (m + 1) cb)) from fun k => by
    have hb5 : Below w.heap.size w (w.drewN k) := ⟨rfl, rfl, rfl, Nat.le_refl _, fun _ _ => rfl⟩
    have h35 := h3.below hb5
    have hcut := own_cut h35.begs (Nat.le_succ (m + 1))
    have hrow : (w.drewN k).ownsRow w0.heap.size 3 1 (.slice (some ⟨g, 0, none⟩) (m + 1) cb) (m + 1) ((a :: r).reverse.map goI) := by
      rw [List.reverse_cons, List.map_append, List.take_append_of_le_length (by simp; omega), List.take_of_length_le (by simp; omega)] at hcut
      exact hcut
    obtain ⟨_, hm9, hw9⟩ := h35.rebegs (w2 := w.drewN k) (bs' := a :: r) ⟨rfl, rfl, rfl, Nat.le_refl _, fun _ _ _ => rfl⟩ hrow
    exact ⟨⟨hok, Ac, cc, _, cb, us, h1, h2, by show Sm w0 _ s Ac cc _ cb q.code.length (a :: r).length q.big us (a :: r); rw [List.length_cons, ← hn, ← hm]; exact hm9⟩, (Wr.of_below hb5).trans hw9⟩)
  replace hc : w.cell? ⟨g, m + 1, none⟩ = some (.int .i64 (b : Int)) := hc
  replace hc2 : w.cell? ⟨g, m, none⟩ = some (.int .i64 (a : Int)) := hc2
  have ew : IntKind.i64.wrap (((m + 1 + 1 : Nat) : Int) - 1) = ((m + 1 : Nat) : Int) := (IntWalk.i64_in _ (by omega)).trans (by omega)
  have ew2 : IntKind.i64.wrap (((m + 1 : Nat) : Int) - 1) = (m : Int) := (IntWalk.i64_in _ (by omega)).trans (by omega)
  have hne : ¬ (((m + 1 : Nat) : Int) < 1) := by omega
  clear h h1 h2 h3 hb hok hm hn
  go_enter Try.func45, Try.ntmps45
  go_wp2_with fail
  go_quiet (fail)
  go_wp2_with fail
  go_ret3
  exact ⟨rfl, HQ9.out _⟩
end Go.Proofs.Ytpfogoncholiaaa.Nfa
