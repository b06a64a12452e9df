/-
Texts: NfaSeq NfaMake NfaAs8 NfaMap
-/
import Derived.Test.YteohlpmojfjjdaaGreatR1
import Derived.Test.YteohlpmojfjjdaaGreatR2
import Derived.Test.YteohlpmojfjjdaaGreatR3
import Derived.Test.YteohlpmojfjjdaaGreatR4
import Derived.Test.YteohlpmojfjjdaaGreatR18
import Derived.Test.YteohlpmojfjjdaaGreatR30
import Derived.Test.YteohlpmojfjjdaaGreatR31
import Derived.Maps.OwnSet
import Derived.Maps.Views
set_option linter.unusedVariables false
set_option linter.unusedSimpArgs false
set_option maxRecDepth 100000
set_option maxHeartbeats 4000000
section
namespace Go.Proofs.YteohlpmojfjjdaaGreat.Nfa
open Go.RowKit Go.Proofs.YteohlpmojfjjdaaGreat.Ord
open Reg (Sp sflat)
theorem ins_call (w0 w : World) (s at_ : Nat) (q : Lw) (h : Sq w0 w s q) (hat : at_ ≤ q.code.length) (kd x y : Int) (ng : Bool) (A : Option Addr) (sp : List Sp) (l c : Nat) (hsp : Cz w0 A (sflat sp)) (hl : sp.length = l) :
  Calls Tryz.prog 159 #[.pointer (some ⟨s, 0, none⟩), .int .i64 (at_ : Int), .agg #[.int .i64 kd, .int .i64 x, .int .i64 y, .bool ng, .slice A l c]] w (QSays w0 w s (q.ins at_ ⟨kd, x, y, ng, sp⟩)) := by
 have hle := h.ok.len
 by_cases hf : q.code.length = 200
 ·rw [ins_full hf]
  exact ins_full_call w0 w s at_ q h hf kd x y ng A l c
 ·rw [ins_room (by omega)]
  exact ins_room_call w0 w s at_ q h (by omega) hat kd x y ng A sp l c hsp hl
theorem cz_nil (w : World) (A : Option Addr) : Cz w A (sflat []) := fun h => absurd rfl h
def SE (s b : Nat) (cv : Value) (kd x y : Int) (ng : Bool) (sv : Value) (V : World) : Prop := SI s b cv kd x y ng sv V
def SB (s : Nat) (cv bv : Value) (V : World) : Prop := V.cell? ⟨s, 0, none⟩ = some cv ∧ V.cell? ⟨s, 1, none⟩ = some bv
theorem begs_at {w0 w : World} {s : Nat} {Ac Ab : Option Addr} {cc cb n m : Nat} {big : Bool} {us : List Iv} {bs : List Nat} (h : Sm w0 w s Ac cc Ab cb n m big us bs) {i b : Nat} (hi : bs.reverse[i]? = some b) : ∃ g, Ab = some ⟨g, 0, none⟩ ∧ w.cell? ⟨g, i, none⟩ = some (goI b) ∧ g < w.heap.size ∧ bs.length = m ∧ m ≤ cb := by
 have hlen : bs.length = m := by have := h.begs.1; simpa using this
 have him : i < m := by
  have := (List.getElem?_eq_some_iff.1 hi).1
  simp at this; omega
 have hcb : m ≤ cb := by
  rcases h.begs.2 with ⟨hv, h0⟩ | ⟨g', cap', cur, hv, _, _, h1, h2, _⟩
  ·omega
  ·cases hv; exact h1
 obtain ⟨g, cap, hv, hg, hlt⟩ := h.begs.form (by omega)
 cases hv
 refine ⟨g, rfl, ?_, hlt, hlen, hcb⟩
 rw [h.begs.cellAt i (by simp; omega), List.getElem?_map, hi]
 rfl
theorem emit_call (w0 w : World) (s : Nat) (q : Lw) (h : Sq w0 w s q) (kd x y : Int) (ng : Bool) (A : Option Addr) (sp : List Sp) (l c : Nat) (hsp : Cz w0 A (sflat sp)) (hl : sp.length = l) :
  Calls Tryz.prog 139 #[.pointer (some ⟨s, 0, none⟩), .agg #[.int .i64 kd, .int .i64 x, .int .i64 y, .bool ng, .slice A l c]] w (QSays w0 w s (q.emit ⟨kd, x, y, ng, sp⟩)) := by
 obtain ⟨Ac, cc, Ab, cb, us, h1, h2, h3⟩ := h.ex
 obtain ⟨n, hn⟩ : ∃ n, n = q.code.length := ⟨_, rfl⟩
 rw [← hn] at h3
 generalize hW : w.alloc (.cells #[.int .i64 kd, .int .i64 x, .int .i64 y, .bool ng, .slice A l c] 204) = W
 have hbW : Below w.heap.size w W := by rw [← hW]; exact (Below.refl _ _).alloc (Nat.le_refl _) _
 have hcW : Cel W w.heap.size 204 [.int .i64 kd, .int .i64 x, .int .i64 y, .bool ng, .slice A l c] := by rw [← hW]; exact Cel.new w _ _
 have h3W := h3.below hbW
 have hH : SE s w.heap.size (.slice Ac n cc) kd x y ng (.slice A l c) W.drew := SI.of (t := 199) h3W.cel rfl hcW
 have hbD : Below w.heap.size w W.drew := hbW.drew
 have CON := Lib.hid (ins_call w0 W.drew s n q (h.below hbD) (by omega) kd x y ng A sp l c hsp hl)
 have HWR := Lib.hid (Wr.of_below hbD)
 rw [show q.emit ⟨kd, x, y, ng, sp⟩ = q.ins n ⟨kd, x, y, ng, sp⟩ by rw [hn]; rfl]
 clear h h1 h2 h3 h3W hbW hbD hcW hsp hl hn
 go_enter Tryz.func139, Tryz.ntmps139
 go_wp2_with fail
 clear hW
 refine wp_region_N [7] (SE s w.heap.size (.slice Ac n cc) kd x y ng (.slice A l c)) (by kernel_rfl) ?_
 refine tk_ 0 (.pointer (some ⟨s, 0, none⟩)) [7] rfl hH ?_ ?_
 ·intro V hV; go_simp
 try simp only [Act.put, lay_]
 refine tk_ 1 (.pointer (some ⟨s, 0, none⟩)) [2, 3, 4, 5, 7] rfl hH ?_ ?_
 ·intro V hV; go_simp
 try simp only [Act.put, lay_]
 refine tk_ 2 (.pointer (some ⟨s, 0, none⟩)) [3, 4, 5, 7] rfl hH ?_ ?_
 ·intro V hV; go_simp
 try simp only [Act.put, lay_]
 refine tk_ 3 (.pointer (some ⟨s, 0, none⟩)) [4, 5, 7] rfl hH ?_ ?_
 ·intro V hV; go_simp
 try simp only [Act.put, lay_]
 refine tk_ 4 (.slice Ac n cc) [5, 7] rfl hH ?_ ?_
 ·intro V hV; obtain ⟨k0, k1, k2, k3, k4, k5⟩ := hV; go_simp
 try simp only [Act.put, lay_]
 refine tk_ 5 (.int .i64 (n : Int)) [7] rfl hH ?_ ?_
 ·intro V hV; go_simp
 try simp only [Act.put, lay_]
 refine tk_ 6 (.agg #[.int .i64 kd, .int .i64 x, .int .i64 y, .bool ng, .slice A l c]) [7] rfl hH ?_ ?_
 ·intro V hV; obtain ⟨k0, k1, k2, k3, k4, k5⟩ := hV; go_simp
 try simp only [Act.put, lay_]
 refine wpAnyN_one (i := 7) (by kernel_rfl) rfl (fun K hK => ?_)
 go_simp
 refine CON.out.mono ?_
 rintro e w8 ⟨rfl, hq8, hw8⟩
 go_wp2_with fail
 have HQ8 := Lib.hid hq8
 have HW8 := Lib.hid (HWR.out.trans hw8)
 refine hK.out _ _ (.inl (by decide)) ?_
 clear hK K hq8 hw8
 try simp only [Act.put, lay_]
 refine wpAnyN_done (by kernel_rfl) ?_ _
 go_wp2_with fail
 go_end0
 exact ⟨rfl, HQ8.out, HW8.out⟩
theorem push_call (w0 w : World) (s : Nat) (q : Lw) (h : Sq w0 w s q) (hlen : q.bs.length ≤ 100000) :
  Calls Tryz.prog 186 #[.pointer (some ⟨s, 0, none⟩)] w (QSays w0 w s q.push) := by
 obtain ⟨Ac, cc, Ab, cb, us, h1, h2, h3⟩ := h.ex
 have HOK := Lib.hid h.ok.push
 have hle := h.ok.len
 obtain ⟨n, hn⟩ : ∃ n, n = q.code.length := ⟨_, rfl⟩
 obtain ⟨m, hm⟩ : ∃ m, m = q.bs.length := ⟨_, rfl⟩
 rw [← hn, ← hm] at h3
 rw [← hn] at hle
 rw [← hm] at hlen
 have hH : SB s (.slice Ac n cc) (.slice Ab m cb) w.drew := ⟨(h3.cel.drew).cell 0, (h3.cel.drew).cell 1⟩
 have hb5 : Below w.heap.size w (w.drew.alloc (.cells #[.int .i64 n] 3)) := ((Below.refl _ _).drew).alloc (Nat.le_refl _) _
 have H5 := Lib.hid (h3.below hb5)
 have HSRC := Lib.hid (src_of_cel (show Cel (w.drew.alloc (.cells #[.int .i64 n] 3)) w.heap.size 3 [goI n] from Cel.new w.drew _ _) 1)
 have H1 := Lib.hid h1
 have H2 := Lib.hid h2
 have HN := Lib.hid hn
 have HM := Lib.hid hm
 have HWR := Lib.hid (Wr.of_below hb5)
 clear h h1 h2 h3 hb5 hn hm
 go_enter Tryz.func186, Tryz.ntmps186
 go_wp2_with fail
 refine wp_region_N [12, 13, 14] (SB s (.slice Ac n cc) (.slice Ab m cb)) (by kernel_rfl) ?_
 refine tk_ 0 (.pointer (some ⟨s, 0, none⟩)) [12, 13, 14] rfl hH ?_ ?_
 ·intro V hV; go_simp
 try simp only [Act.put, lay_]
 refine tk_ 1 (.pointer (some ⟨s, 0, none⟩)) [12, 13, 14] rfl hH ?_ ?_
 ·intro V hV; go_simp
 try simp only [Act.put, lay_]
 refine tk_ 2 (.pointer (some ⟨s, 0, none⟩)) [12, 13, 14] rfl hH ?_ ?_
 ·intro V hV; go_simp
 try simp only [Act.put, lay_]
 refine tk_ 3 (.pointer (some ⟨s, 1, none⟩)) [12, 13, 14] rfl hH ?_ ?_
 ·intro V hV; go_simp
 try simp only [Act.put, lay_]
 refine tk_ 4 (.slice Ab m cb) [12, 13, 14] rfl hH ?_ ?_
 ·intro V hV; obtain ⟨k0, k1⟩ := hV; go_simp
 try simp only [Act.put, lay_]
 refine tk_ 5 (.pointer (some ⟨s, 0, none⟩)) [12, 13, 14] rfl hH ?_ ?_
 ·intro V hV; go_simp
 try simp only [Act.put, lay_]
 refine tk_ 6 (.pointer (some ⟨s, 0, none⟩)) [12, 13, 14] rfl hH ?_ ?_
 ·intro V hV; go_simp
 try simp only [Act.put, lay_]
 refine tk_ 7 (.pointer (some ⟨s, 0, none⟩)) [12, 13, 14] rfl hH ?_ ?_
 ·intro V hV; go_simp
 try simp only [Act.put, lay_]
 refine tk_ 8 (.slice Ac n cc) [12, 13, 14] rfl hH ?_ ?_
 ·intro V hV; obtain ⟨k0, k1⟩ := hV; go_simp
 try simp only [Act.put, lay_]
 refine tk_ 9 (.int .i64 (n : Int)) [12, 13, 14] rfl hH ?_ ?_
 ·intro V hV; go_simp
 try simp only [Act.put, lay_]
 refine wpAnyN_one (i := 10) (by kernel_rfl) rfl (fun K hK => ?_)
 go_simp
 refine hK.out _ _ (.inr ?_) ?_
 ·exact ⟨H5.out.cel.cell 0, H5.out.cel.cell 1⟩
 try simp only [Act.put, lay_]
 clear hK K
 refine wpAnyN_one (i := 11) (by kernel_rfl) rfl (fun K hK => ?_)
 rw [if_pos (by rfl)]
 refine wp_append_any _ _ _ 197 rfl w0.heap.size 3 rowInt (.slice Ab m cb) m (q.bs.reverse.map goI) rfl H5.out.begs (some ⟨w.heap.size, 0, none⟩) 1 1 [goI n] rfl rfl HSRC.out (goI_one [n]) (m + 1) ((n :: q.bs).reverse.map goI) rfl (by simp) (by unfold maxLen; omega) (by omega) H5.out.low.size ?_
 intro A8 c8 w8 ho8 hg8 _
 obtain ⟨hp8, hm9, hw9⟩ := H5.out.rebegs hg8 ho8
 have hS8 : SB s (.slice Ac n cc) (.slice Ab m cb) w8 := ⟨hp8.cell 0, hp8.cell 1⟩
 have y8 := hp8.cell 1
 have g8 := hp8.free 1
 have HQ9 := Lib.hid (show Sq w0 (w8.setCell ⟨s, 1, none⟩ (.slice A8 (m + 1 : Nat) c8)) s q.push from ⟨HOK.out, Ac, cc, A8, c8, us, H1.out, H2.out, by show Sm w0 _ s Ac cc A8 c8 q.code.length (q.code.length :: q.bs).length q.big us (q.code.length :: q.bs); rw [List.length_cons, ← HN.out, ← HM.out]; exact hm9⟩)
 have HW9 := Lib.hid (HWR.out.trans hw9)
 refine hK.out _ _ (.inr hS8) ?_
 clear hK K hm9 hw9 ho8 hg8 hp8
 try simp only [Act.put, lay_]
 refine wpAnyN_one (i := 12) (by kernel_rfl) rfl (fun K hK => ?_)
 go_simp
 refine hK.out _ _ (.inr hS8) ?_
 clear hK K
 try simp only [Act.put, lay_]
 refine wpAnyN_one (i := 13) (by kernel_rfl) rfl (fun K hK => ?_)
 go_simp
 refine hK.out _ _ (.inr hS8) ?_
 clear hK K
 try simp only [Act.put, lay_]
 refine wpAnyN_one (i := 14) (by kernel_rfl) rfl (fun K hK => ?_)
 go_simp
 refine hK.out _ _ (.inl (by decide)) ?_
 clear hK K
 try simp only [Act.put, lay_]
 refine wpAnyN_done (by kernel_rfl) ?_ _
 go_wp2_with fail
 go_end0
 exact ⟨rfl, HQ9.out, HW9.out⟩
theorem last_no (w0 w : World) (s : Nat) (q : Lw) (h : Sq w0 w s q) (hb : q.bs = []) :
  Calls Tryz.prog 188 #[.pointer (some ⟨s, 0, none⟩)] w fun e w' => e = .returned (.tuple #[.int .i64 0, .int .i64 0, .bool false]) ∧ Below w.heap.size w w' := by
 obtain ⟨Ac, cc, Ab, cb, us, h1, h2, h3⟩ := h.ex
 rw [hb] at h3
 have c1 := h3.cel.cell 1
 clear h h1 h2 h3
 go_enter Tryz.func188, Tryz.ntmps188
 go_wp2_with fail
 go_ret3
 exact ⟨rfl, Below.refl _ _⟩
theorem last_ok (w0 w : World) (s : Nat) (q : Lw) (a : Nat) (r : List Nat) (h : Sq w0 w s q) (hb : q.bs = a :: r) (hlen : q.bs.length ≤ 100000) :
  Calls Tryz.prog 188 #[.pointer (some ⟨s, 0, none⟩)] w fun e w' => e = .returned (.tuple #[.int .i64 (a : Int), .int .i64 (q.size a), .bool true]) ∧ Below w.heap.size w w' := by
 obtain ⟨Ac, cc, Ab, cb, us, h1, h2, h3⟩ := h.ex
 have hle := h.ok.len
 have hal := h.ok.bs a (by rw [hb]; simp)
 obtain ⟨n, hn⟩ : ∃ n, n = q.code.length := ⟨_, rfl⟩
 obtain ⟨m, hm⟩ : ∃ m, m = r.length := ⟨_, rfl⟩
 rw [hb] at h3 hlen
 rw [List.length_cons, ← hm] at h3 hlen
 rw [← hn] at h3 hle hal
 obtain ⟨g, rfl, hc, hg, _, _⟩ := begs_at h3 (i := m) (b := a) (by rw [List.reverse_cons, List.getElem?_append_right (by simp; omega)]; simp [hm])
 replace hc : w.cell? ⟨g, m, none⟩ = some (.int .i64 (a : Int)) := hc
 have c0 := h3.cel.cell 0
 have c1 := h3.cel.cell 1
 have ew : IntKind.i64.wrap ((n : Int) - (a : Int)) = (n : Int) - (a : Int) := (IntWalk.i64_in _ (by omega))
 have hz : q.size a = (n : Int) - (a : Int) := by rw [hn]; rfl
 have hne : ¬ (((m + 1 : Nat) : Int) = 0) := by omega
 rw [hz]
 clear h h1 h2 h3 hb hz hm hn
 go_enter Tryz.func188, Tryz.ntmps188
 go_wp2_with fail
 go_quiet (fail)
 go_wp2_with fail
 go_quiet (fail)
 go_wp2_with fail
 go_ret3
 exact ⟨rfl, ⟨rfl, rfl, rfl, Nat.le_refl _, fun _ _ => rfl⟩⟩
theorem join_no (w0 w : World) (s : Nat) (q : Lw) (h : Sq w0 w s q) (hb : q.bs.length < 2) :
  Calls Tryz.prog 187 #[.pointer (some ⟨s, 0, none⟩)] w fun e w' => e = .returned (.tuple #[.int .i64 0, .int .i64 0, .bool false]) ∧ Below w.heap.size w w' := by
 obtain ⟨Ac, cc, Ab, cb, us, h1, h2, h3⟩ := h.ex
 obtain ⟨m, hm⟩ : ∃ m, m = q.bs.length := ⟨_, rfl⟩
 rw [← hm] at h3 hb
 have c1 := h3.cel.cell 1
 have ew : IntKind.i64.wrap ((m : Int) - 1) = (m : Int) - 1 := (IntWalk.i64_in _ (by omega))
 have hne : (m : Int) - 1 < 1 := by omega
 clear h h1 h2 h3
 go_enter Tryz.func187, Tryz.ntmps187
 go_wp2_with fail
 go_ret3
 exact ⟨rfl, Below.refl _ _⟩
theorem join_ok (w0 w : World) (s : Nat) (q : Lw) (a b : Nat) (r : List Nat) (h : Sq w0 w s q) (hb : q.bs = b :: a :: r) (hlen : q.bs.length ≤ 100000) :
  Calls Tryz.prog 187 #[.pointer (some ⟨s, 0, none⟩)] w fun e w' => e = .returned (.tuple #[.int .i64 (a : Int), .int .i64 (b : Int), .bool true]) ∧ Sq w0 w' s ⟨q.code, a :: r, q.big⟩ ∧ Wr w w' := by
 obtain ⟨Ac, cc, Ab, cb, us, h1, h2, h3⟩ := h.ex
 have hok : Ok ⟨q.code, a :: r, q.big⟩ := ⟨h.ok.len, fun x hx => h.ok.bs x (by rw [hb]; exact List.mem_cons_of_mem _ hx)⟩
 obtain ⟨n, hn⟩ : ∃ n, n = q.code.length := ⟨_, rfl⟩
 obtain ⟨m, hm⟩ : ∃ m, m = r.length := ⟨_, rfl⟩
 rw [hb] at h3 hlen
 rw [List.length_cons, List.length_cons, ← hm] at h3 hlen
 rw [← hn] at h3
 obtain ⟨g, rfl, hc, hg, _, hcb⟩ := begs_at h3 (i := m + 1) (b := b) (by rw [List.reverse_cons, List.getElem?_append_right (by simp; omega)]; simp [hm])
 obtain ⟨g', e', hc2, _, _, _⟩ := begs_at h3 (i := m) (b := a) (by rw [List.reverse_cons, List.reverse_cons, List.getElem?_append_left (by simp; omega), List.getElem?_append_right (by simp; omega)]; simp [hm])
 cases e'
 have c0 := h3.cel.cell 0
 have c1 := h3.cel.cell 1
 have f1 := h3.cel.free 1
 have HQ9 := Lib.hid (show ∀ k, Sq w0 ((w.drewN k).setCell ⟨s, 1, none⟩ (.slice (some ⟨g, 0, none⟩) (m + 1) cb)) s ⟨q.code, a :: r, q.big⟩ ∧ Wr w ((w.drewN k).setCell ⟨s, 1, none⟩ (.slice (some ⟨g, 0, none⟩) (m + 1) cb)) from fun k => by
  have hb5 : Below w.heap.size w (w.drewN k) := ⟨rfl, rfl, rfl, Nat.le_refl _, fun _ _ => rfl⟩
  have h35 := h3.below hb5
  have hcut := own_cut h35.begs (Nat.le_succ (m + 1))
  have hrow : (w.drewN k).ownsRow w0.heap.size 3 1 (.slice (some ⟨g, 0, none⟩) (m + 1) cb) (m + 1) ((a :: r).reverse.map goI) := by
   rw [List.reverse_cons, List.map_append, List.take_append_of_le_length (by simp; omega), List.take_of_length_le (by simp; omega)] at hcut
   exact hcut
  obtain ⟨_, hm9, hw9⟩ := h35.rebegs (w2 := w.drewN k) (bs' := a :: r) ⟨rfl, rfl, rfl, Nat.le_refl _, fun _ _ _ => rfl⟩ hrow
  exact ⟨⟨hok, Ac, cc, _, cb, us, h1, h2, by show Sm w0 _ s Ac cc _ cb q.code.length (a :: r).length q.big us (a :: r); rw [List.length_cons, ← hn, ← hm]; exact hm9⟩, (Wr.of_below hb5).trans hw9⟩)
 replace hc : w.cell? ⟨g, m + 1, none⟩ = some (.int .i64 (b : Int)) := hc
 replace hc2 : w.cell? ⟨g, m, none⟩ = some (.int .i64 (a : Int)) := hc2
 have ew : IntKind.i64.wrap (((m + 1 + 1 : Nat) : Int) - 1) = ((m + 1 : Nat) : Int) := (IntWalk.i64_in _ (by omega)).trans (by omega)
 have ew2 : IntKind.i64.wrap (((m + 1 : Nat) : Int) - 1) = (m : Int) := (IntWalk.i64_in _ (by omega)).trans (by omega)
 have hne : ¬ (((m + 1 : Nat) : Int) < 1) := by omega
 clear h h1 h2 h3 hb hok hm hn
 go_enter Tryz.func187, Tryz.ntmps187
 go_wp2_with fail
 go_quiet (fail)
 go_wp2_with fail
 go_ret3
 exact ⟨rfl, HQ9.out _⟩
end Go.Proofs.YteohlpmojfjjdaaGreat.Nfa
end
section
namespace Go.Proofs.YteohlpmojfjjdaaGreat.Nfa
open Go.RowKit Go.Proofs.YteohlpmojfjjdaaGreat.Ord
open Reg (Sp sflat Rop)
theorem Wr.cel {w w' : World} (h : Wr w w') {g : Nat} {t : TypeId} {cs : List Value} (hc : Cel w g t cs) (ht : t ≠ 199 ∧ t ≠ 204 ∧ t ≠ 3) : Cel w' g t cs :=
 (h.keep g hc.lt (fun o t' fz e => by have := hc.symm.trans e; cases this; exact ht)).trans hc
theorem Below.drewN_ (w : World) (B k : Nat) : Below B w (w.drewN k) := ⟨rfl, rfl, rfl, Nat.le_refl _, fun _ _ => rfl⟩
theorem alt_len (q : Lw) (a b : Nat) (r : List Nat) (x : In) (hal : a ≤ q.code.length) (hbl : b ≤ q.code.length) : a ≤ (Lw.ins ⟨q.code, a :: r, q.big⟩ b x).code.length := Nat.le_trans hal (ins_len ⟨q.code, a :: r, q.big⟩ b x hbl).1
def MSays (w0 w : World) (s : Nat) (r : Option Lw) (e : Ending) (w' : World) : Prop := match r with
 | none => e = .returned (.bool false) ∧ Below w0.heap.size w0 w' ∧ Wr w w'
 | some q => e = .returned (.bool true) ∧ Sq w0 w' s q ∧ Wr w w'
theorem set_call (w0 w : World) (s : Nat) (q : Lw) (h : Sq w0 w s q) (hlen : q.bs.length ≤ 100000) (kd : Int) (ng : Bool) (A : Option Addr) (l c : Nat) (sp : List Sp) (hsp : Cz w0 A (sflat sp)) (hl : sp.length = l) :
  Calls Tryz.prog 168 #[.pointer (some ⟨s, 0, none⟩), .agg #[.int .i64 kd, .bool ng, .slice A l c]] w (MSays w0 w s (some (q.push.emit ⟨1, 0, 0, ng, sp⟩))) := by
 generalize hW : w.alloc (.cells #[.int .i64 kd, .bool ng, .slice A l c] 223) = W
 have hbW : Below w.heap.size w W := by rw [← hW]; exact (Below.refl _ _).alloc (Nat.le_refl _) _
 have hcW : Cel W w.heap.size 223 [.int .i64 kd, .bool ng, .slice A l c] := by rw [← hW]; exact Cel.new w _ _
 have hqW := h.below hbW
 have HC := Lib.hid hcW
 have HW := Lib.hid (Wr.of_below hbW)
 have hle := h.ok.len
 have con := push_call w0 W s q hqW hlen
 clear h hbW hcW hqW
 go_enter Tryz.func168, Tryz.ntmps168
 go_wp2_with fail
 clear hW
 refine con.mono ?_
 rintro e w1 ⟨rfl, hq1, hw1⟩
 have hc1 := hw1.cel HC.out (by decide)
 have x1 := hc1.cell 1
 have x2 := hc1.cell 2
 have HW1 := Lib.hid (HW.out.trans hw1)
 have con2 := emit_call w0 w1 s q.push hq1 1 0 0 ng A sp l c hsp hl
 clear hq1 hw1 hc1
 go_wp2_with fail
 refine con2.mono ?_
 rintro e w2 ⟨rfl, hq2, hw2⟩
 have HQ := Lib.hid hq2
 have HWW := Lib.hid (HW1.out.trans hw2)
 clear hq2 hw2
 go_wp2_with fail
 go_ret
 exact ⟨rfl, HQ.out, HWW.out⟩
theorem none_call (w0 w : World) (s : Nat) (q : Lw) (h : Sq w0 w s q) (hlen : q.bs.length ≤ 100000) (kd : Int) (ng : Bool) (A : Option Addr) (l c : Nat) :
  Calls Tryz.prog 169 #[.pointer (some ⟨s, 0, none⟩), .agg #[.int .i64 kd, .bool ng, .slice A l c]] w (MSays w0 w s (some q.push)) := by
 generalize hW : w.alloc (.cells #[.int .i64 kd, .bool ng, .slice A l c] 223) = W
 have hbW : Below w.heap.size w W := by rw [← hW]; exact (Below.refl _ _).alloc (Nat.le_refl _) _
 have hcW : Cel W w.heap.size 223 [.int .i64 kd, .bool ng, .slice A l c] := by rw [← hW]; exact Cel.new w _ _
 have hqW := h.below hbW
 have HC := Lib.hid hcW
 have HW := Lib.hid (Wr.of_below hbW)
 have hle := h.ok.len
 have con := push_call w0 W s q hqW hlen
 clear h hbW hcW hqW
 go_enter Tryz.func169, Tryz.ntmps169
 go_wp2_with fail
 clear hW
 refine con.mono ?_
 rintro e w1 ⟨rfl, hq1, hw1⟩
 have HQ := Lib.hid hq1
 have HWW := Lib.hid (HW.out.trans hw1)
 clear hq1 hw1
 go_wp2_with fail
 go_ret
 exact ⟨rfl, HQ.out, HWW.out⟩
theorem cat_no (w0 w : World) (s : Nat) (q : Lw) (h : Sq w0 w s q) (hlen : q.bs.length ≤ 100000) (kd : Int) (ng : Bool) (A : Option Addr) (l c : Nat) (hb : q.bs.length < 2) :
  Calls Tryz.prog 170 #[.pointer (some ⟨s, 0, none⟩), .agg #[.int .i64 kd, .bool ng, .slice A l c]] w (MSays w0 w s (none)) := by
 generalize hW : w.alloc (.cells #[.int .i64 kd, .bool ng, .slice A l c] 223) = W
 have hbW : Below w.heap.size w W := by rw [← hW]; exact (Below.refl _ _).alloc (Nat.le_refl _) _
 have hcW : Cel W w.heap.size 223 [.int .i64 kd, .bool ng, .slice A l c] := by rw [← hW]; exact Cel.new w _ _
 have hqW := h.below hbW
 have HC := Lib.hid hcW
 have HW := Lib.hid (Wr.of_below hbW)
 have hle := h.ok.len
 have con := join_no w0 W s q hqW hb
 have HQ0 := Lib.hid hqW
 clear h hbW hcW hqW
 go_enter Tryz.func170, Tryz.ntmps170
 go_wp2_with fail
 clear hW
 refine con.mono ?_
 rintro e w1 ⟨rfl, hb1⟩
 have HB := Lib.hid (HQ0.out.low.trans (hb1.mono HQ0.out.low.size))
 have HWW := Lib.hid (HW.out.trans (Wr.of_below hb1))
 clear hb1
 go_wp2_with fail
 go_ret
 exact ⟨rfl, HB.out, HWW.out⟩
theorem alt_no (w0 w : World) (s : Nat) (q : Lw) (h : Sq w0 w s q) (hlen : q.bs.length ≤ 100000) (kd : Int) (ng : Bool) (A : Option Addr) (l c : Nat) (hb : q.bs.length < 2) :
  Calls Tryz.prog 171 #[.pointer (some ⟨s, 0, none⟩), .agg #[.int .i64 kd, .bool ng, .slice A l c]] w (MSays w0 w s (none)) := by
 generalize hW : w.alloc (.cells #[.int .i64 kd, .bool ng, .slice A l c] 223) = W
 have hbW : Below w.heap.size w W := by rw [← hW]; exact (Below.refl _ _).alloc (Nat.le_refl _) _
 have hcW : Cel W w.heap.size 223 [.int .i64 kd, .bool ng, .slice A l c] := by rw [← hW]; exact Cel.new w _ _
 have hqW := h.below hbW
 have HC := Lib.hid hcW
 have HW := Lib.hid (Wr.of_below hbW)
 have hle := h.ok.len
 have con := join_no w0 W s q hqW hb
 have HQ0 := Lib.hid hqW
 clear h hbW hcW hqW
 go_enter Tryz.func171, Tryz.ntmps171
 go_wp2_with fail
 clear hW
 refine con.mono ?_
 rintro e w1 ⟨rfl, hb1⟩
 have HB := Lib.hid (HQ0.out.low.trans (hb1.mono HQ0.out.low.size))
 have HWW := Lib.hid (HW.out.trans (Wr.of_below hb1))
 clear hb1
 go_wp2_with fail
 go_ret
 exact ⟨rfl, HB.out, HWW.out⟩
theorem star_no (w0 w : World) (s : Nat) (q : Lw) (h : Sq w0 w s q) (hlen : q.bs.length ≤ 100000) (kd : Int) (ng : Bool) (A : Option Addr) (l c : Nat) (hb : q.bs = []) :
  Calls Tryz.prog 172 #[.pointer (some ⟨s, 0, none⟩), .agg #[.int .i64 kd, .bool ng, .slice A l c]] w (MSays w0 w s (none)) := by
 generalize hW : w.alloc (.cells #[.int .i64 kd, .bool ng, .slice A l c] 223) = W
 have hbW : Below w.heap.size w W := by rw [← hW]; exact (Below.refl _ _).alloc (Nat.le_refl _) _
 have hcW : Cel W w.heap.size 223 [.int .i64 kd, .bool ng, .slice A l c] := by rw [← hW]; exact Cel.new w _ _
 have hqW := h.below hbW
 have HC := Lib.hid hcW
 have HW := Lib.hid (Wr.of_below hbW)
 have hle := h.ok.len
 have con := last_no w0 W s q hqW hb
 have HQ0 := Lib.hid hqW
 clear h hbW hcW hqW
 go_enter Tryz.func172, Tryz.ntmps172
 go_wp2_with fail
 clear hW
 refine con.mono ?_
 rintro e w1 ⟨rfl, hb1⟩
 have HB := Lib.hid (HQ0.out.low.trans (hb1.mono HQ0.out.low.size))
 have HWW := Lib.hid (HW.out.trans (Wr.of_below hb1))
 clear hb1
 go_wp2_with fail
 go_ret
 exact ⟨rfl, HB.out, HWW.out⟩
theorem plus_no (w0 w : World) (s : Nat) (q : Lw) (h : Sq w0 w s q) (hlen : q.bs.length ≤ 100000) (kd : Int) (ng : Bool) (A : Option Addr) (l c : Nat) (hb : q.bs = []) :
  Calls Tryz.prog 173 #[.pointer (some ⟨s, 0, none⟩), .agg #[.int .i64 kd, .bool ng, .slice A l c]] w (MSays w0 w s (none)) := by
 generalize hW : w.alloc (.cells #[.int .i64 kd, .bool ng, .slice A l c] 223) = W
 have hbW : Below w.heap.size w W := by rw [← hW]; exact (Below.refl _ _).alloc (Nat.le_refl _) _
 have hcW : Cel W w.heap.size 223 [.int .i64 kd, .bool ng, .slice A l c] := by rw [← hW]; exact Cel.new w _ _
 have hqW := h.below hbW
 have HC := Lib.hid hcW
 have HW := Lib.hid (Wr.of_below hbW)
 have hle := h.ok.len
 have con := last_no w0 W s q hqW hb
 have HQ0 := Lib.hid hqW
 clear h hbW hcW hqW
 go_enter Tryz.func173, Tryz.ntmps173
 go_wp2_with fail
 clear hW
 refine con.mono ?_
 rintro e w1 ⟨rfl, hb1⟩
 have HB := Lib.hid (HQ0.out.low.trans (hb1.mono HQ0.out.low.size))
 have HWW := Lib.hid (HW.out.trans (Wr.of_below hb1))
 clear hb1
 go_wp2_with fail
 go_ret
 exact ⟨rfl, HB.out, HWW.out⟩
theorem opt_no (w0 w : World) (s : Nat) (q : Lw) (h : Sq w0 w s q) (hlen : q.bs.length ≤ 100000) (kd : Int) (ng : Bool) (A : Option Addr) (l c : Nat) (hb : q.bs = []) :
  Calls Tryz.prog 174 #[.pointer (some ⟨s, 0, none⟩), .agg #[.int .i64 kd, .bool ng, .slice A l c]] w (MSays w0 w s (none)) := by
 generalize hW : w.alloc (.cells #[.int .i64 kd, .bool ng, .slice A l c] 223) = W
 have hbW : Below w.heap.size w W := by rw [← hW]; exact (Below.refl _ _).alloc (Nat.le_refl _) _
 have hcW : Cel W w.heap.size 223 [.int .i64 kd, .bool ng, .slice A l c] := by rw [← hW]; exact Cel.new w _ _
 have hqW := h.below hbW
 have HC := Lib.hid hcW
 have HW := Lib.hid (Wr.of_below hbW)
 have hle := h.ok.len
 have con := last_no w0 W s q hqW hb
 have HQ0 := Lib.hid hqW
 clear h hbW hcW hqW
 go_enter Tryz.func174, Tryz.ntmps174
 go_wp2_with fail
 clear hW
 refine con.mono ?_
 rintro e w1 ⟨rfl, hb1⟩
 have HB := Lib.hid (HQ0.out.low.trans (hb1.mono HQ0.out.low.size))
 have HWW := Lib.hid (HW.out.trans (Wr.of_below hb1))
 clear hb1
 go_wp2_with fail
 go_ret
 exact ⟨rfl, HB.out, HWW.out⟩
theorem cat_ok (w0 w : World) (s : Nat) (q : Lw) (h : Sq w0 w s q) (hlen : q.bs.length ≤ 100000) (kd : Int) (ng : Bool) (A : Option Addr) (l c : Nat) (a b : Nat) (r : List Nat) (hb : q.bs = b :: a :: r) :
  Calls Tryz.prog 170 #[.pointer (some ⟨s, 0, none⟩), .agg #[.int .i64 kd, .bool ng, .slice A l c]] w (MSays w0 w s (some ⟨q.code, a :: r, q.big⟩)) := by
 generalize hW : w.alloc (.cells #[.int .i64 kd, .bool ng, .slice A l c] 223) = W
 have hbW : Below w.heap.size w W := by rw [← hW]; exact (Below.refl _ _).alloc (Nat.le_refl _) _
 have hcW : Cel W w.heap.size 223 [.int .i64 kd, .bool ng, .slice A l c] := by rw [← hW]; exact Cel.new w _ _
 have hqW := h.below hbW
 have HC := Lib.hid hcW
 have HW := Lib.hid (Wr.of_below hbW)
 have hle := h.ok.len
 have con := join_ok w0 W s q a b r hqW hb hlen
 clear h hbW hcW hqW
 go_enter Tryz.func170, Tryz.ntmps170
 go_wp2_with fail
 clear hW
 refine con.mono ?_
 rintro e w1 ⟨rfl, hq1, hw1⟩
 have HQ := Lib.hid hq1
 have HWW := Lib.hid (HW.out.trans hw1)
 clear hq1 hw1
 go_wp2_with fail
 go_ret
 exact ⟨rfl, HQ.out, HWW.out⟩
theorem alt_ok (w0 w : World) (s : Nat) (q : Lw) (h : Sq w0 w s q) (hlen : q.bs.length ≤ 100000) (kd : Int) (ng : Bool) (A : Option Addr) (l c : Nat) (a b : Nat) (r : List Nat) (hb : q.bs = b :: a :: r) :
  Calls Tryz.prog 171 #[.pointer (some ⟨s, 0, none⟩), .agg #[.int .i64 kd, .bool ng, .slice A l c]] w (MSays w0 w s (some ((Lw.ins ⟨q.code, a :: r, q.big⟩ b (go (q.size b + 1))).ins a (two 1 ((b : Int) - a + 2))))) := by
 generalize hW : w.alloc (.cells #[.int .i64 kd, .bool ng, .slice A l c] 223) = W
 have hbW : Below w.heap.size w W := by rw [← hW]; exact (Below.refl _ _).alloc (Nat.le_refl _) _
 have hcW : Cel W w.heap.size 223 [.int .i64 kd, .bool ng, .slice A l c] := by rw [← hW]; exact Cel.new w _ _
 have hqW := h.below hbW
 have HC := Lib.hid hcW
 have HW := Lib.hid (Wr.of_below hbW)
 have hle := h.ok.len
 have con := join_ok w0 W s q a b r hqW hb hlen
 have hbl : b ≤ q.code.length := h.ok.bs b (by rw [hb]; simp)
 have hal : a ≤ q.code.length := h.ok.bs a (by rw [hb]; simp)
 obtain ⟨n, hn⟩ : ∃ n, n = q.code.length := ⟨_, rfl⟩
 rw [← hn] at hbl hal hle
 have hz : q.size b = (n : Int) - (b : Int) := by rw [hn]; rfl
 rw [hz]
 clear h hbW hcW hqW
 go_enter Tryz.func171, Tryz.ntmps171
 go_wp2_with fail
 clear hW
 refine con.mono ?_
 rintro e w1 ⟨rfl, hq1, hw1⟩
 obtain ⟨Ac, cc, Ab, cb, us, _, _, h3⟩ := hq1.ex
 have c0 := h3.cel.cell 0
 clear h3
 replace c0 : w1.cell? ⟨s, 0, none⟩ = some (.slice Ac n cc) := by rw [hn]; exact c0
 have ew1 : IntKind.i64.wrap ((n : Int) - (b : Int)) = (n : Int) - (b : Int) := (IntWalk.i64_in _ (by omega))
 have ew2 : IntKind.i64.wrap ((b : Int) - (a : Int)) = (b : Int) - (a : Int) := (IntWalk.i64_in _ (by omega))
 have ew3 : IntKind.i64.wrap ((n : Int) - (b : Int) + 1) = (n : Int) - (b : Int) + 1 := (IntWalk.i64_in _ (by omega))
 have ew4 : IntKind.i64.wrap ((b : Int) - (a : Int) + 2) = (b : Int) - (a : Int) + 2 := (IntWalk.i64_in _ (by omega))
 have con2 := fun k => ins_call w0 (w1.drewN k) s b ⟨q.code, a :: r, q.big⟩ (hq1.below (Below.drewN_ _ _ k)) (by rw [← hn]; exact hbl) 3 ((n : Int) - (b : Int) + 1) 0 false none [] 0 0 (cz_nil _ _) rfl
 have HAL := Lib.hid (fun z => alt_len q a b r (go z) (by rw [← hn]; exact hal) (by rw [← hn]; exact hbl))
 have HW1 := Lib.hid (fun k => (HW.out.trans hw1).trans (Wr.of_below (Below.drewN_ w1 w1.heap.size k)))
 have HN := Lib.hid hn
 clear hq1 hw1 hz hn
 go_wp2_with fail
 go_quiet (fail)
 go_wp2_with fail
 refine (con2 _).mono ?_
 rintro e w2 ⟨rfl, hq2, hw2⟩
 have hn2 := HAL.out ((n : Int) - (b : Int) + 1)
 have con3 := ins_call w0 w2 s a (Lw.ins ⟨q.code, a :: r, q.big⟩ b (go ((n : Int) - (b : Int) + 1))) hq2 hn2 2 1 ((b : Int) - (a : Int) + 2) false none [] 0 0 (cz_nil _ _) rfl
 have HW2 := Lib.hid ((HW1.out _).trans hw2)
 clear hq2 hw2 hn2
 go_wp2_with fail
 refine con3.mono ?_
 rintro e w3 ⟨rfl, hq3, hw3⟩
 have HQ := Lib.hid hq3
 have HWW := Lib.hid (HW2.out.trans hw3)
 clear hq3 hw3
 go_wp2_with fail
 go_ret
 exact ⟨rfl, HQ.out, HWW.out⟩
theorem star_ok (w0 w : World) (s : Nat) (q : Lw) (h : Sq w0 w s q) (hlen : q.bs.length ≤ 100000) (kd : Int) (ng : Bool) (A : Option Addr) (l c : Nat) (a : Nat) (r : List Nat) (hb : q.bs = a :: r) :
  Calls Tryz.prog 172 #[.pointer (some ⟨s, 0, none⟩), .agg #[.int .i64 kd, .bool ng, .slice A l c]] w (MSays w0 w s (some ((q.ins a (two 1 (q.size a + 2))).emit (go (-q.size a - 1))))) := by
 generalize hW : w.alloc (.cells #[.int .i64 kd, .bool ng, .slice A l c] 223) = W
 have hbW : Below w.heap.size w W := by rw [← hW]; exact (Below.refl _ _).alloc (Nat.le_refl _) _
 have hcW : Cel W w.heap.size 223 [.int .i64 kd, .bool ng, .slice A l c] := by rw [← hW]; exact Cel.new w _ _
 have hqW := h.below hbW
 have HC := Lib.hid hcW
 have HW := Lib.hid (Wr.of_below hbW)
 have hle := h.ok.len
 have con := last_ok w0 W s q a r hqW hb hlen
 have hal : a ≤ q.code.length := h.ok.bs a (by rw [hb]; simp)
 obtain ⟨n, hn⟩ : ∃ n, n = q.code.length := ⟨_, rfl⟩
 have HQ0 := Lib.hid hqW
 rw [← hn] at hal hle
 have hz : q.size a = (n : Int) - (a : Int) := by rw [hn]; rfl
 rw [hz] at con ⊢
 have ew0 : IntKind.i64.wrap ((n : Int) - (a : Int) + 2) = (n : Int) - (a : Int) + 2 := (IntWalk.i64_in _ (by omega))
 have ew1 : IntKind.i64.wrap (-((n : Int) - (a : Int))) = -((n : Int) - (a : Int)) := (IntWalk.i64_in _ (by omega))
 have ew2 : IntKind.i64.wrap (-((n : Int) - (a : Int)) - 1) = -((n : Int) - (a : Int)) - 1 := (IntWalk.i64_in _ (by omega))
 have HN := Lib.hid hn
 clear hz hn
 clear h hbW hcW hqW
 go_enter Tryz.func172, Tryz.ntmps172
 go_wp2_with fail
 clear hW
 refine con.mono ?_
 rintro e w1 ⟨rfl, hb1⟩
 have HW1 := Lib.hid (HW.out.trans (Wr.of_below hb1))
 have hq1 := HQ0.out.below hb1
 have con2 := ins_call w0 w1 s a q hq1 (by rw [← HN.out]; exact hal) 2 1 ((n : Int) - (a : Int) + 2) false none [] 0 0 (cz_nil _ _) rfl
 clear hb1 hq1
 go_wp2_with fail
 refine con2.mono ?_
 rintro e w2 ⟨rfl, hq2, hw2⟩
 have con3 := emit_call w0 w2 s _ hq2 3 (-((n : Int) - (a : Int)) - 1) 0 false none [] 0 0 (cz_nil _ _) rfl
 have HW2 := Lib.hid (HW1.out.trans hw2)
 clear hq2 hw2
 go_wp2_with fail
 refine con3.mono ?_
 rintro e w3 ⟨rfl, hq3, hw3⟩
 have HQ := Lib.hid hq3
 have HWW := Lib.hid (HW2.out.trans hw3)
 clear hq3 hw3
 go_wp2_with fail
 go_ret
 exact ⟨rfl, HQ.out, HWW.out⟩
theorem plus_ok (w0 w : World) (s : Nat) (q : Lw) (h : Sq w0 w s q) (hlen : q.bs.length ≤ 100000) (kd : Int) (ng : Bool) (A : Option Addr) (l c : Nat) (a : Nat) (r : List Nat) (hb : q.bs = a :: r) :
  Calls Tryz.prog 173 #[.pointer (some ⟨s, 0, none⟩), .agg #[.int .i64 kd, .bool ng, .slice A l c]] w (MSays w0 w s (some (q.emit (two (-q.size a) 1)))) := by
 generalize hW : w.alloc (.cells #[.int .i64 kd, .bool ng, .slice A l c] 223) = W
 have hbW : Below w.heap.size w W := by rw [← hW]; exact (Below.refl _ _).alloc (Nat.le_refl _) _
 have hcW : Cel W w.heap.size 223 [.int .i64 kd, .bool ng, .slice A l c] := by rw [← hW]; exact Cel.new w _ _
 have hqW := h.below hbW
 have HC := Lib.hid hcW
 have HW := Lib.hid (Wr.of_below hbW)
 have hle := h.ok.len
 have con := last_ok w0 W s q a r hqW hb hlen
 have hal : a ≤ q.code.length := h.ok.bs a (by rw [hb]; simp)
 obtain ⟨n, hn⟩ : ∃ n, n = q.code.length := ⟨_, rfl⟩
 have HQ0 := Lib.hid hqW
 rw [← hn] at hal hle
 have hz : q.size a = (n : Int) - (a : Int) := by rw [hn]; rfl
 rw [hz] at con ⊢
 have ew0 : IntKind.i64.wrap (-((n : Int) - (a : Int))) = -((n : Int) - (a : Int)) := (IntWalk.i64_in _ (by omega))
 have HN := Lib.hid hn
 clear hz hn
 clear h hbW hcW hqW
 go_enter Tryz.func173, Tryz.ntmps173
 go_wp2_with fail
 clear hW
 refine con.mono ?_
 rintro e w1 ⟨rfl, hb1⟩
 have HW1 := Lib.hid (HW.out.trans (Wr.of_below hb1))
 have hq1 := HQ0.out.below hb1
 have con2 := emit_call w0 w1 s q hq1 2 (-((n : Int) - (a : Int))) 1 false none [] 0 0 (cz_nil _ _) rfl
 clear hb1 hq1
 go_wp2_with fail
 refine con2.mono ?_
 rintro e w2 ⟨rfl, hq2, hw2⟩
 have HQ := Lib.hid hq2
 have HWW := Lib.hid (HW1.out.trans hw2)
 clear hq2 hw2
 go_wp2_with fail
 go_ret
 exact ⟨rfl, HQ.out, HWW.out⟩
theorem opt_ok (w0 w : World) (s : Nat) (q : Lw) (h : Sq w0 w s q) (hlen : q.bs.length ≤ 100000) (kd : Int) (ng : Bool) (A : Option Addr) (l c : Nat) (a : Nat) (r : List Nat) (hb : q.bs = a :: r) :
  Calls Tryz.prog 174 #[.pointer (some ⟨s, 0, none⟩), .agg #[.int .i64 kd, .bool ng, .slice A l c]] w (MSays w0 w s (some (q.ins a (two 1 (q.size a + 1))))) := by
 generalize hW : w.alloc (.cells #[.int .i64 kd, .bool ng, .slice A l c] 223) = W
 have hbW : Below w.heap.size w W := by rw [← hW]; exact (Below.refl _ _).alloc (Nat.le_refl _) _
 have hcW : Cel W w.heap.size 223 [.int .i64 kd, .bool ng, .slice A l c] := by rw [← hW]; exact Cel.new w _ _
 have hqW := h.below hbW
 have HC := Lib.hid hcW
 have HW := Lib.hid (Wr.of_below hbW)
 have hle := h.ok.len
 have con := last_ok w0 W s q a r hqW hb hlen
 have hal : a ≤ q.code.length := h.ok.bs a (by rw [hb]; simp)
 obtain ⟨n, hn⟩ : ∃ n, n = q.code.length := ⟨_, rfl⟩
 have HQ0 := Lib.hid hqW
 rw [← hn] at hal hle
 have hz : q.size a = (n : Int) - (a : Int) := by rw [hn]; rfl
 rw [hz] at con ⊢
 have ew0 : IntKind.i64.wrap ((n : Int) - (a : Int) + 1) = (n : Int) - (a : Int) + 1 := (IntWalk.i64_in _ (by omega))
 have HN := Lib.hid hn
 clear hz hn
 clear h hbW hcW hqW
 go_enter Tryz.func174, Tryz.ntmps174
 go_wp2_with fail
 clear hW
 refine con.mono ?_
 rintro e w1 ⟨rfl, hb1⟩
 have HW1 := Lib.hid (HW.out.trans (Wr.of_below hb1))
 have hq1 := HQ0.out.below hb1
 have con2 := ins_call w0 w1 s a q hq1 (by rw [← HN.out]; exact hal) 2 1 ((n : Int) - (a : Int) + 1) false none [] 0 0 (cz_nil _ _) rfl
 clear hb1 hq1
 go_wp2_with fail
 refine con2.mono ?_
 rintro e w2 ⟨rfl, hq2, hw2⟩
 have HQ := Lib.hid hq2
 have HWW := Lib.hid (HW1.out.trans hw2)
 clear hq2 hw2
 go_wp2_with fail
 go_ret
 exact ⟨rfl, HQ.out, HWW.out⟩
end Go.Proofs.YteohlpmojfjjdaaGreat.Nfa
end
section
namespace Go.Proofs.YteohlpmojfjjdaaGreat.Nfa
open Go.RowKit Go.Proofs.YteohlpmojfjjdaaGreat.Ord
open Reg (Ov oflat Sp RSpn Spn sflat sflat_length sflat_snoc rrowSpan oflat_length)
structure Pr8 (w : World) (A : Option Addr) (us : List Ov) : Prop where
 ry : Cz w A (oflat us)
 sp : ∀ u ∈ us, Cz w u.A (sflat u.o.sp)
theorem cz_three {w : World} {A : Option Addr} {us : List Ov} (h : Cz w A (oflat us)) {i : Nat} {u : Ov} (hi : us[i]? = some u) : ∃ ad, A = some ad ∧ w.cell? (ad.add (i * 3)) = some (.int .i64 u.o.kind) ∧
  w.cell? ⟨(ad.add (i * 3)).block, (ad.add (i * 3)).off + 1, none⟩ = some (.bool u.o.neg) ∧ w.cell? ⟨(ad.add (i * 3)).block, (ad.add (i * 3)).off + 2, none⟩ = some (.slice u.A u.o.sp.length u.c) := by
 have e : ∀ k, k < 3 → (oflat us)[i * 3 + k]? = u.cells[k]? := fun k hk => Nfa.flat_at Ov.cells 3 (fun _ => rfl) us i k u hi hk
 obtain ⟨ad, rfl, hc⟩ := h (fun q => by have := e 0 (by decide); rw [q] at this; simp [Ov.cells] at this)
 exact ⟨ad, rfl, hc _ _ (e 0 (by decide)), by rw [add_at _ _ 1 (by decide)]; exact hc _ _ (e 1 (by decide)), by rw [add_at _ _ 2 (by decide)]; exact hc _ _ (e 2 (by decide))⟩
section
variable {w w' : World} {B B' n c : Nat} {A : Option Addr} {us : List Ov}
end
theorem take_snocO (l : List Ov) (k : Nat) (x : Ov) (h : l[k]? = some x) : l.take (k + 1) = l.take k ++ [x] := by rw [List.take_add_one, h]; rfl
end Go.Proofs.YteohlpmojfjjdaaGreat.Nfa
end
section
namespace Go.Proofs.YteohlpmojfjjdaaGreat.Nfa
open Go.RowKit Go.Proofs.YteohlpmojfjjdaaGreat.Ord Go.Maps
open Reg (Sp sflat Rop)
def Ra (v : Value) : Option (DataW Value × List MemPlace) := some (.held v, [])
def kyI (f : Int) : Lit := .int .i64 f
def fv (j : FuncId) : Value := .func (.func j) #[] #[]
theorem wf_kyI {f : Int} (h : -9223372036854775808 ≤ f ∧ f < 9223372036854775808) : (Lit.int .i64 f).wf = true := by
 simp [Lit.wf, IntKind.min, IntKind.max, IntKind.bits, IntKind.signed]; omega
theorem keyedI : Keyed Tryz.prog 3 := int_keyed Tryz.underlying3
theorem keyOfI {f : Int} (h : -9223372036854775808 ≤ f ∧ f < 9223372036854775808) : keyOf Tryz.prog 3 (.int .i64 f) = some (kyI f) := keyOf_int_mk Tryz.underlying3 (wf_kyI h)
theorem keyI_lit (f : Int) : WideAt.IsKeyLit (kyI f) := trivial
theorem keyI_ne {f g : Int} (h : f ≠ g) : kyI f ≠ kyI g := fun e => h (by unfold kyI at e; injection e)
def Mk (w : World) (b n : Nat) (f : Int → Option FuncId) : Prop := ∃ D, w.ownsMap Tryz.prog 3 Ra b n D ∧ (∀ k, Maps.has D (kyI k) = (f k).isSome) ∧ ∀ k j, f k = some j → ∀ z, D.atKey (kyI k) z = .held (fv j)
theorem Mk.made (w : World) : Mk (w.alloc (.map #[] 0)) w.heap.size 0 (fun _ => none) := ⟨_, World.ownsMap_made w Tryz.prog 3 Ra, fun _ => rfl, fun _ _ h => by cases h⟩
theorem Mk.store {w : World} {b n : Nat} {f : Int → Option FuncId} (h : Mk w b n f) (k : Int) (hk : -9223372036854775808 ≤ k ∧ k < 9223372036854775808) (hn : n ≤ 1000) (j : FuncId) :
  ∃ w', (Instr.mapUpdate 220 (.map (some b)) (.int .i64 k) (fv j)).run Tryz.prog w = .ok () w' ∧ Mk w' b (n + 1) (fun i => if i = k then some j else f i) ∧ w.grownBy w' (some b) := by
 obtain ⟨D, ho, h1, h2⟩ := h
 obtain ⟨w', hr, ho', hg⟩ := World.ownsMap.update ho keyedI Tryz.underlying220 (by unfold maxLen; omega) (keyOfI hk) (val := fv j) (d := .held (fv j)) (ps := []) rfl
 refine ⟨w', hr, ⟨_, ho', fun i => ?_, fun i j' hj z => ?_⟩, hg⟩
 ·by_cases e : i = k
  ·subst e
   rw [show (fun i' => if i' = i then some j else f i') i = some j from if_pos rfl, has_put_same ho.isMap (keyI_lit _)]; rfl
  ·rw [show (fun i' => if i' = k then some j else f i') i = f i from if_neg e, has_put_other (keyI_ne e)]; exact h1 i
 ·by_cases e : i = k
  ·subst e
   rw [show (fun i' => if i' = i then some j else f i') i = some j from if_pos rfl] at hj
   cases hj
   exact atKey_put_same ho.isMap (keyI_lit _) _ _
  ·rw [show (fun i' => if i' = k then some j else f i') i = f i from if_neg e] at hj
   rw [atKey_put_other (keyI_ne e)]; exact h2 i j' hj z
theorem Mk.look {w : World} {b n : Nat} {f : Int → Option FuncId} (h : Mk w b n f) (k : Int) (hk : -9223372036854775808 ≤ k ∧ k < 9223372036854775808) :
  (Instr.lookup 220 (.map (some b)) (.int .i64 k) true).run Tryz.prog w = .ok (.tuple #[match f k with | some j => fv j | none => .nilFunc, .bool (f k).isSome]) w := by
 obtain ⟨D, ho, h1, h2⟩ := h
 obtain ⟨v, ps, hr, hv⟩ := World.ownsMap.look_ok ho keyedI Tryz.underlying220 (Tryz.zeroValue225 w) (zd := .held .nilFunc) (zp := []) rfl (keyOfI hk)
 have hat : D.atKey (kyI k) (.held .nilFunc) = .held v := by
  have e : (DataW.held v, ([] : List MemPlace)) = (D.atKey (kyI k) (.held .nilFunc), ps) := Option.some.inj hv
  exact (Prod.mk.inj e).1.symm
 rw [hr, h1]
 cases hf : f k with
 | none =>
  have := h1 k
  rw [hf] at this
  rw [atKey_of_not_has this] at hat
  cases hat
  rfl
 | some j =>
  rw [h2 k j hf] at hat
  cases hat
  rfl
theorem Mk.kept {w w' : World} {b n : Nat} {f : Int → Option FuncId} (h : Mk w b n f) (he : ∀ es k, w.heap[b]? = some (.map es k) → w'.heap[b]? = w.heap[b]?) : Mk w' b n f := by
 obtain ⟨D, ⟨es, clock, hb, r⟩, h1⟩ := h
 exact ⟨D, ⟨es, clock, (he _ _ hb).trans hb, r⟩, h1⟩
theorem Mk.lt {w : World} {b n : Nat} {f : Int → Option FuncId} (h : Mk w b n f) : b < w.heap.size := by
 obtain ⟨D, ho, _⟩ := h
 exact ho.lt
theorem Mk.wr {w w' : World} {b n : Nat} {f : Int → Option FuncId} (h : Mk w b n f) (hw : Wr w w') : Mk w' b n f := h.kept fun es k e => hw.keep b h.lt (fun o t fz e' => by rw [e] at e'; cases e')
theorem Mk.below {w w' : World} {b n : Nat} {f : Int → Option FuncId} (h : Mk w b n f) (hb : Below w.heap.size w w') : Mk w' b n f := h.kept fun es k e => hb.block b h.lt
def mkF (k : Int) : Option FuncId := if k = 7 then some 174 else if k = 6 then some 173 else if k = 5 then some 172 else if k = 4 then some 171 else if k = 3 then some 170 else if k = 2 then some 169 else if k = 1 then some 168 else none
theorem makers_call (w : World) : Calls Tryz.prog 158 #[] w fun e w' => e = .returned (.map (some w.heap.size)) ∧ Mk w' w.heap.size 7 mkF ∧ Below w.heap.size w w' := by
 have hmm := @run_makeMap Tryz.prog
 obtain ⟨w1, r1, m1, g1⟩ := (Mk.made w).store 1 (by decide) (by decide) 168
 obtain ⟨w2, r2, m2, g2⟩ := m1.store 2 (by decide) (by decide) 169
 obtain ⟨w3, r3, m3, g3⟩ := m2.store 3 (by decide) (by decide) 170
 obtain ⟨w4, r4, m4, g4⟩ := m3.store 4 (by decide) (by decide) 171
 obtain ⟨w5, r5, m5, g5⟩ := m4.store 5 (by decide) (by decide) 172
 obtain ⟨w6, r6, m6, g6⟩ := m5.store 6 (by decide) (by decide) 173
 obtain ⟨w7, r7, m7, g7⟩ := m6.store 7 (by decide) (by decide) 174
 have HM := Lib.hid m7
 have hgb : ∀ {a b : World}, Below w.heap.size w a → a.grownBy b (some w.heap.size) → Below w.heap.size w b := fun ha hg => ha.trans ⟨hg.os, hg.tape, hg.output, hg.size, fun k hk => hg.block k (Nat.lt_of_lt_of_le hk ha.size) (fun e => by cases e; omega)⟩
 have HB := Lib.hid (hgb (hgb (hgb (hgb (hgb (hgb (hgb ((Below.refl _ _).alloc (Nat.le_refl _) _) g1) g2) g3) g4) g5) g6) g7)
 clear m1 m2 m3 m4 m5 m6 m7 g1 g2 g3 g4 g5 g6 g7 hgb
 simp only [fv] at r1 r2 r3 r4 r5 r6 r7
 go_enter Tryz.func158, Tryz.ntmps158
 go_wp2_with fail
 go_ret
 exact ⟨rfl, HM.out, HB.out⟩
theorem op_call (w0 w : World) (s : Nat) (q : Lw) (h : Sq w0 w s q) (hlen : q.bs.length ≤ 100000) (o : Rop) (A : Option Addr) (l c : Nat) (hsp : Cz w0 A (sflat o.sp)) (hl : o.sp.length = l) (j : FuncId) (hj : mkF o.kind = some j) :
  Calls Tryz.prog j #[.pointer (some ⟨s, 0, none⟩), .agg #[.int .i64 o.kind, .bool o.neg, .slice A l c]] w (MSays w0 w s (opL o q)) := by
 unfold mkF at hj
 unfold opL
 obtain ⟨kd, ng, sp⟩ := o
 dsimp only at *
 by_cases h1 : kd = 1
 ·subst h1
  cases hj
  exact set_call w0 w s q h hlen 1 ng A l c sp hsp hl
 by_cases h2 : kd = 2
 ·subst h2
  cases hj
  exact none_call w0 w s q h hlen 2 ng A l c
 by_cases h3 : kd = 3
 ·subst h3
  cases hj
  rw [if_neg h1, if_neg h2, if_pos rfl]
  rcases hb : q.bs with _ | ⟨b, _ | ⟨a, r⟩⟩
  ·exact cat_no w0 w s q h hlen 3 ng A l c (by rw [hb]; simp)
  ·exact cat_no w0 w s q h hlen 3 ng A l c (by rw [hb]; simp)
  ·exact cat_ok w0 w s q h hlen 3 ng A l c a b r hb
 by_cases h4 : kd = 4
 ·subst h4
  cases hj
  rw [if_neg h1, if_neg h2, if_neg h3, if_pos rfl]
  rcases hb : q.bs with _ | ⟨b, _ | ⟨a, r⟩⟩
  ·exact alt_no w0 w s q h hlen 4 ng A l c (by rw [hb]; simp)
  ·exact alt_no w0 w s q h hlen 4 ng A l c (by rw [hb]; simp)
  ·exact alt_ok w0 w s q h hlen 4 ng A l c a b r hb
 by_cases h5 : kd = 5
 ·subst h5
  cases hj
  rw [if_neg h1, if_neg h2, if_neg h3, if_neg h4, if_pos rfl]
  rcases hb : q.bs with _ | ⟨a, r⟩
  ·exact star_no w0 w s q h hlen 5 ng A l c hb
  ·exact star_ok w0 w s q h hlen 5 ng A l c a r hb
 by_cases h6 : kd = 6
 ·subst h6
  cases hj
  rw [if_neg h1, if_neg h2, if_neg h3, if_neg h4, if_neg h5, if_pos rfl]
  rcases hb : q.bs with _ | ⟨a, r⟩
  ·exact plus_no w0 w s q h hlen 6 ng A l c hb
  ·exact plus_ok w0 w s q h hlen 6 ng A l c a r hb
 by_cases h7 : kd = 7
 ·subst h7
  cases hj
  rw [if_neg h1, if_neg h2, if_neg h3, if_neg h4, if_neg h5, if_neg h6, if_pos rfl]
  rcases hb : q.bs with _ | ⟨a, r⟩
  ·exact opt_no w0 w s q h hlen 7 ng A l c hb
  ·exact opt_ok w0 w s q h hlen 7 ng A l c a r hb
 rw [if_neg h7, if_neg h6, if_neg h5, if_neg h4, if_neg h3, if_neg h2, if_neg h1] at hj
 cases hj
theorem op_none (q : Lw) (o : Rop) (hj : mkF o.kind = none) : opL o q = none := by
 unfold mkF at hj
 unfold opL
 by_cases h1 : o.kind = 1
 ·rw [h1] at hj; cases hj
 by_cases h2 : o.kind = 2
 ·rw [h2] at hj; cases hj
 by_cases h3 : o.kind = 3
 ·rw [h3] at hj; cases hj
 by_cases h4 : o.kind = 4
 ·rw [h4] at hj; cases hj
 by_cases h5 : o.kind = 5
 ·rw [h5] at hj; cases hj
 by_cases h6 : o.kind = 6
 ·rw [h6] at hj; cases hj
 by_cases h7 : o.kind = 7
 ·rw [h7] at hj; cases hj
 rw [if_neg h1, if_neg h2, if_neg h3, if_neg h4, if_neg h5, if_neg h6, if_neg h7]
end Go.Proofs.YteohlpmojfjjdaaGreat.Nfa
end
