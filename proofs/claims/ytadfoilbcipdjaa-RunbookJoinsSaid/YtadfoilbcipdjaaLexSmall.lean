/-
  The program's cutter (layer 11): begin, last, add, fail.
-/
import Derived.Test.YtadfoilbcipdjaaLexCells
import Derived.Test.YtadfoilbcipdjaaOrders
import Derived.BigQuiet
namespace Go.Proofs.Ytadfoilbcipdjaa.Lex
open Go.RowKit Go.Proofs.Ytadfoilbcipdjaa.Ord
set_option linter.unusedVariables false
set_option linter.unusedSimpArgs false

theorem lbelow_drewN {B : Nat} {w w1 : World} (h : Below B w w1) (n : Nat) : Below B w (w1.drewN n) := ⟨h.os, h.tape, h.output, h.size, h.block⟩
section
variable {w : World} {D K g : Nat} {E : Value} {q : Nat} {z : Int} {us : List Tv} {x : Tv}
/-- What fail does. -/
def FlFail (w : World) (D K g : Nat) (E : Value) (p i : Int) (us xs : List Tv) (e : Ending) (w' : World) : Prop := e = .returned .nilFunc ∧ Mc w' D K g E p i us xs ∧ Chl D w w'
set_option maxRecDepth 100000 in
set_option maxHeartbeats 1000000 in
theorem fail_ {p : Int} {xs : List Tv} (h : Mc w D K g E p z us xs) (i : Int) : Calls Try.prog 28 #[.pointer (some ⟨g, 0, none⟩), .int .i64 i] w (FlFail w D K g E p i us xs) := by
  obtain ⟨A, c, hc, ho⟩ := h.mem
  have k3 := Cel.cell hc 3
  have f3 := Cel.free hc 3
  have HW := Lib.hid (h.wrong i)
  clear h hc ho
  go_enter Try.func28, Try.ntmps28
  go_wp2_with fail
  go_ret
  exact ⟨rfl, HW.out.1, HW.out.2⟩
set_option maxRecDepth 100000 in
set_option maxHeartbeats 1000000 in
theorem last_ {p : Int} {r : Nat} (h : Ml w D K g E p z us x r) (hm : us.length ≤ 100000) : Calls Try.prog 64 #[.pointer (some ⟨g, 0, none⟩)] w fun e w' => e = .returned (.pointer (some ⟨r, us.length * 4, none⟩)) ∧ Below w.heap.size w w' := by
  obtain ⟨c, hc, ho⟩ := h.row
  have k1 := Cel.cell hc 1
  change _ = some (Value.slice (some ⟨r, 0, none⟩) (us.length + 1) c) at k1
  generalize us.length = m at *
  clear h hc ho
  go_enter Try.func64, Try.ntmps64
  go_wp2_with fail
  go_quiet (fail)
  go_wp2_with fail
  go_ret
  exact ⟨rfl, lbelow_drewN (Below.refl _ _) _⟩
def BeSays (w : World) (D K g : Nat) (E : Value) (q : Nat) (z k : Int) (us : List Tv) (e : Ending) (w' : World) : Prop := e = .returned (.tuple #[]) ∧ Mc w' D K g E (q : Int) z us [⟨⟨⟨k, 0, []⟩, q⟩, none, 0⟩] ∧ Chl D w w'
def StB (g : Nat) (v : Value) (q : Nat) (V : World) : Prop := V.cell? ⟨g, 1, none⟩ = some v ∧ V.cell? ⟨g, 2, none⟩ = some (.int .i64 (q : Int))
set_option maxRecDepth 100000 in
set_option maxHeartbeats 1000000 in
theorem begin_ (h : Mc w D K g E (q : Int) z us []) (k : Int) (hm : us.length ≤ 100000) : Calls Try.prog 21 #[.pointer (some ⟨g, 0, none⟩), .int .i64 k] w (BeSays w D K g E q z k us) := by
  obtain ⟨A, c, hc, ho⟩ := h.mem
  rw [List.length_nil, Nat.add_zero] at hc ho
  rw [List.append_nil] at ho
  obtain ⟨m, hml⟩ : ∃ m, m = us.length := ⟨_, rfl⟩
  rw [← hml] at hc ho hm
  have hD : D ≤ w.heap.size := Nat.le_trans h.low h.top
  have hb1 : Below w.heap.size w ((w.drew.alloc (.cells #[.int .i64 k, .int .i64 (q : Int), .int .i64 0, .slice none 0 0] 53))) := (((Below.refl w.heap.size w).drew).alloc (Nat.le_refl _) _)
  have hc1 := Cel.below hc hb1 (Cel.lt hc)
  have HO1 := Lib.hid (own_frm (l := []) ho (Frm.of_below hb1) (by simp))
  have HC1 := Lib.hid hc1
  have HM1 := Lib.hid (h.below hb1)
  have HB1 := Lib.hid hb1
  have hH : StB g (.slice A m c) q w.drew := ⟨Cel.cell hc 1, Cel.cell hc 2⟩
  have hH1 : StB g (.slice A m c) q (w.drew.alloc (.cells #[.int .i64 k, .int .i64 (q : Int), .int .i64 0, .slice none 0 0] 53)) := ⟨Cel.cell hc1 1, Cel.cell hc1 2⟩
  have hsrc := Lib.hid (Ry.src (m := 1) (Ry.of_cel (Cel.new w.drew 53 [.int .i64 k, .int .i64 (q : Int), .int .i64 0, .slice none 0 0])) (by simp))
  have HML := Lib.hid hml
  clear h hc ho hb1 hc1 hml
  go_enter Try.func21, Try.ntmps21
  go_wp2_with fail
  refine wp_region_N [15] (StB g (.slice A m c) q) (by kernel_rfl) ?_
  refine wpAnyN_take (i := 0) (v := .pointer (some ⟨g, 0, none⟩)) [15] (by kernel_rfl) rfl (by kernel_rfl) (by kernel_rfl) (by kernel_rfl) (fun _ _ _ h => h) (Or.inl ⟨by rfl, ?_⟩) hH ?_
  · intro V hV; go_simp
  try simp only [Act.put, List.setIfInBounds_toArray, List.set_cons_zero, List.set_cons_succ, List.getElem_toArray, List.getElem_cons_succ, List.getElem_cons_zero]
  refine wpAnyN_take (i := 1) (v := .pointer (some ⟨g, 0, none⟩)) [15] (by kernel_rfl) rfl (by kernel_rfl) (by kernel_rfl) (by kernel_rfl) (fun _ _ _ h => h) (Or.inl ⟨by rfl, ?_⟩) hH ?_
  · intro V hV; go_simp
  try simp only [Act.put, List.setIfInBounds_toArray, List.set_cons_zero, List.set_cons_succ, List.getElem_toArray, List.getElem_cons_succ, List.getElem_cons_zero]
  refine wpAnyN_take (i := 2) (v := .pointer (some ⟨g, 0, none⟩)) [15] (by kernel_rfl) rfl (by kernel_rfl) (by kernel_rfl) (by kernel_rfl) (fun _ _ _ h => h) (Or.inl ⟨by rfl, ?_⟩) hH ?_
  · intro V hV; go_simp
  try simp only [Act.put, List.setIfInBounds_toArray, List.set_cons_zero, List.set_cons_succ, List.getElem_toArray, List.getElem_cons_succ, List.getElem_cons_zero]
  refine wpAnyN_take (i := 3) (v := .pointer (some ⟨g, 1, none⟩)) [15] (by kernel_rfl) rfl (by kernel_rfl) (by kernel_rfl) (by kernel_rfl) (fun _ _ _ h => h) (Or.inl ⟨by rfl, ?_⟩) hH ?_
  · intro V hV; go_simp
  try simp only [Act.put, List.setIfInBounds_toArray, List.set_cons_zero, List.set_cons_succ, List.getElem_toArray, List.getElem_cons_succ, List.getElem_cons_zero]
  refine wpAnyN_take (i := 4) (v := .slice A m c) [15] (by kernel_rfl) rfl (by kernel_rfl) (by kernel_rfl) (by kernel_rfl) (fun _ _ _ h => h) (Or.inl ⟨by rfl, ?_⟩) hH ?_
  · intro V hV; obtain ⟨k1, k2⟩ := hV; go_simp
  try simp only [Act.put, List.setIfInBounds_toArray, List.set_cons_zero, List.set_cons_succ, List.getElem_toArray, List.getElem_cons_succ, List.getElem_cons_zero]
  refine wpAnyN_take (i := 5) (v := .int .i64 k) [15] (by kernel_rfl) rfl (by kernel_rfl) (by kernel_rfl) (by kernel_rfl) (fun _ _ _ h => h) (Or.inl ⟨by rfl, ?_⟩) hH ?_
  · intro V hV; go_simp
  try simp only [Act.put, List.setIfInBounds_toArray, List.set_cons_zero, List.set_cons_succ, List.getElem_toArray, List.getElem_cons_succ, List.getElem_cons_zero]
  refine wpAnyN_take (i := 6) (v := .pointer (some ⟨g, 0, none⟩)) [15] (by kernel_rfl) rfl (by kernel_rfl) (by kernel_rfl) (by kernel_rfl) (fun _ _ _ h => h) (Or.inl ⟨by rfl, ?_⟩) hH ?_
  · intro V hV; go_simp
  try simp only [Act.put, List.setIfInBounds_toArray, List.set_cons_zero, List.set_cons_succ, List.getElem_toArray, List.getElem_cons_succ, List.getElem_cons_zero]
  refine wpAnyN_take (i := 7) (v := .pointer (some ⟨g, 0, none⟩)) [15] (by kernel_rfl) rfl (by kernel_rfl) (by kernel_rfl) (by kernel_rfl) (fun _ _ _ h => h) (Or.inl ⟨by rfl, ?_⟩) hH ?_
  · intro V hV; go_simp
  try simp only [Act.put, List.setIfInBounds_toArray, List.set_cons_zero, List.set_cons_succ, List.getElem_toArray, List.getElem_cons_succ, List.getElem_cons_zero]
  refine wpAnyN_take (i := 8) (v := .pointer (some ⟨g, 2, none⟩)) [15] (by kernel_rfl) rfl (by kernel_rfl) (by kernel_rfl) (by kernel_rfl) (fun _ _ _ h => h) (Or.inl ⟨by rfl, ?_⟩) hH ?_
  · intro V hV; go_simp
  try simp only [Act.put, List.setIfInBounds_toArray, List.set_cons_zero, List.set_cons_succ, List.getElem_toArray, List.getElem_cons_succ, List.getElem_cons_zero]
  refine wpAnyN_take (i := 9) (v := .int .i64 (q : Int)) [15] (by kernel_rfl) rfl (by kernel_rfl) (by kernel_rfl) (by kernel_rfl) (fun _ _ _ h => h) (Or.inl ⟨by rfl, ?_⟩) hH ?_
  · intro V hV; obtain ⟨k1, k2⟩ := hV; go_simp
  try simp only [Act.put, List.setIfInBounds_toArray, List.set_cons_zero, List.set_cons_succ, List.getElem_toArray, List.getElem_cons_succ, List.getElem_cons_zero]
  refine wpAnyN_take (i := 10) (v := .agg #[.int .i64 k, .int .i64 (q : Int), .int .i64 0, .slice none 0 0]) [15] (by kernel_rfl) rfl (by kernel_rfl) (by kernel_rfl) (by kernel_rfl) (fun _ _ _ h => h) (Or.inl ⟨by rfl, ?_⟩) hH ?_
  · intro V hV; go_simp
  try simp only [Act.put, List.setIfInBounds_toArray, List.set_cons_zero, List.set_cons_succ, List.getElem_toArray, List.getElem_cons_succ, List.getElem_cons_zero]
  refine wpAnyN_one (i := 11) (by kernel_rfl) rfl (fun K hK => ?_)
  go_simp
  refine hK.out _ _ (.inr hH1) ?_
  clear hK K
  try simp only [Act.put, List.setIfInBounds_toArray, List.set_cons_zero, List.set_cons_succ, List.getElem_toArray, List.getElem_cons_succ, List.getElem_cons_zero]
  refine wpAnyN_one (i := 12) (by kernel_rfl) rfl (fun K hK => ?_)
  rw [if_pos (by rfl)]
  refine wp_append_any _ _ _ 36 rfl D 53 rowPtk (.slice A m c) m (tflat us) rfl HO1.out (some ⟨w.drew.heap.size, 0, none⟩) 1 1 [.int .i64 k, .int .i64 (q : Int), .int .i64 0, .slice none 0 0] rfl rfl hsrc.out (by intro u hu; simp at hu; rcases hu with rfl | rfl | rfl | rfl <;> rfl) (m + 1) _ rfl rfl (by unfold maxLen; omega) (by omega) (Nat.le_trans hD HB1.out.size) ?_
  intro A8 c8 w8 ho8 hg8 _
  obtain ⟨hc8, hm8, hch⟩ := HM1.out.pushed (x := ⟨⟨⟨k, 0, []⟩, q⟩, none, 0⟩) (by rw [← HML.out]; exact HC1.out) (by rw [← HML.out]; exact HO1.out) rfl rfl rfl (by rw [← HML.out]; exact hg8) (by rw [← HML.out]; exact ho8)
  have HC8 := Lib.hid ((Chl.of_below (D := D) HB1.out).trans hch)
  rw [← HML.out] at hc8 hm8 HC8
  have HM8 := Lib.hid hm8
  have k8 := Cel.cell hc8 1
  have f8 := Cel.free hc8 1
  refine hK.out _ _ (.inr ⟨k8, Cel.cell hc8 2⟩) ?_
  have hH8 : StB g (.slice A m c) q w8 := ⟨k8, Cel.cell hc8 2⟩
  clear hK K hm8 hch hg8 ho8 hc8
  try simp only [Act.put, List.setIfInBounds_toArray, List.set_cons_zero, List.set_cons_succ, List.getElem_toArray, List.getElem_cons_succ, List.getElem_cons_zero]
  refine wpAnyN_one (i := 13) (by kernel_rfl) rfl (fun K hK => ?_)
  go_simp
  refine hK.out _ _ (.inr hH8) ?_
  clear hK K
  try simp only [Act.put, List.setIfInBounds_toArray, List.set_cons_zero, List.set_cons_succ, List.getElem_toArray, List.getElem_cons_succ, List.getElem_cons_zero]
  refine wpAnyN_one (i := 14) (by kernel_rfl) rfl (fun K hK => ?_)
  go_simp
  refine hK.out _ _ (.inr hH8) ?_
  clear hK K
  try simp only [Act.put, List.setIfInBounds_toArray, List.set_cons_zero, List.set_cons_succ, List.getElem_toArray, List.getElem_cons_succ, List.getElem_cons_zero]
  refine wpAnyN_one (i := 15) (by kernel_rfl) rfl (fun K hK => ?_)
  go_simp
  refine hK.out _ _ (.inl (by decide)) ?_
  clear hK K
  try simp only [Act.put, List.setIfInBounds_toArray, List.set_cons_zero, List.set_cons_succ, List.getElem_toArray, List.getElem_cons_succ, List.getElem_cons_zero]
  refine wpAnyN_done (by kernel_rfl) ?_ _
  go_wp2_with fail
  go_end0
  exact ⟨rfl, HM8.out, HC8.out⟩
/-- A byte is appended to the text of the last token. -/
def more (x : Tv) (b : BitVec 8) (A : Option Addr) (c : Nat) : Tv := ⟨⟨⟨x.t.t.kind, x.t.t.n, x.t.t.text ++ [b]⟩, x.t.at_⟩, A, c⟩
def AdSays (w : World) (D K g : Nat) (E : Value) (p z : Int) (us : List Tv) (x : Tv) (b : BitVec 8) (r : Nat) (v : Value) (e : Ending) (w' : World) : Prop := e = .returned v ∧ ∃ A c, Ml w' D K g E p z us (more x b A c) r ∧ Chl D w w'
theorem text_grew {w1 w2 : World} {p : Int} {r m : Nat} {A' : Option Addr} {c' : Nat} {b : BitVec 8} (h : Ml w1 D K g E p z us x r) (hm : x.t.t.text.length = m) (hg : w1.grownBy w2 (Value.slice x.A m x.c).ownBlock) (ho : Owb w2 K A' (m + 1) c' (x.t.t.text ++ [b])) :
    w2.cell? ⟨r, us.length * 4 + 3, none⟩ = some (.slice x.A m x.c) ∧ w2.frozen? ⟨r, us.length * 4 + 3, none⟩ = false ∧
    Ml (w2.setCell ⟨r, us.length * 4 + 3, none⟩ (.slice A' (m + 1) c')) D K g E p z us (more x b A' c') r ∧ Chl D w1 (w2.setCell ⟨r, us.length * 4 + 3, none⟩ (.slice A' (m + 1) c')) := by
  subst hm
  have := h.grew hg (by rw [List.length_append]; exact ho)
  rw [List.length_append] at this
  exact this
set_option maxRecDepth 100000 in
set_option maxHeartbeats 1000000 in
theorem add_ {p : Int} {r : Nat} (h : Ml w D K g E p z us x r) (b : BitVec 8) (hm : us.length ≤ 100000) (hl : x.t.t.text.length ≤ 100000) : Calls Try.prog 50 #[.pointer (some ⟨g, 0, none⟩), v8 b] w (AdSays w D K g E p z us x b r (.tuple #[])) := by
  have con := last_ h hm
  obtain ⟨⟨⟨xk, xn, t⟩, xa⟩, xA, xc⟩ := x
  have HH := Lib.hid h
  have hl : t.length ≤ 100000 := hl
  generalize hml : t.length = m at *
  have HML := Lib.hid hml
  obtain ⟨n, hn⟩ : ∃ n, n = us.length := ⟨_, rfl⟩
  have HN := Lib.hid hn
  rw [← hn] at con hm
  clear h hml hn
  go_enter Try.func50, Try.ntmps50
  go_wp2_with fail
  refine con.mono ?_
  clear con
  rintro e w1 ⟨rfl, hb⟩
  have hM := HH.out.below hb
  have k0 : w1.cell? ⟨r, n * 4 + 3, none⟩ = some (.slice xA m xc) := by rw [HN.out, ← HML.out]; exact hM.at_ (i := 3) (by decide) rfl
  have hb1 : Below w1.heap.size w1 (w1.alloc (.cells #[v8 b] 5)) := (Below.refl _ _).alloc (Nat.le_refl _) _
  have HO1 := Lib.hid (show Owb (w1.alloc (.cells #[v8 b] 5)) K xA m xc t by rw [← HML.out]; exact (hM.below hb1).mc.new _ (List.mem_singleton.2 rfl))
  have HM1 := Lib.hid (hM.below hb1)
  have HB1 := Lib.hid hb1
  have HBW := Lib.hid (hb.trans (hb1.mono hb.size))
  have HK := Lib.hid hM.mc.top
  clear hM hb1 hb
  go_wp2_with ((at_builtin; refine wpList_append_bs _ rfl _ _ 22 rfl K 5 rowB (.slice xA m xc) m t rfl HO1.out (w1.heap.size + 1) (some ⟨w1.heap.size, 0, none⟩) 1 1 [b] rfl (lit_one w1 b) (m + 1) (t ++ [b]) rfl rfl (by omega) (Nat.le_trans HK.out HB1.out.size) ?_; intro A3 c3 w3 o3 g3 _; obtain ⟨k3, f3, hm3, hc3⟩ := text_grew HM1.out HML.out g3 o3; rw [← HN.out] at k3 f3 hm3 hc3; have HM3 := Lib.hid hm3; have HC3 := Lib.hid hc3; clear o3 g3 hm3 hc3))
  go_end0
  exact ⟨rfl, A3, c3, HM3.out, (Chl.of_below HBW.out).trans HC3.out⟩
end
end Go.Proofs.Ytadfoilbcipdjaa.Lex
