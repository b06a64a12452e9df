/-
  The program's pile of levels (layer 8): size, push, pop.
-/
import Derived.Test.YtjpbndpfbdfhjaaMBaseB
import Derived.Test.YtjpbndpfbdfhjaaMRegStep
namespace Go.Proofs.Ytjpbndpfbdfhjaa.Reg
open Go.RowKit Go.Proofs.Ytjpbndpfbdfhjaa.Ord
set_option linter.unusedVariables false
set_option linter.unusedSimpArgs false

set_option maxRecDepth 100000 in
set_option maxHeartbeats 1000000 in
theorem size_call (w : World) (B b : Nat) (A : Option Addr) (n c : Nat) (s : List (BitVec 8)) (x : St) (h : Pz w B b A n c s x) :
    Calls Try.prog 46 #[.pointer (some ⟨b, 5, none⟩)] w fun e w' => e = .returned (.int .i64 (x.outer.length : Int)) ∧ w = w' := by
  obtain ⟨ov, iv, hp, ho, hl⟩ := h.st
  obtain ⟨Ai, ci, rfl⟩ := own_form hl
  have p5 := Cel.cell hp 5
  clear h hp ho hl
  go_enter Try.func46, Try.ntmps46
  go_wp2_with fail
  go_ret
  exact ⟨rfl, rfl⟩

def Still2 (b g m : Nat) (v x0 x1 : Value) (V : World) : Prop := V.cell? ⟨b, 5, none⟩ = some v ∧ V.cell? ⟨g, m * 2, none⟩ = some x0 ∧ V.cell? ⟨g, m * 2 + 1, none⟩ = some x1
/-- What the region of push reads: it stays till the row's slice is stored. -/
def Still (b i g : Nat) (v x0 x1 : Value) (V : World) : Prop := V.cell? ⟨b, i, none⟩ = some v ∧ V.cell? ⟨g, 0, none⟩ = some x0 ∧ V.cell? ⟨g, 1, none⟩ = some x1
set_option maxRecDepth 100000 in
set_option maxHeartbeats 1000000 in
theorem push_call (w : World) (B b : Nat) (A : Option Addr) (n c : Nat) (s : List (BitVec 8)) (x : St) (u v : Bool) (h : Pz w B b A n c s x) (hB : B ≤ w.heap.size) (hlen : x.outer.length ≤ 100) :
    Calls Try.prog 68 #[.pointer (some ⟨b, 5, none⟩), .agg #[.bool u, .bool v]] w fun e w' => e = .returned (.tuple #[]) ∧ Pz w' B b A n c s ⟨x.at_, x.ops, x.inner, ⟨u, v⟩ :: x.outer⟩ ∧ Below B w w' := by
  obtain ⟨ov, iv, hp, ho, hl⟩ := h.st
  obtain ⟨Ai, ci, rfl⟩ := own_form hl
  generalize hln : x.outer.length = ln at *
  have hlow := h.low
  have HBS := Lib.hid h.bs
  have HP := Lib.hid hp
  have HO := Lib.hid ho
  have HL := Lib.hid (show w.ownsRow B 93 2 (.slice Ai ln ci) ln (lflat x.outer.reverse) by rw [← hln]; rw [← hln] at hl; exact hl)
  have HLN := Lib.hid hln
  have hbw := hp.lt
  generalize hW : w.alloc (.cells #[.bool u, .bool v] 93) = W
  have hWs : W.heap.size = w.heap.size + 1 := by rw [← hW]; simp
  have hbW : Below w.heap.size w W := by rw [← hW]; exact (Below.refl _ _).alloc (Nat.le_refl _) _
  have hcW : Cel W w.heap.size 93 [.bool u, .bool v] := by rw [← hW]; exact Cel.new w _ _
  have hpW : Pc W b (.slice A n c) x.at_ ov x.inner.hb x.inner.hp (.slice Ai ln ci) := Cel.below hp hbW hbw
  have hH : Still b 5 w.heap.size (.slice Ai ln ci) (.bool u) (.bool v) W.drew := ⟨Cel.cell hpW 5, Cel.cell hcW 0, Cel.cell hcW 1⟩
  have hb5 : Below w.heap.size w (W.alloc (.cells #[.bool u, .bool v] 93)).drew := (hbW.alloc (by omega) _).drew
  have HB5 := Lib.hid hb5
  have H5 := Lib.hid (own_frm (l := []) HL.out (Frm.of_below hb5) (by simp))
  have HC5 := Lib.hid ((hcW.alloc (.cells #[.bool u, .bool v] 93)).drew)
  have HP5 := Lib.hid (show Pc (W.alloc (.cells #[.bool u, .bool v] 93)).drew b (.slice A n c) x.at_ ov x.inner.hb x.inner.hp (.slice Ai ln ci) from Cel.below hp hb5 hbw)
  have hsrc := Lib.hid (Ry.src (m := 1) (Ry.of_cel (show Cel (W.alloc (.cells #[.bool u, .bool v] 93)).drew (w.heap.size + 1) 93 [.bool u, .bool v] by rw [← hWs]; exact Cel.new W _ _)) (by simp))
  clear h hp ho hl hb5 hcW hpW hbW hln
  go_enter Try.func68, Try.ntmps68
  go_wp2_with fail
  clear hW
  refine wp_region_N [10] (Still b 5 w.heap.size (.slice Ai ln ci) (.bool u) (.bool v)) (by kernel_rfl) ?_
  refine wpAnyN_take (i := 0) (v := .pointer (some ⟨b, 5, none⟩)) [10] (by kernel_rfl) rfl (by kernel_rfl) (by kernel_rfl) (by kernel_rfl) (fun _ _ _ h => h) (Or.inl ⟨by rfl, ?_⟩) hH ?_
  · intro V hV; go_simp
  try simp only [Act.put, List.setIfInBounds_toArray, List.set_cons_zero, List.set_cons_succ, List.getElem_toArray, List.getElem_cons_succ, List.getElem_cons_zero]
  refine wpAnyN_take (i := 1) (v := .pointer (some ⟨b, 5, none⟩)) [10] (by kernel_rfl) rfl (by kernel_rfl) (by kernel_rfl) (by kernel_rfl) (fun _ _ _ h => h) (Or.inl ⟨by rfl, ?_⟩) hH ?_
  · intro V hV; go_simp
  try simp only [Act.put, List.setIfInBounds_toArray, List.set_cons_zero, List.set_cons_succ, List.getElem_toArray, List.getElem_cons_succ, List.getElem_cons_zero]
  refine wpAnyN_take (i := 2) (v := .pointer (some ⟨b, 5, none⟩)) [10] (by kernel_rfl) rfl (by kernel_rfl) (by kernel_rfl) (by kernel_rfl) (fun _ _ _ h => h) (Or.inl ⟨by rfl, ?_⟩) hH ?_
  · intro V hV; go_simp
  try simp only [Act.put, List.setIfInBounds_toArray, List.set_cons_zero, List.set_cons_succ, List.getElem_toArray, List.getElem_cons_succ, List.getElem_cons_zero]
  refine wpAnyN_take (i := 3) (v := .pointer (some ⟨b, 5, none⟩)) [10] (by kernel_rfl) rfl (by kernel_rfl) (by kernel_rfl) (by kernel_rfl) (fun _ _ _ h => h) (Or.inl ⟨by rfl, ?_⟩) hH ?_
  · intro V hV; go_simp
  try simp only [Act.put, List.setIfInBounds_toArray, List.set_cons_zero, List.set_cons_succ, List.getElem_toArray, List.getElem_cons_succ, List.getElem_cons_zero]
  refine wpAnyN_take (i := 4) (v := .slice Ai ln ci) [10] (by kernel_rfl) rfl (by kernel_rfl) (by kernel_rfl) (by kernel_rfl) (fun _ _ _ h => h) (Or.inl ⟨by rfl, ?_⟩) hH ?_
  · intro V hV; obtain ⟨k0, k1, k2⟩ := hV; go_simp
  try simp only [Act.put, List.setIfInBounds_toArray, List.set_cons_zero, List.set_cons_succ, List.getElem_toArray, List.getElem_cons_succ, List.getElem_cons_zero]
  refine wpAnyN_take (i := 5) (v := .agg #[.bool u, .bool v]) [10] (by kernel_rfl) rfl (by kernel_rfl) (by kernel_rfl) (by kernel_rfl) (fun _ _ _ h => h) (Or.inl ⟨by rfl, ?_⟩) hH ?_
  · intro V hV; obtain ⟨k0, k1, k2⟩ := hV; go_simp
  try simp only [Act.put, List.setIfInBounds_toArray, List.set_cons_zero, List.set_cons_succ, List.getElem_toArray, List.getElem_cons_succ, List.getElem_cons_zero]
  refine wpAnyN_one (i := 6) (by kernel_rfl) rfl (fun K hK => ?_)
  go_simp
  refine hK.out _ _ (.inr ?_) ?_
  · exact ⟨Cel.cell HP5.out 5, HC5.out.cell 0, HC5.out.cell 1⟩
  clear hK K
  try simp only [Act.put, List.setIfInBounds_toArray, List.set_cons_zero, List.set_cons_succ, List.getElem_toArray, List.getElem_cons_succ, List.getElem_cons_zero]
  refine wpAnyN_one (i := 7) (by kernel_rfl) rfl (fun K hK => ?_)
  rw [if_pos (by rfl)]
  refine wp_append_any _ _ _ 94 rfl B 93 rowLv (.slice Ai ln ci) ln (lflat x.outer.reverse) rfl H5.out (some ⟨w.heap.size + 1, 0, none⟩) 1 1 [.bool u, .bool v] rfl rfl hsrc.out (by intro u hu; simp at hu; rcases hu with rfl | rfl <;> rfl) (ln + 1) _ rfl rfl (by unfold maxLen; omega) (by omega) (by simp; omega) ?_
  intro A8 c8 w8 ho8 hg8 _
  obtain ⟨hp8, hz9, hb9⟩ := Pz.lpushed (l := ⟨u, v⟩) HLN.out hlow HBS.out HP.out HO.out hB HB5.out H5.out ho8 hg8
  have hc8 := HC5.out.grown hg8 (fun e => by have := own_lt HL.out _ e; omega)
  have hS8 : Still b 5 w.heap.size (.slice Ai ln ci) (.bool u) (.bool v) w8 := ⟨Cel.cell hp8 5, hc8.cell 0, hc8.cell 1⟩
  have y5 := Cel.cell hp8 5
  have g5 := Cel.free hp8 5
  have HZ9 := Lib.hid hz9
  have HB9 := Lib.hid hb9
  refine hK.out _ _ (.inr hS8) ?_
  clear hK K hz9 hb9 hc8 hp8 ho8 hg8
  try simp only [Act.put, List.setIfInBounds_toArray, List.set_cons_zero, List.set_cons_succ, List.getElem_toArray, List.getElem_cons_succ, List.getElem_cons_zero]
  refine wpAnyN_one (i := 8) (by kernel_rfl) rfl (fun K hK => ?_)
  go_simp
  refine hK.out _ _ (.inr hS8) ?_
  clear hK K
  try simp only [Act.put, List.setIfInBounds_toArray, List.set_cons_zero, List.set_cons_succ, List.getElem_toArray, List.getElem_cons_succ, List.getElem_cons_zero]
  refine wpAnyN_one (i := 9) (by kernel_rfl) rfl (fun K hK => ?_)
  go_simp
  refine hK.out _ _ (.inr hS8) ?_
  clear hK K
  try simp only [Act.put, List.setIfInBounds_toArray, List.set_cons_zero, List.set_cons_succ, List.getElem_toArray, List.getElem_cons_succ, List.getElem_cons_zero]
  refine wpAnyN_one (i := 10) (by kernel_rfl) rfl (fun K hK => ?_)
  go_simp
  refine hK.out _ _ (.inl (by decide)) ?_
  clear hK K
  try simp only [Act.put, List.setIfInBounds_toArray, List.set_cons_zero, List.set_cons_succ, List.getElem_toArray, List.getElem_cons_succ, List.getElem_cons_zero]
  refine wpAnyN_done (by kernel_rfl) ?_ _
  go_wp2_with fail
  go_end0
  exact ⟨rfl, HZ9.out, HB9.out⟩

theorem load_lv {w : World} {g : Nat} {x0 x1 : Value} (h : Cel w g 93 [x0, x1]) : (loadVar 93 ⟨g, 0, none⟩).run Try.prog w = .ok (.agg #[x0, x1]) w :=
  run_loadVar_mid (P := Try.prog) w g 0 93 [x0, x1] _ (range_of h) Try.underlying93 rfl (by kernel_rfl)
theorem undLv : Try.prog.underlying 94 = some (.slice 93) := Try.underlying94
theorem sizeLv : (Try.prog.info? 93).map (·.size) = some 2 := by kernel_rfl

set_option maxRecDepth 100000 in
set_option maxHeartbeats 1000000 in
theorem pop_no (w : World) (B b : Nat) (A : Option Addr) (n c : Nat) (s : List (BitVec 8)) (x : St) (h : Pz w B b A n c s x) (hx : x.outer = []) :
    Calls Try.prog 69 #[.pointer (some ⟨b, 5, none⟩)] w fun e w' => e = .returned (.tuple #[.agg #[.bool false, .bool false], .bool false]) ∧ Below w.heap.size w w' := by
  obtain ⟨ov, iv, hp, ho, hl⟩ := h.st
  rw [hx] at hl
  obtain ⟨Ai, ci, rfl⟩ := own_form hl
  have p5 := (Cel.alloc (Cel.alloc hp (.cells #[.bool false, .bool false] 93)) (.cells #[.bool false, .bool false] 93)).cell 5
  have HC := Lib.hid ((Cel.new w 93 [.bool false, .bool false]).alloc (.cells #[.bool false, .bool false] 93))
  have HB := Lib.hid (((Below.refl w.heap.size w).alloc (Nat.le_refl _) (.cells #[.bool false, .bool false] 93)).alloc (by simp) (.cells #[.bool false, .bool false] 93))
  clear h hp ho hl
  go_enter Try.func69, Try.ntmps69
  go_wp2_with fail
  refine bodyPost_ret (v := .tuple #[.agg #[.bool false, .bool false], .bool false]) (results_at 2 93 3 Try.results69 ⟨w.heap.size, 0, none⟩ rfl _ _ rfl (load_lv HC.out)) rfl ?_
  exact ⟨rfl, HB.out⟩

set_option maxRecDepth 100000 in
set_option maxHeartbeats 1000000 in
theorem pop_yes (w : World) (B b : Nat) (A : Option Addr) (n c : Nat) (s : List (BitVec 8)) (x : St) (l : Lv) (K : List Lv) (h : Pz w B b A n c s x) (hB : B ≤ w.heap.size) (hx : x.outer = l :: K) (hlen : K.length ≤ 100) :
    Calls Try.prog 69 #[.pointer (some ⟨b, 5, none⟩)] w fun e w' => e = .returned (.tuple #[.agg #[.bool l.hb, .bool l.hp], .bool true]) ∧ Pz w' B b A n c s ⟨x.at_, x.ops, x.inner, K⟩ ∧ Below B w w' := by
  obtain ⟨ov, iv, hp, ho, hl⟩ := h.st
  rw [hx] at hl
  obtain ⟨Ai, ci, rfl⟩ := own_form hl
  have hlow := h.low
  obtain ⟨m, hm⟩ : ∃ m, m = K.length := ⟨_, rfl⟩
  have hl2 : w.ownsRow B 93 2 (.slice Ai (m + 1) ci) (m + 1) (lflat K.reverse ++ [.bool l.hb, .bool l.hp]) := by
    have : w.ownsRow B 93 2 (.slice Ai (l :: K).length ci) (l :: K).length (lflat (l :: K).reverse) := hl
    rw [List.reverse_cons, lflat_snoc, List.length_cons, ← hm] at this
    exact this
  obtain ⟨g1, cap, hv, hg1, hlt1⟩ := hl2.form (Nat.succ_pos _)
  cases hv
  have hci : m + 1 ≤ ci ∧ ci ≤ maxLen := by
    rcases hl2.2 with ⟨hv, _⟩ | ⟨g', cap', cur, hv, _, _, h1, h2, _⟩
    · cases hv
    · cases hv; exact ⟨h1, h2⟩
  have hlf : (lflat K.reverse).length = m * 2 := by rw [lflat_length, List.length_reverse, hm]
  have r0 : w.cell? ⟨g1, m * 2, none⟩ = some (.bool l.hb) := by
    rw [hl2.cellAt (m * 2) (by omega), List.getElem?_append_right (by omega), hlf, Nat.sub_self]; rfl
  have r1 : w.cell? ⟨g1, m * 2 + 1, none⟩ = some (.bool l.hp) := by
    rw [hl2.cellAt (m * 2 + 1) (by omega), List.getElem?_append_right (by omega), hlf, show m * 2 + 1 - m * 2 = 1 by omega]; rfl
  have hcut := own_cut hl2 (Nat.le_succ m)
  rw [List.take_append_of_le_length (by omega), List.take_of_length_le (by omega)] at hcut
  have HBS := Lib.hid h.bs
  have HO := Lib.hid ho
  have HP := Lib.hid hp
  have HCUT := Lib.hid hcut
  have HLT := Lib.hid hlt1
  have hbw := hp.lt
  have hgb : g1 ≠ b := own_ne_of hl2 hp
  generalize hW : (w.alloc (.cells #[.bool false, .bool false] 93)).alloc (.cells #[.bool false, .bool false] 93) = W
  have hWs : W.heap.size = w.heap.size + 2 := by rw [← hW]; simp
  have hbW : Below w.heap.size w W := by rw [← hW]; exact ((Below.refl w.heap.size w).alloc (Nat.le_refl _) _).alloc (by simp) _
  have hc1 : Cel W w.heap.size 93 [.bool false, .bool false] := by rw [← hW]; exact (Cel.new w _ _).alloc _
  have hc2 : Cel W (w.heap.size + 1) 93 [.bool false, .bool false] := by
    rw [← hW]
    have := Cel.new (w.alloc (.cells #[.bool false, .bool false] 93)) 93 [.bool false, .bool false]
    rwa [show (w.alloc (.cells #[.bool false, .bool false] 93)).heap.size = w.heap.size + 1 by simp] at this
  have hpW : Pc W b (.slice A n c) x.at_ ov x.inner.hb x.inner.hp (.slice (some ⟨g1, 0, none⟩) (m + 1) ci) := by
    rw [hm]; exact Cel.below hp hbW hbw
  have p5 := Cel.cell hpW 5
  have r0W := (hbW.cell (p := ⟨g1, m * 2, none⟩) hlt1).trans r0
  have r1W := (hbW.cell (p := ⟨g1, m * 2 + 1, none⟩) hlt1).trans r1
  have HM := Lib.hid hm
  have hm100 : m ≤ 100 := by omega
  clear h hp ho hl hl2 hcut hlf r0 r1 hm hx hlen
  go_enter Try.func69, Try.ntmps69
  go_wp2_with fail
  clear hW
  have hH : Still2 b g1 m (.slice (some ⟨g1, 0, none⟩) (m + 1) ci) (.bool l.hb) (.bool l.hp) W.drew := ⟨p5, r0W, r1W⟩
  refine wp_region_N [17] (Still2 b g1 m (.slice (some ⟨g1, 0, none⟩) (m + 1) ci) (.bool l.hb) (.bool l.hp)) (by kernel_rfl) ?_
  refine wpAnyN_take (i := 0) (v := .pointer (some ⟨b, 5, none⟩)) [17] (by kernel_rfl) rfl (by kernel_rfl) (by kernel_rfl) (by kernel_rfl) (fun _ _ _ h => h) (Or.inl ⟨by rfl, ?_⟩) hH ?_
  · intro V hV; go_simp
  try simp only [Act.put, List.setIfInBounds_toArray, List.set_cons_zero, List.set_cons_succ, List.getElem_toArray, List.getElem_cons_succ, List.getElem_cons_zero]
  refine wpAnyN_take (i := 1) (v := .pointer (some ⟨b, 5, none⟩)) [17] (by kernel_rfl) rfl (by kernel_rfl) (by kernel_rfl) (by kernel_rfl) (fun _ _ _ h => h) (Or.inl ⟨by rfl, ?_⟩) hH ?_
  · intro V hV; go_simp
  try simp only [Act.put, List.setIfInBounds_toArray, List.set_cons_zero, List.set_cons_succ, List.getElem_toArray, List.getElem_cons_succ, List.getElem_cons_zero]
  refine wpAnyN_take (i := 2) (v := .pointer (some ⟨b, 5, none⟩)) [17] (by kernel_rfl) rfl (by kernel_rfl) (by kernel_rfl) (by kernel_rfl) (fun _ _ _ h => h) (Or.inl ⟨by rfl, ?_⟩) hH ?_
  · intro V hV; go_simp
  try simp only [Act.put, List.setIfInBounds_toArray, List.set_cons_zero, List.set_cons_succ, List.getElem_toArray, List.getElem_cons_succ, List.getElem_cons_zero]
  refine wpAnyN_take (i := 3) (v := .pointer (some ⟨b, 5, none⟩)) [17] (by kernel_rfl) rfl (by kernel_rfl) (by kernel_rfl) (by kernel_rfl) (fun _ _ _ h => h) (Or.inl ⟨by rfl, ?_⟩) hH ?_
  · intro V hV; go_simp
  try simp only [Act.put, List.setIfInBounds_toArray, List.set_cons_zero, List.set_cons_succ, List.getElem_toArray, List.getElem_cons_succ, List.getElem_cons_zero]
  refine wpAnyN_take (i := 4) (v := .slice (some ⟨g1, 0, none⟩) (m + 1) ci) [17] (by kernel_rfl) rfl (by kernel_rfl) (by kernel_rfl) (by kernel_rfl) (fun _ _ _ h => h) (Or.inl ⟨by rfl, ?_⟩) hH ?_
  · intro V hV; obtain ⟨k0, k1, k2⟩ := hV; go_simp
  try simp only [Act.put, List.setIfInBounds_toArray, List.set_cons_zero, List.set_cons_succ, List.getElem_toArray, List.getElem_cons_succ, List.getElem_cons_zero]
  refine wpAnyN_take (i := 5) (v := .int .i64 (m : Int)) [17] (by kernel_rfl) rfl (by kernel_rfl) (by kernel_rfl) (by kernel_rfl) (fun _ _ _ h => h) (Or.inl ⟨by rfl, ?_⟩) hH ?_
  · intro V hV; go_simp
  try simp only [Act.put, List.setIfInBounds_toArray, List.set_cons_zero, List.set_cons_succ, List.getElem_toArray, List.getElem_cons_succ, List.getElem_cons_zero]
  refine wpAnyN_take (i := 6) (v := .pointer (some ⟨g1, m * 2, none⟩)) [17] (by kernel_rfl) rfl (by kernel_rfl) (by kernel_rfl) (by kernel_rfl) (fun _ _ _ h => h) (Or.inl ⟨by rfl, ?_⟩) hH ?_
  · intro V hV; go_simp; intro q; omega
  try simp only [Act.put, List.setIfInBounds_toArray, List.set_cons_zero, List.set_cons_succ, List.getElem_toArray, List.getElem_cons_succ, List.getElem_cons_zero]
  refine wpAnyN_take (i := 7) (v := .agg #[.bool l.hb, .bool l.hp]) [17] (by kernel_rfl) rfl (by kernel_rfl) (by kernel_rfl) (by kernel_rfl) (fun _ _ _ h => h) (Or.inl ⟨by rfl, ?_⟩) hH ?_
  · intro V hV; obtain ⟨k0, k1, k2⟩ := hV; go_simp
  try simp only [Act.put, List.setIfInBounds_toArray, List.set_cons_zero, List.set_cons_succ, List.getElem_toArray, List.getElem_cons_succ, List.getElem_cons_zero]
  refine wpAnyN_take (i := 8) (v := .pointer (some ⟨b, 5, none⟩)) [17] (by kernel_rfl) rfl (by kernel_rfl) (by kernel_rfl) (by kernel_rfl) (fun _ _ _ h => h) (Or.inl ⟨by rfl, ?_⟩) hH ?_
  · intro V hV; go_simp
  try simp only [Act.put, List.setIfInBounds_toArray, List.set_cons_zero, List.set_cons_succ, List.getElem_toArray, List.getElem_cons_succ, List.getElem_cons_zero]
  refine wpAnyN_take (i := 9) (v := .pointer (some ⟨b, 5, none⟩)) [17] (by kernel_rfl) rfl (by kernel_rfl) (by kernel_rfl) (by kernel_rfl) (fun _ _ _ h => h) (Or.inl ⟨by rfl, ?_⟩) hH ?_
  · intro V hV; go_simp
  try simp only [Act.put, List.setIfInBounds_toArray, List.set_cons_zero, List.set_cons_succ, List.getElem_toArray, List.getElem_cons_succ, List.getElem_cons_zero]
  refine wpAnyN_take (i := 10) (v := .pointer (some ⟨b, 5, none⟩)) [17] (by kernel_rfl) rfl (by kernel_rfl) (by kernel_rfl) (by kernel_rfl) (fun _ _ _ h => h) (Or.inl ⟨by rfl, ?_⟩) hH ?_
  · intro V hV; go_simp
  try simp only [Act.put, List.setIfInBounds_toArray, List.set_cons_zero, List.set_cons_succ, List.getElem_toArray, List.getElem_cons_succ, List.getElem_cons_zero]
  refine wpAnyN_take (i := 11) (v := .slice (some ⟨g1, 0, none⟩) (m + 1) ci) [17] (by kernel_rfl) rfl (by kernel_rfl) (by kernel_rfl) (by kernel_rfl) (fun _ _ _ h => h) (Or.inl ⟨by rfl, ?_⟩) hH ?_
  · intro V hV; obtain ⟨k0, k1, k2⟩ := hV; go_simp
  try simp only [Act.put, List.setIfInBounds_toArray, List.set_cons_zero, List.set_cons_succ, List.getElem_toArray, List.getElem_cons_succ, List.getElem_cons_zero]
  refine wpAnyN_take (i := 12) (v := .int .i64 (m : Int)) [17] (by kernel_rfl) rfl (by kernel_rfl) (by kernel_rfl) (by kernel_rfl) (fun _ _ _ h => h) (Or.inl ⟨by rfl, ?_⟩) hH ?_
  · intro V hV; go_simp
  try simp only [Act.put, List.setIfInBounds_toArray, List.set_cons_zero, List.set_cons_succ, List.getElem_toArray, List.getElem_cons_succ, List.getElem_cons_zero]
  refine wpAnyN_take (i := 13) (v := .slice (some ⟨g1, 0, none⟩) m ci) [17] (by kernel_rfl) rfl (by kernel_rfl) (by kernel_rfl) (by kernel_rfl) (fun _ _ _ h => h) (yieldsIf_slice (by rfl) 94 (.tmp 26) none (some (.tmp 27)) none rfl _ (fun V => run_cutTo V undLv sizeLv (some ⟨g1, 0, none⟩) (m + 1) ci m .i64 (by omega))) hH ?_
  try simp only [Act.put, List.setIfInBounds_toArray, List.set_cons_zero, List.set_cons_succ, List.getElem_toArray, List.getElem_cons_succ, List.getElem_cons_zero]
  have x0 := hc2.cell 0
  have x1 := hc2.cell 1
  have xf0 := hc2.free 0
  have xf1 := hc2.free 1
  refine wpAnyN_one (i := 14) (by kernel_rfl) rfl (fun K hK => ?_)
  go_simp
  have hA := setCells2 (y0 := .bool l.hb) (y1 := .bool l.hp) hc2
  have hN1 : b ≠ w.heap.size + 1 := by omega
  have hG1 : g1 ≠ w.heap.size + 1 := by omega
  have hPA := (Cel.far (p := ⟨w.heap.size + 1, 1, none⟩) (Cel.far (p := ⟨w.heap.size + 1, 0, none⟩) hpW hN1 (.bool l.hb)) hN1 (.bool l.hp))
  have hRA := (Cel.far (p := ⟨w.heap.size + 1, 1, none⟩) (Cel.far (p := ⟨w.heap.size + 1, 0, none⟩) hc1 (by simp) (.bool l.hb)) (by simp) (.bool l.hp))
  generalize hWA : (W.setCell ⟨w.heap.size + 1, 0, none⟩ (.bool l.hb)).setCell ⟨w.heap.size + 1, 1, none⟩ (.bool l.hp) = WA at *
  have hS2 : Still2 b g1 m (.slice (some ⟨g1, 0, none⟩) (m + 1) ci) (.bool l.hb) (.bool l.hp) WA.drew := by
    refine ⟨Cel.cell hPA 5, ?_, ?_⟩
    · exact (World.cell?_of_block (w := W) (by show WA.heap[g1]? = _; rw [← hWA, Below.heap_setCell _ _ _ _ (by simpa using hG1), Below.heap_setCell _ _ _ _ (by simpa using hG1)])).trans r0W
    · exact (World.cell?_of_block (w := W) (by show WA.heap[g1]? = _; rw [← hWA, Below.heap_setCell _ _ _ _ (by simpa using hG1), Below.heap_setCell _ _ _ _ (by simpa using hG1)])).trans r1W
  refine hK.out _ _ (.inr hS2) ?_
  clear hK K x0 x1 xf0 xf1
  try simp only [Act.put, List.setIfInBounds_toArray, List.set_cons_zero, List.set_cons_succ, List.getElem_toArray, List.getElem_cons_succ, List.getElem_cons_zero]
  refine wpAnyN_one (i := 15) (by kernel_rfl) rfl (fun K hK => ?_)
  go_simp
  refine hK.out _ _ (.inr hS2) ?_
  clear hK K
  try simp only [Act.put, List.setIfInBounds_toArray, List.set_cons_zero, List.set_cons_succ, List.getElem_toArray, List.getElem_cons_succ, List.getElem_cons_zero]
  refine wpAnyN_one (i := 16) (by kernel_rfl) rfl (fun K hK => ?_)
  go_simp
  refine hK.out _ _ (.inr hS2) ?_
  clear hK K
  try simp only [Act.put, List.setIfInBounds_toArray, List.set_cons_zero, List.set_cons_succ, List.getElem_toArray, List.getElem_cons_succ, List.getElem_cons_zero]
  have y5 := Cel.cell hPA 5
  have g5 := Cel.free hPA 5
  refine wpAnyN_one (i := 17) (by kernel_rfl) rfl (fun K hK => ?_)
  go_simp
  refine hK.out _ _ (.inl (by decide)) ?_
  clear hK K
  try simp only [Act.put, List.setIfInBounds_toArray, List.set_cons_zero, List.set_cons_succ, List.getElem_toArray, List.getElem_cons_succ, List.getElem_cons_zero]
  refine wpAnyN_done (by kernel_rfl) ?_ _
  have hB9 := Cel.far (p := ⟨b, 5, none⟩) hA (fun e => hN1 e.symm) (.slice (some ⟨g1, 0, none⟩) m ci)
  have hR9 := Cel.far (p := ⟨b, 5, none⟩) hRA (by simp; omega) (.slice (some ⟨g1, 0, none⟩) m ci)
  have hP9 := Cel.set hPA 5 (.slice (some ⟨g1, 0, none⟩) m ci)
  have a0 := hB9.cell 0
  have a1 := hB9.cell 1
  have c0 := hR9.cell 0
  have c1 := hR9.cell 1
  have f0 := hR9.free 0
  have f1 := hR9.free 1
  have HF := Lib.hid (show Frm [w.heap.size + 1, b, w.heap.size] W (((WA.setCell ⟨b, 5, none⟩ (.slice (some ⟨g1, 0, none⟩) m ci)).setCell ⟨w.heap.size, 0, none⟩ (.bool l.hb)).setCell ⟨w.heap.size, 1, none⟩ (.bool l.hp)).drew from by
    rw [← hWA]
    exact ((((((Frm.refl _ W).set (p := ⟨w.heap.size + 1, 0, none⟩) (by simp) _).set (p := ⟨w.heap.size + 1, 1, none⟩) (by simp) _).set (p := ⟨b, 5, none⟩) (by simp) _).set (p := ⟨w.heap.size, 0, none⟩) (by simp) _).set (p := ⟨w.heap.size, 1, none⟩) (by simp) _).drew)
  have HP9 := Lib.hid (Cel.far (p := ⟨w.heap.size, 1, none⟩) (Cel.far (p := ⟨w.heap.size, 0, none⟩) hP9 (by simp; omega) (.bool l.hb)) (by simp; omega) (.bool l.hp))
  have HR9 := Lib.hid (setCells2 (y0 := .bool l.hb) (y1 := .bool l.hp) hR9)
  clear hWA hP9 hR9 hB9
  go_wp2_with fail
  refine bodyPost_ret (v := .tuple #[.agg #[.bool l.hb, .bool l.hp], .bool true]) (results_at 2 93 3 Try.results69 ⟨w.heap.size, 0, none⟩ rfl _ _ rfl (load_lv HR9.out.drew)) rfl ?_
  have hb9 := (hbW.mono hB).trans (HF.out.below (B := B) (by omega) (by simp; omega))
  refine ⟨rfl, ⟨hlow, HBS.out.below hb9, ov, .slice (some ⟨g1, 0, none⟩) m ci, HP9.out, ?_, ?_⟩, hb9⟩
  · refine (HO.out.below hbW).frm HF.out fun k hk => ?_
    simp only [List.mem_cons, List.not_mem_nil, or_false] at hk
    rcases hk with rfl | rfl | rfl
    · exact ⟨_, _, hc2, by decide, by decide⟩
    · exact ⟨_, _, hpW, by decide, by decide⟩
    · exact ⟨_, _, hc1, by decide, by decide⟩
  · show World.ownsRow _ _ _ _ _ K.length (lflat K.reverse)
    rw [← HM.out]
    refine own_frm (own_frm (l := []) HCUT.out (Frm.of_below hbW) (by simp)) HF.out fun k hk e => ?_
    have e2 : g1 = k := by simpa [Value.ownBlock] using e
    simp only [List.mem_cons, List.not_mem_nil, or_false] at hk
    rcases hk with rfl | rfl | rfl
    · omega
    · exact hgb e2
    · omega
end Go.Proofs.Ytjpbndpfbdfhjaa.Reg
