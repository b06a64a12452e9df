/-
  The program's parser of patterns (layer 8): brackets.
-/
import Derived.Test.YtjpbndpfbdfhjaaMRegPile
namespace Go.Proofs.Ytjpbndpfbdfhjaa.Reg
open Go.RowKit Go.Proofs.Ytjpbndpfbdfhjaa.Ord
set_option linter.unusedVariables false
set_option linter.unusedSimpArgs false

set_option maxRecDepth 100000 in
set_option maxHeartbeats 1000000 in
theorem open_deep (w : World) (B b : Nat) (A : Option Addr) (n c : Nat) (s : List (BitVec 8)) (x : St) (h : Pz w B b A n c s x) (hd : x.outer.length = 8) :
    Calls Try.prog 52 #[.pointer (some ⟨b, 0, none⟩)] w fun e w' => e = .returned (.int .i64 5) ∧ w = w' := by
  have con := size_call w B b A n c s x h
  rw [hd] at con
  clear h
  go_enter Try.func52, Try.ntmps52
  go_wp2_with fail
  refine con.mono ?_
  rintro e w1 ⟨rfl, rfl⟩
  go_wp2_with fail
  go_ret
  exact ⟨rfl, rfl⟩

set_option maxRecDepth 100000 in
set_option maxHeartbeats 1000000 in
theorem open_on (w : World) (B b : Nat) (A : Option Addr) (n c : Nat) (s : List (BitVec 8)) (x : St) (h : Pz w B b A n c s x) (hB : B ≤ w.heap.size) (hd : x.outer.length < 8) (hk : x.at_ < n) (hn : n ≤ 100000) :
    Calls Try.prog 52 #[.pointer (some ⟨b, 0, none⟩)] w fun e w' => e = .returned (.int .i64 0) ∧ Pz w' B b A n c s ⟨x.at_ + 1, x.ops, ⟨false, false⟩, x.inner :: x.outer⟩ ∧ Below B w w' := by
  have con := size_call w B b A n c s x h
  have hlow := h.low
  obtain ⟨ov, iv, hp, hset⟩ := h.set
  have p1 := Cel.cell hp 1
  have f1 := Cel.free hp 1
  have hz1 := hset 1 (.int .i64 ((x.at_ : Int) + 1)) (x.at_ + 1) x.inner (by simp)
  have hb1 := set_below w hlow 1 (.int .i64 ((x.at_ : Int) + 1))
  have d8 : ((x.outer.length : Int) == 8) = false := by rw [beq_eq_false_iff_ne]; omega
  generalize hW : w.setCell ⟨b, 1, none⟩ (.int .i64 ((x.at_ : Int) + 1)) = W at *
  have hs1 := hb1.size
  obtain ⟨ov1, iv1, hp1, -⟩ := hz1.open_
  have hH : W.drew.cell? ⟨b, 3, none⟩ = some (.bool x.inner.hb) ∧ W.drew.cell? ⟨b, 4, none⟩ = some (.bool x.inner.hp) := ⟨Cel.cell hp1 3, Cel.cell hp1 4⟩
  have HZ := Lib.hid (hz1.below ((Below.refl W.heap.size W).drew) (by omega))
  have HB1 := Lib.hid hb1.drew
  clear h hp hset hz1 hp1 hb1
  go_enter Try.func52, Try.ntmps52
  go_wp2_with fail
  refine con.mono ?_
  clear con
  rintro e w1 ⟨rfl, rfl⟩
  go_wp2_with fail
  clear hW p1 f1
  refine wp_region_N [7] (fun V => V.cell? ⟨b, 3, none⟩ = some (.bool x.inner.hb) ∧ V.cell? ⟨b, 4, none⟩ = some (.bool x.inner.hp)) (by kernel_rfl) ?_
  refine wpAnyN_take (i := 0) (v := .pointer (some ⟨b, 0, none⟩)) [1, 2, 7] (by kernel_rfl) rfl (by kernel_rfl) (by kernel_rfl) (by kernel_rfl) (fun _ _ _ h => h) (Or.inl ⟨by rfl, ?_⟩) hH ?_
  · intro V hV; go_simp
  try simp only [Act.put, List.setIfInBounds_toArray, List.set_cons_zero, List.set_cons_succ, List.getElem_toArray, List.getElem_cons_succ, List.getElem_cons_zero]
  refine wpAnyN_take (i := 1) (v := .pointer (some ⟨b, 0, none⟩)) [2, 7] (by kernel_rfl) rfl (by kernel_rfl) (by kernel_rfl) (by kernel_rfl) (fun _ _ _ h => h) (Or.inl ⟨by rfl, ?_⟩) hH ?_
  · intro V hV; go_simp
  try simp only [Act.put, List.setIfInBounds_toArray, List.set_cons_zero, List.set_cons_succ, List.getElem_toArray, List.getElem_cons_succ, List.getElem_cons_zero]
  refine wpAnyN_take (i := 2) (v := .pointer (some ⟨b, 5, none⟩)) [7] (by kernel_rfl) rfl (by kernel_rfl) (by kernel_rfl) (by kernel_rfl) (fun _ _ _ h => h) (Or.inl ⟨by rfl, ?_⟩) hH ?_
  · intro V hV; go_simp
  try simp only [Act.put, List.setIfInBounds_toArray, List.set_cons_zero, List.set_cons_succ, List.getElem_toArray, List.getElem_cons_succ, List.getElem_cons_zero]
  refine wpAnyN_take (i := 3) (v := .pointer (some ⟨b, 0, none⟩)) [4, 5, 6, 7] (by kernel_rfl) rfl (by kernel_rfl) (by kernel_rfl) (by kernel_rfl) (fun _ _ _ h => h) (Or.inl ⟨by rfl, ?_⟩) hH ?_
  · intro V hV; go_simp
  try simp only [Act.put, List.setIfInBounds_toArray, List.set_cons_zero, List.set_cons_succ, List.getElem_toArray, List.getElem_cons_succ, List.getElem_cons_zero]
  refine wpAnyN_take (i := 4) (v := .pointer (some ⟨b, 0, none⟩)) [5, 6, 7] (by kernel_rfl) rfl (by kernel_rfl) (by kernel_rfl) (by kernel_rfl) (fun _ _ _ h => h) (Or.inl ⟨by rfl, ?_⟩) hH ?_
  · intro V hV; go_simp
  try simp only [Act.put, List.setIfInBounds_toArray, List.set_cons_zero, List.set_cons_succ, List.getElem_toArray, List.getElem_cons_succ, List.getElem_cons_zero]
  refine wpAnyN_take (i := 5) (v := .pointer (some ⟨b, 3, none⟩)) [6, 7] (by kernel_rfl) rfl (by kernel_rfl) (by kernel_rfl) (by kernel_rfl) (fun _ _ _ h => h) (Or.inl ⟨by rfl, ?_⟩) hH ?_
  · intro V hV; go_simp
  try simp only [Act.put, List.setIfInBounds_toArray, List.set_cons_zero, List.set_cons_succ, List.getElem_toArray, List.getElem_cons_succ, List.getElem_cons_zero]
  refine wpAnyN_take (i := 6) (v := .agg #[.bool x.inner.hb, .bool x.inner.hp]) [7] (by kernel_rfl) rfl (by kernel_rfl) (by kernel_rfl) (by kernel_rfl) (fun _ _ _ h => h) (Or.inl ⟨by rfl, ?_⟩) hH ?_
  · intro V hV; obtain ⟨k0, k1⟩ := hV; go_simp
  try simp only [Act.put, List.setIfInBounds_toArray, List.set_cons_zero, List.set_cons_succ, List.getElem_toArray, List.getElem_cons_succ, List.getElem_cons_zero]
  refine wpAnyN_one (i := 7) (by kernel_rfl) rfl (fun K hK => ?_)
  go_simp
  refine (push_call W.drew B b A n c s _ x.inner.hb x.inner.hp HZ.out (by show B ≤ W.heap.size; omega) (by show x.outer.length ≤ 100; omega)).mono ?_
  rintro e w3 ⟨rfl, hz3, hb3⟩
  have HZ3 := Lib.hid hz3
  have HB3 := Lib.hid (HB1.out.trans hb3)
  clear hz3 hb3
  go_wp2_with fail
  refine hK.out _ _ (.inl (by decide)) ?_
  clear hK K
  try simp only [Act.put, List.setIfInBounds_toArray, List.set_cons_zero, List.set_cons_succ, List.getElem_toArray, List.getElem_cons_succ, List.getElem_cons_zero]
  refine wpAnyN_done (by kernel_rfl) ?_ _
  obtain ⟨ov3, iv3, hp3, -⟩ := HZ3.out.set
  have q3 := Cel.cell hp3 3
  have f3 := Cel.free hp3 3
  have q4 := Cel.cell hp3 4
  have f4 := Cel.free hp3 4
  have HS := Lib.hid (HZ3.out.level false false)
  clear hp3
  go_wp2_with fail
  go_ret
  exact ⟨rfl, HS.out, HB3.out.trans (set2_below w3 hlow 3 4 _ _)⟩

theorem branchEnd_length (x : St) : (branchEnd x).ops.length ≤ x.ops.length + 2 := by
  show (x.ops ++ (if x.inner.hp then [] else [one 2]) ++ (if x.inner.hb then [one 4] else [])).length ≤ _
  cases x.inner.hp <;> cases x.inner.hb <;> simp
set_option maxRecDepth 100000 in
set_option maxHeartbeats 1000000 in
theorem close_none (w : World) (B b : Nat) (A : Option Addr) (n c : Nat) (s : List (BitVec 8)) (x : St) (h : Pz w B b A n c s x) (hx : x.outer = []) :
    Calls Try.prog 53 #[.pointer (some ⟨b, 0, none⟩)] w fun e w' => e = .returned (.int .i64 2) ∧ Below w.heap.size w w' := by
  have con := pop_no w B b A n c s x h hx
  clear h
  go_enter Try.func53, Try.ntmps53
  go_wp2_with fail
  refine con.mono ?_
  rintro e w1 ⟨rfl, hb1⟩
  have HB1 := Lib.hid hb1
  have hs1 := hb1.size
  clear hb1
  go_wp2_with fail
  go_ret
  exact ⟨rfl, HB1.out.alloc hs1 _⟩

set_option maxRecDepth 100000 in
set_option maxHeartbeats 1000000 in
theorem close_on (w : World) (B b : Nat) (A : Option Addr) (n c : Nat) (s : List (BitVec 8)) (x : St) (l : Lv) (K : List Lv) (h : Pz w B b A n c s x) (hB : B ≤ w.heap.size) (hx : x.outer = l :: K) (hd : K.length ≤ 100) (hk : x.at_ < n) (hn : n ≤ 100000) (hlen : x.ops.length ≤ 8000) :
    Calls Try.prog 53 #[.pointer (some ⟨b, 0, none⟩)] w fun e w' => e = .returned (.int .i64 0) ∧ Pz w' B b A n c s (pieceEnd s ⟨x.at_ + 1, (branchEnd x).ops, l, K⟩) ∧ Below B w w' := by
  have con := pop_yes w B b A n c s x l K h hB hx hd
  have hlow := h.low
  have HLEN := Lib.hid hlen
  clear h hx hd hlen
  go_enter Try.func53, Try.ntmps53
  go_wp2_with fail
  refine con.mono ?_
  clear con
  rintro e w1 ⟨rfl, hz1, hb1⟩
  have hs1 := hb1.size
  obtain ⟨ov, iv, hp, hset⟩ := hz1.set
  have p1 := Cel.cell hp 1
  have f1 := Cel.free hp 1
  have hbw := hp.lt
  have hz2 := (hset 1 (.int .i64 ((x.at_ : Int) + 1)) (x.at_ + 1) x.inner (by simp))
  generalize hW : (w1.setCell ⟨b, 1, none⟩ (.int .i64 ((x.at_ : Int) + 1))).alloc (.cells #[.bool l.hb, .bool l.hp] 93) = W
  have hc : Cel W w1.heap.size 93 [.bool l.hb, .bool l.hp] := by rw [← hW]; exact newOn w1 b _ 1 _ _
  have hb2 := set_below w1 hlow 1 (.int .i64 ((x.at_ : Int) + 1))
  have hs2 := hb2.size
  have hbW : Below B w1 W := by rw [← hW]; exact hb2.alloc (by omega) _
  have hsW := hbW.size
  have hzW : Pz W B b A n c s ⟨x.at_ + 1, x.ops, x.inner, K⟩ := by rw [← hW]; exact hz2.below ((Below.refl _ _).alloc (Nat.le_refl _) _) (by omega)
  have HZ := Lib.hid hzW
  have HC := Lib.hid hc
  have HB := Lib.hid (hb1.trans hbW)
  clear hz1 hp hset hz2 hb2 hbW hzW hc hb1
  go_wp2_with fail
  clear hW p1 f1
  refine (endBranch_call W B b A n c s _ HZ.out (by omega) (by have := HLEN.out; show x.ops.length ≤ _; omega)).mono ?_
  rintro e w3 ⟨rfl, hz3, hb3⟩
  have hc3 := hb3.cel HC.out (by decide) (by decide)
  have hs3 := hb3.size
  obtain ⟨ov3, iv3, hp3, -⟩ := hz3.set
  have q3 := Cel.cell hp3 3
  have f3 := Cel.free hp3 3
  have q4 := Cel.cell hp3 4
  have f4 := Cel.free hp3 4
  have l0 := hc3.cell 0
  have l1 := hc3.cell 1
  have HS := Lib.hid (hz3.level l.hb l.hp)
  have HB3 := Lib.hid (HB.out.trans (hb3.low.trans (set2_below w3 hlow 3 4 (.bool l.hb) (.bool l.hp))))
  have hs4 := HB3.out.size
  clear hz3 hb3 hc3 hp3
  go_wp2_with fail
  refine (endPiece_call _ B b A n c s _ HS.out (by simp; omega) (by show x.at_ + 1 ≤ n; omega) hn (by have := HLEN.out; have := branchEnd_length x; show (branchEnd x).ops.length ≤ _; omega)).mono ?_
  rintro e w5 ⟨rfl, hz5, hb5⟩
  have HZ5 := Lib.hid hz5
  have HB5 := Lib.hid (HB3.out.trans hb5.low)
  clear hz5 hb5
  go_wp2_with fail
  go_ret
  exact ⟨rfl, HZ5.out, HB5.out⟩
end Go.Proofs.Ytjpbndpfbdfhjaa.Reg
