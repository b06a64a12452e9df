/-
  What the program's Append comes to.
  What the program's Sync, Remove, Rename, Crash, Up and Fail come to.
  What slices.Clone of bools, and the program's Fail, come to.
-/
import Derived.Test.YtdaknfepcbooeaaGreatMDiskAdd
import Derived.Deep.RegionHeld3
section
namespace Go.Proofs.YtdaknfepcbooeaaGreat.Disk
open Go.RowKit Go.Maps
set_option linter.unusedVariables false
set_option linter.unusedSimpArgs false

def From (w0 W : World) : Prop := Below w0.heap.size w0 W
theorem From.self (w0 : World) : From w0 w0 := Below.refl _ _
theorem From.drew {w0 W : World} (h : From w0 W) : From w0 W.drew := Below.drew h
theorem From.call {w0 W W' : World} (h2 : Below W.heap.size W W') (h : From w0 W) : From w0 W' := Below.trans h (h2.mono h.size)

/-- An error, and nothing else. -/
def Bad (w : World) (B d b : Nat) (m : M) (vs : Int → Value) (kv : Value) (e : Int) (r : Ending) (w' : World) : Prop := r = .returned (.int .i64 e) ∧ Dv w' B d m b vs kv ∧ Chg B Dob w w'
/-- The answer, and what the disk is then. -/
def Did (w : World) (B d : Nat) (x : Int × M) (r : Ending) (w' : World) : Prop := r = .returned (.int .i64 x.1) ∧ Dk w' B d x.2 ∧ Chg B Dob w w'
theorem Bad.did {w : World} {B d b : Nat} {m : M} {vs : Int → Value} {kv : Value} {e : Int} {r : Ending} {w' : World} (h : Bad w B d b m vs kv e r w') : Did w B d (e, m) r w' := ⟨h.1, ⟨_, _, _, h.2.1⟩, h.2.2⟩
theorem append_off {m : M} {f : Int} {bs : List (BitVec 8)} (h : m.off = true) : append m f bs = (8, m) := by unfold append; rw [if_pos h]
theorem append_arg {m : M} {f : Int} {bs : List (BitVec 8)} (h : m.off = false) (h2 : f < 0 ∨ bs.length ≠ 512) : append m f bs = (1, m) := by unfold append; rw [if_neg (by simp [h]), if_pos h2]
theorem append_full {m : M} {f : Int} {bs : List (BitVec 8)} (h : m.off = false) (h2 : ¬ (f < 0 ∨ bs.length ≠ 512)) (h3 : m.room ≤ m.l.length ∨ 200 ≤ (rows f m.l).length) : append m f bs = (3, m) := by unfold append; rw [if_neg (by simp [h]), if_neg h2, if_pos h3]
theorem append_fails {m : M} {f : Int} {bs : List (BitVec 8)} (h : m.off = false) (h2 : ¬ (f < 0 ∨ bs.length ≠ 512)) (h3 : ¬ (m.room ≤ m.l.length ∨ 200 ≤ (rows f m.l).length)) (h4 : fails m = true) : append m f bs = (8, stepped m) := by unfold append; rw [if_neg (by simp [h]), if_neg h2, if_neg h3, if_pos h4]
theorem append_ok {m : M} {f : Int} {bs : List (BitVec 8)} (h : m.off = false) (h2 : ¬ (f < 0 ∨ bs.length ≠ 512)) (h3 : ¬ (m.room ≤ m.l.length ∨ 200 ≤ (rows f m.l).length)) (h4 : fails m = false) : append m f bs = (0, { stepped m with files := add f m.files, l := m.l ++ [⟨f, bs, false⟩] }) := by unfold append; rw [if_neg (by simp [h]), if_neg h2, if_neg h3, if_neg (by simp [h4])]

set_option maxRecDepth 100000 in
set_option maxHeartbeats 1000000 in
theorem append_call_off (w : World) (B d b : Nat) (m : M) (vs : Int → Value) (kv : Value) (f : Int) (A : Option Addr) (n c : Nat) (h : Dv w B d m b vs kv) (ho : m.off = true) :
    Calls Tryz.prog 24 #[.pointer (some ⟨d, 0, none⟩), .int .i64 f, .slice A n c] w (Bad w B d b m vs kv 8) := by
  obtain ⟨k0, k1, k2, k3, k4⟩ := Cel.at0 h.cel
  rw [ho] at k1
  have con := on_cell w d _ k1
  simp only [Bool.not_true] at con
  have H := Lib.hid h
  clear h ho k0 k1 k2 k3 k4
  go_enter Tryz.func24, Tryz.ntmps24
  go_wp2_with (first | (go_at_call 30; refine con.mono ?_; rintro e w' ⟨rfl, rfl⟩))
  go_ret
  exact ⟨rfl, H.out, Chg.refl _ _ _⟩
set_option maxRecDepth 100000 in
set_option maxHeartbeats 1000000 in
theorem append_call_nil (w : World) (f : Int) (v : Value) : Calls Tryz.prog 24 #[.pointer none, .int .i64 f, v] w fun r w' => r = .returned (.int .i64 8) ∧ w' = w := by
  have con := on_nil w
  go_enter Tryz.func24, Tryz.ntmps24
  go_wp2_with (first | (go_at_call 30; refine con.mono ?_; rintro e w' ⟨rfl, rfl⟩))
  go_ret
  exact ⟨rfl, rfl⟩
set_option maxRecDepth 100000 in
set_option maxHeartbeats 1000000 in
theorem append_call_arg (w : World) (B d b : Nat) (m : M) (vs : Int → Value) (kv : Value) (f : Int) (A : Option Addr) (n c : Nat) (h : Dv w B d m b vs kv) (ho : m.off = false) (hn : n ≤ maxLen) (h2 : f < 0 ∨ n ≠ 512) :
    Calls Tryz.prog 24 #[.pointer (some ⟨d, 0, none⟩), .int .i64 f, .slice A n c] w (Bad w B d b m vs kv 1) := by
  obtain ⟨k0, k1, k2, k3, k4⟩ := Cel.at0 h.cel
  rw [ho] at k1
  have con := on_cell w d _ k1
  simp only [Bool.not_false] at con
  have H := Lib.hid h
  unfold maxLen at hn
  clear h ho k0 k1 k2 k3 k4
  by_cases hf : f < 0
  · clear h2
    go_enter Tryz.func24, Tryz.ntmps24
    go_wp2_with (first | (go_at_call 30; refine con.mono ?_; rintro e w' ⟨rfl, rfl⟩))
    go_ret
    exact ⟨rfl, H.out, Chg.refl _ _ _⟩
  · have h3 : ((n : Int) == 512) = false := by have := h2.resolve_left hf; simp; omega
    have h4 : ((n : Int) != 512) = true := by have := h2.resolve_left hf; simp; omega
    clear h2
    go_enter Tryz.func24, Tryz.ntmps24
    go_wp2_with (first | (go_at_call 30; refine con.mono ?_; rintro e w' ⟨rfl, rfl⟩))
    go_ret
    exact ⟨rfl, H.out, Chg.refl _ _ _⟩
set_option maxRecDepth 100000 in
set_option maxHeartbeats 2000000 in
theorem append_call_full (w : World) (B d b : Nat) (m : M) (vs : Int → Value) (kv : Value) (f : Int) (ab ao c : Nat) (bs : List (BitVec 8)) (h : Dv w B d m b vs kv) (hB : B ≤ w.heap.size) (ho : m.off = false) (hf : 0 ≤ f ∧ f < 9223372036854775808) (hbs : Bn w B (some ⟨ab, ao, none⟩) 512 bs) (h3 : m.room ≤ m.l.length) :
    Calls Tryz.prog 24 #[.pointer (some ⟨d, 0, none⟩), .int .i64 f, .slice (some ⟨ab, ao, none⟩) 512 c] w (Bad w B d b m vs kv 3) := by
  obtain ⟨_, k1, _, _, _⟩ := Cel.at0 h.cel
  rw [ho] at k1
  have con := on_cell w d _ k1
  simp only [Bool.not_false] at con
  have k0 : ∀ V, From w V → V.cell? ⟨d, 0, none⟩ = some (.int .i64 m.room) := fun V hV => (Cel.below h.cel hV (Cel.lt h.cel)).cell 0
  have k2 : ∀ V, From w V → V.cell? ⟨d, 2, none⟩ = some (.map (some b)) := fun V hV => (Cel.below h.cel hV (Cel.lt h.cel)).cell 2
  have hlk : ∀ V, From w V → (Instr.lookup 63 (.map (some b)) (.int .i64 f) false).run Tryz.prog V = .ok (lookV m.files vs f) V := fun V hV => (h.below hV).map.look ⟨by omega, hf.2⟩
  obtain ⟨Av, cv, hform⟩ := (lookV_row h f).form
  have hroom := h.inv.room
  have hrl := h.inv.rows_le f
  have hmost := h.inv.most
  have H := Lib.hid h
  have HO := Lib.hid ho
  have HBS := Lib.hid hbs
  have hlk0 := hlk
  clear h ho hbs k1
  go_enter Tryz.func24, Tryz.ntmps24
  go_wp2_with (first | (go_at_call 30; refine con.mono ?_; rintro e w' ⟨rfl, rfl⟩))
  clear con
  refine wp_region_held_drew (S := From w) (by kernel_rfl) (From.self _).drew (fun hH => ?_)
  refine wpAnyH_take (i := 0) (v := .pointer (some ⟨d, 0, none⟩)) rfl (by kernel_rfl) (by kernel_rfl) (by kernel_rfl) (fun _ _ _ h => h) (Or.inl ⟨by rfl, ?_⟩) hH ?_
  · intro V hV; go_simp
  try simp only [Act.put, List.setIfInBounds_toArray, List.set_cons_zero, List.set_cons_succ, List.getElem_toArray, List.getElem_cons_succ, List.getElem_cons_zero]
  refine wpAnyH_take (i := 2) (v := .pointer (some ⟨d, 0, none⟩)) rfl (by kernel_rfl) (by kernel_rfl) (by kernel_rfl) (fun _ _ _ h => h) (Or.inl ⟨by rfl, ?_⟩) hH ?_
  · intro V hV; go_simp
  try simp only [Act.put, List.setIfInBounds_toArray, List.set_cons_zero, List.set_cons_succ, List.getElem_toArray, List.getElem_cons_succ, List.getElem_cons_zero]
  refine wpAnyH_take (i := 3) (v := .pointer (some ⟨d, 0, none⟩)) rfl (by kernel_rfl) (by kernel_rfl) (by kernel_rfl) (fun _ _ _ h => h) (Or.inl ⟨by rfl, ?_⟩) hH ?_
  · intro V hV; go_simp
  try simp only [Act.put, List.setIfInBounds_toArray, List.set_cons_zero, List.set_cons_succ, List.getElem_toArray, List.getElem_cons_succ, List.getElem_cons_zero]
  refine wpAnyH_take (i := 4) (v := .pointer (some ⟨d, 0, none⟩)) rfl (by kernel_rfl) (by kernel_rfl) (by kernel_rfl) (fun _ _ _ h => h) (Or.inl ⟨by rfl, ?_⟩) hH ?_
  · intro V hV; go_simp
  try simp only [Act.put, List.setIfInBounds_toArray, List.set_cons_zero, List.set_cons_succ, List.getElem_toArray, List.getElem_cons_succ, List.getElem_cons_zero]
  refine wpAnyH_take (i := 5) (v := .int .i64 m.room) rfl (by kernel_rfl) (by kernel_rfl) (by kernel_rfl) (fun _ _ _ h => h) (Or.inl ⟨by rfl, ?_⟩) hH ?_
  · intro V hV; have k := k0 V hV; go_simp
  try simp only [Act.put, List.setIfInBounds_toArray, List.set_cons_zero, List.set_cons_succ, List.getElem_toArray, List.getElem_cons_succ, List.getElem_cons_zero]
  have con := used_ok w.drew B d b m vs kv H.out.drew
  refine wpAnyH_ready (rs := [1]) (by kernel_rfl) (by simp) (AllReadyH.cons rfl (fun K hK => ?_) AllReadyH.nil)
  go_simp
  refine con.mono ?_
  rintro r w5 ⟨rfl, hb5⟩
  go_wp2_with fail
  refine hK.out _ _ (hH.call hb5) (fun hH' => ?_)
  clear hK K hH
  have hH := hH'
  clear hH'
  try simp only [Act.put, List.setIfInBounds_toArray, List.set_cons_zero, List.set_cons_succ, List.getElem_toArray, List.getElem_cons_succ, List.getElem_cons_zero]
  clear con
  refine wpAnyH_take (i := 6) (v := .bool true) rfl (by kernel_rfl) (by kernel_rfl) (by kernel_rfl) (fun _ _ _ h => h) (Or.inl ⟨by rfl, ?_⟩) hH ?_
  · intro V hV; go_simp
  try simp only [Act.put, List.setIfInBounds_toArray, List.set_cons_zero, List.set_cons_succ, List.getElem_toArray, List.getElem_cons_succ, List.getElem_cons_zero]
  refine wpAnyH_take (i := 7) (v := .bool true) rfl (by kernel_rfl) (by kernel_rfl) (by kernel_rfl) (fun _ _ _ h => h) (Or.inl ⟨by rfl, ?_⟩) hH ?_
  · intro V hV; go_simp
  try simp only [Act.put, List.setIfInBounds_toArray, List.set_cons_zero, List.set_cons_succ, List.getElem_toArray, List.getElem_cons_succ, List.getElem_cons_zero]
  refine wpAnyH_take (i := 8) (v := undef) rfl (by kernel_rfl) (by kernel_rfl) (by kernel_rfl) (fun _ _ _ h => h) (Or.inr ⟨by rfl, rfl⟩) hH ?_
  try simp only [Act.put, List.setIfInBounds_toArray, List.set_cons_zero, List.set_cons_succ, List.getElem_toArray, List.getElem_cons_succ, List.getElem_cons_zero]
  refine wpAnyH_take (i := 9) (v := undef) rfl (by kernel_rfl) (by kernel_rfl) (by kernel_rfl) (fun _ _ _ h => h) (Or.inr ⟨by rfl, rfl⟩) hH ?_
  try simp only [Act.put, List.setIfInBounds_toArray, List.set_cons_zero, List.set_cons_succ, List.getElem_toArray, List.getElem_cons_succ, List.getElem_cons_zero]
  refine wpAnyH_take (i := 10) (v := undef) rfl (by kernel_rfl) (by kernel_rfl) (by kernel_rfl) (fun _ _ _ h => h) (Or.inr ⟨by rfl, rfl⟩) hH ?_
  try simp only [Act.put, List.setIfInBounds_toArray, List.set_cons_zero, List.set_cons_succ, List.getElem_toArray, List.getElem_cons_succ, List.getElem_cons_zero]
  refine wpAnyH_take (i := 11) (v := undef) rfl (by kernel_rfl) (by kernel_rfl) (by kernel_rfl) (fun _ _ _ h => h) (Or.inr ⟨by rfl, rfl⟩) hH ?_
  try simp only [Act.put, List.setIfInBounds_toArray, List.set_cons_zero, List.set_cons_succ, List.getElem_toArray, List.getElem_cons_succ, List.getElem_cons_zero]
  refine wpAnyH_take (i := 12) (v := undef) rfl (by kernel_rfl) (by kernel_rfl) (by kernel_rfl) (fun _ _ _ h => h) (Or.inr ⟨by rfl, rfl⟩) hH ?_
  try simp only [Act.put, List.setIfInBounds_toArray, List.set_cons_zero, List.set_cons_succ, List.getElem_toArray, List.getElem_cons_succ, List.getElem_cons_zero]
  refine wpAnyH_take (i := 13) (v := undef) rfl (by kernel_rfl) (by kernel_rfl) (by kernel_rfl) (fun _ _ _ h => h) (Or.inr ⟨by rfl, rfl⟩) hH ?_
  try simp only [Act.put, List.setIfInBounds_toArray, List.set_cons_zero, List.set_cons_succ, List.getElem_toArray, List.getElem_cons_succ, List.getElem_cons_zero]
  refine wpAnyH_take (i := 14) (v := undef) rfl (by kernel_rfl) (by kernel_rfl) (by kernel_rfl) (fun _ _ _ h => h) (Or.inr ⟨by rfl, rfl⟩) hH ?_
  try simp only [Act.put, List.setIfInBounds_toArray, List.set_cons_zero, List.set_cons_succ, List.getElem_toArray, List.getElem_cons_succ, List.getElem_cons_zero]
  refine wpAnyH_take (i := 15) (v := undef) rfl (by kernel_rfl) (by kernel_rfl) (by kernel_rfl) (fun _ _ _ h => h) (Or.inr ⟨by rfl, rfl⟩) hH ?_
  try simp only [Act.put, List.setIfInBounds_toArray, List.set_cons_zero, List.set_cons_succ, List.getElem_toArray, List.getElem_cons_succ, List.getElem_cons_zero]
  refine wpAnyH_take (i := 16) (v := .bool true) rfl (by kernel_rfl) (by kernel_rfl) (by kernel_rfl) (fun _ _ _ h => h) (Or.inl ⟨by rfl, ?_⟩) hH ?_
  · intro V hV; go_simp
  try simp only [Act.put, List.setIfInBounds_toArray, List.set_cons_zero, List.set_cons_succ, List.getElem_toArray, List.getElem_cons_succ, List.getElem_cons_zero]
  refine wpAnyH_done (by kernel_rfl) ?_ _
  clear k0 k2 hlk hlk0
  go_wp2_with fail
  go_ret
  exact ⟨rfl, H.out.below hH, Chg.of_below hH⟩
set_option maxRecDepth 100000 in
set_option maxHeartbeats 2000000 in
theorem append_call_many (w : World) (B d b : Nat) (m : M) (vs : Int → Value) (kv : Value) (f : Int) (ab ao c : Nat) (bs : List (BitVec 8)) (h : Dv w B d m b vs kv) (hB : B ≤ w.heap.size) (ho : m.off = false) (hf : 0 ≤ f ∧ f < 9223372036854775808) (hbs : Bn w B (some ⟨ab, ao, none⟩) 512 bs) (h3 : ¬ m.room ≤ m.l.length) (h4 : 200 ≤ (rows f m.l).length) :
    Calls Tryz.prog 24 #[.pointer (some ⟨d, 0, none⟩), .int .i64 f, .slice (some ⟨ab, ao, none⟩) 512 c] w (Bad w B d b m vs kv 3) := by
  obtain ⟨_, k1, _, _, _⟩ := Cel.at0 h.cel
  rw [ho] at k1
  have con := on_cell w d _ k1
  simp only [Bool.not_false] at con
  have k0 : ∀ V, From w V → V.cell? ⟨d, 0, none⟩ = some (.int .i64 m.room) := fun V hV => (Cel.below h.cel hV (Cel.lt h.cel)).cell 0
  have k2 : ∀ V, From w V → V.cell? ⟨d, 2, none⟩ = some (.map (some b)) := fun V hV => (Cel.below h.cel hV (Cel.lt h.cel)).cell 2
  have hlk : ∀ V, From w V → (Instr.lookup 63 (.map (some b)) (.int .i64 f) false).run Tryz.prog V = .ok (lookV m.files vs f) V := fun V hV => (h.below hV).map.look ⟨by omega, hf.2⟩
  obtain ⟨Av, cv, hform⟩ := (lookV_row h f).form
  have hroom := h.inv.room
  have hrl := h.inv.rows_le f
  have hmost := h.inv.most
  have H := Lib.hid h
  have HO := Lib.hid ho
  have HBS := Lib.hid hbs
  have hlk0 := hlk
  clear h ho hbs k1
  go_enter Tryz.func24, Tryz.ntmps24
  go_wp2_with (first | (go_at_call 30; refine con.mono ?_; rintro e w' ⟨rfl, rfl⟩))
  clear con
  refine wp_region_held_drew (S := From w) (by kernel_rfl) (From.self _).drew (fun hH => ?_)
  refine wpAnyH_take (i := 0) (v := .pointer (some ⟨d, 0, none⟩)) rfl (by kernel_rfl) (by kernel_rfl) (by kernel_rfl) (fun _ _ _ h => h) (Or.inl ⟨by rfl, ?_⟩) hH ?_
  · intro V hV; go_simp
  try simp only [Act.put, List.setIfInBounds_toArray, List.set_cons_zero, List.set_cons_succ, List.getElem_toArray, List.getElem_cons_succ, List.getElem_cons_zero]
  refine wpAnyH_take (i := 2) (v := .pointer (some ⟨d, 0, none⟩)) rfl (by kernel_rfl) (by kernel_rfl) (by kernel_rfl) (fun _ _ _ h => h) (Or.inl ⟨by rfl, ?_⟩) hH ?_
  · intro V hV; go_simp
  try simp only [Act.put, List.setIfInBounds_toArray, List.set_cons_zero, List.set_cons_succ, List.getElem_toArray, List.getElem_cons_succ, List.getElem_cons_zero]
  refine wpAnyH_take (i := 3) (v := .pointer (some ⟨d, 0, none⟩)) rfl (by kernel_rfl) (by kernel_rfl) (by kernel_rfl) (fun _ _ _ h => h) (Or.inl ⟨by rfl, ?_⟩) hH ?_
  · intro V hV; go_simp
  try simp only [Act.put, List.setIfInBounds_toArray, List.set_cons_zero, List.set_cons_succ, List.getElem_toArray, List.getElem_cons_succ, List.getElem_cons_zero]
  refine wpAnyH_take (i := 4) (v := .pointer (some ⟨d, 0, none⟩)) rfl (by kernel_rfl) (by kernel_rfl) (by kernel_rfl) (fun _ _ _ h => h) (Or.inl ⟨by rfl, ?_⟩) hH ?_
  · intro V hV; go_simp
  try simp only [Act.put, List.setIfInBounds_toArray, List.set_cons_zero, List.set_cons_succ, List.getElem_toArray, List.getElem_cons_succ, List.getElem_cons_zero]
  refine wpAnyH_take (i := 5) (v := .int .i64 m.room) rfl (by kernel_rfl) (by kernel_rfl) (by kernel_rfl) (fun _ _ _ h => h) (Or.inl ⟨by rfl, ?_⟩) hH ?_
  · intro V hV; have k := k0 V hV; go_simp
  try simp only [Act.put, List.setIfInBounds_toArray, List.set_cons_zero, List.set_cons_succ, List.getElem_toArray, List.getElem_cons_succ, List.getElem_cons_zero]
  have con := used_ok w.drew B d b m vs kv H.out.drew
  refine wpAnyH_ready (rs := [1]) (by kernel_rfl) (by simp) (AllReadyH.cons rfl (fun K hK => ?_) AllReadyH.nil)
  go_simp
  refine con.mono ?_
  rintro r w5 ⟨rfl, hb5⟩
  go_wp2_with fail
  refine hK.out _ _ (hH.call hb5) (fun hH' => ?_)
  clear hK K hH
  have hH := hH'
  clear hH'
  try simp only [Act.put, List.setIfInBounds_toArray, List.set_cons_zero, List.set_cons_succ, List.getElem_toArray, List.getElem_cons_succ, List.getElem_cons_zero]
  clear con
  refine wpAnyH_take (i := 6) (v := .bool false) rfl (by kernel_rfl) (by kernel_rfl) (by kernel_rfl) (fun _ _ _ h => h) (Or.inl ⟨by rfl, ?_⟩) hH ?_
  · intro V hV; go_simp
  try simp only [Act.put, List.setIfInBounds_toArray, List.set_cons_zero, List.set_cons_succ, List.getElem_toArray, List.getElem_cons_succ, List.getElem_cons_zero]
  refine wpAnyH_take (i := 7) (v := .bool false) rfl (by kernel_rfl) (by kernel_rfl) (by kernel_rfl) (fun _ _ _ h => h) (Or.inl ⟨by rfl, ?_⟩) hH ?_
  · intro V hV; go_simp
  try simp only [Act.put, List.setIfInBounds_toArray, List.set_cons_zero, List.set_cons_succ, List.getElem_toArray, List.getElem_cons_succ, List.getElem_cons_zero]
  refine wpAnyH_take (i := 8) (v := .pointer (some ⟨d, 0, none⟩)) rfl (by kernel_rfl) (by kernel_rfl) (by kernel_rfl) (fun _ _ _ h => h) (Or.inl ⟨by rfl, ?_⟩) hH ?_
  · intro V hV; go_simp
  try simp only [Act.put, List.setIfInBounds_toArray, List.set_cons_zero, List.set_cons_succ, List.getElem_toArray, List.getElem_cons_succ, List.getElem_cons_zero]
  refine wpAnyH_take (i := 9) (v := .pointer (some ⟨d, 0, none⟩)) rfl (by kernel_rfl) (by kernel_rfl) (by kernel_rfl) (fun _ _ _ h => h) (Or.inl ⟨by rfl, ?_⟩) hH ?_
  · intro V hV; go_simp
  try simp only [Act.put, List.setIfInBounds_toArray, List.set_cons_zero, List.set_cons_succ, List.getElem_toArray, List.getElem_cons_succ, List.getElem_cons_zero]
  refine wpAnyH_take (i := 10) (v := .pointer (some ⟨d, 2, none⟩)) rfl (by kernel_rfl) (by kernel_rfl) (by kernel_rfl) (fun _ _ _ h => h) (Or.inl ⟨by rfl, ?_⟩) hH ?_
  · intro V hV; go_simp
  try simp only [Act.put, List.setIfInBounds_toArray, List.set_cons_zero, List.set_cons_succ, List.getElem_toArray, List.getElem_cons_succ, List.getElem_cons_zero]
  refine wpAnyH_take (i := 11) (v := .map (some b)) rfl (by kernel_rfl) (by kernel_rfl) (by kernel_rfl) (fun _ _ _ h => h) (Or.inl ⟨by rfl, ?_⟩) hH ?_
  · intro V hV; have k := k2 V hV; go_simp
  try simp only [Act.put, List.setIfInBounds_toArray, List.set_cons_zero, List.set_cons_succ, List.getElem_toArray, List.getElem_cons_succ, List.getElem_cons_zero]
  refine wpAnyH_take (i := 12) (v := .int .i64 f) rfl (by kernel_rfl) (by kernel_rfl) (by kernel_rfl) (fun _ _ _ h => h) (Or.inl ⟨by rfl, ?_⟩) hH ?_
  · intro V hV; go_simp
  try simp only [Act.put, List.setIfInBounds_toArray, List.set_cons_zero, List.set_cons_succ, List.getElem_toArray, List.getElem_cons_succ, List.getElem_cons_zero]
  refine wpAnyH_take (i := 13) (v := lookV m.files vs f) rfl (by kernel_rfl) (by kernel_rfl) (by kernel_rfl) (fun _ _ _ h => h) (Or.inl ⟨by rfl, ?_⟩) hH ?_
  · intro V hV; have k := hlk V hV; go_simp
  try simp only [Act.put, List.setIfInBounds_toArray, List.set_cons_zero, List.set_cons_succ, List.getElem_toArray, List.getElem_cons_succ, List.getElem_cons_zero]
  refine wpAnyH_take (i := 14) (v := .int .i64 ((rows f m.l).length : Nat)) rfl (by kernel_rfl) (by kernel_rfl) (by kernel_rfl) (fun _ _ _ h => h) (Or.inl ⟨by rfl, ?_⟩) hH ?_
  · intro V hV; rw [hform]; go_simp
  try simp only [Act.put, List.setIfInBounds_toArray, List.set_cons_zero, List.set_cons_succ, List.getElem_toArray, List.getElem_cons_succ, List.getElem_cons_zero]
  refine wpAnyH_take (i := 15) (v := .bool true) rfl (by kernel_rfl) (by kernel_rfl) (by kernel_rfl) (fun _ _ _ h => h) (Or.inl ⟨by rfl, ?_⟩) hH ?_
  · intro V hV; have k15 : (200 : Int) ≤ (rows f m.l).length := (by omega); go_simp
  try simp only [Act.put, List.setIfInBounds_toArray, List.set_cons_zero, List.set_cons_succ, List.getElem_toArray, List.getElem_cons_succ, List.getElem_cons_zero]
  refine wpAnyH_take (i := 16) (v := .bool true) rfl (by kernel_rfl) (by kernel_rfl) (by kernel_rfl) (fun _ _ _ h => h) (Or.inl ⟨by rfl, ?_⟩) hH ?_
  · intro V hV; go_simp
  try simp only [Act.put, List.setIfInBounds_toArray, List.set_cons_zero, List.set_cons_succ, List.getElem_toArray, List.getElem_cons_succ, List.getElem_cons_zero]
  refine wpAnyH_done (by kernel_rfl) ?_ _
  clear k0 k2 hlk hlk0
  go_wp2_with fail
  go_ret
  exact ⟨rfl, H.out.below hH, Chg.of_below hH⟩
set_option maxRecDepth 100000 in
set_option maxHeartbeats 2000000 in
theorem append_call_fails (w : World) (B d b : Nat) (m : M) (vs : Int → Value) (kv : Value) (f : Int) (ab ao c : Nat) (bs : List (BitVec 8)) (h : Dv w B d m b vs kv) (hB : B ≤ w.heap.size) (ho : m.off = false) (hf : 0 ≤ f ∧ f < 9223372036854775808) (hbs : Bn w B (some ⟨ab, ao, none⟩) 512 bs) (h3 : ¬ m.room ≤ m.l.length) (h4 : ¬ 200 ≤ (rows f m.l).length) (h5 : fails m = true) :
    Calls Tryz.prog 24 #[.pointer (some ⟨d, 0, none⟩), .int .i64 f, .slice (some ⟨ab, ao, none⟩) 512 c] w (Did w B d (8, stepped m)) := by
  obtain ⟨_, k1, _, _, _⟩ := Cel.at0 h.cel
  rw [ho] at k1
  have con := on_cell w d _ k1
  simp only [Bool.not_false] at con
  have k0 : ∀ V, From w V → V.cell? ⟨d, 0, none⟩ = some (.int .i64 m.room) := fun V hV => (Cel.below h.cel hV (Cel.lt h.cel)).cell 0
  have k2 : ∀ V, From w V → V.cell? ⟨d, 2, none⟩ = some (.map (some b)) := fun V hV => (Cel.below h.cel hV (Cel.lt h.cel)).cell 2
  have hlk : ∀ V, From w V → (Instr.lookup 63 (.map (some b)) (.int .i64 f) false).run Tryz.prog V = .ok (lookV m.files vs f) V := fun V hV => (h.below hV).map.look ⟨by omega, hf.2⟩
  obtain ⟨Av, cv, hform⟩ := (lookV_row h f).form
  have hroom := h.inv.room
  have hrl := h.inv.rows_le f
  have hmost := h.inv.most
  have H := Lib.hid h
  have HO := Lib.hid ho
  have HBS := Lib.hid hbs
  have hlk0 := hlk
  clear h ho hbs k1
  go_enter Tryz.func24, Tryz.ntmps24
  go_wp2_with (first | (go_at_call 30; refine con.mono ?_; rintro e w' ⟨rfl, rfl⟩))
  clear con
  refine wp_region_held_drew (S := From w) (by kernel_rfl) (From.self _).drew (fun hH => ?_)
  refine wpAnyH_take (i := 0) (v := .pointer (some ⟨d, 0, none⟩)) rfl (by kernel_rfl) (by kernel_rfl) (by kernel_rfl) (fun _ _ _ h => h) (Or.inl ⟨by rfl, ?_⟩) hH ?_
  · intro V hV; go_simp
  try simp only [Act.put, List.setIfInBounds_toArray, List.set_cons_zero, List.set_cons_succ, List.getElem_toArray, List.getElem_cons_succ, List.getElem_cons_zero]
  refine wpAnyH_take (i := 2) (v := .pointer (some ⟨d, 0, none⟩)) rfl (by kernel_rfl) (by kernel_rfl) (by kernel_rfl) (fun _ _ _ h => h) (Or.inl ⟨by rfl, ?_⟩) hH ?_
  · intro V hV; go_simp
  try simp only [Act.put, List.setIfInBounds_toArray, List.set_cons_zero, List.set_cons_succ, List.getElem_toArray, List.getElem_cons_succ, List.getElem_cons_zero]
  refine wpAnyH_take (i := 3) (v := .pointer (some ⟨d, 0, none⟩)) rfl (by kernel_rfl) (by kernel_rfl) (by kernel_rfl) (fun _ _ _ h => h) (Or.inl ⟨by rfl, ?_⟩) hH ?_
  · intro V hV; go_simp
  try simp only [Act.put, List.setIfInBounds_toArray, List.set_cons_zero, List.set_cons_succ, List.getElem_toArray, List.getElem_cons_succ, List.getElem_cons_zero]
  refine wpAnyH_take (i := 4) (v := .pointer (some ⟨d, 0, none⟩)) rfl (by kernel_rfl) (by kernel_rfl) (by kernel_rfl) (fun _ _ _ h => h) (Or.inl ⟨by rfl, ?_⟩) hH ?_
  · intro V hV; go_simp
  try simp only [Act.put, List.setIfInBounds_toArray, List.set_cons_zero, List.set_cons_succ, List.getElem_toArray, List.getElem_cons_succ, List.getElem_cons_zero]
  refine wpAnyH_take (i := 5) (v := .int .i64 m.room) rfl (by kernel_rfl) (by kernel_rfl) (by kernel_rfl) (fun _ _ _ h => h) (Or.inl ⟨by rfl, ?_⟩) hH ?_
  · intro V hV; have k := k0 V hV; go_simp
  try simp only [Act.put, List.setIfInBounds_toArray, List.set_cons_zero, List.set_cons_succ, List.getElem_toArray, List.getElem_cons_succ, List.getElem_cons_zero]
  have con := used_ok w.drew B d b m vs kv H.out.drew
  refine wpAnyH_ready (rs := [1]) (by kernel_rfl) (by simp) (AllReadyH.cons rfl (fun K hK => ?_) AllReadyH.nil)
  go_simp
  refine con.mono ?_
  rintro r w5 ⟨rfl, hb5⟩
  go_wp2_with fail
  refine hK.out _ _ (hH.call hb5) (fun hH' => ?_)
  clear hK K hH
  have hH := hH'
  clear hH'
  try simp only [Act.put, List.setIfInBounds_toArray, List.set_cons_zero, List.set_cons_succ, List.getElem_toArray, List.getElem_cons_succ, List.getElem_cons_zero]
  clear con
  refine wpAnyH_take (i := 6) (v := .bool false) rfl (by kernel_rfl) (by kernel_rfl) (by kernel_rfl) (fun _ _ _ h => h) (Or.inl ⟨by rfl, ?_⟩) hH ?_
  · intro V hV; go_simp
  try simp only [Act.put, List.setIfInBounds_toArray, List.set_cons_zero, List.set_cons_succ, List.getElem_toArray, List.getElem_cons_succ, List.getElem_cons_zero]
  refine wpAnyH_take (i := 7) (v := .bool false) rfl (by kernel_rfl) (by kernel_rfl) (by kernel_rfl) (fun _ _ _ h => h) (Or.inl ⟨by rfl, ?_⟩) hH ?_
  · intro V hV; go_simp
  try simp only [Act.put, List.setIfInBounds_toArray, List.set_cons_zero, List.set_cons_succ, List.getElem_toArray, List.getElem_cons_succ, List.getElem_cons_zero]
  refine wpAnyH_take (i := 8) (v := .pointer (some ⟨d, 0, none⟩)) rfl (by kernel_rfl) (by kernel_rfl) (by kernel_rfl) (fun _ _ _ h => h) (Or.inl ⟨by rfl, ?_⟩) hH ?_
  · intro V hV; go_simp
  try simp only [Act.put, List.setIfInBounds_toArray, List.set_cons_zero, List.set_cons_succ, List.getElem_toArray, List.getElem_cons_succ, List.getElem_cons_zero]
  refine wpAnyH_take (i := 9) (v := .pointer (some ⟨d, 0, none⟩)) rfl (by kernel_rfl) (by kernel_rfl) (by kernel_rfl) (fun _ _ _ h => h) (Or.inl ⟨by rfl, ?_⟩) hH ?_
  · intro V hV; go_simp
  try simp only [Act.put, List.setIfInBounds_toArray, List.set_cons_zero, List.set_cons_succ, List.getElem_toArray, List.getElem_cons_succ, List.getElem_cons_zero]
  refine wpAnyH_take (i := 10) (v := .pointer (some ⟨d, 2, none⟩)) rfl (by kernel_rfl) (by kernel_rfl) (by kernel_rfl) (fun _ _ _ h => h) (Or.inl ⟨by rfl, ?_⟩) hH ?_
  · intro V hV; go_simp
  try simp only [Act.put, List.setIfInBounds_toArray, List.set_cons_zero, List.set_cons_succ, List.getElem_toArray, List.getElem_cons_succ, List.getElem_cons_zero]
  refine wpAnyH_take (i := 11) (v := .map (some b)) rfl (by kernel_rfl) (by kernel_rfl) (by kernel_rfl) (fun _ _ _ h => h) (Or.inl ⟨by rfl, ?_⟩) hH ?_
  · intro V hV; have k := k2 V hV; go_simp
  try simp only [Act.put, List.setIfInBounds_toArray, List.set_cons_zero, List.set_cons_succ, List.getElem_toArray, List.getElem_cons_succ, List.getElem_cons_zero]
  refine wpAnyH_take (i := 12) (v := .int .i64 f) rfl (by kernel_rfl) (by kernel_rfl) (by kernel_rfl) (fun _ _ _ h => h) (Or.inl ⟨by rfl, ?_⟩) hH ?_
  · intro V hV; go_simp
  try simp only [Act.put, List.setIfInBounds_toArray, List.set_cons_zero, List.set_cons_succ, List.getElem_toArray, List.getElem_cons_succ, List.getElem_cons_zero]
  refine wpAnyH_take (i := 13) (v := lookV m.files vs f) rfl (by kernel_rfl) (by kernel_rfl) (by kernel_rfl) (fun _ _ _ h => h) (Or.inl ⟨by rfl, ?_⟩) hH ?_
  · intro V hV; have k := hlk V hV; go_simp
  try simp only [Act.put, List.setIfInBounds_toArray, List.set_cons_zero, List.set_cons_succ, List.getElem_toArray, List.getElem_cons_succ, List.getElem_cons_zero]
  refine wpAnyH_take (i := 14) (v := .int .i64 ((rows f m.l).length : Nat)) rfl (by kernel_rfl) (by kernel_rfl) (by kernel_rfl) (fun _ _ _ h => h) (Or.inl ⟨by rfl, ?_⟩) hH ?_
  · intro V hV; rw [hform]; go_simp
  try simp only [Act.put, List.setIfInBounds_toArray, List.set_cons_zero, List.set_cons_succ, List.getElem_toArray, List.getElem_cons_succ, List.getElem_cons_zero]
  refine wpAnyH_take (i := 15) (v := .bool false) rfl (by kernel_rfl) (by kernel_rfl) (by kernel_rfl) (fun _ _ _ h => h) (Or.inl ⟨by rfl, ?_⟩) hH ?_
  · intro V hV; have k15 : ((rows f m.l).length : Int) < 200 := (by omega); go_simp
  try simp only [Act.put, List.setIfInBounds_toArray, List.set_cons_zero, List.set_cons_succ, List.getElem_toArray, List.getElem_cons_succ, List.getElem_cons_zero]
  refine wpAnyH_take (i := 16) (v := .bool false) rfl (by kernel_rfl) (by kernel_rfl) (by kernel_rfl) (fun _ _ _ h => h) (Or.inl ⟨by rfl, ?_⟩) hH ?_
  · intro V hV; go_simp
  try simp only [Act.put, List.setIfInBounds_toArray, List.set_cons_zero, List.set_cons_succ, List.getElem_toArray, List.getElem_cons_succ, List.getElem_cons_zero]
  refine wpAnyH_done (by kernel_rfl) ?_ _
  clear k0 k2 hlk hlk0
  have hB5 : B ≤ w5.heap.size := Nat.le_trans hB hH.size
  have con := fun fv => step_fails w5 B d b m vs kv fv (H.out.below hH) hB5 h5
  go_wp2_with (first | (go_at_call 51; refine (con _).mono ?_; rintro e w' ⟨rfl, h1, h2⟩))
  go_ret
  exact ⟨rfl, ⟨_, _, _, h1⟩, (Chg.of_below hH).trans h2⟩
set_option maxRecDepth 100000 in
set_option maxHeartbeats 2000000 in
theorem append_call_ok (w : World) (B d b : Nat) (m : M) (vs : Int → Value) (kv : Value) (f : Int) (ab ao c : Nat) (bs : List (BitVec 8)) (h : Dv w B d m b vs kv) (hB : B ≤ w.heap.size) (ho : m.off = false) (hf : 0 ≤ f ∧ f < 9223372036854775808) (hbs : Bn w B (some ⟨ab, ao, none⟩) 512 bs) (h3 : ¬ m.room ≤ m.l.length) (h4 : ¬ 200 ≤ (rows f m.l).length) (h5 : fails m = false) :
    Calls Tryz.prog 24 #[.pointer (some ⟨d, 0, none⟩), .int .i64 f, .slice (some ⟨ab, ao, none⟩) 512 c] w (Did w B d (0, { stepped m with files := add f m.files, l := m.l ++ [⟨f, bs, false⟩] })) := by
  obtain ⟨_, k1, _, _, _⟩ := Cel.at0 h.cel
  rw [ho] at k1
  have con := on_cell w d _ k1
  simp only [Bool.not_false] at con
  have k0 : ∀ V, From w V → V.cell? ⟨d, 0, none⟩ = some (.int .i64 m.room) := fun V hV => (Cel.below h.cel hV (Cel.lt h.cel)).cell 0
  have k2 : ∀ V, From w V → V.cell? ⟨d, 2, none⟩ = some (.map (some b)) := fun V hV => (Cel.below h.cel hV (Cel.lt h.cel)).cell 2
  have hlk : ∀ V, From w V → (Instr.lookup 63 (.map (some b)) (.int .i64 f) false).run Tryz.prog V = .ok (lookV m.files vs f) V := fun V hV => (h.below hV).map.look ⟨by omega, hf.2⟩
  obtain ⟨Av, cv, hform⟩ := (lookV_row h f).form
  have hroom := h.inv.room
  have hrl := h.inv.rows_le f
  have hmost := h.inv.most
  have hi : Inv { stepped m with files := add f m.files, l := m.l ++ [⟨f, bs, false⟩] } := by
    have := h.inv.append f hf.2 bs
    rw [append_ok ho (by rintro (h | h); omega; exact h hbs.1) (by rintro (h | h); exact h3 h; exact h4 h) h5] at this
    exact this
  have HI := Lib.hid hi
  clear hi
  have H := Lib.hid h
  have HO := Lib.hid ho
  have HBS := Lib.hid hbs
  have hlk0 := hlk
  clear h ho hbs k1
  go_enter Tryz.func24, Tryz.ntmps24
  go_wp2_with (first | (go_at_call 30; refine con.mono ?_; rintro e w' ⟨rfl, rfl⟩))
  clear con
  refine wp_region_held_drew (S := From w) (by kernel_rfl) (From.self _).drew (fun hH => ?_)
  refine wpAnyH_take (i := 0) (v := .pointer (some ⟨d, 0, none⟩)) rfl (by kernel_rfl) (by kernel_rfl) (by kernel_rfl) (fun _ _ _ h => h) (Or.inl ⟨by rfl, ?_⟩) hH ?_
  · intro V hV; go_simp
  try simp only [Act.put, List.setIfInBounds_toArray, List.set_cons_zero, List.set_cons_succ, List.getElem_toArray, List.getElem_cons_succ, List.getElem_cons_zero]
  refine wpAnyH_take (i := 2) (v := .pointer (some ⟨d, 0, none⟩)) rfl (by kernel_rfl) (by kernel_rfl) (by kernel_rfl) (fun _ _ _ h => h) (Or.inl ⟨by rfl, ?_⟩) hH ?_
  · intro V hV; go_simp
  try simp only [Act.put, List.setIfInBounds_toArray, List.set_cons_zero, List.set_cons_succ, List.getElem_toArray, List.getElem_cons_succ, List.getElem_cons_zero]
  refine wpAnyH_take (i := 3) (v := .pointer (some ⟨d, 0, none⟩)) rfl (by kernel_rfl) (by kernel_rfl) (by kernel_rfl) (fun _ _ _ h => h) (Or.inl ⟨by rfl, ?_⟩) hH ?_
  · intro V hV; go_simp
  try simp only [Act.put, List.setIfInBounds_toArray, List.set_cons_zero, List.set_cons_succ, List.getElem_toArray, List.getElem_cons_succ, List.getElem_cons_zero]
  refine wpAnyH_take (i := 4) (v := .pointer (some ⟨d, 0, none⟩)) rfl (by kernel_rfl) (by kernel_rfl) (by kernel_rfl) (fun _ _ _ h => h) (Or.inl ⟨by rfl, ?_⟩) hH ?_
  · intro V hV; go_simp
  try simp only [Act.put, List.setIfInBounds_toArray, List.set_cons_zero, List.set_cons_succ, List.getElem_toArray, List.getElem_cons_succ, List.getElem_cons_zero]
  refine wpAnyH_take (i := 5) (v := .int .i64 m.room) rfl (by kernel_rfl) (by kernel_rfl) (by kernel_rfl) (fun _ _ _ h => h) (Or.inl ⟨by rfl, ?_⟩) hH ?_
  · intro V hV; have k := k0 V hV; go_simp
  try simp only [Act.put, List.setIfInBounds_toArray, List.set_cons_zero, List.set_cons_succ, List.getElem_toArray, List.getElem_cons_succ, List.getElem_cons_zero]
  have con := used_ok w.drew B d b m vs kv H.out.drew
  refine wpAnyH_ready (rs := [1]) (by kernel_rfl) (by simp) (AllReadyH.cons rfl (fun K hK => ?_) AllReadyH.nil)
  go_simp
  refine con.mono ?_
  rintro r w5 ⟨rfl, hb5⟩
  go_wp2_with fail
  refine hK.out _ _ (hH.call hb5) (fun hH' => ?_)
  clear hK K hH
  have hH := hH'
  clear hH'
  try simp only [Act.put, List.setIfInBounds_toArray, List.set_cons_zero, List.set_cons_succ, List.getElem_toArray, List.getElem_cons_succ, List.getElem_cons_zero]
  clear con
  refine wpAnyH_take (i := 6) (v := .bool false) rfl (by kernel_rfl) (by kernel_rfl) (by kernel_rfl) (fun _ _ _ h => h) (Or.inl ⟨by rfl, ?_⟩) hH ?_
  · intro V hV; go_simp
  try simp only [Act.put, List.setIfInBounds_toArray, List.set_cons_zero, List.set_cons_succ, List.getElem_toArray, List.getElem_cons_succ, List.getElem_cons_zero]
  refine wpAnyH_take (i := 7) (v := .bool false) rfl (by kernel_rfl) (by kernel_rfl) (by kernel_rfl) (fun _ _ _ h => h) (Or.inl ⟨by rfl, ?_⟩) hH ?_
  · intro V hV; go_simp
  try simp only [Act.put, List.setIfInBounds_toArray, List.set_cons_zero, List.set_cons_succ, List.getElem_toArray, List.getElem_cons_succ, List.getElem_cons_zero]
  refine wpAnyH_take (i := 8) (v := .pointer (some ⟨d, 0, none⟩)) rfl (by kernel_rfl) (by kernel_rfl) (by kernel_rfl) (fun _ _ _ h => h) (Or.inl ⟨by rfl, ?_⟩) hH ?_
  · intro V hV; go_simp
  try simp only [Act.put, List.setIfInBounds_toArray, List.set_cons_zero, List.set_cons_succ, List.getElem_toArray, List.getElem_cons_succ, List.getElem_cons_zero]
  refine wpAnyH_take (i := 9) (v := .pointer (some ⟨d, 0, none⟩)) rfl (by kernel_rfl) (by kernel_rfl) (by kernel_rfl) (fun _ _ _ h => h) (Or.inl ⟨by rfl, ?_⟩) hH ?_
  · intro V hV; go_simp
  try simp only [Act.put, List.setIfInBounds_toArray, List.set_cons_zero, List.set_cons_succ, List.getElem_toArray, List.getElem_cons_succ, List.getElem_cons_zero]
  refine wpAnyH_take (i := 10) (v := .pointer (some ⟨d, 2, none⟩)) rfl (by kernel_rfl) (by kernel_rfl) (by kernel_rfl) (fun _ _ _ h => h) (Or.inl ⟨by rfl, ?_⟩) hH ?_
  · intro V hV; go_simp
  try simp only [Act.put, List.setIfInBounds_toArray, List.set_cons_zero, List.set_cons_succ, List.getElem_toArray, List.getElem_cons_succ, List.getElem_cons_zero]
  refine wpAnyH_take (i := 11) (v := .map (some b)) rfl (by kernel_rfl) (by kernel_rfl) (by kernel_rfl) (fun _ _ _ h => h) (Or.inl ⟨by rfl, ?_⟩) hH ?_
  · intro V hV; have k := k2 V hV; go_simp
  try simp only [Act.put, List.setIfInBounds_toArray, List.set_cons_zero, List.set_cons_succ, List.getElem_toArray, List.getElem_cons_succ, List.getElem_cons_zero]
  refine wpAnyH_take (i := 12) (v := .int .i64 f) rfl (by kernel_rfl) (by kernel_rfl) (by kernel_rfl) (fun _ _ _ h => h) (Or.inl ⟨by rfl, ?_⟩) hH ?_
  · intro V hV; go_simp
  try simp only [Act.put, List.setIfInBounds_toArray, List.set_cons_zero, List.set_cons_succ, List.getElem_toArray, List.getElem_cons_succ, List.getElem_cons_zero]
  refine wpAnyH_take (i := 13) (v := lookV m.files vs f) rfl (by kernel_rfl) (by kernel_rfl) (by kernel_rfl) (fun _ _ _ h => h) (Or.inl ⟨by rfl, ?_⟩) hH ?_
  · intro V hV; have k := hlk V hV; go_simp
  try simp only [Act.put, List.setIfInBounds_toArray, List.set_cons_zero, List.set_cons_succ, List.getElem_toArray, List.getElem_cons_succ, List.getElem_cons_zero]
  refine wpAnyH_take (i := 14) (v := .int .i64 ((rows f m.l).length : Nat)) rfl (by kernel_rfl) (by kernel_rfl) (by kernel_rfl) (fun _ _ _ h => h) (Or.inl ⟨by rfl, ?_⟩) hH ?_
  · intro V hV; rw [hform]; go_simp
  try simp only [Act.put, List.setIfInBounds_toArray, List.set_cons_zero, List.set_cons_succ, List.getElem_toArray, List.getElem_cons_succ, List.getElem_cons_zero]
  refine wpAnyH_take (i := 15) (v := .bool false) rfl (by kernel_rfl) (by kernel_rfl) (by kernel_rfl) (fun _ _ _ h => h) (Or.inl ⟨by rfl, ?_⟩) hH ?_
  · intro V hV; have k15 : ((rows f m.l).length : Int) < 200 := (by omega); go_simp
  try simp only [Act.put, List.setIfInBounds_toArray, List.set_cons_zero, List.set_cons_succ, List.getElem_toArray, List.getElem_cons_succ, List.getElem_cons_zero]
  refine wpAnyH_take (i := 16) (v := .bool false) rfl (by kernel_rfl) (by kernel_rfl) (by kernel_rfl) (fun _ _ _ h => h) (Or.inl ⟨by rfl, ?_⟩) hH ?_
  · intro V hV; go_simp
  try simp only [Act.put, List.setIfInBounds_toArray, List.set_cons_zero, List.set_cons_succ, List.getElem_toArray, List.getElem_cons_succ, List.getElem_cons_zero]
  refine wpAnyH_done (by kernel_rfl) ?_ _
  clear k0 k2 hlk hlk0
  have hB5 : B ≤ w5.heap.size := Nat.le_trans hB hH.size
  obtain ⟨e1, e2, e3, e4⟩ := stepped_same h5
  have con := step_goes w5 B d b m vs kv (ordV d f 0 (some ⟨ab, ao, none⟩) 512 c) 52 (fun w' => Dk w' B d { stepped m with files := add f m.files, l := m.l ++ [⟨f, bs, false⟩] } ∧ Chg B Dob w5 w') (enters_of Tryz.func52 (by kernel_rfl) rfl) (H.out.below hH) h5 (fun w1 hd hc => by
    have hx := o_add w1 B d b (stepped m) vs kv f 0 ab ao c bs hd hf (Nat.le_trans hB5 hc.size) ((HBS.out.below hH).chg hc (fun _ h => h)) (by rw [e2]; omega) (by rw [e1, e2]; exact HI.out)
    rw [e1, e2] at hx
    exact hx.mono fun e w' ⟨q1, ⟨vs', q2⟩, q3⟩ => ⟨q1, ⟨_, _, _, q2⟩, hc.trans q3⟩)
  have E1 := Lib.hid e1
  have E2 := Lib.hid e2
  clear e1 e2 e3 e4
  go_wp2_with (first | (go_at_call 51; refine con.mono ?_; rintro e w' ⟨rfl, h1, h2⟩))
  go_ret
  exact ⟨rfl, h1, (Chg.of_below hH).trans h2⟩
theorem append_call (w : World) (B d : Nat) (m : M) (f : Int) (A : Option Addr) (n c : Nat) (bs : List (BitVec 8)) (h : Dk w B d m) (hB : B ≤ w.heap.size) (hf : f < 9223372036854775808) (hbs : Bn w B A n bs) (hA : ∀ ad, A = some ad → ∃ b o, ad = ⟨b, o, none⟩) (hn : n ≤ maxLen) :
    Calls Tryz.prog 24 #[.pointer (some ⟨d, 0, none⟩), .int .i64 f, .slice A n c] w (Did w B d (append m f bs)) := by
  obtain ⟨b, vs, kv, h⟩ := h
  cases ho : m.off
  · by_cases h2 : f < 0 ∨ n ≠ 512
    · rw [append_arg ho (by rw [hbs.1]; exact h2)]
      exact (append_call_arg w B d b m vs kv f A n c h ho hn h2).mono fun _ _ h => h.did
    · have h2' : ¬ (f < 0 ∨ bs.length ≠ 512) := by rw [hbs.1]; exact h2
      obtain rfl : n = 512 := by omega
      obtain ⟨ad, o, rfl, _⟩ := hbs.2 (by omega)
      obtain ⟨ab, ao, rfl⟩ := hA ad rfl
      have hf2 : 0 ≤ f ∧ f < 9223372036854775808 := ⟨by omega, hf⟩
      by_cases h3 : m.room ≤ m.l.length
      · rw [append_full ho h2' (.inl h3)]
        exact (append_call_full w B d b m vs kv f ab ao c bs h hB ho hf2 hbs h3).mono fun _ _ h => h.did
      · by_cases h4 : 200 ≤ (rows f m.l).length
        · rw [append_full ho h2' (.inr h4)]
          exact (append_call_many w B d b m vs kv f ab ao c bs h hB ho hf2 hbs h3 h4).mono fun _ _ h => h.did
        · have h34 : ¬ (m.room ≤ m.l.length ∨ 200 ≤ (rows f m.l).length) := by rintro (h | h); exact h3 h; exact h4 h
          cases h5 : fails m
          · rw [append_ok ho h2' h34 h5]
            exact append_call_ok w B d b m vs kv f ab ao c bs h hB ho hf2 hbs h3 h4 h5
          · rw [append_fails ho h2' h34 h5]
            exact append_call_fails w B d b m vs kv f ab ao c bs h hB ho hf2 hbs h3 h4 h5
  · rw [append_off ho]
    exact (append_call_off w B d b m vs kv f A n c h ho).mono fun _ _ h => h.did
end Go.Proofs.YtdaknfepcbooeaaGreat.Disk
end

section
namespace Go.Proofs.YtdaknfepcbooeaaGreat.Disk
open Go.RowKit Go.Maps
set_option linter.unusedVariables false
set_option linter.unusedSimpArgs false

theorem sync_not {m : M} {f : Int} (h : there m f ≠ 0) : sync m f = (there m f, m) := by unfold sync; rw [if_pos h]
theorem sync_fails {m : M} {f : Int} (h : there m f = 0) (h2 : fails m = true) : sync m f = (8, stepped m) := by unfold sync; rw [if_neg (by simp [h]), if_pos h2]
theorem sync_goes {m : M} {f : Int} (h : there m f = 0) (h2 : fails m = false) : sync m f = (0, { stepped m with l := syncL f m.l }) := by unfold sync; rw [if_neg (by simp [h]), if_neg (by simp [h2])]
theorem remove_not {m : M} {f : Int} (h : there m f ≠ 0) : remove m f = (there m f, m) := by unfold remove; rw [if_pos h]
theorem remove_fails {m : M} {f : Int} (h : there m f = 0) (h2 : fails m = true) : remove m f = (8, stepped m) := by unfold remove; rw [if_neg (by simp [h]), if_pos h2]
theorem remove_goes {m : M} {f : Int} (h : there m f = 0) (h2 : fails m = false) : remove m f = (0, { stepped m with files := without f m.files, l := dropL f m.l }) := by unfold remove; rw [if_neg (by simp [h]), if_neg (by simp [h2])]
theorem rename_not {m : M} {f t : Int} (h : there m f ≠ 0) : rename m f t = (there m f, m) := by unfold rename; rw [if_pos h]
theorem rename_arg {m : M} {f t : Int} (h : there m f = 0) (ht : t < 0) : rename m f t = (1, m) := by unfold rename; rw [if_neg (by simp [h]), if_pos ht]
theorem rename_fails {m : M} {f t : Int} (h : there m f = 0) (ht : ¬ t < 0) (h2 : fails m = true) : rename m f t = (8, stepped m) := by unfold rename; rw [if_neg (by simp [h]), if_neg ht, if_pos h2]
theorem rename_same {m : M} {f : Int} (h : there m f = 0) (ht : ¬ f < 0) (h2 : fails m = false) : rename m f f = (0, stepped m) := by unfold rename; rw [if_neg (by simp [h]), if_neg ht, if_neg (by simp [h2]), if_pos rfl]
theorem rename_goes {m : M} {f t : Int} (h : there m f = 0) (ht : ¬ t < 0) (h2 : fails m = false) (hne : f ≠ t) : rename m f t = (0, { stepped m with files := without f (add t m.files), l := moveL f t (dropL t m.l) }) := by unfold rename; rw [if_neg (by simp [h]), if_neg ht, if_neg (by simp [h2]), if_neg hne]
set_option maxRecDepth 100000 in
set_option maxHeartbeats 1000000 in
theorem sync_call_not (w : World) (B d b : Nat) (m : M) (vs : Int → Value) (kv : Value) (f : Int) (hf : -9223372036854775808 ≤ f ∧ f < 9223372036854775808) (h : Dv w B d m b vs kv) (hB : B ≤ w.heap.size) (ht : there m f ≠ 0) :
    Calls Tryz.prog 73 #[.pointer (some ⟨d, 0, none⟩), .int .i64 f] w (Bad w B d b m vs kv (there m f)) := by
  have con := find_ok w B d b m vs kv f hf h
  have H := Lib.hid h
  obtain ⟨x, hx⟩ : ∃ x, x = there m f := ⟨_, rfl⟩
  rw [← hx] at ht con ⊢
  have q1 : (x == 0) = false := by simpa using ht
  have q2 : (x != 0) = true := by simpa using ht
  clear hf h hx ht
  go_enter Tryz.func73, Tryz.ntmps73
  go_wp2_with (first | (go_at_call 89; refine con.mono ?_; rintro e w' ⟨rfl, rfl⟩))
  go_ret
  exact ⟨rfl, H.out, Chg.refl _ _ _⟩
set_option maxRecDepth 100000 in
set_option maxHeartbeats 1000000 in
theorem sync_call_fails (w : World) (B d b : Nat) (m : M) (vs : Int → Value) (kv : Value) (f : Int) (hf : -9223372036854775808 ≤ f ∧ f < 9223372036854775808) (h : Dv w B d m b vs kv) (hB : B ≤ w.heap.size) (ht : there m f = 0) (h5 : fails m = true) :
    Calls Tryz.prog 73 #[.pointer (some ⟨d, 0, none⟩), .int .i64 f] w (Did w B d (8, stepped m)) := by
  have con := find_ok w B d b m vs kv f hf h
  rw [ht] at con
  have con2 := fun fv => step_fails w B d b m vs kv fv h hB h5
  clear hf h ht h5
  go_enter Tryz.func73, Tryz.ntmps73
  go_wp2_with (first | (go_at_call 89; refine con.mono ?_; rintro e w' ⟨rfl, rfl⟩) | (go_at_call 51; refine (con2 _).mono ?_; rintro e w' ⟨rfl, h1, h2⟩))
  go_ret
  exact ⟨rfl, ⟨_, _, _, h1⟩, h2⟩
set_option maxRecDepth 100000 in
set_option maxHeartbeats 1000000 in
theorem sync_call_goes (w : World) (B d b : Nat) (m : M) (vs : Int → Value) (kv : Value) (f : Int) (hf : -9223372036854775808 ≤ f ∧ f < 9223372036854775808) (h : Dv w B d m b vs kv) (hB : B ≤ w.heap.size) (ht : there m f = 0) (h5 : fails m = false) :
    Calls Tryz.prog 73 #[.pointer (some ⟨d, 0, none⟩), .int .i64 f] w (Did w B d (0, { stepped m with l := syncL f m.l })) := by
  have con := find_ok w B d b m vs kv f hf h
  have hfm := there_here ht
  have hi := h.inv.sync f
  rw [sync_goes ht h5] at hi
  dsimp only at hi
  obtain ⟨e1, e2, e3, e4⟩ := stepped_same h5
  have con2 := step_goes w B d b m vs kv (ordV d f 0 none 0 0) 100 (fun w' => Dk w' B d ({ stepped m with l := syncL f m.l }) ∧ Chg B Dob w w') (enters_of Tryz.func100 (by kernel_rfl) rfl) h h5 (fun w1 hd hc => by
    have hx := o_sync w1 B d b (stepped m) vs kv f 0 none 0 0 hd (by rw [e1]; exact hfm) (by rw [e2]; exact hi)
    rw [e2] at hx
    exact hx.mono fun e w' ⟨q1, q2, q3⟩ => ⟨q1, ⟨_, _, _, q2⟩, hc.trans q3⟩)
  rw [ht] at con
  clear hf h ht h5 hfm e1 e2 e3 e4
  go_enter Tryz.func73, Tryz.ntmps73
  go_wp2_with (first | (go_at_call 89; refine con.mono ?_; rintro e w' ⟨rfl, rfl⟩) | (go_at_call 51; refine (con2).mono ?_; rintro e w' ⟨rfl, h1, h2⟩))
  go_ret
  exact ⟨rfl, h1, h2⟩
set_option maxRecDepth 100000 in
set_option maxHeartbeats 1000000 in
theorem remove_call_not (w : World) (B d b : Nat) (m : M) (vs : Int → Value) (kv : Value) (f : Int) (hf : -9223372036854775808 ≤ f ∧ f < 9223372036854775808) (h : Dv w B d m b vs kv) (hB : B ≤ w.heap.size) (ht : there m f ≠ 0) :
    Calls Tryz.prog 98 #[.pointer (some ⟨d, 0, none⟩), .int .i64 f] w (Bad w B d b m vs kv (there m f)) := by
  have con := find_ok w B d b m vs kv f hf h
  have H := Lib.hid h
  obtain ⟨x, hx⟩ : ∃ x, x = there m f := ⟨_, rfl⟩
  rw [← hx] at ht con ⊢
  have q1 : (x == 0) = false := by simpa using ht
  have q2 : (x != 0) = true := by simpa using ht
  clear hf h hx ht
  go_enter Tryz.func98, Tryz.ntmps98
  go_wp2_with (first | (go_at_call 89; refine con.mono ?_; rintro e w' ⟨rfl, rfl⟩))
  go_ret
  exact ⟨rfl, H.out, Chg.refl _ _ _⟩
set_option maxRecDepth 100000 in
set_option maxHeartbeats 1000000 in
theorem remove_call_fails (w : World) (B d b : Nat) (m : M) (vs : Int → Value) (kv : Value) (f : Int) (hf : -9223372036854775808 ≤ f ∧ f < 9223372036854775808) (h : Dv w B d m b vs kv) (hB : B ≤ w.heap.size) (ht : there m f = 0) (h5 : fails m = true) :
    Calls Tryz.prog 98 #[.pointer (some ⟨d, 0, none⟩), .int .i64 f] w (Did w B d (8, stepped m)) := by
  have con := find_ok w B d b m vs kv f hf h
  rw [ht] at con
  have con2 := fun fv => step_fails w B d b m vs kv fv h hB h5
  clear hf h ht h5
  go_enter Tryz.func98, Tryz.ntmps98
  go_wp2_with (first | (go_at_call 89; refine con.mono ?_; rintro e w' ⟨rfl, rfl⟩) | (go_at_call 51; refine (con2 _).mono ?_; rintro e w' ⟨rfl, h1, h2⟩))
  go_ret
  exact ⟨rfl, ⟨_, _, _, h1⟩, h2⟩
set_option maxRecDepth 100000 in
set_option maxHeartbeats 1000000 in
theorem remove_call_goes (w : World) (B d b : Nat) (m : M) (vs : Int → Value) (kv : Value) (f : Int) (hf : -9223372036854775808 ≤ f ∧ f < 9223372036854775808) (h : Dv w B d m b vs kv) (hB : B ≤ w.heap.size) (ht : there m f = 0) (h5 : fails m = false) :
    Calls Tryz.prog 98 #[.pointer (some ⟨d, 0, none⟩), .int .i64 f] w (Did w B d (0, { stepped m with files := without f m.files, l := dropL f m.l })) := by
  have con := find_ok w B d b m vs kv f hf h
  have hfm := there_here ht
  have hi := h.inv.remove f
  rw [remove_goes ht h5] at hi
  dsimp only at hi
  obtain ⟨e1, e2, e3, e4⟩ := stepped_same h5
  have con2 := step_goes w B d b m vs kv (ordV d f 0 none 0 0) 116 (fun w' => Dk w' B d ({ stepped m with files := without f m.files, l := dropL f m.l }) ∧ Chg B Dob w w') (enters_of Tryz.func116 (by kernel_rfl) rfl) h h5 (fun w1 hd hc => by
    have hx := o_remove w1 B d b (stepped m) vs kv f 0 none 0 0 hd (by rw [e1]; exact hfm) (by rw [e1, e2]; exact hi)
    rw [e1, e2] at hx
    exact hx.mono fun e w' ⟨q1, q2, q3⟩ => ⟨q1, ⟨_, _, _, q2⟩, hc.trans q3⟩)
  rw [ht] at con
  clear hf h ht h5 hfm e1 e2 e3 e4
  go_enter Tryz.func98, Tryz.ntmps98
  go_wp2_with (first | (go_at_call 89; refine con.mono ?_; rintro e w' ⟨rfl, rfl⟩) | (go_at_call 51; refine (con2).mono ?_; rintro e w' ⟨rfl, h1, h2⟩))
  go_ret
  exact ⟨rfl, h1, h2⟩
set_option maxRecDepth 100000 in
set_option maxHeartbeats 1000000 in
theorem rename_call_not (w : World) (B d b : Nat) (m : M) (vs : Int → Value) (kv : Value) (f : Int) (t : Int) (hf : -9223372036854775808 ≤ f ∧ f < 9223372036854775808) (h : Dv w B d m b vs kv) (hB : B ≤ w.heap.size) (ht : there m f ≠ 0) :
    Calls Tryz.prog 75 #[.pointer (some ⟨d, 0, none⟩), .int .i64 f, .int .i64 t] w (Bad w B d b m vs kv (there m f)) := by
  have con := find_ok w B d b m vs kv f hf h
  have H := Lib.hid h
  obtain ⟨x, hx⟩ : ∃ x, x = there m f := ⟨_, rfl⟩
  rw [← hx] at ht con ⊢
  have q1 : (x == 0) = false := by simpa using ht
  have q2 : (x != 0) = true := by simpa using ht
  clear hf h hx ht
  go_enter Tryz.func75, Tryz.ntmps75
  go_wp2_with (first | (go_at_call 89; refine con.mono ?_; rintro e w' ⟨rfl, rfl⟩))
  go_ret
  exact ⟨rfl, H.out, Chg.refl _ _ _⟩
set_option maxRecDepth 100000 in
set_option maxHeartbeats 1000000 in
theorem rename_call_arg (w : World) (B d b : Nat) (m : M) (vs : Int → Value) (kv : Value) (f : Int) (t : Int) (hf : -9223372036854775808 ≤ f ∧ f < 9223372036854775808) (h : Dv w B d m b vs kv) (hB : B ≤ w.heap.size) (ht : there m f = 0) (ht0 : t < 0) :
    Calls Tryz.prog 75 #[.pointer (some ⟨d, 0, none⟩), .int .i64 f, .int .i64 t] w (Bad w B d b m vs kv 1) := by
  have con := find_ok w B d b m vs kv f hf h
  rw [ht] at con
  have H := Lib.hid h
  clear hf h ht
  go_enter Tryz.func75, Tryz.ntmps75
  go_wp2_with (first | (go_at_call 89; refine con.mono ?_; rintro e w' ⟨rfl, rfl⟩))
  go_ret
  exact ⟨rfl, H.out, Chg.refl _ _ _⟩
set_option maxRecDepth 100000 in
set_option maxHeartbeats 1000000 in
theorem rename_call_fails (w : World) (B d b : Nat) (m : M) (vs : Int → Value) (kv : Value) (f : Int) (t : Int) (hf : -9223372036854775808 ≤ f ∧ f < 9223372036854775808) (h : Dv w B d m b vs kv) (hB : B ≤ w.heap.size) (ht : there m f = 0) (h5 : fails m = true) (ht0 : 0 ≤ t) :
    Calls Tryz.prog 75 #[.pointer (some ⟨d, 0, none⟩), .int .i64 f, .int .i64 t] w (Did w B d (8, stepped m)) := by
  have con := find_ok w B d b m vs kv f hf h
  rw [ht] at con
  have con2 := fun fv => step_fails w B d b m vs kv fv h hB h5
  clear hf h ht h5
  go_enter Tryz.func75, Tryz.ntmps75
  go_wp2_with (first | (go_at_call 89; refine con.mono ?_; rintro e w' ⟨rfl, rfl⟩) | (go_at_call 51; refine (con2 _).mono ?_; rintro e w' ⟨rfl, h1, h2⟩))
  go_ret
  exact ⟨rfl, ⟨_, _, _, h1⟩, h2⟩
set_option maxRecDepth 100000 in
set_option maxHeartbeats 1000000 in
theorem rename_call_same (w : World) (B d b : Nat) (m : M) (vs : Int → Value) (kv : Value) (f : Int) (hf : -9223372036854775808 ≤ f ∧ f < 9223372036854775808) (h : Dv w B d m b vs kv) (hB : B ≤ w.heap.size) (ht : there m f = 0) (h5 : fails m = false) (ht0 : 0 ≤ f) :
    Calls Tryz.prog 75 #[.pointer (some ⟨d, 0, none⟩), .int .i64 f, .int .i64 f] w (Did w B d (0, stepped m)) := by
  have con := find_ok w B d b m vs kv f hf h
  have hfm := there_here ht
  obtain ⟨e1, e2, e3, e4⟩ := stepped_same h5
  have con2 := step_goes w B d b m vs kv (ordV d f f none 0 0) 101 (fun w' => Dk w' B d (stepped m) ∧ Chg B Dob w w') (enters_of Tryz.func101 (by kernel_rfl) rfl) h h5 (fun w1 hd hc => by
    have hx := o_rename_same w1 B d b (stepped m) vs kv f none 0 0 hd
    exact hx.mono fun e w' ⟨q1, q2, q3⟩ => ⟨q1, ⟨_, _, _, q2⟩, hc.trans q3⟩)
  rw [ht] at con
  clear hf h ht h5 hfm e1 e2 e3 e4
  go_enter Tryz.func75, Tryz.ntmps75
  go_wp2_with (first | (go_at_call 89; refine con.mono ?_; rintro e w' ⟨rfl, rfl⟩) | (go_at_call 51; refine (con2).mono ?_; rintro e w' ⟨rfl, h1, h2⟩))
  go_ret
  exact ⟨rfl, h1, h2⟩
set_option maxRecDepth 100000 in
set_option maxHeartbeats 1000000 in
theorem rename_call_goes (w : World) (B d b : Nat) (m : M) (vs : Int → Value) (kv : Value) (f : Int) (t : Int) (hf : -9223372036854775808 ≤ f ∧ f < 9223372036854775808) (h : Dv w B d m b vs kv) (hB : B ≤ w.heap.size) (ht : there m f = 0) (h5 : fails m = false) (hne : f ≠ t) (ht0 : 0 ≤ t) (htb : t < 9223372036854775808) :
    Calls Tryz.prog 75 #[.pointer (some ⟨d, 0, none⟩), .int .i64 f, .int .i64 t] w (Did w B d (0, { stepped m with files := without f (add t m.files), l := moveL f t (dropL t m.l) })) := by
  have con := find_ok w B d b m vs kv f hf h
  have hfm := there_here ht
  have hi := h.inv.rename f t htb
  rw [rename_goes ht (by omega) h5 hne] at hi
  dsimp only at hi
  obtain ⟨e1, e2, e3, e4⟩ := stepped_same h5
  have con2 := step_goes w B d b m vs kv (ordV d f t none 0 0) 101 (fun w' => Dk w' B d ({ stepped m with files := without f (add t m.files), l := moveL f t (dropL t m.l) }) ∧ Chg B Dob w w') (enters_of Tryz.func101 (by kernel_rfl) rfl) h h5 (fun w1 hd hc => by
    have hx := o_rename w1 B d b (stepped m) vs kv f t none 0 0 hd (by rw [e1]; exact hfm) hne ⟨ht0, htb⟩ (by rw [e1, e2]; exact hi)
    rw [e1, e2] at hx
    exact hx.mono fun e w' ⟨q1, q2, q3⟩ => ⟨q1, ⟨_, _, _, q2⟩, hc.trans q3⟩)
  rw [ht] at con
  clear hf h ht h5 hfm e1 e2 e3 e4 hne
  go_enter Tryz.func75, Tryz.ntmps75
  go_wp2_with (first | (go_at_call 89; refine con.mono ?_; rintro e w' ⟨rfl, rfl⟩) | (go_at_call 51; refine (con2).mono ?_; rintro e w' ⟨rfl, h1, h2⟩))
  go_ret
  exact ⟨rfl, h1, h2⟩
theorem sync_call (w : World) (B d : Nat) (m : M) (f : Int) (hf : -9223372036854775808 ≤ f ∧ f < 9223372036854775808) (h : Dk w B d m) (hB : B ≤ w.heap.size) :
    Calls Tryz.prog 73 #[.pointer (some ⟨d, 0, none⟩), .int .i64 f] w (Did w B d (sync m f)) := by
  obtain ⟨b, vs, kv, h⟩ := h
  by_cases ht : there m f = 0
  · cases h5 : fails m
    · rw [sync_goes ht h5]; exact sync_call_goes w B d b m vs kv f hf h hB ht h5
    · rw [sync_fails ht h5]; exact sync_call_fails w B d b m vs kv f hf h hB ht h5
  · rw [sync_not ht]; exact (sync_call_not w B d b m vs kv f hf h hB ht).mono fun _ _ h => h.did
theorem remove_call (w : World) (B d : Nat) (m : M) (f : Int) (hf : -9223372036854775808 ≤ f ∧ f < 9223372036854775808) (h : Dk w B d m) (hB : B ≤ w.heap.size) :
    Calls Tryz.prog 98 #[.pointer (some ⟨d, 0, none⟩), .int .i64 f] w (Did w B d (remove m f)) := by
  obtain ⟨b, vs, kv, h⟩ := h
  by_cases ht : there m f = 0
  · cases h5 : fails m
    · rw [remove_goes ht h5]; exact remove_call_goes w B d b m vs kv f hf h hB ht h5
    · rw [remove_fails ht h5]; exact remove_call_fails w B d b m vs kv f hf h hB ht h5
  · rw [remove_not ht]; exact (remove_call_not w B d b m vs kv f hf h hB ht).mono fun _ _ h => h.did
theorem rename_call (w : World) (B d : Nat) (m : M) (f t : Int) (hf : -9223372036854775808 ≤ f ∧ f < 9223372036854775808) (htb : t < 9223372036854775808) (h : Dk w B d m) (hB : B ≤ w.heap.size) :
    Calls Tryz.prog 75 #[.pointer (some ⟨d, 0, none⟩), .int .i64 f, .int .i64 t] w (Did w B d (rename m f t)) := by
  obtain ⟨b, vs, kv, h⟩ := h
  by_cases ht : there m f = 0
  · by_cases ht0 : t < 0
    · rw [rename_arg ht ht0]; exact (rename_call_arg w B d b m vs kv f t hf h hB ht ht0).mono fun _ _ h => h.did
    · cases h5 : fails m
      · by_cases hne : f = t
        · subst hne
          rw [rename_same ht ht0 h5]; exact rename_call_same w B d b m vs kv f hf h hB ht h5 (by omega)
        · rw [rename_goes ht ht0 h5 hne]; exact rename_call_goes w B d b m vs kv f t hf h hB ht h5 hne (by omega) htb
      · rw [rename_fails ht ht0 h5]; exact rename_call_fails w B d b m vs kv f t hf h hB ht h5 (by omega)
  · rw [rename_not ht]; exact (rename_call_not w B d b m vs kv f t hf h hB ht).mono fun _ _ h => h.did

set_option maxRecDepth 100000 in
set_option maxHeartbeats 1000000 in
theorem sync_call_nil (w : World) (f : Int) : Calls Tryz.prog 73 #[.pointer none, .int .i64 f] w fun r w' => r = .returned (.int .i64 8) ∧ w = w' := by
  have con := find_nil w f
  go_enter Tryz.func73, Tryz.ntmps73
  go_wp2_with (first | (go_at_call 89; refine con.mono ?_; rintro e w' ⟨rfl, rfl⟩))
  go_ret
  exact ⟨rfl, rfl⟩

/-- A call without results. -/
def Done (w : World) (B d : Nat) (m : M) (r : Ending) (w' : World) : Prop := r = .returned (.tuple #[]) ∧ Dk w' B d m ∧ Chg B Dob w w'

set_option maxRecDepth 100000 in
set_option maxHeartbeats 1000000 in
theorem crash_call (w : World) (B d : Nat) (m : M) (keepV : Value) (ks : List Bool) (h : Dk w B d m) (hk : Bo w B keepV ks) (hB : B ≤ w.heap.size) (hks : ks.length ≤ maxLen) :
    Calls Tryz.prog 19 #[.pointer (some ⟨d, 0, none⟩), keepV] w (Done w B d (crash m ks)) := by
  obtain ⟨b, vs, kv, h⟩ := h
  obtain ⟨k0, k1, k2, k3, k4⟩ := Cel.at0 h.cel
  have con := on_cell w d _ k1
  have con2 := lose_ok w B d b m vs kv keepV ks h hk hB hks
  unfold crash
  cases ho : m.off
  · rw [ho] at con
    simp only [Bool.not_false] at con
    rw [if_neg (by simp)]
    clear h hk hks hB k0 k1 k2 k3 k4 ho
    go_enter Tryz.func19, Tryz.ntmps19
    go_wp2_with (first | (go_at_call 30; refine con.mono ?_; rintro e w' ⟨rfl, rfl⟩) | (go_at_call 48; refine con2.mono ?_; rintro e w' ⟨rfl, h1, h2⟩))
    go_end0
    exact ⟨rfl, ⟨_, _, _, h1⟩, h2⟩
  · rw [ho] at con
    simp only [Bool.not_true] at con
    rw [if_pos rfl]
    have H := Lib.hid h
    clear h hk hks hB k0 k1 k2 k3 k4 ho con2
    go_enter Tryz.func19, Tryz.ntmps19
    go_wp2_with (first | (go_at_call 30; refine con.mono ?_; rintro e w' ⟨rfl, rfl⟩))
    go_end0
    exact ⟨rfl, ⟨_, _, _, H.out⟩, Chg.refl _ _ _⟩

set_option maxRecDepth 100000 in
set_option maxHeartbeats 1000000 in
theorem up_call (w : World) (B d : Nat) (m : M) (h : Dk w B d m) :
    Calls Tryz.prog 21 #[.pointer (some ⟨d, 0, none⟩)] w (Done w B d (up m)) := by
  obtain ⟨b, vs, kv, h⟩ := h
  obtain ⟨k0, k1, k2, k3, k4⟩ := Cel.at0 h.cel
  obtain ⟨f0, f1, f2, f3, f4⟩ := Cel.free5 h.cel
  have hc := h.cel.set 1 (.bool true)
  have hg := grown_setCell w ⟨d, 1, none⟩ (.bool true)
  obtain ⟨q1, q2⟩ := h.head hg false m.plan kv hc h.inv.plan (fun k ks e => (h.keep k ks e).chg (T := Dob) (B := B) ((Chg.refl B Dob w).grown hg fun g e => by cases e; exact .inr ⟨h.own.1, _, h.cel, .inl rfl⟩) (by rintro cs fz (h | h) <;> revert h <;> decide))
  have Q1 := Lib.hid q1
  have Q2 := Lib.hid q2
  clear h hc hg q1 q2 k0 k2 k3 k4 f0 f2 f3 f4
  go_enter Tryz.func21, Tryz.ntmps21
  go_wp2_with fail
  go_end0
  exact ⟨rfl, ⟨_, _, _, Q1.out⟩, Q2.out⟩
end Go.Proofs.YtdaknfepcbooeaaGreat.Disk
end

section
namespace Go.Proofs.YtdaknfepcbooeaaGreat.Disk
open Go.RowKit Go.Maps
set_option linter.unusedVariables false
set_option linter.unusedSimpArgs false

theorem infoBool : (Tryz.prog.info? 4).map (fun i => (i.zero, i.size, i.bytes)) = some (some (.bool false), 1, 1) := by kernel_rfl
theorem undBools : Tryz.prog.underlying 36 = some (.slice 4) := by kernel_rfl
theorem eql_nil_bools (w : World) (A : Option Addr) (n c : Nat) : (binOp .eql 36 (.slice A n c) (.slice none 0 0)).run Tryz.prog w = .ok (.bool A.isNone) w := Lib.run_eql_slice_nil w 36 4 A n c 0 0 undBools
theorem Bo.own {w : World} {base B n : Nat} {v : Value} {ks : List Bool} (h : w.ownsRow base 4 1 v n (ks.map Value.bool)) : Bo w B v ks := by
  have hl : ks.length = n := by have := h.1; simpa using this
  subst hl
  rcases h.2 with ⟨rfl, h0⟩ | ⟨g, cap, cur, rfl, hb, hg, hc, _, _, _⟩
  · exact ⟨none, 0, by rw [h0], by omega, fun h => by omega⟩
  · exact ⟨some ⟨g, 0, none⟩, cap, rfl, hc, fun _ => ⟨_, rfl, ⟨_, hg, .inr ⟨_, _, rfl⟩⟩, fun j k hj => World.ownsRow.cells h (g := g) rfl j (.bool k) (by rw [List.getElem?_map, hj]; rfl)⟩⟩

set_option maxRecDepth 100000 in
set_option maxHeartbeats 1000000 in
theorem clone_bools (w : World) (B : Nat) (A : Option Addr) (n c : Nat) (ks : List Bool) (h : Bo w B (.slice A n c) ks) (hn : n ≤ 100000) :
    Calls Tryz.prog 47 #[.slice A n c] w fun r w' => ∃ A' c', r = .returned (.slice A' n c') ∧ Bo w' B (.slice A' n c') ks ∧ Below w.heap.size w w' := by
  obtain ⟨A0, c0, e, hc, hcell⟩ := h
  cases e
  cases A with
  | none =>
    have hk0 : ks = [] := by
      rcases Nat.eq_zero_or_pos ks.length with h0 | h0
      · exact List.length_eq_zero_iff.1 h0
      · obtain ⟨ad, h', _⟩ := hcell h0; cases h'
    subst hk0
    have q := fun n : Nat => eql_nil_bools w none n c
    clear hcell
    go_enter Tryz.func47, Tryz.ntmps47
    go_wp2_with fail
    go_ret
    exact ⟨none, 0, rfl, Bo.nil_ _ _, Below.refl _ _⟩
  | some a =>
    have q := fun n : Nat => eql_nil_bools w (some a) n c
    obtain ⟨i0, hi0, hz0, hz1, hz2⟩ := info_parts infoBool
    have HC := Lib.hid hcell
    have hcl : ∀ j u, (ks.map Value.bool)[j]? = some u → (w.alloc (.cells #[] 4)).cell? (a.add j) = some u := fun j u hu => by
      have hj : j < ks.length := by
        rcases Nat.lt_or_ge j ks.length with h | h
        · exact h
        · rw [List.getElem?_eq_none (by simpa using h)] at hu; cases hu
      obtain ⟨ad, e, ⟨o, ho, _⟩, h1⟩ := HC.out (by omega)
      cases e
      rw [List.getElem?_map, List.getElem?_eq_getElem hj] at hu
      cases hu
      rw [World.cell?_of_block (by rw [add_block]; exact Below.heap_alloc w _ _ (Array.getElem?_eq_some_iff.1 ho).1 : (w.alloc (.cells #[] 4)).heap[(a.add j).block]? = w.heap[(a.add j).block]?)]
      exact h1 j _ (List.getElem?_eq_getElem hj)
    have o0 : (w.alloc (.cells #[] 4)).ownsRow w.heap.size 4 1 (.slice (some ⟨w.heap.size, 0, none⟩) 0 0) 0 [] := World.ownsRow_lit w #[] 0 (Nat.le_refl _) (Nat.zero_le _) rfl
    have h63 : 0 + ks.length ≤ maxLen := by unfold maxLen; omega
    have hone : ∀ u ∈ ks.map Value.bool, u.oneCell' = true := by intro u hu; obtain ⟨x, _, rfl⟩ := List.mem_map.1 hu; rfl
    have HCL := Lib.hid hcl
    have HO0 := Lib.hid o0
    have HI := Lib.hid hi0
    have HZ0 := Lib.hid hz0
    have HZ1 := Lib.hid hz1
    have HZ2 := Lib.hid hz2
    have HON := Lib.hid hone
    clear hcell hcl o0 HC hi0 hz0 hz1 hz2 hone
    go_enter Tryz.func47, Tryz.ntmps47
    go_wp2_with ((at_builtin; refine wpList_append_own_at _ rfl _ _ 36 rfl w.heap.size 4 i0 _ 1 1 undBools HI.out HZ0.out HZ1.out HZ2.out rfl (by decide) _ 0 [] rfl HO0.out a ks.length c (ks.map Value.bool) rfl (by simp) HCL.out HON.out h63 (by omega) (by simp) ?_; intro v' w' h2 h3 _ _; have H2 := Lib.hid h2; have H3 := Lib.hid h3; clear h2 h3))
    go_ret
    have h2 := H2.out
    rw [Nat.zero_add, List.nil_append] at h2
    obtain ⟨A', c', rfl⟩ : ∃ A' c', v' = .slice A' ks.length c' := by
      rcases h2.2 with ⟨rfl, h0⟩ | ⟨g, cap, cur, rfl, _⟩
      · exact ⟨none, 0, by rw [show ks.length = 0 by omega]⟩
      · exact ⟨_, _, rfl⟩
    exact ⟨A', c', rfl, Bo.own h2, Below.grown ((Below.refl _ _).alloc (Nat.le_refl _) _) H3.out (by simp) (by intro g hg; cases hg; exact Nat.le_refl _)⟩

set_option maxRecDepth 100000 in
set_option maxHeartbeats 1000000 in
theorem fail_call (w : World) (B d : Nat) (m : M) (s : Int) (hs : s < 9223372036854775808) (keepV : Value) (ks : List Bool) (h : Dk w B d m) (hk : Bo w B keepV ks) (hB : B ≤ w.heap.size) (hks : ks.length ≤ maxLen) :
    Calls Tryz.prog 17 #[.pointer (some ⟨d, 0, none⟩), .int .i64 s, keepV] w (Done w B d (fail m s ks)) := by
  obtain ⟨b, vs, kv, h⟩ := h
  obtain ⟨k0, k1, k2, k3, k4⟩ := Cel.at0 h.cel
  obtain ⟨f0, f1, f2, f3, f4⟩ := Cel.free5 h.cel
  obtain ⟨kA, kc, rfl, hkc, hkn⟩ := id hk
  unfold maxLen at hks
  by_cases hneg : s < 0
  · have hc := (h.cel.set 3 (.int .i64 (-1))).set 4 (.slice none 0 0)
    have hg := (grown_setCell w ⟨d, 3, none⟩ (.int .i64 (-1))).andThen (grown_setCell _ ⟨d, 4, none⟩ (.slice none 0 0)) (fun j hj => .inr hj)
    obtain ⟨q1, q2⟩ := h.head hg m.off none (.slice none 0 0) hc (by simp) (by simp)
    have Q1 := Lib.hid q1
    have Q2 := Lib.hid q2
    unfold fail
    rw [if_pos hneg]
    clear h hk hkc hkn hc hg q1 q2 k0 k1 k2 f0 f1 f2
    go_enter Tryz.func17, Tryz.ntmps17
    go_wp2_with fail
    exact bodyPost_ret (results_none rfl _ _ _) rfl ⟨rfl, ⟨_, _, _, Q1.out⟩, Q2.out⟩
  · have hroom := h.inv.room
    obtain ⟨r, hr⟩ : ∃ r, r = min ks.length m.room := ⟨_, rfl⟩
    have hr1 : r ≤ ks.length := by omega
    have hr2 : r ≤ 1000 := by omega
    have hr3 : min (ks.length : Int) (m.room : Int) = (r : Int) := by omega
    have hr4 : ks.take m.room = ks.take r := by
      rw [hr]
      rcases Nat.le_total ks.length m.room with h | h
      · rw [Nat.min_eq_left h, List.take_of_length_le h, List.take_of_length_le (Nat.le_refl _)]
      · rw [Nat.min_eq_right h]
    have hkr : Bo w B (.slice kA r kc) (ks.take r) := by
      have hl : (ks.take r).length = r := by rw [List.length_take]; omega
      refine ⟨kA, kc, by rw [hl], by omega, fun h0 => ?_⟩
      obtain ⟨ad, e, ho, h1⟩ := hkn (by omega)
      refine ⟨ad, e, ho, fun j k hj => h1 j k ?_⟩
      rw [List.getElem?_take] at hj
      split at hj
      · exact hj
      · cases hj
    have con := clone_bools w B kA r kc (ks.take r) hkr (by omega)
    unfold fail
    rw [if_neg hneg]
    have HH := Lib.hid h
    have HK := Lib.hid hk
    have HR := Lib.hid hr
    have HR3 := Lib.hid hr3
    have HR4 := Lib.hid hr4
    clear h hk hr hr3 hr4 hkn hkr
    go_enter Tryz.func17, Tryz.ntmps17
    go_wp2_with fail
    rw [HR3.out, Int.toNat_natCast]
    refine con.mono ?_
    clear con
    rintro e w1 ⟨A', c', rfl, hbo, hbl⟩
    have h1 := HH.out.below hbl
    obtain ⟨k0, k1, k2, k3, k4⟩ := Cel.at0 h1.cel
    obtain ⟨f0, f1, f2, f3, f4⟩ := Cel.free5 h1.cel
    have hc := (h1.cel.set 3 (.int .i64 s)).set 4 (.slice A' r c')
    have hg := (grown_setCell w1 ⟨d, 3, none⟩ (.int .i64 s)).andThen (grown_setCell _ ⟨d, 4, none⟩ (.slice A' r c')) (fun j hj => .inr hj)
    have es : (s.toNat : Int) = s := by omega
    obtain ⟨q1, q2⟩ := h1.head hg m.off (some (s.toNat, ks)) (.slice A' r c') (by show Cel _ d _ [_, _, _, .int .i64 (s.toNat : Int), _]; rw [es]; exact hc) (fun k l e => by cases e; omega) (fun k l e => by
      cases e
      rw [HR4.out]
      exact hbo.chg (T := Dob) (B := B) ((Chg.refl B Dob w1).grown hg fun g e => by cases e; exact .inr ⟨h1.own.1, _, h1.cel, .inl rfl⟩) (by rintro cs fz (h | h) <;> revert h <;> decide))
    have Q1 := Lib.hid q1
    have Q2 := Lib.hid q2
    have HBL := Lib.hid hbl
    clear h1 hc hg es q1 q2 hbo hbl k0 k1 k2 f0 f1 f2
    go_wp2_with fail
    go_end0
    exact ⟨rfl, ⟨_, _, _, Q1.out⟩, (Chg.of_below HBL.out).trans Q2.out⟩
end Go.Proofs.YtdaknfepcbooeaaGreat.Disk
end
