/-
  What the program's Append comes to.
-/
import Derived.Test.YtdaknfepcbooeaaGreatMDiskAdd
import Derived.Deep.RegionHeld3
namespace Go.Proofs.YtdaknfepcbooeaaGreat.Disk
open Go.RowKit Go.Maps
set_option linter.unusedVariables false
set_option linter.unusedSimpArgs false

def From (w0 W : World) : Prop := Below w0.heap.size w0 W
theorem From.self (w0 : World) : From w0 w0 := Below.refl _ _
theorem From.drew {w0 W : World} (h : From w0 W) : From w0 W.drew := Below.drew h
theorem From.call {w0 W W' : World} (h2 : Below W.heap.size W W') (h : From w0 W) : From w0 W' := Below.trans h (h2.mono h.size)

/-- An error, and nothing else. -/
def Bad (w : World) (B d b : Nat) (m : M) (vs : Int → Value) (kv : Value) (e : Int) (r : Ending) (w' : World) : Prop := r = .returned (.int .i64 e) ∧ Dv w' B d m b vs kv ∧ Chg B Dob w w'
/-- The answer, and what the disk is then. -/
def Did (w : World) (B d : Nat) (x : Int × M) (r : Ending) (w' : World) : Prop := r = .returned (.int .i64 x.1) ∧ Dk w' B d x.2 ∧ Chg B Dob w w'
theorem Bad.did {w : World} {B d b : Nat} {m : M} {vs : Int → Value} {kv : Value} {e : Int} {r : Ending} {w' : World} (h : Bad w B d b m vs kv e r w') : Did w B d (e, m) r w' := ⟨h.1, ⟨_, _, _, h.2.1⟩, h.2.2⟩
theorem append_off {m : M} {f : Int} {bs : List (BitVec 8)} (h : m.off = true) : append m f bs = (8, m) := by unfold append; rw [if_pos h]
theorem append_arg {m : M} {f : Int} {bs : List (BitVec 8)} (h : m.off = false) (h2 : f < 0 ∨ bs.length ≠ 512) : append m f bs = (1, m) := by unfold append; rw [if_neg (by simp [h]), if_pos h2]
theorem append_full {m : M} {f : Int} {bs : List (BitVec 8)} (h : m.off = false) (h2 : ¬ (f < 0 ∨ bs.length ≠ 512)) (h3 : m.room ≤ m.l.length ∨ 200 ≤ (rows f m.l).length) : append m f bs = (3, m) := by unfold append; rw [if_neg (by simp [h]), if_neg h2, if_pos h3]
theorem append_fails {m : M} {f : Int} {bs : List (BitVec 8)} (h : m.off = false) (h2 : ¬ (f < 0 ∨ bs.length ≠ 512)) (h3 : ¬ (m.room ≤ m.l.length ∨ 200 ≤ (rows f m.l).length)) (h4 : fails m = true) : append m f bs = (8, stepped m) := by unfold append; rw [if_neg (by simp [h]), if_neg h2, if_neg h3, if_pos h4]
theorem append_ok {m : M} {f : Int} {bs : List (BitVec 8)} (h : m.off = false) (h2 : ¬ (f < 0 ∨ bs.length ≠ 512)) (h3 : ¬ (m.room ≤ m.l.length ∨ 200 ≤ (rows f m.l).length)) (h4 : fails m = false) : append m f bs = (0, { stepped m with files := add f m.files, l := m.l ++ [⟨f, bs, false⟩] }) := by unfold append; rw [if_neg (by simp [h]), if_neg h2, if_neg h3, if_neg (by simp [h4])]

set_option maxRecDepth 100000 in
set_option maxHeartbeats 1000000 in
theorem append_call_off (w : World) (B d b : Nat) (m : M) (vs : Int → Value) (kv : Value) (f : Int) (A : Option Addr) (n c : Nat) (h : Dv w B d m b vs kv) (ho : m.off = true) :
    Calls Tryz.prog 24 #[.pointer (some ⟨d, 0, none⟩), .int .i64 f, .slice A n c] w (Bad w B d b m vs kv 8) := by
  obtain ⟨k0, k1, k2, k3, k4⟩ := Cel.at0 h.cel
  rw [ho] at k1
  have con := on_cell w d _ k1
  simp only [Bool.not_true] at con
  have H := Lib.hid h
  clear h ho k0 k1 k2 k3 k4
  go_enter Tryz.func24, Tryz.ntmps24
  go_wp2_with (first | (go_at_call 30; refine con.mono ?_; rintro e w' ⟨rfl, rfl⟩))
  go_ret
  exact ⟨rfl, H.out, Chg.refl _ _ _⟩
set_option maxRecDepth 100000 in
set_option maxHeartbeats 1000000 in
theorem append_call_nil (w : World) (f : Int) (v : Value) : Calls Tryz.prog 24 #[.pointer none, .int .i64 f, v] w fun r w' => r = .returned (.int .i64 8) ∧ w' = w := by
  have con := on_nil w
  go_enter Tryz.func24, Tryz.ntmps24
  go_wp2_with (first | (go_at_call 30; refine con.mono ?_; rintro e w' ⟨rfl, rfl⟩))
  go_ret
  exact ⟨rfl, rfl⟩
set_option maxRecDepth 100000 in
set_option maxHeartbeats 1000000 in
theorem append_call_arg (w : World) (B d b : Nat) (m : M) (vs : Int → Value) (kv : Value) (f : Int) (A : Option Addr) (n c : Nat) (h : Dv w B d m b vs kv) (ho : m.off = false) (hn : n ≤ maxLen) (h2 : f < 0 ∨ n ≠ 512) :
    Calls Tryz.prog 24 #[.pointer (some ⟨d, 0, none⟩), .int .i64 f, .slice A n c] w (Bad w B d b m vs kv 1) := by
  obtain ⟨k0, k1, k2, k3, k4⟩ := Cel.at0 h.cel
  rw [ho] at k1
  have con := on_cell w d _ k1
  simp only [Bool.not_false] at con
  have H := Lib.hid h
  unfold maxLen at hn
  clear h ho k0 k1 k2 k3 k4
  by_cases hf : f < 0
  · clear h2
    go_enter Tryz.func24, Tryz.ntmps24
    go_wp2_with (first | (go_at_call 30; refine con.mono ?_; rintro e w' ⟨rfl, rfl⟩))
    go_ret
    exact ⟨rfl, H.out, Chg.refl _ _ _⟩
  · have h3 : ((n : Int) == 512) = false := by have := h2.resolve_left hf; simp; omega
    have h4 : ((n : Int) != 512) = true := by have := h2.resolve_left hf; simp; omega
    clear h2
    go_enter Tryz.func24, Tryz.ntmps24
    go_wp2_with (first | (go_at_call 30; refine con.mono ?_; rintro e w' ⟨rfl, rfl⟩))
    go_ret
    exact ⟨rfl, H.out, Chg.refl _ _ _⟩
set_option maxRecDepth 100000 in
set_option maxHeartbeats 2000000 in
theorem append_call_full (w : World) (B d b : Nat) (m : M) (vs : Int → Value) (kv : Value) (f : Int) (ab ao c : Nat) (bs : List (BitVec 8)) (h : Dv w B d m b vs kv) (hB : B ≤ w.heap.size) (ho : m.off = false) (hf : 0 ≤ f ∧ f < 9223372036854775808) (hbs : Bn w B (some ⟨ab, ao, none⟩) 512 bs) (h3 : m.room ≤ m.l.length) :
    Calls Tryz.prog 24 #[.pointer (some ⟨d, 0, none⟩), .int .i64 f, .slice (some ⟨ab, ao, none⟩) 512 c] w (Bad w B d b m vs kv 3) := by
  obtain ⟨_, k1, _, _, _⟩ := Cel.at0 h.cel
  rw [ho] at k1
  have con := on_cell w d _ k1
  simp only [Bool.not_false] at con
  have k0 : ∀ V, From w V → V.cell? ⟨d, 0, none⟩ = some (.int .i64 m.room) := fun V hV => (Cel.below h.cel hV (Cel.lt h.cel)).cell 0
  have k2 : ∀ V, From w V → V.cell? ⟨d, 2, none⟩ = some (.map (some b)) := fun V hV => (Cel.below h.cel hV (Cel.lt h.cel)).cell 2
  have hlk : ∀ V, From w V → (Instr.lookup 63 (.map (some b)) (.int .i64 f) false).run Tryz.prog V = .ok (lookV m.files vs f) V := fun V hV => (h.below hV).map.look ⟨by omega, hf.2⟩
  obtain ⟨Av, cv, hform⟩ := (lookV_row h f).form
  have hroom := h.inv.room
  have hrl := h.inv.rows_le f
  have hmost := h.inv.most
  have H := Lib.hid h
  have HO := Lib.hid ho
  have HBS := Lib.hid hbs
  have hlk0 := hlk
  clear h ho hbs k1
  go_enter Tryz.func24, Tryz.ntmps24
  go_wp2_with (first | (go_at_call 30; refine con.mono ?_; rintro e w' ⟨rfl, rfl⟩))
  clear con
  refine wp_region_held_drew (S := From w) (by kernel_rfl) (From.self _).drew (fun hH => ?_)
  refine wpAnyH_take (i := 0) (v := .pointer (some ⟨d, 0, none⟩)) rfl (by kernel_rfl) (by kernel_rfl) (by kernel_rfl) (fun _ _ _ h => h) (Or.inl ⟨by rfl, ?_⟩) hH ?_
  · intro V hV; go_simp
  try simp only [Act.put, List.setIfInBounds_toArray, List.set_cons_zero, List.set_cons_succ, List.getElem_toArray, List.getElem_cons_succ, List.getElem_cons_zero]
  refine wpAnyH_take (i := 2) (v := .pointer (some ⟨d, 0, none⟩)) rfl (by kernel_rfl) (by kernel_rfl) (by kernel_rfl) (fun _ _ _ h => h) (Or.inl ⟨by rfl, ?_⟩) hH ?_
  · intro V hV; go_simp
  try simp only [Act.put, List.setIfInBounds_toArray, List.set_cons_zero, List.set_cons_succ, List.getElem_toArray, List.getElem_cons_succ, List.getElem_cons_zero]
  refine wpAnyH_take (i := 3) (v := .pointer (some ⟨d, 0, none⟩)) rfl (by kernel_rfl) (by kernel_rfl) (by kernel_rfl) (fun _ _ _ h => h) (Or.inl ⟨by rfl, ?_⟩) hH ?_
  · intro V hV; go_simp
  try simp only [Act.put, List.setIfInBounds_toArray, List.set_cons_zero, List.set_cons_succ, List.getElem_toArray, List.getElem_cons_succ, List.getElem_cons_zero]
  refine wpAnyH_take (i := 4) (v := .pointer (some ⟨d, 0, none⟩)) rfl (by kernel_rfl) (by kernel_rfl) (by kernel_rfl) (fun _ _ _ h => h) (Or.inl ⟨by rfl, ?_⟩) hH ?_
  · intro V hV; go_simp
  try simp only [Act.put, List.setIfInBounds_toArray, List.set_cons_zero, List.set_cons_succ, List.getElem_toArray, List.getElem_cons_succ, List.getElem_cons_zero]
  refine wpAnyH_take (i := 5) (v := .int .i64 m.room) rfl (by kernel_rfl) (by kernel_rfl) (by kernel_rfl) (fun _ _ _ h => h) (Or.inl ⟨by rfl, ?_⟩) hH ?_
  · intro V hV; have k := k0 V hV; go_simp
  try simp only [Act.put, List.setIfInBounds_toArray, List.set_cons_zero, List.set_cons_succ, List.getElem_toArray, List.getElem_cons_succ, List.getElem_cons_zero]
  have con := used_ok w.drew B d b m vs kv H.out.drew
  refine wpAnyH_ready (rs := [1]) (by kernel_rfl) (by simp) (AllReadyH.cons rfl (fun K hK => ?_) AllReadyH.nil)
  go_simp
  refine con.mono ?_
  rintro r w5 ⟨rfl, hb5⟩
  go_wp2_with fail
  refine hK.out _ _ (hH.call hb5) (fun hH' => ?_)
  clear hK K hH
  have hH := hH'
  clear hH'
  try simp only [Act.put, List.setIfInBounds_toArray, List.set_cons_zero, List.set_cons_succ, List.getElem_toArray, List.getElem_cons_succ, List.getElem_cons_zero]
  clear con
  refine wpAnyH_take (i := 6) (v := .bool true) rfl (by kernel_rfl) (by kernel_rfl) (by kernel_rfl) (fun _ _ _ h => h) (Or.inl ⟨by rfl, ?_⟩) hH ?_
  · intro V hV; go_simp
  try simp only [Act.put, List.setIfInBounds_toArray, List.set_cons_zero, List.set_cons_succ, List.getElem_toArray, List.getElem_cons_succ, List.getElem_cons_zero]
  refine wpAnyH_take (i := 7) (v := .bool true) rfl (by kernel_rfl) (by kernel_rfl) (by kernel_rfl) (fun _ _ _ h => h) (Or.inl ⟨by rfl, ?_⟩) hH ?_
  · intro V hV; go_simp
  try simp only [Act.put, List.setIfInBounds_toArray, List.set_cons_zero, List.set_cons_succ, List.getElem_toArray, List.getElem_cons_succ, List.getElem_cons_zero]
  refine wpAnyH_take (i := 8) (v := undef) rfl (by kernel_rfl) (by kernel_rfl) (by kernel_rfl) (fun _ _ _ h => h) (Or.inr ⟨by rfl, rfl⟩) hH ?_
  try simp only [Act.put, List.setIfInBounds_toArray, List.set_cons_zero, List.set_cons_succ, List.getElem_toArray, List.getElem_cons_succ, List.getElem_cons_zero]
  refine wpAnyH_take (i := 9) (v := undef) rfl (by kernel_rfl) (by kernel_rfl) (by kernel_rfl) (fun _ _ _ h => h) (Or.inr ⟨by rfl, rfl⟩) hH ?_
  try simp only [Act.put, List.setIfInBounds_toArray, List.set_cons_zero, List.set_cons_succ, List.getElem_toArray, List.getElem_cons_succ, List.getElem_cons_zero]
  refine wpAnyH_take (i := 10) (v := undef) rfl (by kernel_rfl) (by kernel_rfl) (by kernel_rfl) (fun _ _ _ h => h) (Or.inr ⟨by rfl, rfl⟩) hH ?_
  try simp only [Act.put, List.setIfInBounds_toArray, List.set_cons_zero, List.set_cons_succ, List.getElem_toArray, List.getElem_cons_succ, List.getElem_cons_zero]
  refine wpAnyH_take (i := 11) (v := undef) rfl (by kernel_rfl) (by kernel_rfl) (by kernel_rfl) (fun _ _ _ h => h) (Or.inr ⟨by rfl, rfl⟩) hH ?_
  try simp only [Act.put, List.setIfInBounds_toArray, List.set_cons_zero, List.set_cons_succ, List.getElem_toArray, List.getElem_cons_succ, List.getElem_cons_zero]
  refine wpAnyH_take (i := 12) (v := undef) rfl (by kernel_rfl) (by kernel_rfl) (by kernel_rfl) (fun _ _ _ h => h) (Or.inr ⟨by rfl, rfl⟩) hH ?_
  try simp only [Act.put, List.setIfInBounds_toArray, List.set_cons_zero, List.set_cons_succ, List.getElem_toArray, List.getElem_cons_succ, List.getElem_cons_zero]
  refine wpAnyH_take (i := 13) (v := undef) rfl (by kernel_rfl) (by kernel_rfl) (by kernel_rfl) (fun _ _ _ h => h) (Or.inr ⟨by rfl, rfl⟩) hH ?_
  try simp only [Act.put, List.setIfInBounds_toArray, List.set_cons_zero, List.set_cons_succ, List.getElem_toArray, List.getElem_cons_succ, List.getElem_cons_zero]
  refine wpAnyH_take (i := 14) (v := undef) rfl (by kernel_rfl) (by kernel_rfl) (by kernel_rfl) (fun _ _ _ h => h) (Or.inr ⟨by rfl, rfl⟩) hH ?_
  try simp only [Act.put, List.setIfInBounds_toArray, List.set_cons_zero, List.set_cons_succ, List.getElem_toArray, List.getElem_cons_succ, List.getElem_cons_zero]
  refine wpAnyH_take (i := 15) (v := undef) rfl (by kernel_rfl) (by kernel_rfl) (by kernel_rfl) (fun _ _ _ h => h) (Or.inr ⟨by rfl, rfl⟩) hH ?_
  try simp only [Act.put, List.setIfInBounds_toArray, List.set_cons_zero, List.set_cons_succ, List.getElem_toArray, List.getElem_cons_succ, List.getElem_cons_zero]
  refine wpAnyH_take (i := 16) (v := .bool true) rfl (by kernel_rfl) (by kernel_rfl) (by kernel_rfl) (fun _ _ _ h => h) (Or.inl ⟨by rfl, ?_⟩) hH ?_
  · intro V hV; go_simp
  try simp only [Act.put, List.setIfInBounds_toArray, List.set_cons_zero, List.set_cons_succ, List.getElem_toArray, List.getElem_cons_succ, List.getElem_cons_zero]
  refine wpAnyH_done (by kernel_rfl) ?_ _
  clear k0 k2 hlk hlk0
  go_wp2_with fail
  go_ret
  exact ⟨rfl, H.out.below hH, Chg.of_below hH⟩
set_option maxRecDepth 100000 in
set_option maxHeartbeats 2000000 in
theorem append_call_many (w : World) (B d b : Nat) (m : M) (vs : Int → Value) (kv : Value) (f : Int) (ab ao c : Nat) (bs : List (BitVec 8)) (h : Dv w B d m b vs kv) (hB : B ≤ w.heap.size) (ho : m.off = false) (hf : 0 ≤ f ∧ f < 9223372036854775808) (hbs : Bn w B (some ⟨ab, ao, none⟩) 512 bs) (h3 : ¬ m.room ≤ m.l.length) (h4 : 200 ≤ (rows f m.l).length) :
    Calls Tryz.prog 24 #[.pointer (some ⟨d, 0, none⟩), .int .i64 f, .slice (some ⟨ab, ao, none⟩) 512 c] w (Bad w B d b m vs kv 3) := by
  obtain ⟨_, k1, _, _, _⟩ := Cel.at0 h.cel
  rw [ho] at k1
  have con := on_cell w d _ k1
  simp only [Bool.not_false] at con
  have k0 : ∀ V, From w V → V.cell? ⟨d, 0, none⟩ = some (.int .i64 m.room) := fun V hV => (Cel.below h.cel hV (Cel.lt h.cel)).cell 0
  have k2 : ∀ V, From w V → V.cell? ⟨d, 2, none⟩ = some (.map (some b)) := fun V hV => (Cel.below h.cel hV (Cel.lt h.cel)).cell 2
  have hlk : ∀ V, From w V → (Instr.lookup 63 (.map (some b)) (.int .i64 f) false).run Tryz.prog V = .ok (lookV m.files vs f) V := fun V hV => (h.below hV).map.look ⟨by omega, hf.2⟩
  obtain ⟨Av, cv, hform⟩ := (lookV_row h f).form
  have hroom := h.inv.room
  have hrl := h.inv.rows_le f
  have hmost := h.inv.most
  have H := Lib.hid h
  have HO := Lib.hid ho
  have HBS := Lib.hid hbs
  have hlk0 := hlk
  clear h ho hbs k1
  go_enter Tryz.func24, Tryz.ntmps24
  go_wp2_with (first | (go_at_call 30; refine con.mono ?_; rintro e w' ⟨rfl, rfl⟩))
  clear con
  refine wp_region_held_drew (S := From w) (by kernel_rfl) (From.self _).drew (fun hH => ?_)
  refine wpAnyH_take (i := 0) (v := .pointer (some ⟨d, 0, none⟩)) rfl (by kernel_rfl) (by kernel_rfl) (by kernel_rfl) (fun _ _ _ h => h) (Or.inl ⟨by rfl, ?_⟩) hH ?_
  · intro V hV; go_simp
  try simp only [Act.put, List.setIfInBounds_toArray, List.set_cons_zero, List.set_cons_succ, List.getElem_toArray, List.getElem_cons_succ, List.getElem_cons_zero]
  refine wpAnyH_take (i := 2) (v := .pointer (some ⟨d, 0, none⟩)) rfl (by kernel_rfl) (by kernel_rfl) (by kernel_rfl) (fun _ _ _ h => h) (Or.inl ⟨by rfl, ?_⟩) hH ?_
  · intro V hV; go_simp
  try simp only [Act.put, List.setIfInBounds_toArray, List.set_cons_zero, List.set_cons_succ, List.getElem_toArray, List.getElem_cons_succ, List.getElem_cons_zero]
  refine wpAnyH_take (i := 3) (v := .pointer (some ⟨d, 0, none⟩)) rfl (by kernel_rfl) (by kernel_rfl) (by kernel_rfl) (fun _ _ _ h => h) (Or.inl ⟨by rfl, ?_⟩) hH ?_
  · intro V hV; go_simp
  try simp only [Act.put, List.setIfInBounds_toArray, List.set_cons_zero, List.set_cons_succ, List.getElem_toArray, List.getElem_cons_succ, List.getElem_cons_zero]
  refine wpAnyH_take (i := 4) (v := .pointer (some ⟨d, 0, none⟩)) rfl (by kernel_rfl) (by kernel_rfl) (by kernel_rfl) (fun _ _ _ h => h) (Or.inl ⟨by rfl, ?_⟩) hH ?_
  · intro V hV; go_simp
  try simp only [Act.put, List.setIfInBounds_toArray, List.set_cons_zero, List.set_cons_succ, List.getElem_toArray, List.getElem_cons_succ, List.getElem_cons_zero]
  refine wpAnyH_take (i := 5) (v := .int .i64 m.room) rfl (by kernel_rfl) (by kernel_rfl) (by kernel_rfl) (fun _ _ _ h => h) (Or.inl ⟨by rfl, ?_⟩) hH ?_
  · intro V hV; have k := k0 V hV; go_simp
  try simp only [Act.put, List.setIfInBounds_toArray, List.set_cons_zero, List.set_cons_succ, List.getElem_toArray, List.getElem_cons_succ, List.getElem_cons_zero]
  have con := used_ok w.drew B d b m vs kv H.out.drew
  refine wpAnyH_ready (rs := [1]) (by kernel_rfl) (by simp) (AllReadyH.cons rfl (fun K hK => ?_) AllReadyH.nil)
  go_simp
  refine con.mono ?_
  rintro r w5 ⟨rfl, hb5⟩
  go_wp2_with fail
  refine hK.out _ _ (hH.call hb5) (fun hH' => ?_)
  clear hK K hH
  have hH := hH'
  clear hH'
  try simp only [Act.put, List.setIfInBounds_toArray, List.set_cons_zero, List.set_cons_succ, List.getElem_toArray, List.getElem_cons_succ, List.getElem_cons_zero]
  clear con
  refine wpAnyH_take (i := 6) (v := .bool false) rfl (by kernel_rfl) (by kernel_rfl) (by kernel_rfl) (fun _ _ _ h => h) (Or.inl ⟨by rfl, ?_⟩) hH ?_
  · intro V hV; go_simp
  try simp only [Act.put, List.setIfInBounds_toArray, List.set_cons_zero, List.set_cons_succ, List.getElem_toArray, List.getElem_cons_succ, List.getElem_cons_zero]
  refine wpAnyH_take (i := 7) (v := .bool false) rfl (by kernel_rfl) (by kernel_rfl) (by kernel_rfl) (fun _ _ _ h => h) (Or.inl ⟨by rfl, ?_⟩) hH ?_
  · intro V hV; go_simp
  try simp only [Act.put, List.setIfInBounds_toArray, List.set_cons_zero, List.set_cons_succ, List.getElem_toArray, List.getElem_cons_succ, List.getElem_cons_zero]
  refine wpAnyH_take (i := 8) (v := .pointer (some ⟨d, 0, none⟩)) rfl (by kernel_rfl) (by kernel_rfl) (by kernel_rfl) (fun _ _ _ h => h) (Or.inl ⟨by rfl, ?_⟩) hH ?_
  · intro V hV; go_simp
  try simp only [Act.put, List.setIfInBounds_toArray, List.set_cons_zero, List.set_cons_succ, List.getElem_toArray, List.getElem_cons_succ, List.getElem_cons_zero]
  refine wpAnyH_take (i := 9) (v := .pointer (some ⟨d, 0, none⟩)) rfl (by kernel_rfl) (by kernel_rfl) (by kernel_rfl) (fun _ _ _ h => h) (Or.inl ⟨by rfl, ?_⟩) hH ?_
  · intro V hV; go_simp
  try simp only [Act.put, List.setIfInBounds_toArray, List.set_cons_zero, List.set_cons_succ, List.getElem_toArray, List.getElem_cons_succ, List.getElem_cons_zero]
  refine wpAnyH_take (i := 10) (v := .pointer (some ⟨d, 2, none⟩)) rfl (by kernel_rfl) (by kernel_rfl) (by kernel_rfl) (fun _ _ _ h => h) (Or.inl ⟨by rfl, ?_⟩) hH ?_
  · intro V hV; go_simp
  try simp only [Act.put, List.setIfInBounds_toArray, List.set_cons_zero, List.set_cons_succ, List.getElem_toArray, List.getElem_cons_succ, List.getElem_cons_zero]
  refine wpAnyH_take (i := 11) (v := .map (some b)) rfl (by kernel_rfl) (by kernel_rfl) (by kernel_rfl) (fun _ _ _ h => h) (Or.inl ⟨by rfl, ?_⟩) hH ?_
  · intro V hV; have k := k2 V hV; go_simp
  try simp only [Act.put, List.setIfInBounds_toArray, List.set_cons_zero, List.set_cons_succ, List.getElem_toArray, List.getElem_cons_succ, List.getElem_cons_zero]
  refine wpAnyH_take (i := 12) (v := .int .i64 f) rfl (by kernel_rfl) (by kernel_rfl) (by kernel_rfl) (fun _ _ _ h => h) (Or.inl ⟨by rfl, ?_⟩) hH ?_
  · intro V hV; go_simp
  try simp only [Act.put, List.setIfInBounds_toArray, List.set_cons_zero, List.set_cons_succ, List.getElem_toArray, List.getElem_cons_succ, List.getElem_cons_zero]
  refine wpAnyH_take (i := 13) (v := lookV m.files vs f) rfl (by kernel_rfl) (by kernel_rfl) (by kernel_rfl) (fun _ _ _ h => h) (Or.inl ⟨by rfl, ?_⟩) hH ?_
  · intro V hV; have k := hlk V hV; go_simp
  try simp only [Act.put, List.setIfInBounds_toArray, List.set_cons_zero, List.set_cons_succ, List.getElem_toArray, List.getElem_cons_succ, List.getElem_cons_zero]
  refine wpAnyH_take (i := 14) (v := .int .i64 ((rows f m.l).length : Nat)) rfl (by kernel_rfl) (by kernel_rfl) (by kernel_rfl) (fun _ _ _ h => h) (Or.inl ⟨by rfl, ?_⟩) hH ?_
  · intro V hV; rw [hform]; go_simp
  try simp only [Act.put, List.setIfInBounds_toArray, List.set_cons_zero, List.set_cons_succ, List.getElem_toArray, List.getElem_cons_succ, List.getElem_cons_zero]
  refine wpAnyH_take (i := 15) (v := .bool true) rfl (by kernel_rfl) (by kernel_rfl) (by kernel_rfl) (fun _ _ _ h => h) (Or.inl ⟨by rfl, ?_⟩) hH ?_
  · intro V hV; have k15 : (200 : Int) ≤ (rows f m.l).length := (by omega); go_simp
  try simp only [Act.put, List.setIfInBounds_toArray, List.set_cons_zero, List.set_cons_succ, List.getElem_toArray, List.getElem_cons_succ, List.getElem_cons_zero]
  refine wpAnyH_take (i := 16) (v := .bool true) rfl (by kernel_rfl) (by kernel_rfl) (by kernel_rfl) (fun _ _ _ h => h) (Or.inl ⟨by rfl, ?_⟩) hH ?_
  · intro V hV; go_simp
  try simp only [Act.put, List.setIfInBounds_toArray, List.set_cons_zero, List.set_cons_succ, List.getElem_toArray, List.getElem_cons_succ, List.getElem_cons_zero]
  refine wpAnyH_done (by kernel_rfl) ?_ _
  clear k0 k2 hlk hlk0
  go_wp2_with fail
  go_ret
  exact ⟨rfl, H.out.below hH, Chg.of_below hH⟩
set_option maxRecDepth 100000 in
set_option maxHeartbeats 2000000 in
theorem append_call_fails (w : World) (B d b : Nat) (m : M) (vs : Int → Value) (kv : Value) (f : Int) (ab ao c : Nat) (bs : List (BitVec 8)) (h : Dv w B d m b vs kv) (hB : B ≤ w.heap.size) (ho : m.off = false) (hf : 0 ≤ f ∧ f < 9223372036854775808) (hbs : Bn w B (some ⟨ab, ao, none⟩) 512 bs) (h3 : ¬ m.room ≤ m.l.length) (h4 : ¬ 200 ≤ (rows f m.l).length) (h5 : fails m = true) :
    Calls Tryz.prog 24 #[.pointer (some ⟨d, 0, none⟩), .int .i64 f, .slice (some ⟨ab, ao, none⟩) 512 c] w (Did w B d (8, stepped m)) := by
  obtain ⟨_, k1, _, _, _⟩ := Cel.at0 h.cel
  rw [ho] at k1
  have con := on_cell w d _ k1
  simp only [Bool.not_false] at con
  have k0 : ∀ V, From w V → V.cell? ⟨d, 0, none⟩ = some (.int .i64 m.room) := fun V hV => (Cel.below h.cel hV (Cel.lt h.cel)).cell 0
  have k2 : ∀ V, From w V → V.cell? ⟨d, 2, none⟩ = some (.map (some b)) := fun V hV => (Cel.below h.cel hV (Cel.lt h.cel)).cell 2
  have hlk : ∀ V, From w V → (Instr.lookup 63 (.map (some b)) (.int .i64 f) false).run Tryz.prog V = .ok (lookV m.files vs f) V := fun V hV => (h.below hV).map.look ⟨by omega, hf.2⟩
  obtain ⟨Av, cv, hform⟩ := (lookV_row h f).form
  have hroom := h.inv.room
  have hrl := h.inv.rows_le f
  have hmost := h.inv.most
  have H := Lib.hid h
  have HO := Lib.hid ho
  have HBS := Lib.hid hbs
  have hlk0 := hlk
  clear h ho hbs k1
  go_enter Tryz.func24, Tryz.ntmps24
  go_wp2_with (first | (go_at_call 30; refine con.mono ?_; rintro e w' ⟨rfl, rfl⟩))
  clear con
  refine wp_region_held_drew (S := From w) (by kernel_rfl) (From.self _).drew (fun hH => ?_)
  refine wpAnyH_take (i := 0) (v := .pointer (some ⟨d, 0, none⟩)) rfl (by kernel_rfl) (by kernel_rfl) (by kernel_rfl) (fun _ _ _ h => h) (Or.inl ⟨by rfl, ?_⟩) hH ?_
  · intro V hV; go_simp
  try simp only [Act.put, List.setIfInBounds_toArray, List.set_cons_zero, List.set_cons_succ, List.getElem_toArray, List.getElem_cons_succ, List.getElem_cons_zero]
  refine wpAnyH_take (i := 2) (v := .pointer (some ⟨d, 0, none⟩)) rfl (by kernel_rfl) (by kernel_rfl) (by kernel_rfl) (fun _ _ _ h => h) (Or.inl ⟨by rfl, ?_⟩) hH ?_
  · intro V hV; go_simp
  try simp only [Act.put, List.setIfInBounds_toArray, List.set_cons_zero, List.set_cons_succ, List.getElem_toArray, List.getElem_cons_succ, List.getElem_cons_zero]
  refine wpAnyH_take (i := 3) (v := .pointer (some ⟨d, 0, none⟩)) rfl (by kernel_rfl) (by kernel_rfl) (by kernel_rfl) (fun _ _ _ h => h) (Or.inl ⟨by rfl, ?_⟩) hH ?_
  · intro V hV; go_simp
  try simp only [Act.put, List.setIfInBounds_toArray, List.set_cons_zero, List.set_cons_succ, List.getElem_toArray, List.getElem_cons_succ, List.getElem_cons_zero]
  refine wpAnyH_take (i := 4) (v := .pointer (some ⟨d, 0, none⟩)) rfl (by kernel_rfl) (by kernel_rfl) (by kernel_rfl) (fun _ _ _ h => h) (Or.inl ⟨by rfl, ?_⟩) hH ?_
  · intro V hV; go_simp
  try simp only [Act.put, List.setIfInBounds_toArray, List.set_cons_zero, List.set_cons_succ, List.getElem_toArray, List.getElem_cons_succ, List.getElem_cons_zero]
  refine wpAnyH_take (i := 5) (v := .int .i64 m.room) rfl (by kernel_rfl) (by kernel_rfl) (by kernel_rfl) (fun _ _ _ h => h) (Or.inl ⟨by rfl, ?_⟩) hH ?_
  · intro V hV; have k := k0 V hV; go_simp
  try simp only [Act.put, List.setIfInBounds_toArray, List.set_cons_zero, List.set_cons_succ, List.getElem_toArray, List.getElem_cons_succ, List.getElem_cons_zero]
  have con := used_ok w.drew B d b m vs kv H.out.drew
  refine wpAnyH_ready (rs := [1]) (by kernel_rfl) (by simp) (AllReadyH.cons rfl (fun K hK => ?_) AllReadyH.nil)
  go_simp
  refine con.mono ?_
  rintro r w5 ⟨rfl, hb5⟩
  go_wp2_with fail
  refine hK.out _ _ (hH.call hb5) (fun hH' => ?_)
  clear hK K hH
  have hH := hH'
  clear hH'
  try simp only [Act.put, List.setIfInBounds_toArray, List.set_cons_zero, List.set_cons_succ, List.getElem_toArray, List.getElem_cons_succ, List.getElem_cons_zero]
  clear con
  refine wpAnyH_take (i := 6) (v := .bool false) rfl (by kernel_rfl) (by kernel_rfl) (by kernel_rfl) (fun _ _ _ h => h) (Or.inl ⟨by rfl, ?_⟩) hH ?_
  · intro V hV; go_simp
  try simp only [Act.put, List.setIfInBounds_toArray, List.set_cons_zero, List.set_cons_succ, List.getElem_toArray, List.getElem_cons_succ, List.getElem_cons_zero]
  refine wpAnyH_take (i := 7) (v := .bool false) rfl (by kernel_rfl) (by kernel_rfl) (by kernel_rfl) (fun _ _ _ h => h) (Or.inl ⟨by rfl, ?_⟩) hH ?_
  · intro V hV; go_simp
  try simp only [Act.put, List.setIfInBounds_toArray, List.set_cons_zero, List.set_cons_succ, List.getElem_toArray, List.getElem_cons_succ, List.getElem_cons_zero]
  refine wpAnyH_take (i := 8) (v := .pointer (some ⟨d, 0, none⟩)) rfl (by kernel_rfl) (by kernel_rfl) (by kernel_rfl) (fun _ _ _ h => h) (Or.inl ⟨by rfl, ?_⟩) hH ?_
  · intro V hV; go_simp
  try simp only [Act.put, List.setIfInBounds_toArray, List.set_cons_zero, List.set_cons_succ, List.getElem_toArray, List.getElem_cons_succ, List.getElem_cons_zero]
  refine wpAnyH_take (i := 9) (v := .pointer (some ⟨d, 0, none⟩)) rfl (by kernel_rfl) (by kernel_rfl) (by kernel_rfl) (fun _ _ _ h => h) (Or.inl ⟨by rfl, ?_⟩) hH ?_
  · intro V hV; go_simp
  try simp only [Act.put, List.setIfInBounds_toArray, List.set_cons_zero, List.set_cons_succ, List.getElem_toArray, List.getElem_cons_succ, List.getElem_cons_zero]
  refine wpAnyH_take (i := 10) (v := .pointer (some ⟨d, 2, none⟩)) rfl (by kernel_rfl) (by kernel_rfl) (by kernel_rfl) (fun _ _ _ h => h) (Or.inl ⟨by rfl, ?_⟩) hH ?_
  · intro V hV; go_simp
  try simp only [Act.put, List.setIfInBounds_toArray, List.set_cons_zero, List.set_cons_succ, List.getElem_toArray, List.getElem_cons_succ, List.getElem_cons_zero]
  refine wpAnyH_take (i := 11) (v := .map (some b)) rfl (by kernel_rfl) (by kernel_rfl) (by kernel_rfl) (fun _ _ _ h => h) (Or.inl ⟨by rfl, ?_⟩) hH ?_
  · intro V hV; have k := k2 V hV; go_simp
  try simp only [Act.put, List.setIfInBounds_toArray, List.set_cons_zero, List.set_cons_succ, List.getElem_toArray, List.getElem_cons_succ, List.getElem_cons_zero]
  refine wpAnyH_take (i := 12) (v := .int .i64 f) rfl (by kernel_rfl) (by kernel_rfl) (by kernel_rfl) (fun _ _ _ h => h) (Or.inl ⟨by rfl, ?_⟩) hH ?_
  · intro V hV; go_simp
  try simp only [Act.put, List.setIfInBounds_toArray, List.set_cons_zero, List.set_cons_succ, List.getElem_toArray, List.getElem_cons_succ, List.getElem_cons_zero]
  refine wpAnyH_take (i := 13) (v := lookV m.files vs f) rfl (by kernel_rfl) (by kernel_rfl) (by kernel_rfl) (fun _ _ _ h => h) (Or.inl ⟨by rfl, ?_⟩) hH ?_
  · intro V hV; have k := hlk V hV; go_simp
  try simp only [Act.put, List.setIfInBounds_toArray, List.set_cons_zero, List.set_cons_succ, List.getElem_toArray, List.getElem_cons_succ, List.getElem_cons_zero]
  refine wpAnyH_take (i := 14) (v := .int .i64 ((rows f m.l).length : Nat)) rfl (by kernel_rfl) (by kernel_rfl) (by kernel_rfl) (fun _ _ _ h => h) (Or.inl ⟨by rfl, ?_⟩) hH ?_
  · intro V hV; rw [hform]; go_simp
  try simp only [Act.put, List.setIfInBounds_toArray, List.set_cons_zero, List.set_cons_succ, List.getElem_toArray, List.getElem_cons_succ, List.getElem_cons_zero]
  refine wpAnyH_take (i := 15) (v := .bool false) rfl (by kernel_rfl) (by kernel_rfl) (by kernel_rfl) (fun _ _ _ h => h) (Or.inl ⟨by rfl, ?_⟩) hH ?_
  · intro V hV; have k15 : ((rows f m.l).length : Int) < 200 := (by omega); go_simp
  try simp only [Act.put, List.setIfInBounds_toArray, List.set_cons_zero, List.set_cons_succ, List.getElem_toArray, List.getElem_cons_succ, List.getElem_cons_zero]
  refine wpAnyH_take (i := 16) (v := .bool false) rfl (by kernel_rfl) (by kernel_rfl) (by kernel_rfl) (fun _ _ _ h => h) (Or.inl ⟨by rfl, ?_⟩) hH ?_
  · intro V hV; go_simp
  try simp only [Act.put, List.setIfInBounds_toArray, List.set_cons_zero, List.set_cons_succ, List.getElem_toArray, List.getElem_cons_succ, List.getElem_cons_zero]
  refine wpAnyH_done (by kernel_rfl) ?_ _
  clear k0 k2 hlk hlk0
  have hB5 : B ≤ w5.heap.size := Nat.le_trans hB hH.size
  have con := fun fv => step_fails w5 B d b m vs kv fv (H.out.below hH) hB5 h5
  go_wp2_with (first | (go_at_call 51; refine (con _).mono ?_; rintro e w' ⟨rfl, h1, h2⟩))
  go_ret
  exact ⟨rfl, ⟨_, _, _, h1⟩, (Chg.of_below hH).trans h2⟩
set_option maxRecDepth 100000 in
set_option maxHeartbeats 2000000 in
theorem append_call_ok (w : World) (B d b : Nat) (m : M) (vs : Int → Value) (kv : Value) (f : Int) (ab ao c : Nat) (bs : List (BitVec 8)) (h : Dv w B d m b vs kv) (hB : B ≤ w.heap.size) (ho : m.off = false) (hf : 0 ≤ f ∧ f < 9223372036854775808) (hbs : Bn w B (some ⟨ab, ao, none⟩) 512 bs) (h3 : ¬ m.room ≤ m.l.length) (h4 : ¬ 200 ≤ (rows f m.l).length) (h5 : fails m = false) :
    Calls Tryz.prog 24 #[.pointer (some ⟨d, 0, none⟩), .int .i64 f, .slice (some ⟨ab, ao, none⟩) 512 c] w (Did w B d (0, { stepped m with files := add f m.files, l := m.l ++ [⟨f, bs, false⟩] })) := by
  obtain ⟨_, k1, _, _, _⟩ := Cel.at0 h.cel
  rw [ho] at k1
  have con := on_cell w d _ k1
  simp only [Bool.not_false] at con
  have k0 : ∀ V, From w V → V.cell? ⟨d, 0, none⟩ = some (.int .i64 m.room) := fun V hV => (Cel.below h.cel hV (Cel.lt h.cel)).cell 0
  have k2 : ∀ V, From w V → V.cell? ⟨d, 2, none⟩ = some (.map (some b)) := fun V hV => (Cel.below h.cel hV (Cel.lt h.cel)).cell 2
  have hlk : ∀ V, From w V → (Instr.lookup 63 (.map (some b)) (.int .i64 f) false).run Tryz.prog V = .ok (lookV m.files vs f) V := fun V hV => (h.below hV).map.look ⟨by omega, hf.2⟩
  obtain ⟨Av, cv, hform⟩ := (lookV_row h f).form
  have hroom := h.inv.room
  have hrl := h.inv.rows_le f
  have hmost := h.inv.most
  have hi : Inv { stepped m with files := add f m.files, l := m.l ++ [⟨f, bs, false⟩] } := by
    have := h.inv.append f hf.2 bs
    rw [append_ok ho (by rintro (h | h); omega; exact h hbs.1) (by rintro (h | h); exact h3 h; exact h4 h) h5] at this
    exact this
  have HI := Lib.hid hi
  clear hi
  have H := Lib.hid h
  have HO := Lib.hid ho
  have HBS := Lib.hid hbs
  have hlk0 := hlk
  clear h ho hbs k1
  go_enter Tryz.func24, Tryz.ntmps24
  go_wp2_with (first | (go_at_call 30; refine con.mono ?_; rintro e w' ⟨rfl, rfl⟩))
  clear con
  refine wp_region_held_drew (S := From w) (by kernel_rfl) (From.self _).drew (fun hH => ?_)
  refine wpAnyH_take (i := 0) (v := .pointer (some ⟨d, 0, none⟩)) rfl (by kernel_rfl) (by kernel_rfl) (by kernel_rfl) (fun _ _ _ h => h) (Or.inl ⟨by rfl, ?_⟩) hH ?_
  · intro V hV; go_simp
  try simp only [Act.put, List.setIfInBounds_toArray, List.set_cons_zero, List.set_cons_succ, List.getElem_toArray, List.getElem_cons_succ, List.getElem_cons_zero]
  refine wpAnyH_take (i := 2) (v := .pointer (some ⟨d, 0, none⟩)) rfl (by kernel_rfl) (by kernel_rfl) (by kernel_rfl) (fun _ _ _ h => h) (Or.inl ⟨by rfl, ?_⟩) hH ?_
  · intro V hV; go_simp
  try simp only [Act.put, List.setIfInBounds_toArray, List.set_cons_zero, List.set_cons_succ, List.getElem_toArray, List.getElem_cons_succ, List.getElem_cons_zero]
  refine wpAnyH_take (i := 3) (v := .pointer (some ⟨d, 0, none⟩)) rfl (by kernel_rfl) (by kernel_rfl) (by kernel_rfl) (fun _ _ _ h => h) (Or.inl ⟨by rfl, ?_⟩) hH ?_
  · intro V hV; go_simp
  try simp only [Act.put, List.setIfInBounds_toArray, List.set_cons_zero, List.set_cons_succ, List.getElem_toArray, List.getElem_cons_succ, List.getElem_cons_zero]
  refine wpAnyH_take (i := 4) (v := .pointer (some ⟨d, 0, none⟩)) rfl (by kernel_rfl) (by kernel_rfl) (by kernel_rfl) (fun _ _ _ h => h) (Or.inl ⟨by rfl, ?_⟩) hH ?_
  · intro V hV; go_simp
  try simp only [Act.put, List.setIfInBounds_toArray, List.set_cons_zero, List.set_cons_succ, List.getElem_toArray, List.getElem_cons_succ, List.getElem_cons_zero]
  refine wpAnyH_take (i := 5) (v := .int .i64 m.room) rfl (by kernel_rfl) (by kernel_rfl) (by kernel_rfl) (fun _ _ _ h => h) (Or.inl ⟨by rfl, ?_⟩) hH ?_
  · intro V hV; have k := k0 V hV; go_simp
  try simp only [Act.put, List.setIfInBounds_toArray, List.set_cons_zero, List.set_cons_succ, List.getElem_toArray, List.getElem_cons_succ, List.getElem_cons_zero]
  have con := used_ok w.drew B d b m vs kv H.out.drew
  refine wpAnyH_ready (rs := [1]) (by kernel_rfl) (by simp) (AllReadyH.cons rfl (fun K hK => ?_) AllReadyH.nil)
  go_simp
  refine con.mono ?_
  rintro r w5 ⟨rfl, hb5⟩
  go_wp2_with fail
  refine hK.out _ _ (hH.call hb5) (fun hH' => ?_)
  clear hK K hH
  have hH := hH'
  clear hH'
  try simp only [Act.put, List.setIfInBounds_toArray, List.set_cons_zero, List.set_cons_succ, List.getElem_toArray, List.getElem_cons_succ, List.getElem_cons_zero]
  clear con
  refine wpAnyH_take (i := 6) (v := .bool false) rfl (by kernel_rfl) (by kernel_rfl) (by kernel_rfl) (fun _ _ _ h => h) (Or.inl ⟨by rfl, ?_⟩) hH ?_
  · intro V hV; go_simp
  try simp only [Act.put, List.setIfInBounds_toArray, List.set_cons_zero, List.set_cons_succ, List.getElem_toArray, List.getElem_cons_succ, List.getElem_cons_zero]
  refine wpAnyH_take (i := 7) (v := .bool false) rfl (by kernel_rfl) (by kernel_rfl) (by kernel_rfl) (fun _ _ _ h => h) (Or.inl ⟨by rfl, ?_⟩) hH ?_
  · intro V hV; go_simp
  try simp only [Act.put, List.setIfInBounds_toArray, List.set_cons_zero, List.set_cons_succ, List.getElem_toArray, List.getElem_cons_succ, List.getElem_cons_zero]
  refine wpAnyH_take (i := 8) (v := .pointer (some ⟨d, 0, none⟩)) rfl (by kernel_rfl) (by kernel_rfl) (by kernel_rfl) (fun _ _ _ h => h) (Or.inl ⟨by rfl, ?_⟩) hH ?_
  · intro V hV; go_simp
  try simp only [Act.put, List.setIfInBounds_toArray, List.set_cons_zero, List.set_cons_succ, List.getElem_toArray, List.getElem_cons_succ, List.getElem_cons_zero]
  refine wpAnyH_take (i := 9) (v := .pointer (some ⟨d, 0, none⟩)) rfl (by kernel_rfl) (by kernel_rfl) (by kernel_rfl) (fun _ _ _ h => h) (Or.inl ⟨by rfl, ?_⟩) hH ?_
  · intro V hV; go_simp
  try simp only [Act.put, List.setIfInBounds_toArray, List.set_cons_zero, List.set_cons_succ, List.getElem_toArray, List.getElem_cons_succ, List.getElem_cons_zero]
  refine wpAnyH_take (i := 10) (v := .pointer (some ⟨d, 2, none⟩)) rfl (by kernel_rfl) (by kernel_rfl) (by kernel_rfl) (fun _ _ _ h => h) (Or.inl ⟨by rfl, ?_⟩) hH ?_
  · intro V hV; go_simp
  try simp only [Act.put, List.setIfInBounds_toArray, List.set_cons_zero, List.set_cons_succ, List.getElem_toArray, List.getElem_cons_succ, List.getElem_cons_zero]
  refine wpAnyH_take (i := 11) (v := .map (some b)) rfl (by kernel_rfl) (by kernel_rfl) (by kernel_rfl) (fun _ _ _ h => h) (Or.inl ⟨by rfl, ?_⟩) hH ?_
  · intro V hV; have k := k2 V hV; go_simp
  try simp only [Act.put, List.setIfInBounds_toArray, List.set_cons_zero, List.set_cons_succ, List.getElem_toArray, List.getElem_cons_succ, List.getElem_cons_zero]
  refine wpAnyH_take (i := 12) (v := .int .i64 f) rfl (by kernel_rfl) (by kernel_rfl) (by kernel_rfl) (fun _ _ _ h => h) (Or.inl ⟨by rfl, ?_⟩) hH ?_
  · intro V hV; go_simp
  try simp only [Act.put, List.setIfInBounds_toArray, List.set_cons_zero, List.set_cons_succ, List.getElem_toArray, List.getElem_cons_succ, List.getElem_cons_zero]
  refine wpAnyH_take (i := 13) (v := lookV m.files vs f) rfl (by kernel_rfl) (by kernel_rfl) (by kernel_rfl) (fun _ _ _ h => h) (Or.inl ⟨by rfl, ?_⟩) hH ?_
  · intro V hV; have k := hlk V hV; go_simp
  try simp only [Act.put, List.setIfInBounds_toArray, List.set_cons_zero, List.set_cons_succ, List.getElem_toArray, List.getElem_cons_succ, List.getElem_cons_zero]
  refine wpAnyH_take (i := 14) (v := .int .i64 ((rows f m.l).length : Nat)) rfl (by kernel_rfl) (by kernel_rfl) (by kernel_rfl) (fun _ _ _ h => h) (Or.inl ⟨by rfl, ?_⟩) hH ?_
  · intro V hV; rw [hform]; go_simp
  try simp only [Act.put, List.setIfInBounds_toArray, List.set_cons_zero, List.set_cons_succ, List.getElem_toArray, List.getElem_cons_succ, List.getElem_cons_zero]
  refine wpAnyH_take (i := 15) (v := .bool false) rfl (by kernel_rfl) (by kernel_rfl) (by kernel_rfl) (fun _ _ _ h => h) (Or.inl ⟨by rfl, ?_⟩) hH ?_
  · intro V hV; have k15 : ((rows f m.l).length : Int) < 200 := (by omega); go_simp
  try simp only [Act.put, List.setIfInBounds_toArray, List.set_cons_zero, List.set_cons_succ, List.getElem_toArray, List.getElem_cons_succ, List.getElem_cons_zero]
  refine wpAnyH_take (i := 16) (v := .bool false) rfl (by kernel_rfl) (by kernel_rfl) (by kernel_rfl) (fun _ _ _ h => h) (Or.inl ⟨by rfl, ?_⟩) hH ?_
  · intro V hV; go_simp
  try simp only [Act.put, List.setIfInBounds_toArray, List.set_cons_zero, List.set_cons_succ, List.getElem_toArray, List.getElem_cons_succ, List.getElem_cons_zero]
  refine wpAnyH_done (by kernel_rfl) ?_ _
  clear k0 k2 hlk hlk0
  have hB5 : B ≤ w5.heap.size := Nat.le_trans hB hH.size
  obtain ⟨e1, e2, e3, e4⟩ := stepped_same h5
  have con := step_goes w5 B d b m vs kv (ordV d f 0 (some ⟨ab, ao, none⟩) 512 c) 52 (fun w' => Dk w' B d { stepped m with files := add f m.files, l := m.l ++ [⟨f, bs, false⟩] } ∧ Chg B Dob w5 w') (enters_of Tryz.func52 (by kernel_rfl) rfl) (H.out.below hH) h5 (fun w1 hd hc => by
    have hx := o_add w1 B d b (stepped m) vs kv f 0 ab ao c bs hd hf (Nat.le_trans hB5 hc.size) ((HBS.out.below hH).chg hc (fun _ h => h)) (by rw [e2]; omega) (by rw [e1, e2]; exact HI.out)
    rw [e1, e2] at hx
    exact hx.mono fun e w' ⟨q1, ⟨vs', q2⟩, q3⟩ => ⟨q1, ⟨_, _, _, q2⟩, hc.trans q3⟩)
  have E1 := Lib.hid e1
  have E2 := Lib.hid e2
  clear e1 e2 e3 e4
  go_wp2_with (first | (go_at_call 51; refine con.mono ?_; rintro e w' ⟨rfl, h1, h2⟩))
  go_ret
  exact ⟨rfl, h1, (Chg.of_below hH).trans h2⟩
theorem append_call (w : World) (B d : Nat) (m : M) (f : Int) (A : Option Addr) (n c : Nat) (bs : List (BitVec 8)) (h : Dk w B d m) (hB : B ≤ w.heap.size) (hf : f < 9223372036854775808) (hbs : Bn w B A n bs) (hA : ∀ ad, A = some ad → ∃ b o, ad = ⟨b, o, none⟩) (hn : n ≤ maxLen) :
    Calls Tryz.prog 24 #[.pointer (some ⟨d, 0, none⟩), .int .i64 f, .slice A n c] w (Did w B d (append m f bs)) := by
  obtain ⟨b, vs, kv, h⟩ := h
  cases ho : m.off
  · by_cases h2 : f < 0 ∨ n ≠ 512
    · rw [append_arg ho (by rw [hbs.1]; exact h2)]
      exact (append_call_arg w B d b m vs kv f A n c h ho hn h2).mono fun _ _ h => h.did
    · have h2' : ¬ (f < 0 ∨ bs.length ≠ 512) := by rw [hbs.1]; exact h2
      obtain rfl : n = 512 := by omega
      obtain ⟨ad, o, rfl, _⟩ := hbs.2 (by omega)
      obtain ⟨ab, ao, rfl⟩ := hA ad rfl
      have hf2 : 0 ≤ f ∧ f < 9223372036854775808 := ⟨by omega, hf⟩
      by_cases h3 : m.room ≤ m.l.length
      · rw [append_full ho h2' (.inl h3)]
        exact (append_call_full w B d b m vs kv f ab ao c bs h hB ho hf2 hbs h3).mono fun _ _ h => h.did
      · by_cases h4 : 200 ≤ (rows f m.l).length
        · rw [append_full ho h2' (.inr h4)]
          exact (append_call_many w B d b m vs kv f ab ao c bs h hB ho hf2 hbs h3 h4).mono fun _ _ h => h.did
        · have h34 : ¬ (m.room ≤ m.l.length ∨ 200 ≤ (rows f m.l).length) := by rintro (h | h); exact h3 h; exact h4 h
          cases h5 : fails m
          · rw [append_ok ho h2' h34 h5]
            exact append_call_ok w B d b m vs kv f ab ao c bs h hB ho hf2 hbs h3 h4 h5
          · rw [append_fails ho h2' h34 h5]
            exact append_call_fails w B d b m vs kv f ab ao c bs h hB ho hf2 hbs h3 h4 h5
  · rw [append_off ho]
    exact (append_call_off w B d b m vs kv f A n c h ho).mono fun _ _ h => h.did
end Go.Proofs.YtdaknfepcbooeaaGreat.Disk
