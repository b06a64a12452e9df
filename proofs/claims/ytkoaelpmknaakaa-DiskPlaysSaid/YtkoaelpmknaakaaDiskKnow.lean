/-
  The law's own functions: full, knows.
-/
import Derived.Test.YtkoaelpmknaakaaDiskRead
import Derived.Test.YtkoaelpmknaakaaDiskRefCrash
namespace Go.Proofs.Ytkoaelpmknaakaa.Disk
open Go.RowKit Go.Maps
set_option linter.unusedVariables false
set_option linter.unusedSimpArgs false

/-- A sector of a byte. -/
def fullL (x : BitVec 8) : List (BitVec 8) := List.replicate 512 x
theorem fullL_len (x : BitVec 8) : (fullL x).length = 512 := List.length_replicate ..

set_option maxRecDepth 100000 in
set_option maxHeartbeats 1000000 in
theorem full_ok (w : World) (x : BitVec 8) : Calls Try.prog 8 #[v8 x] w fun r w' => r = .returned (.slice (some ⟨w.heap.size, 0, none⟩) 512 512) ∧ Cel w' w.heap.size 5 ((fullL x).map v8) ∧ Below w.heap.size w w' := by
  obtain ⟨zs, hz⟩ : ∃ zs, zs = List.replicate 512 (v8 0#8) := ⟨_, rfl⟩
  have hmk : (Instr.makeSlice 37 (.int .i64 512) (.int .i64 512)).run Try.prog w = .ok (.slice (some ⟨w.heap.size, 0, none⟩) 512 512) (w.alloc (.cells zs.toArray 5)) := by
    rw [hz]
    exact run_make_bytes (P := Try.prog) w 37 5 bytesT0 .i64 .i64 512 (by omega)
  have hcl := Cel.new w 5 zs
  have HZ := Lib.hid hz
  have HC := Lib.hid hcl
  obtain ⟨n, hn⟩ : ∃ n : Int, n = (x.toNat : Int) := ⟨_, rfl⟩
  have hxv : v8 x = .int .u8 n := by rw [hn]
  rw [hxv]
  have HXV := Lib.hid hxv
  clear hz hcl hxv hn
  go_enter Try.func8, Try.ntmps8
  go_wp2_with fail
  go_loopw [4] (fun i wr => ∃ k : Nat, k ≤ 512 ∧ i = .int .i64 k ∧ Cel wr w.heap.size 5 (List.replicate k (Value.int .u8 n) ++ List.replicate (512 - k) (v8 0#8)) ∧ Below w.heap.size w wr)
    (fun i _ => 512 - (Go.RowKit.intOf i).toNat)
  case atStart => exact ⟨0, by omega, rfl, by rw [List.replicate_zero, List.nil_append, Nat.sub_zero, ← HZ.out]; exact HC.out, (Below.refl _ _).alloc (Nat.le_refl _) _⟩
  case round =>
    obtain ⟨k, hk, rfl, hc, hb⟩ := hrel
    have HC2 := Lib.hid hc
    have HB := Lib.hid hb
    clear hb
    by_cases hlt : k < 512
    · have hcell : ∃ v, wr.cell? ⟨w.heap.size, k, none⟩ = some v := by
        rw [hc.cell k]
        exact ⟨_, List.getElem?_eq_getElem (by rw [List.length_append, List.length_replicate, List.length_replicate]; omega)⟩
      obtain ⟨v0, hcell⟩ := hcell
      have hfz := hc.free k
      have hset := hc.set k (.int .u8 n)
      have e : (List.replicate k (Value.int .u8 n) ++ List.replicate (512 - k) (v8 0#8)).set k (Value.int .u8 n) = List.replicate (k + 1) (Value.int .u8 n) ++ List.replicate (512 - (k + 1)) (v8 0#8) := by
        have h1 : 512 - k = (512 - (k + 1)) + 1 := by omega
        rw [List.set_append_right _ _ (by rw [List.length_replicate]; exact Nat.le_refl _), List.length_replicate, Nat.sub_self, h1, List.replicate_succ, List.set_cons_zero, List.replicate_succ', List.append_assoc]
        rfl
      rw [e] at hset
      have HS := Lib.hid hset
      clear hset e hc
      go_wp2_with fail
      go_roundw
      case rel => exact ⟨k + 1, by omega, by go_num, HS.out, HB.out.setCell (Nat.le_refl _) _⟩
      case measure => simp [Go.RowKit.intOf]; omega
    · obtain rfl : k = 512 := by omega
      clear hc
      go_wp2_with fail
      go_ret
      refine ⟨rfl, ?_, HB.out⟩
      have := HC2.out
      rw [Nat.sub_self, List.replicate_zero, List.append_nil] at this
      unfold fullL
      rw [List.map_replicate, HXV.out]
      exact this
/-- The bytes of a sector that full made, as what Append takes. -/
theorem full_bn {w : World} {B g : Nat} {x : BitVec 8} (h : Cel w g 5 ((fullL x).map v8)) : Bn w B (some ⟨g, 0, none⟩) 512 (fullL x) :=
  ⟨fullL_len x, fun _ => ⟨_, _, rfl, h, .inr (by rintro (h | h) <;> revert h <;> decide), fun j hj => by
    rw [Addr.add_lit, Nat.zero_add, h.cell j, List.getElem?_map, List.getElem?_eq_getElem (by rw [fullL_len]; exact hj), List.getD_eq_getElem?_getD, List.getElem?_eq_getElem (by rw [fullL_len]; exact hj)]
    rfl⟩⟩
theorem full_bs {w : World} {g : Nat} {x : BitVec 8} (h : Cel w g 5 ((fullL x).map v8)) : Bs w (g + 1) (some ⟨g, 0, none⟩) 512 (fullL x) :=
  ⟨fullL_len x, fun _ => ⟨_, rfl, Nat.lt_succ_self _, fun j hj => by
    rw [Addr.add_lit, Nat.zero_add, h.cell j, List.getElem?_map, List.getElem?_eq_getElem (by rw [fullL_len]; exact hj), List.getD_eq_getElem?_getD, List.getElem?_eq_getElem (by rw [fullL_len]; exact hj)]
    rfl⟩⟩

theorem zeros_full : zeros = fullL 0#8 := rfl
def m0 (r : Nat) : M := ⟨r, [], [], false, none⟩
theorem know1 : append (m0 9) 1 (fullL 7#8) = (0, ⟨9, [1], [⟨1, fullL 7#8, false⟩], false, none⟩) := by
  simp [append, m0, fullL_len, rows, fails, stepped, add, ins, without]
theorem know2 : sync ⟨9, [1], [⟨1, fullL 7#8, false⟩], false, none⟩ 1 = (0, ⟨9, [1], [⟨1, fullL 7#8, true⟩], false, none⟩) := by
  simp [sync, there, fails, stepped, syncL]
theorem know3 : append ⟨9, [1], [⟨1, fullL 7#8, true⟩], false, none⟩ 1 (fullL 8#8) = (0, ⟨9, [1], [⟨1, fullL 7#8, true⟩, ⟨1, fullL 8#8, false⟩], false, none⟩) := by
  simp [append, fullL_len, rows, fails, stepped, add, ins, without]
theorem know4 : crash ⟨9, [1], [⟨1, fullL 7#8, true⟩, ⟨1, fullL 8#8, false⟩], false, none⟩ [] = ⟨9, [1], [⟨1, fullL 7#8, true⟩, ⟨1, fullL 0#8, true⟩], true, none⟩ := by
  simp [crash, lost, passes, pstep, pass, zeros_full]
theorem know5 : sync ⟨9, [1], [⟨1, fullL 7#8, true⟩, ⟨1, fullL 0#8, true⟩], true, none⟩ 1 = (8, ⟨9, [1], [⟨1, fullL 7#8, true⟩, ⟨1, fullL 0#8, true⟩], true, none⟩) := by
  simp [sync, there]
theorem know6 : (rows 1 [⟨1, fullL 7#8, true⟩, ⟨1, fullL 0#8, true⟩]).map Sc.b = [fullL 7#8, fullL 0#8] := by
  simp [rows, Cl.sc]

set_option maxRecDepth 100000 in
set_option maxHeartbeats 4000000 in
theorem knows_ok (w : World) : Calls Try.prog 6 #[] w fun r w' => r = .returned (.bool true) ∧ Below w.heap.size w w' := by
  go_enter Try.func6, Try.ntmps6
  go_wp2_with fail
  refine (new_ok w w.heap.size 9 (Nat.le_refl _) (by omega) (by omega)).mono ?_
  rintro e w1 ⟨d, rfl, hd1, hb1⟩
  have hz1 := hb1.size
  have HD1 := Lib.hid hd1
  have HB1 := Lib.hid hb1
  clear hd1 hb1
  go_wp2_with fail
  refine (full_ok w1 7#8).mono ?_
  rintro e w2 ⟨rfl, hc2, hb2⟩
  have hz2 := hb2.size
  have con := append_call w2 w.heap.size d (m0 9) 1 (some ⟨w1.heap.size, 0, none⟩) 512 512 (fullL 7#8) (HD1.out.below hb2) (by omega) (by omega) (full_bn hc2) (fun ad e => by cases e; exact ⟨_, _, rfl⟩) (by unfold maxLen; omega)
  rw [know1] at con
  have HB2 := Lib.hid hb2
  clear hc2 hb2
  go_wp2_with fail
  refine con.mono ?_
  clear con
  rintro e w3 ⟨rfl, hd3, hc3⟩
  have hz3 := hc3.size
  have HC3 := Lib.hid hc3
  have con := sync_call w3 w.heap.size d _ 1 ⟨by omega, by omega⟩ hd3 (by omega)
  try dsimp only at con
  rw [know2] at con
  clear hd3 hc3
  go_wp2_with fail
  refine con.mono ?_
  clear con
  rintro e w4 ⟨rfl, hd4, hc4⟩
  have hz4 := hc4.size
  have HC4 := Lib.hid hc4
  have HD4 := Lib.hid hd4
  clear hd4 hc4
  go_wp2_with fail
  refine (full_ok w4 8#8).mono ?_
  rintro e w5 ⟨rfl, hc5, hb5⟩
  have hz5 := hb5.size
  have con := append_call w5 w.heap.size d _ 1 (some ⟨w4.heap.size, 0, none⟩) 512 512 (fullL 8#8) (HD4.out.below hb5) (by omega) (by omega) (full_bn hc5) (fun ad e => by cases e; exact ⟨_, _, rfl⟩) (by unfold maxLen; omega)
  try dsimp only at con
  rw [know3] at con
  have HB5 := Lib.hid hb5
  clear hc5 hb5
  go_wp2_with fail
  refine con.mono ?_
  clear con
  rintro e w6 ⟨rfl, hd6, hc6⟩
  have hz6 := hc6.size
  have HC6 := Lib.hid hc6
  have con := crash_call w6 w.heap.size d _ (.slice none 0 0) [] hd6 (Bo.nil_ _ _) (by omega) (by unfold maxLen; simp)
  try dsimp only at con
  rw [know4] at con
  clear hd6 hc6
  go_wp2_with fail
  refine con.mono ?_
  clear con
  rintro e w7 ⟨rfl, hd7, hc7⟩
  have hz7 := hc7.size
  have HC7 := Lib.hid hc7
  have con := sync_call w7 w.heap.size d _ 1 ⟨by omega, by omega⟩ hd7 (by omega)
  try dsimp only at con
  rw [know5] at con
  clear hd7 hc7
  go_wp2_with fail
  refine con.mono ?_
  clear con
  rintro e w8 ⟨rfl, hd8, hc8⟩
  have hz8 := hc8.size
  have HC8 := Lib.hid hc8
  have con := up_call w8 w.heap.size d _ hd8
  try dsimp only [up] at con
  clear hd8 hc8
  go_wp2_with fail
  refine con.mono ?_
  clear con
  rintro e w9 ⟨rfl, hd9, hc9⟩
  have hz9 := hc9.size
  have HC9 := Lib.hid hc9
  have con := read_ok w9 w.heap.size d _ 1 ⟨by omega, by omega⟩ hd9 (by simp [there])
  try dsimp only at con
  rw [know6] at con
  clear hd9 hc9
  go_wp2_with fail
  refine con.mono ?_
  clear con
  rintro e W ⟨v, rfl, hrs, hbW⟩
  have HBW := Lib.hid hbW
  obtain ⟨us, hu1, hu2, hu3⟩ := hrs
  obtain ⟨A0, c0, e0, hy0⟩ := hu3 0 (fullL 7#8) rfl
  obtain ⟨A1, c1, e1, hy1⟩ := hu3 1 (fullL 0#8) rfl
  simp only [fullL_len] at e0 e1 hy0 hy1
  obtain ⟨g, cl, hv⟩ : ∃ g cl, v = .slice (some ⟨g, 0, none⟩) 2 cl := by
    rcases hu1.2 with ⟨_, h⟩ | ⟨g, cap, cur, e, _⟩
    · simp at h
    · exact ⟨g, cap, e⟩
  subst hv
  have hgl := (World.ownsRow.lt hu1 g rfl).2
  have hu0 : ∀ V, From W V → V.cell? ⟨g, 0, none⟩ = some (.slice A0 512 c0) := fun V hV => by
    have := World.ownsRow.cells hu1 (g := g) rfl 0 _ e0
    rw [Addr.add_lit] at this
    rw [Below.cell hV (p := ⟨g, 0, none⟩) hgl]; exact this
  have hu1' : ∀ V, From W V → V.cell? ⟨g, 1, none⟩ = some (.slice A1 512 c1) := fun V hV => by
    have := World.ownsRow.cells hu1 (g := g) rfl 1 _ e1
    rw [Addr.add_lit] at this
    rw [Below.cell hV (p := ⟨g, 1, none⟩) hgl]; exact this
  have hq0 : ∀ V, From W V → (convert 37 9 (.slice A0 512 c0)).run Try.prog V = .ok (.string (str (fullL 7#8))) V := fun V hV => toStr (hy0.below hV).rd c0
  have hq1 : ∀ V, From W V → (convert 37 9 (.slice A1 512 c1)).run Try.prog V = .ok (.string (str (fullL 0#8))) V := fun V hV => toStr (hy1.below hV).rd c1
  clear hu1 hu2 hu3 hy0 hy1 e0 e1 hbW
  have hu1 := hu1'
  clear hu1'
  go_wp2_with fail
  have hW0 : W.heap.size = W.heap.size := rfl
  clear hW0
  refine wp_region_held_drew (S := From W) (by kernel_rfl) (From.self _).drew (fun hH => ?_)
  refine wpAnyH_take (i := 0) (v := .int .i64 0) rfl (by kernel_rfl) (by kernel_rfl) (by kernel_rfl) (fun _ _ _ h => h) (Or.inl ⟨by rfl, ?_⟩) hH ?_
  · intro V hV; go_simp
  try simp only [Act.put, List.setIfInBounds_toArray, List.set_cons_zero, List.set_cons_succ, List.getElem_toArray, List.getElem_cons_succ, List.getElem_cons_zero]
  refine wpAnyH_take (i := 1) (v := .bool true) rfl (by kernel_rfl) (by kernel_rfl) (by kernel_rfl) (fun _ _ _ h => h) (Or.inl ⟨by rfl, ?_⟩) hH ?_
  · intro V hV; go_simp
  try simp only [Act.put, List.setIfInBounds_toArray, List.set_cons_zero, List.set_cons_succ, List.getElem_toArray, List.getElem_cons_succ, List.getElem_cons_zero]
  refine wpAnyH_take (i := 2) (v := .bool true) rfl (by kernel_rfl) (by kernel_rfl) (by kernel_rfl) (fun _ _ _ h => h) (Or.inl ⟨by rfl, ?_⟩) hH ?_
  · intro V hV; go_simp
  try simp only [Act.put, List.setIfInBounds_toArray, List.set_cons_zero, List.set_cons_succ, List.getElem_toArray, List.getElem_cons_succ, List.getElem_cons_zero]
  refine wpAnyH_take (i := 3) (v := .int .i64 0) rfl (by kernel_rfl) (by kernel_rfl) (by kernel_rfl) (fun _ _ _ h => h) (Or.inl ⟨by rfl, ?_⟩) hH ?_
  · intro V hV; go_simp
  try simp only [Act.put, List.setIfInBounds_toArray, List.set_cons_zero, List.set_cons_succ, List.getElem_toArray, List.getElem_cons_succ, List.getElem_cons_zero]
  refine wpAnyH_take (i := 4) (v := .bool true) rfl (by kernel_rfl) (by kernel_rfl) (by kernel_rfl) (fun _ _ _ h => h) (Or.inl ⟨by rfl, ?_⟩) hH ?_
  · intro V hV; go_simp
  try simp only [Act.put, List.setIfInBounds_toArray, List.set_cons_zero, List.set_cons_succ, List.getElem_toArray, List.getElem_cons_succ, List.getElem_cons_zero]
  refine wpAnyH_take (i := 5) (v := .bool true) rfl (by kernel_rfl) (by kernel_rfl) (by kernel_rfl) (fun _ _ _ h => h) (Or.inl ⟨by rfl, ?_⟩) hH ?_
  · intro V hV; go_simp
  try simp only [Act.put, List.setIfInBounds_toArray, List.set_cons_zero, List.set_cons_succ, List.getElem_toArray, List.getElem_cons_succ, List.getElem_cons_zero]
  refine wpAnyH_take (i := 6) (v := .bool true) rfl (by kernel_rfl) (by kernel_rfl) (by kernel_rfl) (fun _ _ _ h => h) (Or.inl ⟨by rfl, ?_⟩) hH ?_
  · intro V hV; go_simp
  try simp only [Act.put, List.setIfInBounds_toArray, List.set_cons_zero, List.set_cons_succ, List.getElem_toArray, List.getElem_cons_succ, List.getElem_cons_zero]
  refine wpAnyH_take (i := 7) (v := .int .i64 0) rfl (by kernel_rfl) (by kernel_rfl) (by kernel_rfl) (fun _ _ _ h => h) (Or.inl ⟨by rfl, ?_⟩) hH ?_
  · intro V hV; go_simp
  try simp only [Act.put, List.setIfInBounds_toArray, List.set_cons_zero, List.set_cons_succ, List.getElem_toArray, List.getElem_cons_succ, List.getElem_cons_zero]
  refine wpAnyH_take (i := 8) (v := .bool true) rfl (by kernel_rfl) (by kernel_rfl) (by kernel_rfl) (fun _ _ _ h => h) (Or.inl ⟨by rfl, ?_⟩) hH ?_
  · intro V hV; go_simp
  try simp only [Act.put, List.setIfInBounds_toArray, List.set_cons_zero, List.set_cons_succ, List.getElem_toArray, List.getElem_cons_succ, List.getElem_cons_zero]
  refine wpAnyH_take (i := 9) (v := .bool true) rfl (by kernel_rfl) (by kernel_rfl) (by kernel_rfl) (fun _ _ _ h => h) (Or.inl ⟨by rfl, ?_⟩) hH ?_
  · intro V hV; go_simp
  try simp only [Act.put, List.setIfInBounds_toArray, List.set_cons_zero, List.set_cons_succ, List.getElem_toArray, List.getElem_cons_succ, List.getElem_cons_zero]
  refine wpAnyH_take (i := 10) (v := .bool true) rfl (by kernel_rfl) (by kernel_rfl) (by kernel_rfl) (fun _ _ _ h => h) (Or.inl ⟨by rfl, ?_⟩) hH ?_
  · intro V hV; go_simp
  try simp only [Act.put, List.setIfInBounds_toArray, List.set_cons_zero, List.set_cons_succ, List.getElem_toArray, List.getElem_cons_succ, List.getElem_cons_zero]
  refine wpAnyH_take (i := 11) (v := .int .i64 8) rfl (by kernel_rfl) (by kernel_rfl) (by kernel_rfl) (fun _ _ _ h => h) (Or.inl ⟨by rfl, ?_⟩) hH ?_
  · intro V hV; go_simp
  try simp only [Act.put, List.setIfInBounds_toArray, List.set_cons_zero, List.set_cons_succ, List.getElem_toArray, List.getElem_cons_succ, List.getElem_cons_zero]
  refine wpAnyH_take (i := 12) (v := .bool true) rfl (by kernel_rfl) (by kernel_rfl) (by kernel_rfl) (fun _ _ _ h => h) (Or.inl ⟨by rfl, ?_⟩) hH ?_
  · intro V hV; go_simp
  try simp only [Act.put, List.setIfInBounds_toArray, List.set_cons_zero, List.set_cons_succ, List.getElem_toArray, List.getElem_cons_succ, List.getElem_cons_zero]
  refine wpAnyH_take (i := 13) (v := .bool true) rfl (by kernel_rfl) (by kernel_rfl) (by kernel_rfl) (fun _ _ _ h => h) (Or.inl ⟨by rfl, ?_⟩) hH ?_
  · intro V hV; go_simp
  try simp only [Act.put, List.setIfInBounds_toArray, List.set_cons_zero, List.set_cons_succ, List.getElem_toArray, List.getElem_cons_succ, List.getElem_cons_zero]
  refine wpAnyH_take (i := 14) (v := .bool true) rfl (by kernel_rfl) (by kernel_rfl) (by kernel_rfl) (fun _ _ _ h => h) (Or.inl ⟨by rfl, ?_⟩) hH ?_
  · intro V hV; go_simp
  try simp only [Act.put, List.setIfInBounds_toArray, List.set_cons_zero, List.set_cons_succ, List.getElem_toArray, List.getElem_cons_succ, List.getElem_cons_zero]
  refine wpAnyH_take (i := 15) (v := .int .i64 0) rfl (by kernel_rfl) (by kernel_rfl) (by kernel_rfl) (fun _ _ _ h => h) (Or.inl ⟨by rfl, ?_⟩) hH ?_
  · intro V hV; go_simp
  try simp only [Act.put, List.setIfInBounds_toArray, List.set_cons_zero, List.set_cons_succ, List.getElem_toArray, List.getElem_cons_succ, List.getElem_cons_zero]
  refine wpAnyH_take (i := 16) (v := .bool true) rfl (by kernel_rfl) (by kernel_rfl) (by kernel_rfl) (fun _ _ _ h => h) (Or.inl ⟨by rfl, ?_⟩) hH ?_
  · intro V hV; go_simp
  try simp only [Act.put, List.setIfInBounds_toArray, List.set_cons_zero, List.set_cons_succ, List.getElem_toArray, List.getElem_cons_succ, List.getElem_cons_zero]
  refine wpAnyH_take (i := 17) (v := .bool true) rfl (by kernel_rfl) (by kernel_rfl) (by kernel_rfl) (fun _ _ _ h => h) (Or.inl ⟨by rfl, ?_⟩) hH ?_
  · intro V hV; go_simp
  try simp only [Act.put, List.setIfInBounds_toArray, List.set_cons_zero, List.set_cons_succ, List.getElem_toArray, List.getElem_cons_succ, List.getElem_cons_zero]
  refine wpAnyH_take (i := 18) (v := .bool true) rfl (by kernel_rfl) (by kernel_rfl) (by kernel_rfl) (fun _ _ _ h => h) (Or.inl ⟨by rfl, ?_⟩) hH ?_
  · intro V hV; go_simp
  try simp only [Act.put, List.setIfInBounds_toArray, List.set_cons_zero, List.set_cons_succ, List.getElem_toArray, List.getElem_cons_succ, List.getElem_cons_zero]
  refine wpAnyH_take (i := 19) (v := .slice (some ⟨g, 0, none⟩) 2 cl) rfl (by kernel_rfl) (by kernel_rfl) (by kernel_rfl) (fun _ _ _ h => h) (Or.inl ⟨by rfl, ?_⟩) hH ?_
  · intro V hV; go_simp
  try simp only [Act.put, List.setIfInBounds_toArray, List.set_cons_zero, List.set_cons_succ, List.getElem_toArray, List.getElem_cons_succ, List.getElem_cons_zero]
  refine wpAnyH_take (i := 20) (v := .pointer (some ⟨g, 0, none⟩)) rfl (by kernel_rfl) (by kernel_rfl) (by kernel_rfl) (fun _ _ _ h => h) (Or.inl ⟨by rfl, ?_⟩) hH ?_
  · intro V hV; go_simp
  try simp only [Act.put, List.setIfInBounds_toArray, List.set_cons_zero, List.set_cons_succ, List.getElem_toArray, List.getElem_cons_succ, List.getElem_cons_zero]
  refine wpAnyH_take (i := 21) (v := .slice A0 512 c0) rfl (by kernel_rfl) (by kernel_rfl) (by kernel_rfl) (fun _ _ _ h => h) (Or.inl ⟨by rfl, ?_⟩) hH ?_
  · intro V hV; have k := hu0 V hV; go_simp
  try simp only [Act.put, List.setIfInBounds_toArray, List.set_cons_zero, List.set_cons_succ, List.getElem_toArray, List.getElem_cons_succ, List.getElem_cons_zero]
  refine wpAnyH_take (i := 22) (v := .string (str (fullL 7#8))) rfl (by kernel_rfl) (by kernel_rfl) (by kernel_rfl) (fun _ _ _ h => h) (Or.inl ⟨by rfl, ?_⟩) hH ?_
  · intro V hV; have k := (hq0 V hV); go_simp
  try simp only [Act.put, List.setIfInBounds_toArray, List.set_cons_zero, List.set_cons_succ, List.getElem_toArray, List.getElem_cons_succ, List.getElem_cons_zero]
  refine wpAnyH_ready (rs := [23]) (by kernel_rfl) (by simp) (AllReadyH.cons rfl (fun K hK => ?_) AllReadyH.nil)
  go_simp
  refine (full_ok _ 7#8).mono ?_
  rintro r w5 ⟨rfl, hc5, hb5⟩
  go_wp2_with fail
  refine hK.out _ _ (hH.call hb5) (fun hH' => ?_)
  have hq5 : (convert 37 9 (.slice (some ⟨W.heap.size, 0, none⟩) 512 512)).run Try.prog w5 = .ok (.string (str (fullL 7#8))) w5 := toStr (full_bs hc5) 512
  clear hK K hH
  have hH := hH'
  clear hH'
  try simp only [Act.put, List.setIfInBounds_toArray, List.set_cons_zero, List.set_cons_succ, List.getElem_toArray, List.getElem_cons_succ, List.getElem_cons_zero]
  refine wpAnyH_ready (rs := [24]) (by kernel_rfl) (by simp) (AllReadyH.cons rfl (fun K hK => ?_) AllReadyH.nil)
  go_simp
  refine hK.out _ _ hH (fun hH' => ?_)
  clear hK K hH
  have hH := hH'
  clear hH'
  try simp only [Act.put, List.setIfInBounds_toArray, List.set_cons_zero, List.set_cons_succ, List.getElem_toArray, List.getElem_cons_succ, List.getElem_cons_zero]
  clear hq5 hc5
  refine wpAnyH_take (i := 25) (v := .bool true) rfl (by kernel_rfl) (by kernel_rfl) (by kernel_rfl) (fun _ _ _ h => h) (Or.inl ⟨by rfl, ?_⟩) hH ?_
  · intro V hV; go_simp
  try simp only [Act.put, List.setIfInBounds_toArray, List.set_cons_zero, List.set_cons_succ, List.getElem_toArray, List.getElem_cons_succ, List.getElem_cons_zero]
  refine wpAnyH_take (i := 26) (v := .bool true) rfl (by kernel_rfl) (by kernel_rfl) (by kernel_rfl) (fun _ _ _ h => h) (Or.inl ⟨by rfl, ?_⟩) hH ?_
  · intro V hV; go_simp
  try simp only [Act.put, List.setIfInBounds_toArray, List.set_cons_zero, List.set_cons_succ, List.getElem_toArray, List.getElem_cons_succ, List.getElem_cons_zero]
  refine wpAnyH_take (i := 27) (v := .bool true) rfl (by kernel_rfl) (by kernel_rfl) (by kernel_rfl) (fun _ _ _ h => h) (Or.inl ⟨by rfl, ?_⟩) hH ?_
  · intro V hV; go_simp
  try simp only [Act.put, List.setIfInBounds_toArray, List.set_cons_zero, List.set_cons_succ, List.getElem_toArray, List.getElem_cons_succ, List.getElem_cons_zero]
  refine wpAnyH_take (i := 28) (v := .slice (some ⟨g, 0, none⟩) 2 cl) rfl (by kernel_rfl) (by kernel_rfl) (by kernel_rfl) (fun _ _ _ h => h) (Or.inl ⟨by rfl, ?_⟩) hH ?_
  · intro V hV; go_simp
  try simp only [Act.put, List.setIfInBounds_toArray, List.set_cons_zero, List.set_cons_succ, List.getElem_toArray, List.getElem_cons_succ, List.getElem_cons_zero]
  refine wpAnyH_take (i := 29) (v := .pointer (some ⟨g, 1, none⟩)) rfl (by kernel_rfl) (by kernel_rfl) (by kernel_rfl) (fun _ _ _ h => h) (Or.inl ⟨by rfl, ?_⟩) hH ?_
  · intro V hV; go_simp
  try simp only [Act.put, List.setIfInBounds_toArray, List.set_cons_zero, List.set_cons_succ, List.getElem_toArray, List.getElem_cons_succ, List.getElem_cons_zero]
  refine wpAnyH_take (i := 30) (v := .slice A1 512 c1) rfl (by kernel_rfl) (by kernel_rfl) (by kernel_rfl) (fun _ _ _ h => h) (Or.inl ⟨by rfl, ?_⟩) hH ?_
  · intro V hV; have k := hu1 V hV; go_simp
  try simp only [Act.put, List.setIfInBounds_toArray, List.set_cons_zero, List.set_cons_succ, List.getElem_toArray, List.getElem_cons_succ, List.getElem_cons_zero]
  refine wpAnyH_take (i := 31) (v := .string (str (fullL 0#8))) rfl (by kernel_rfl) (by kernel_rfl) (by kernel_rfl) (fun _ _ _ h => h) (Or.inl ⟨by rfl, ?_⟩) hH ?_
  · intro V hV; have k := (hq1 V hV); go_simp
  try simp only [Act.put, List.setIfInBounds_toArray, List.set_cons_zero, List.set_cons_succ, List.getElem_toArray, List.getElem_cons_succ, List.getElem_cons_zero]
  refine wpAnyH_ready (rs := [32]) (by kernel_rfl) (by simp) (AllReadyH.cons rfl (fun K hK => ?_) AllReadyH.nil)
  go_simp
  refine (full_ok _ 0#8).mono ?_
  rintro r w6 ⟨rfl, hc6, hb6⟩
  go_wp2_with fail
  refine hK.out _ _ (hH.call hb6) (fun hH' => ?_)
  have hq6 : (convert 37 9 (.slice (some ⟨w5.heap.size, 0, none⟩) 512 512)).run Try.prog w6 = .ok (.string (str (fullL 0#8))) w6 := toStr (full_bs hc6) 512
  clear hK K hH
  have hH := hH'
  clear hH'
  try simp only [Act.put, List.setIfInBounds_toArray, List.set_cons_zero, List.set_cons_succ, List.getElem_toArray, List.getElem_cons_succ, List.getElem_cons_zero]
  refine wpAnyH_ready (rs := [33]) (by kernel_rfl) (by simp) (AllReadyH.cons rfl (fun K hK => ?_) AllReadyH.nil)
  go_simp
  refine hK.out _ _ hH (fun hH' => ?_)
  clear hK K hH
  have hH := hH'
  clear hH'
  try simp only [Act.put, List.setIfInBounds_toArray, List.set_cons_zero, List.set_cons_succ, List.getElem_toArray, List.getElem_cons_succ, List.getElem_cons_zero]
  clear hq6 hc6
  refine wpAnyH_take (i := 34) (v := .bool true) rfl (by kernel_rfl) (by kernel_rfl) (by kernel_rfl) (fun _ _ _ h => h) (Or.inl ⟨by rfl, ?_⟩) hH ?_
  · intro V hV; go_simp
  try simp only [Act.put, List.setIfInBounds_toArray, List.set_cons_zero, List.set_cons_succ, List.getElem_toArray, List.getElem_cons_succ, List.getElem_cons_zero]
  refine wpAnyH_take (i := 35) (v := .bool true) rfl (by kernel_rfl) (by kernel_rfl) (by kernel_rfl) (fun _ _ _ h => h) (Or.inl ⟨by rfl, ?_⟩) hH ?_
  · intro V hV; go_simp
  try simp only [Act.put, List.setIfInBounds_toArray, List.set_cons_zero, List.set_cons_succ, List.getElem_toArray, List.getElem_cons_succ, List.getElem_cons_zero]
  refine wpAnyH_take (i := 36) (v := .bool true) rfl (by kernel_rfl) (by kernel_rfl) (by kernel_rfl) (fun _ _ _ h => h) (Or.inl ⟨by rfl, ?_⟩) hH ?_
  · intro V hV; go_simp
  try simp only [Act.put, List.setIfInBounds_toArray, List.set_cons_zero, List.set_cons_succ, List.getElem_toArray, List.getElem_cons_succ, List.getElem_cons_zero]
  refine wpAnyH_take (i := 37) (v := .pointer none) rfl (by kernel_rfl) (by kernel_rfl) (by kernel_rfl) (fun _ _ _ h => h) (Or.inl ⟨by rfl, ?_⟩) hH ?_
  · intro V hV; go_simp
  try simp only [Act.put, List.setIfInBounds_toArray, List.set_cons_zero, List.set_cons_succ, List.getElem_toArray, List.getElem_cons_succ, List.getElem_cons_zero]
  refine wpAnyH_ready (rs := [38]) (by kernel_rfl) (by simp) (AllReadyH.cons rfl (fun K hK => ?_) AllReadyH.nil)
  go_simp
  refine (on_nil _).mono ?_
  rintro r w8 ⟨rfl, rfl⟩
  go_wp2_with fail
  refine hK.out _ _ (hH.call (Below.refl _ _)) (fun hH' => ?_)
  clear hK K hH
  have hH := hH'
  clear hH'
  try simp only [Act.put, List.setIfInBounds_toArray, List.set_cons_zero, List.set_cons_succ, List.getElem_toArray, List.getElem_cons_succ, List.getElem_cons_zero]
  refine wpAnyH_take (i := 39) (v := .bool true) rfl (by kernel_rfl) (by kernel_rfl) (by kernel_rfl) (fun _ _ _ h => h) (Or.inl ⟨by rfl, ?_⟩) hH ?_
  · intro V hV; go_simp
  try simp only [Act.put, List.setIfInBounds_toArray, List.set_cons_zero, List.set_cons_succ, List.getElem_toArray, List.getElem_cons_succ, List.getElem_cons_zero]
  refine wpAnyH_take (i := 40) (v := .bool true) rfl (by kernel_rfl) (by kernel_rfl) (by kernel_rfl) (fun _ _ _ h => h) (Or.inl ⟨by rfl, ?_⟩) hH ?_
  · intro V hV; go_simp
  try simp only [Act.put, List.setIfInBounds_toArray, List.set_cons_zero, List.set_cons_succ, List.getElem_toArray, List.getElem_cons_succ, List.getElem_cons_zero]
  refine wpAnyH_take (i := 41) (v := .bool true) rfl (by kernel_rfl) (by kernel_rfl) (by kernel_rfl) (fun _ _ _ h => h) (Or.inl ⟨by rfl, ?_⟩) hH ?_
  · intro V hV; go_simp
  try simp only [Act.put, List.setIfInBounds_toArray, List.set_cons_zero, List.set_cons_succ, List.getElem_toArray, List.getElem_cons_succ, List.getElem_cons_zero]
  refine wpAnyH_take (i := 42) (v := .pointer none) rfl (by kernel_rfl) (by kernel_rfl) (by kernel_rfl) (fun _ _ _ h => h) (Or.inl ⟨by rfl, ?_⟩) hH ?_
  · intro V hV; go_simp
  try simp only [Act.put, List.setIfInBounds_toArray, List.set_cons_zero, List.set_cons_succ, List.getElem_toArray, List.getElem_cons_succ, List.getElem_cons_zero]
  refine wpAnyH_ready (rs := [43]) (by kernel_rfl) (by simp) (AllReadyH.cons rfl (fun K hK => ?_) AllReadyH.nil)
  go_simp
  refine (sync_call_nil _ _).mono ?_
  rintro r w9 ⟨rfl, rfl⟩
  go_wp2_with fail
  refine hK.out _ _ (hH.call (Below.refl _ _)) (fun hH' => ?_)
  clear hK K hH
  have hH := hH'
  clear hH'
  try simp only [Act.put, List.setIfInBounds_toArray, List.set_cons_zero, List.set_cons_succ, List.getElem_toArray, List.getElem_cons_succ, List.getElem_cons_zero]
  refine wpAnyH_take (i := 44) (v := .bool true) rfl (by kernel_rfl) (by kernel_rfl) (by kernel_rfl) (fun _ _ _ h => h) (Or.inl ⟨by rfl, ?_⟩) hH ?_
  · intro V hV; go_simp
  try simp only [Act.put, List.setIfInBounds_toArray, List.set_cons_zero, List.set_cons_succ, List.getElem_toArray, List.getElem_cons_succ, List.getElem_cons_zero]
  refine wpAnyH_take (i := 45) (v := .bool true) rfl (by kernel_rfl) (by kernel_rfl) (by kernel_rfl) (fun _ _ _ h => h) (Or.inl ⟨by rfl, ?_⟩) hH ?_
  · intro V hV; go_simp
  try simp only [Act.put, List.setIfInBounds_toArray, List.set_cons_zero, List.set_cons_succ, List.getElem_toArray, List.getElem_cons_succ, List.getElem_cons_zero]
  refine wpAnyH_ready (rs := [46]) (by kernel_rfl) (by simp) (AllReadyH.cons rfl (fun K hK => ?_) AllReadyH.nil)
  go_simp
  refine hK.out _ _ hH (fun hH' => ?_)
  clear hK K hH
  have hH := hH'
  clear hH'
  try simp only [Act.put, List.setIfInBounds_toArray, List.set_cons_zero, List.set_cons_succ, List.getElem_toArray, List.getElem_cons_succ, List.getElem_cons_zero]
  refine wpAnyH_done (by kernel_rfl) ?_ _
  go_wp2_with fail
  go_ret
  exact ⟨rfl, HB1.out.trans (((((((((((Chg.of_below HB2.out).trans HC3.out).trans HC4.out).trans (Chg.of_below HB5.out)).trans HC6.out).trans HC7.out).trans HC8.out).trans HC9.out).trans (Chg.of_below HBW.out)).trans (Chg.of_below hH)).below hz1)⟩
end Go.Proofs.Ytkoaelpmknaakaa.Disk
