/-
  The law's own functions: few, record; its deeds, as they came in.
-/
import Derived.Test.YtdaknfepcbooeaaGreatMStoC
import Derived.Test.YtdaknfepcbooeaaGreatMSegDeeds
namespace Go.Proofs.YtdaknfepcbooeaaGreat.Sto
open Go.RowKit
open Go.Proofs.YtdaknfepcbooeaaGreat.Disk (M Sc Dk Chg Dob Bo rows there)
open Go.Proofs.YtdaknfepcbooeaaGreat.Segm (cel_by IsDd)
set_option linter.unusedVariables false
set_option linter.unusedSimpArgs false

/-- The bytes of a record. -/
def recB (n : Nat) (b : BitVec 8) : List (BitVec 8) := (List.range n).map fun i => b + BitVec.ofNat 8 i
/-- How many they are. -/
def recN (n : Int) : Nat := if n < 0 then 0 else if 2000 < n then 9861 else n.toNat
theorem recB_len (n : Nat) (b : BitVec 8) : (recB n b).length = n := by simp [recB]
theorem recB_of {n : Nat} {b : BitVec 8} {bs : List (BitVec 8)} (h : bs.length = n ∧ ∀ j, j < n → bs[j]? = some (b + BitVec.ofNat 8 j)) : bs = recB n b := by
  apply List.ext_getElem?
  intro j
  by_cases hj : j < n
  · rw [h.2 j hj, recB, List.getElem?_map, List.getElem?_range hj]
    rfl
  · rw [List.getElem?_eq_none (by omega), List.getElem?_eq_none (by rw [recB_len]; omega)]
theorem set_next {n k : Nat} {b : BitVec 8} {bs : List (BitVec 8)} (h : bs.length = n ∧ ∀ j, j < k → bs[j]? = some (b + BitVec.ofNat 8 j)) (hk : k < n) :
    (bs.set k (b + BitVec.ofNat 8 k)).length = n ∧ ∀ j, j < k + 1 → (bs.set k (b + BitVec.ofNat 8 k))[j]? = some (b + BitVec.ofNat 8 j) := by
  refine ⟨by rw [List.length_set]; exact h.1, fun j hj => ?_⟩
  by_cases e : j = k
  · subst e
    rw [List.getElem?_set_self (by omega)]
  · rw [List.getElem?_set_ne (fun e' => e e'.symm), h.2 j (by omega)]
theorem u8_add (b : BitVec 8) (k : Nat) : (Value.int .u8 (((b.toNat : Int) + (k : Int)) % 256)) = v8 (b + BitVec.ofNat 8 k) := by
  unfold v8
  rw [BitVec.toNat_add, BitVec.toNat_ofNat]
  congr 1
  omega
/-- A record's bytes, in a block of the call's own. -/
def Recs7 (w : World) (n : Int) (b : BitVec 8) (r : Ending) (w' : World) : Prop := ∃ g k, w.heap.size ≤ g ∧ r = .returned (.slice (some ⟨g, 0, none⟩) k k) ∧ recN n = k ∧ Cel w' g 5 ((recB k b).map v8) ∧ k ≤ maxLen ∧ Below w.heap.size w w'
set_option maxRecDepth 100000 in
set_option maxHeartbeats 1000000 in
theorem record_neg (w : World) (n : Int) (b : BitVec 8) (hn : n < 0) : Calls Tryz.prog 10 #[.int .i64 n, v8 b] w (Recs7 w n b) := by
  have d1 : decide (n < 0) = true := by simpa using hn
  have hbb := b.isLt
  have HRN := Lib.hid (show recN n = 0 from (by unfold recN; rw [if_pos hn]))
  obtain ⟨zs, hz⟩ : ∃ zs, zs = List.replicate 0 (v8 0#8) := ⟨_, rfl⟩
  have hmk : (Instr.makeSlice 44 (.int .i64 0) (.int .i64 0)).run Tryz.prog w = .ok (.slice (some ⟨w.heap.size, 0, none⟩) 0 0) (w.alloc (.cells zs.toArray 5)) := by
    rw [hz]
    exact run_make_bytes (P := Tryz.prog) w 44 5 Frag.bytesT .i64 .i64 0 (by omega)
  have hcl := Cel.new w 5 zs
  have HC := Lib.hid hcl
  have HZ := Lib.hid hz
  clear hz hcl
  go_enter Tryz.func10, Tryz.ntmps10
  go_wp2_with fail
  clear hmk
  have hb0 : Below w.heap.size w (w.alloc (.cells zs.toArray 5)) := (Below.refl _ _).alloc (Nat.le_refl _) _
  have HB0 := Lib.hid hb0
  clear hb0
  go_loopw [6] (fun i wr => ∃ k : Nat, k ≤ 0 ∧ i = .int .i64 (k : Int) ∧ ∃ bs : List (BitVec 8), (bs.length = 0 ∧ ∀ j, j < k → bs[j]? = some (b + BitVec.ofNat 8 j)) ∧ Cel wr w.heap.size 5 (bs.map v8) ∧ Below w.heap.size w wr) (fun i _ => 0 - (intOf i).toNat)
  case atStart => exact ⟨0, Nat.zero_le _, rfl, List.replicate 0 0#8, ⟨List.length_replicate .., fun j hj => absurd hj (Nat.not_lt_zero _)⟩, by rw [List.map_replicate, ← HZ.out]; exact HC.out, HB0.out⟩
  case round =>
    obtain ⟨k, hk, rfl, bs, hbl, hc, hb⟩ := hrel
    have HC2 := Lib.hid hc
    have HBL := Lib.hid hbl
    have HB := Lib.hid hb
    clear hb hbl
    by_cases hlt : k < 0
    · exact absurd hlt (Nat.not_lt_zero _)
    · obtain rfl : k = 0 := by omega
      clear hc
      go_wp2_with fail
      go_ret
      exact ⟨w.heap.size, 0, Nat.le_refl _, rfl, HRN.out, by rw [← recB_of HBL.out]; exact HC2.out, by unfold maxLen; omega, HB.out⟩
set_option maxRecDepth 100000 in
set_option maxHeartbeats 1000000 in
theorem record_big (w : World) (n : Int) (b : BitVec 8) (hn : 2000 < n) : Calls Tryz.prog 10 #[.int .i64 n, v8 b] w (Recs7 w n b) := by
  have d1 : decide (n < 0) = false := by simp; omega
  have d2 : decide (2000 < n) = true := by simpa using hn
  have hbb := b.isLt
  have HRN := Lib.hid (show recN n = 9861 from (by unfold recN; rw [if_neg (by omega), if_pos hn]))
  obtain ⟨zs, hz⟩ : ∃ zs, zs = List.replicate 9861 (v8 0#8) := ⟨_, rfl⟩
  have hmk : (Instr.makeSlice 44 (.int .i64 9861) (.int .i64 9861)).run Tryz.prog w = .ok (.slice (some ⟨w.heap.size, 0, none⟩) 9861 9861) (w.alloc (.cells zs.toArray 5)) := by
    rw [hz]
    exact run_make_bytes (P := Tryz.prog) w 44 5 Frag.bytesT .i64 .i64 9861 (by omega)
  have hcl := Cel.new w 5 zs
  have HC := Lib.hid hcl
  have HZ := Lib.hid hz
  clear hz hcl
  go_enter Tryz.func10, Tryz.ntmps10
  go_wp2_with fail
  clear hmk
  have hb0 : Below w.heap.size w (w.alloc (.cells zs.toArray 5)) := (Below.refl _ _).alloc (Nat.le_refl _) _
  have HB0 := Lib.hid hb0
  clear hb0
  go_loopw [6] (fun i wr => ∃ k : Nat, k ≤ 9861 ∧ i = .int .i64 (k : Int) ∧ ∃ bs : List (BitVec 8), (bs.length = 9861 ∧ ∀ j, j < k → bs[j]? = some (b + BitVec.ofNat 8 j)) ∧ Cel wr w.heap.size 5 (bs.map v8) ∧ Below w.heap.size w wr) (fun i _ => 9861 - (intOf i).toNat)
  case atStart => exact ⟨0, Nat.zero_le _, rfl, List.replicate 9861 0#8, ⟨List.length_replicate .., fun j hj => absurd hj (Nat.not_lt_zero _)⟩, by rw [List.map_replicate, ← HZ.out]; exact HC.out, HB0.out⟩
  case round =>
    obtain ⟨k, hk, rfl, bs, hbl, hc, hb⟩ := hrel
    have HC2 := Lib.hid hc
    have HBL := Lib.hid hbl
    have HB := Lib.hid hb
    clear hb hbl
    by_cases hlt : k < 9861
    · have hcell : ∃ v, wr.cell? ⟨w.heap.size, k, none⟩ = some v := by
        rw [hc.cell k, List.getElem?_map, List.getElem?_eq_getElem (by rw [HBL.out.1]; exact hlt)]
        exact ⟨_, rfl⟩
      obtain ⟨v0, hcell⟩ := hcell
      have hfz := hc.free k
      have HSET := Lib.hid (fun u => hc.set k u)
      clear hc
      go_wp2_with fail
      rw [u8_add b k]
      go_roundw
      case rel =>
        refine ⟨k + 1, by omega, by go_num, bs.set k (b + BitVec.ofNat 8 k), set_next HBL.out hlt, ?_, HB.out.setCell (Nat.le_refl _) _⟩
        rw [List.map_set]
        exact HSET.out (v8 (b + BitVec.ofNat 8 k))
      case measure => simp [intOf]; omega
    · obtain rfl : k = 9861 := by omega
      clear hc
      go_wp2_with fail
      go_ret
      exact ⟨w.heap.size, 9861, Nat.le_refl _, rfl, HRN.out, by rw [← recB_of HBL.out]; exact HC2.out, by unfold maxLen; omega, HB.out⟩
set_option maxRecDepth 100000 in
set_option maxHeartbeats 1000000 in
theorem record_mid (w : World) (n : Nat) (b : BitVec 8) (hn : n ≤ 2000) : Calls Tryz.prog 10 #[.int .i64 (n : Int), v8 b] w (Recs7 w n b) := by
  have hbb := b.isLt
  have HRN := Lib.hid (show recN (n : Int) = n from (by unfold recN; rw [if_neg (by omega), if_neg (by omega)]; omega))
  obtain ⟨zs, hz⟩ : ∃ zs, zs = List.replicate n (v8 0#8) := ⟨_, rfl⟩
  have hmk : (Instr.makeSlice 44 (.int .i64 (n : Int)) (.int .i64 (n : Int))).run Tryz.prog w = .ok (.slice (some ⟨w.heap.size, 0, none⟩) n n) (w.alloc (.cells zs.toArray 5)) := by
    rw [hz]
    exact run_make_bytes (P := Tryz.prog) w 44 5 Frag.bytesT .i64 .i64 n (by omega)
  have hcl := Cel.new w 5 zs
  have HC := Lib.hid hcl
  have HZ := Lib.hid hz
  clear hz hcl
  go_enter Tryz.func10, Tryz.ntmps10
  go_wp2_with fail
  clear hmk
  have hb0 : Below w.heap.size w (w.alloc (.cells zs.toArray 5)) := (Below.refl _ _).alloc (Nat.le_refl _) _
  have HB0 := Lib.hid hb0
  clear hb0
  go_loopw [6] (fun i wr => ∃ k : Nat, k ≤ n ∧ i = .int .i64 (k : Int) ∧ ∃ bs : List (BitVec 8), (bs.length = n ∧ ∀ j, j < k → bs[j]? = some (b + BitVec.ofNat 8 j)) ∧ Cel wr w.heap.size 5 (bs.map v8) ∧ Below w.heap.size w wr) (fun i _ => n - (intOf i).toNat)
  case atStart => exact ⟨0, Nat.zero_le _, rfl, List.replicate n 0#8, ⟨List.length_replicate .., fun j hj => absurd hj (Nat.not_lt_zero _)⟩, by rw [List.map_replicate, ← HZ.out]; exact HC.out, HB0.out⟩
  case round =>
    obtain ⟨k, hk, rfl, bs, hbl, hc, hb⟩ := hrel
    have HC2 := Lib.hid hc
    have HBL := Lib.hid hbl
    have HB := Lib.hid hb
    clear hb hbl
    by_cases hlt : k < n
    · have hcell : ∃ v, wr.cell? ⟨w.heap.size, k, none⟩ = some v := by
        rw [hc.cell k, List.getElem?_map, List.getElem?_eq_getElem (by rw [HBL.out.1]; exact hlt)]
        exact ⟨_, rfl⟩
      obtain ⟨v0, hcell⟩ := hcell
      have hfz := hc.free k
      have HSET := Lib.hid (fun u => hc.set k u)
      clear hc
      go_wp2_with fail
      rw [u8_add b k]
      go_roundw
      case rel =>
        refine ⟨k + 1, by omega, by go_num, bs.set k (b + BitVec.ofNat 8 k), set_next HBL.out hlt, ?_, HB.out.setCell (Nat.le_refl _) _⟩
        rw [List.map_set]
        exact HSET.out (v8 (b + BitVec.ofNat 8 k))
      case measure => simp [intOf]; omega
    · obtain rfl : k = n := by omega
      clear hc
      go_wp2_with fail
      go_ret
      exact ⟨w.heap.size, k, Nat.le_refl _, rfl, HRN.out, by rw [← recB_of HBL.out]; exact HC2.out, by unfold maxLen; omega, HB.out⟩
theorem record_ok (w : World) (n : Int) (b : BitVec 8) : Calls Tryz.prog 10 #[.int .i64 n, v8 b] w (Recs7 w n b) := by
  by_cases h1 : n < 0
  · exact record_neg w n b h1
  · by_cases h2 : 2000 < n
    · exact record_big w n b h2
    · obtain ⟨k, rfl⟩ : ∃ k : Nat, n = (k : Int) := ⟨n.toNat, by omega⟩
      exact record_mid w k b (by omega)
def FewSays (l : Nat) (w : World) (r : Ending) (w' : World) : Prop := ∃ b, r = .returned (.bool b) ∧ (b = true → l ≤ 30) ∧ w = w'
set_option maxRecDepth 100000 in
set_option maxHeartbeats 1000000 in
theorem few_ok (w : World) (A : Option Addr) (l c : Nat) (hl : l ≤ maxLen) (h : 0 < l → ∃ x, A = some x ∧ ∀ i, i < l → ∃ D, IsDd w x i D) :
    Calls Tryz.prog 5 #[.slice A l c] w (FewSays l w) := by
  unfold maxLen at hl
  have H := Lib.hid h
  clear h
  go_enter Tryz.func5, Tryz.ntmps5
  go_wp2_with fail
  go_loop [3] (fun i => ∃ k : Nat, k ≤ l ∧ i = .int .i64 k) (fun i => l - (Go.RowKit.intOf i).toNat)
  case atStart => exact ⟨0, Nat.zero_le _, rfl⟩
  case round =>
    obtain ⟨k, hk, rfl⟩ := hrel
    by_cases hlt : k < l
    · obtain ⟨x, rfl, hD⟩ := H.out (by omega)
      obtain ⟨D, hd⟩ := hD k hlt
      obtain ⟨_, _, _, c4⟩ := hd.at_ (Below.refl _ _)
      have hkl := hd.len
      unfold maxLen at hkl
      clear hD hd
      by_cases hbig : 60 < D.ks.length
      · go_wp2_with fail
        go_ret
        exact ⟨false, rfl, by simp, rfl⟩
      · go_wp2_with fail
        go_round
        case rel => exact ⟨k + 1, by omega, by go_num⟩
        case measure => simp [Go.RowKit.intOf]; omega
    · obtain rfl : k = l := by omega
      go_wp2_with fail
      go_ret
      exact ⟨_, rfl, fun h => (by have h2 : (k : Int) ≤ 30 := of_decide_eq_true h; omega), rfl⟩

end Go.Proofs.YtdaknfepcbooeaaGreat.Sto
