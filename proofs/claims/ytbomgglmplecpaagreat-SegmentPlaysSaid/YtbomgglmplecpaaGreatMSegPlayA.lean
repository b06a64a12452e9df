/-
  The document's Begin; the law's own functions: record, few, same.
-/
import Derived.Test.YtbomgglmplecpaaGreatMDiskRefRead
import Derived.Test.YtbomgglmplecpaaGreatMSegRef
import Derived.Test.YtbomgglmplecpaaGreatMSegBegin
import Derived.Test.YtbomgglmplecpaaGreatMSegKnows
import Derived.Test.YtbomgglmplecpaaGreatMDiskOpen
import Derived.BigQuiet
namespace Go.Proofs.YtbomgglmplecpaaGreat.Segm
open Go.RowKit
open Go.Proofs.YtbomgglmplecpaaGreat.Disk (M Sc Dk Fk Chg Dob Rob Rs Rst Bo append sync remove there rows atI Ok Inv)
set_option linter.unusedVariables false
set_option linter.unusedSimpArgs false

def RBBad (w : World) (B d : Nat) (m : M) (e : Int) (r : Ending) (w' : World) : Prop := r = .returned (.tuple #[.pointer none, .int .i64 e]) ∧ Fk w' B d m ∧ Chg B Rob w w'
def RBGood (w : World) (B d : Nat) (m : M) (f : Int) (ep : BitVec 32) (r : Ending) (w' : World) : Prop :=
  ∃ t, w.heap.size ≤ t ∧ r = .returned (.tuple #[.pointer (some ⟨t, 0, none⟩), .int .i64 0]) ∧ Fk w' B d m ∧ Rg w' t d ⟨f, ep, 0, false⟩ ∧ Chg B Rob w w'
def RBDid (w : World) (B d : Nat) (f : Int) (ep : BitVec 32) (x : Int × Bool × M) (r : Ending) (w' : World) : Prop :=
  (x.2.1 = true → RBGood w B d x.2.2 f ep r w') ∧ (x.2.1 = false → RBBad w B d x.2.2 x.1 r w')
theorem RBDid.good {w : World} {B d : Nat} {f e : Int} {ep : BitVec 32} {m : M} {r : Ending} {w' : World} (h : RBGood w B d m f ep r w') : RBDid w B d f ep (e, true, m) r w' := ⟨fun _ => h, fun h2 => (Bool.noConfusion h2)⟩
theorem RBDid.bad {w : World} {B d : Nat} {f e : Int} {ep : BitVec 32} {m : M} {r : Ending} {w' : World} (h : RBBad w B d m e r w') : RBDid w B d f ep (e, false, m) r w' := ⟨fun h2 => (Bool.noConfusion h2), fun _ => h⟩
theorem Fk_off {w : World} {B d : Nat} {m : M} (h : Fk w B d m) : w.cell? ⟨d, 3, none⟩ = some (.bool m.off) := by
  obtain ⟨A, c, lv, kv, left, h⟩ := h
  exact h.cel.cell 3
theorem at_fk {w : World} {B d : Nat} {m : M} (h : Fk w B d m) (f : Int) : Calls Tryz.prog 28 #[.pointer (some ⟨d, 0, none⟩), .int .i64 f] w fun e w' => e = .returned (.int .i64 (atI f m.files)) ∧ w = w' := by
  obtain ⟨A, c, lv, kv, left, h⟩ := h
  exact Disk.at_ok w d m.files f A c (h.cel.cell 1) h.files h.inv.few
theorem atI_ge (f : Int) (fs : List Int) (h : f ∈ fs) : decide (0 ≤ atI f fs) = true := by unfold atI; rw [if_pos h]; simp
theorem atI_lt (f : Int) (fs : List Int) (h : f ∉ fs) : atI f fs = -1 := by unfold atI; rw [if_neg h]

set_option maxRecDepth 100000 in
set_option maxHeartbeats 1000000 in
theorem rbegin_off (w : World) (B d : Nat) (m : M) (f : Int) (ep : BitVec 32) (hd : Fk w B d m) (ho : m.off = true) :
    Calls Tryz.prog 8 #[.pointer (some ⟨d, 0, none⟩), .int .i64 f, v32 ep] w (RBBad w B d m 8) := by
  have k3 := Fk_off hd
  rw [ho] at k3
  have HD := Lib.hid hd
  clear hd ho
  go_enter Tryz.func8, Tryz.ntmps8
  go_wp2_with fail
  go_ret2
  exact ⟨rfl, HD.out, Chg.refl _ _ _⟩
set_option maxRecDepth 100000 in
set_option maxHeartbeats 1000000 in
theorem rbegin_arg (w : World) (B d : Nat) (m : M) (f : Int) (ep : BitVec 32) (hd : Fk w B d m) (ho : m.off = false) (hf : f < 0) :
    Calls Tryz.prog 8 #[.pointer (some ⟨d, 0, none⟩), .int .i64 f, v32 ep] w (RBBad w B d m 1) := by
  have k3 := Fk_off hd
  rw [ho] at k3
  have HD := Lib.hid hd
  have d1 : decide (f < 0) = true := by simpa using hf
  clear hd ho
  go_enter Tryz.func8, Tryz.ntmps8
  go_wp2_with fail
  go_ret2
  exact ⟨rfl, HD.out, Chg.refl _ _ _⟩
set_option maxRecDepth 100000 in
set_option maxHeartbeats 1000000 in
theorem rbegin_fails (w : World) (B d : Nat) (m m2 : M) (f : Int) (ep : BitVec 32) (hd : Fk w B d m) (hB : B ≤ w.heap.size) (ho : m.off = false) (hf : 0 ≤ f) (hfm : f ∈ m.files) (hr : remove m f = (8, m2)) (hi : Inv m) (hok : Ok m) :
    Calls Tryz.prog 8 #[.pointer (some ⟨d, 0, none⟩), .int .i64 f, v32 ep] w (RBBad w B d m2 8) := by
  have k3 := Fk_off hd
  rw [ho] at k3
  have con := at_fk hd f
  have con2 := Disk.rremove_ok w B d m f hd hB hi hok
  rw [hr] at con2
  replace con2 : Calls Tryz.prog 29 #[.pointer (some ⟨d, 0, none⟩), .int .i64 f] w fun r w' => r = .returned (.int .i64 8) ∧ Fk w' B d m2 ∧ Chg B Rob w w' := con2
  have d1 : decide (f < 0) = false := by simp; omega
  have d2 := atI_ge f m.files hfm
  generalize atI f m.files = ai at *
  clear hd ho hf hr hfm
  go_enter Tryz.func8, Tryz.ntmps8
  go_wp2_with (first | (go_at_call 28; refine con.mono ?_; rintro e w' ⟨rfl, rfl⟩) | (go_at_call 29; refine con2.mono ?_; rintro e' w' ⟨rfl, h2, h3⟩))
  go_ret2
  exact ⟨rfl, h2, h3⟩
set_option maxRecDepth 100000 in
set_option maxHeartbeats 1000000 in
theorem rbegin_goes (w : World) (B d : Nat) (m m2 : M) (f : Int) (ep : BitVec 32) (hd : Fk w B d m) (hB : B ≤ w.heap.size) (ho : m.off = false) (hf : 0 ≤ f) (hfm : f ∈ m.files) (hr : remove m f = (0, m2)) (hi : Inv m) (hok : Ok m) :
    Calls Tryz.prog 8 #[.pointer (some ⟨d, 0, none⟩), .int .i64 f, v32 ep] w (RBGood w B d m2 f ep) := by
  have k3 := Fk_off hd
  rw [ho] at k3
  have con := at_fk hd f
  have con2 := Disk.rremove_ok w B d m f hd hB hi hok
  rw [hr] at con2
  replace con2 : Calls Tryz.prog 29 #[.pointer (some ⟨d, 0, none⟩), .int .i64 f] w fun r w' => r = .returned (.int .i64 0) ∧ Fk w' B d m2 ∧ Chg B Rob w w' := con2
  have d1 : decide (f < 0) = false := by simp; omega
  have d2 := atI_ge f m.files hfm
  generalize atI f m.files = ai at *
  clear hd ho hf hr hfm
  go_enter Tryz.func8, Tryz.ntmps8
  go_wp2_with (first | (go_at_call 28; refine con.mono ?_; rintro e w' ⟨rfl, rfl⟩) | (go_at_call 29; refine con2.mono ?_; rintro e' w' ⟨rfl, h2, h3⟩))
  have HC := Lib.hid (Cel.new w' 53 [.pointer (some ⟨d, 0, none⟩), .int .i64 f, v32 ep, .int .i64 0, .bool false])
  have HB2 := Lib.hid ((Below.refl w'.heap.size w').alloc (Nat.le_refl _) (.cells #[.pointer (some ⟨d, 0, none⟩), .int .i64 f, v32 ep, .int .i64 0, .bool false] 53))
  go_ret2
  exact ⟨w'.heap.size, h3.size, rfl, h2.below HB2.out, HC.out, h3.trans (Chg.of_below HB2.out)⟩
set_option maxRecDepth 100000 in
set_option maxHeartbeats 1000000 in
theorem rbegin_new (w : World) (B d : Nat) (m : M) (f : Int) (ep : BitVec 32) (hd : Fk w B d m) (ho : m.off = false) (hf : 0 ≤ f) (hfm : f ∉ m.files) :
    Calls Tryz.prog 8 #[.pointer (some ⟨d, 0, none⟩), .int .i64 f, v32 ep] w (RBGood w B d m f ep) := by
  have k3 := Fk_off hd
  rw [ho] at k3
  have con := at_fk hd f
  rw [atI_lt f m.files hfm] at con
  have d1 : decide (f < 0) = false := by simp; omega
  have HD := Lib.hid hd
  clear hd ho hf hfm
  go_enter Tryz.func8, Tryz.ntmps8
  go_wp2_with ((go_at_call 28; refine con.mono ?_; rintro e w' ⟨rfl, rfl⟩))
  have HC := Lib.hid (Cel.new w 53 [.pointer (some ⟨d, 0, none⟩), .int .i64 f, v32 ep, .int .i64 0, .bool false])
  have HB2 := Lib.hid ((Below.refl w.heap.size w).alloc (Nat.le_refl _) (.cells #[.pointer (some ⟨d, 0, none⟩), .int .i64 f, v32 ep, .int .i64 0, .bool false] 53))
  go_ret2
  exact ⟨w.heap.size, Nat.le_refl _, rfl, HD.out.below HB2.out, HC.out, Chg.of_below HB2.out⟩
/-- The document's Begin. -/
theorem rbegin_seg (w : World) (B d : Nat) (m : M) (f : Int) (ep : BitVec 32) (hd : Fk w B d m) (hB : B ≤ w.heap.size) (hi : Inv m) (hok : Ok m) :
    Calls Tryz.prog 8 #[.pointer (some ⟨d, 0, none⟩), .int .i64 f, v32 ep] w (RBDid w B d f ep (beginS m f)) := by
  unfold beginS
  cases ho : m.off
  · rw [if_neg (by simp)]
    by_cases h1 : f < 0
    · rw [if_pos h1]
      exact (rbegin_arg w B d m f ep hd ho h1).mono fun _ _ h => RBDid.bad h
    · rw [if_neg h1]
      by_cases h2 : f ∈ m.files
      · rw [if_pos h2]
        have h5 : there m f = 0 := by unfold there; rw [ho, if_neg (by simp), if_pos h2]
        cases h6 : Disk.fails m
        · rw [if_pos (by rw [Disk.remove_goes h5 h6]), Disk.remove_goes h5 h6]
          exact (rbegin_goes w B d m _ f ep hd hB ho (by omega) h2 (Disk.remove_goes h5 h6) hi hok).mono fun _ _ h => RBDid.good h
        · rw [if_neg (by rw [Disk.remove_fails h5 h6]; show ¬ (8 : Int) = 0; decide), Disk.remove_fails h5 h6]
          exact (rbegin_fails w B d m _ f ep hd hB ho (by omega) h2 (Disk.remove_fails h5 h6) hi hok).mono fun _ _ h => RBDid.bad h
      · rw [if_neg h2]
        exact (rbegin_new w B d m f ep hd ho (by omega) h2).mono fun _ _ h => RBDid.good h
  · rw [if_pos rfl]
    exact (rbegin_off w B d m f ep hd ho).mono fun _ _ h => RBDid.bad h

/-! record -/
/-- Bytes in a row of the call's own. -/
def Recs (w : World) (r : Ending) (w' : World) : Prop := ∃ A n c bs, r = .returned (.slice A n c) ∧ By w' A n bs ∧ n ≤ c ∧ c ≤ maxLen ∧ Below w.heap.size w w'
theorem u8_some (z : Int) (h : 0 ≤ z ∧ z < 256) : ∃ y : BitVec 8, (Value.int .u8 z) = v8 y := by
  refine ⟨BitVec.ofNat 8 z.toNat, ?_⟩
  unfold v8
  rw [BitVec.toNat_ofNat, Nat.mod_eq_of_lt (by omega)]
  congr 1
  omega
theorem cel_by {w : World} {g n : Nat} {bs : List (BitVec 8)} (h : Cel w g 5 (bs.map v8)) (hn : bs.length = n) : By w (some ⟨g, 0, none⟩) n bs :=
  ⟨hn, fun h0 => ⟨_, rfl, ⟨_, _, h⟩, fun j hj => by
    rw [add_row, h.cell j, List.getElem?_map, List.getElem?_eq_getElem (by rw [hn]; exact hj), List.getD_eq_getElem?_getD, List.getElem?_eq_getElem (by rw [hn]; exact hj)]
    rfl⟩⟩

set_option maxRecDepth 100000 in
set_option maxHeartbeats 1000000 in
theorem record_neg (w : World) (n : Int) (b : BitVec 8) (hn : n < 0) : Calls Tryz.prog 9 #[.int .i64 n, v8 b] w (Recs w) := by
  have d1 : decide (n < 0) = true := by simpa using hn
  have hbb := b.isLt
  obtain ⟨zs, hz⟩ : ∃ zs, zs = List.replicate 0 (v8 0#8) := ⟨_, rfl⟩
  have hmk : (Instr.makeSlice 44 (.int .i64 0) (.int .i64 0)).run Tryz.prog w = .ok (.slice (some ⟨w.heap.size, 0, none⟩) 0 0) (w.alloc (.cells zs.toArray 5)) := by
    rw [hz]
    exact run_make_bytes (P := Tryz.prog) w 44 5 Disk.bytesT0 .i64 .i64 0 (by omega)
  have hcl := Cel.new w 5 zs
  have HC := Lib.hid hcl
  have HZ := Lib.hid hz
  clear hz hcl
  go_enter Tryz.func9, Tryz.ntmps9
  go_wp2_with fail
  clear hmk
  have hb0 : Below w.heap.size w (w.alloc (.cells zs.toArray 5)) := (Below.refl _ _).alloc (Nat.le_refl _) _
  have HB0 := Lib.hid hb0
  clear hb0
  go_loopw [6] (fun i wr => ∃ k : Nat, k ≤ 0 ∧ i = .int .i64 (k : Int) ∧ ∃ bs : List (BitVec 8), bs.length = 0 ∧ Cel wr w.heap.size 5 (bs.map v8) ∧ Below w.heap.size w wr) (fun i _ => 0 - (intOf i).toNat)
  case atStart => exact ⟨0, Nat.zero_le _, rfl, List.replicate 0 0#8, List.length_replicate .., by rw [List.map_replicate, ← HZ.out]; exact HC.out, HB0.out⟩
  case round =>
    obtain ⟨k, hk, rfl, bs, hbl, hc, hb⟩ := hrel
    have HC2 := Lib.hid hc
    have HBL := Lib.hid hbl
    have HB := Lib.hid hb
    clear hb hbl
    by_cases hlt : k < 0
    · exact absurd hlt (Nat.not_lt_zero _)
    · obtain rfl : k = 0 := by omega
      clear hc
      go_wp2_with fail
      go_ret
      exact ⟨_, _, _, bs, rfl, cel_by HC2.out HBL.out, Nat.le_refl _, by unfold maxLen; omega, HB.out⟩
set_option maxRecDepth 100000 in
set_option maxHeartbeats 1000000 in
theorem record_big (w : World) (n : Int) (b : BitVec 8) (hn : 2000 < n) : Calls Tryz.prog 9 #[.int .i64 n, v8 b] w (Recs w) := by
  have d1 : decide (n < 0) = false := by simp; omega
  have d2 : decide (2000 < n) = true := by simpa using hn
  have hbb := b.isLt
  obtain ⟨zs, hz⟩ : ∃ zs, zs = List.replicate 9861 (v8 0#8) := ⟨_, rfl⟩
  have hmk : (Instr.makeSlice 44 (.int .i64 9861) (.int .i64 9861)).run Tryz.prog w = .ok (.slice (some ⟨w.heap.size, 0, none⟩) 9861 9861) (w.alloc (.cells zs.toArray 5)) := by
    rw [hz]
    exact run_make_bytes (P := Tryz.prog) w 44 5 Disk.bytesT0 .i64 .i64 9861 (by omega)
  have hcl := Cel.new w 5 zs
  have HC := Lib.hid hcl
  have HZ := Lib.hid hz
  clear hz hcl
  go_enter Tryz.func9, Tryz.ntmps9
  go_wp2_with fail
  clear hmk
  have hb0 : Below w.heap.size w (w.alloc (.cells zs.toArray 5)) := (Below.refl _ _).alloc (Nat.le_refl _) _
  have HB0 := Lib.hid hb0
  clear hb0
  go_loopw [6] (fun i wr => ∃ k : Nat, k ≤ 9861 ∧ i = .int .i64 (k : Int) ∧ ∃ bs : List (BitVec 8), bs.length = 9861 ∧ Cel wr w.heap.size 5 (bs.map v8) ∧ Below w.heap.size w wr) (fun i _ => 9861 - (intOf i).toNat)
  case atStart => exact ⟨0, Nat.zero_le _, rfl, List.replicate 9861 0#8, List.length_replicate .., by rw [List.map_replicate, ← HZ.out]; exact HC.out, HB0.out⟩
  case round =>
    obtain ⟨k, hk, rfl, bs, hbl, hc, hb⟩ := hrel
    have HC2 := Lib.hid hc
    have HBL := Lib.hid hbl
    have HB := Lib.hid hb
    clear hb hbl
    by_cases hlt : k < 9861
    · have hcell : ∃ v, wr.cell? ⟨w.heap.size, k, none⟩ = some v := by
        rw [hc.cell k, List.getElem?_map, List.getElem?_eq_getElem (by rw [HBL.out]; exact hlt)]
        exact ⟨_, rfl⟩
      obtain ⟨v0, hcell⟩ := hcell
      have hfz := hc.free k
      have HSET := Lib.hid (fun u => hc.set k u)
      clear hc
      go_wp2_with fail
      obtain ⟨y, hy⟩ := u8_some (((b.toNat : Int) + (k : Int)) % 256) (by omega)
      rw [hy]
      go_roundw
      case rel =>
        refine ⟨k + 1, by omega, by go_num, bs.set k y, by rw [List.length_set]; exact HBL.out, ?_, HB.out.setCell (Nat.le_refl _) _⟩
        rw [List.map_set]
        exact HSET.out (v8 y)
      case measure => simp [intOf]; omega
    · obtain rfl : k = 9861 := by omega
      clear hc
      go_wp2_with fail
      go_ret
      exact ⟨_, _, _, bs, rfl, cel_by HC2.out HBL.out, Nat.le_refl _, by unfold maxLen; omega, HB.out⟩
set_option maxRecDepth 100000 in
set_option maxHeartbeats 1000000 in
theorem record_mid (w : World) (n : Nat) (b : BitVec 8) (hn : n ≤ 2000) : Calls Tryz.prog 9 #[.int .i64 (n : Int), v8 b] w (Recs w) := by
  have hbb := b.isLt
  obtain ⟨zs, hz⟩ : ∃ zs, zs = List.replicate n (v8 0#8) := ⟨_, rfl⟩
  have hmk : (Instr.makeSlice 44 (.int .i64 (n : Int)) (.int .i64 (n : Int))).run Tryz.prog w = .ok (.slice (some ⟨w.heap.size, 0, none⟩) n n) (w.alloc (.cells zs.toArray 5)) := by
    rw [hz]
    exact run_make_bytes (P := Tryz.prog) w 44 5 Disk.bytesT0 .i64 .i64 n (by omega)
  have hcl := Cel.new w 5 zs
  have HC := Lib.hid hcl
  have HZ := Lib.hid hz
  clear hz hcl
  go_enter Tryz.func9, Tryz.ntmps9
  go_wp2_with fail
  clear hmk
  have hb0 : Below w.heap.size w (w.alloc (.cells zs.toArray 5)) := (Below.refl _ _).alloc (Nat.le_refl _) _
  have HB0 := Lib.hid hb0
  clear hb0
  go_loopw [6] (fun i wr => ∃ k : Nat, k ≤ n ∧ i = .int .i64 (k : Int) ∧ ∃ bs : List (BitVec 8), bs.length = n ∧ Cel wr w.heap.size 5 (bs.map v8) ∧ Below w.heap.size w wr) (fun i _ => n - (intOf i).toNat)
  case atStart => exact ⟨0, Nat.zero_le _, rfl, List.replicate n 0#8, List.length_replicate .., by rw [List.map_replicate, ← HZ.out]; exact HC.out, HB0.out⟩
  case round =>
    obtain ⟨k, hk, rfl, bs, hbl, hc, hb⟩ := hrel
    have HC2 := Lib.hid hc
    have HBL := Lib.hid hbl
    have HB := Lib.hid hb
    clear hb hbl
    by_cases hlt : k < n
    · have hcell : ∃ v, wr.cell? ⟨w.heap.size, k, none⟩ = some v := by
        rw [hc.cell k, List.getElem?_map, List.getElem?_eq_getElem (by rw [HBL.out]; exact hlt)]
        exact ⟨_, rfl⟩
      obtain ⟨v0, hcell⟩ := hcell
      have hfz := hc.free k
      have HSET := Lib.hid (fun u => hc.set k u)
      clear hc
      go_wp2_with fail
      obtain ⟨y, hy⟩ := u8_some (((b.toNat : Int) + (k : Int)) % 256) (by omega)
      rw [hy]
      go_roundw
      case rel =>
        refine ⟨k + 1, by omega, by go_num, bs.set k y, by rw [List.length_set]; exact HBL.out, ?_, HB.out.setCell (Nat.le_refl _) _⟩
        rw [List.map_set]
        exact HSET.out (v8 y)
      case measure => simp [intOf]; omega
    · obtain rfl : k = n := by omega
      clear hc
      go_wp2_with fail
      go_ret
      exact ⟨_, _, _, bs, rfl, cel_by HC2.out HBL.out, Nat.le_refl _, by unfold maxLen; omega, HB.out⟩
theorem record_ok (w : World) (n : Int) (b : BitVec 8) : Calls Tryz.prog 9 #[.int .i64 n, v8 b] w (Recs w) := by
  by_cases h1 : n < 0
  · exact record_neg w n b h1
  · by_cases h2 : 2000 < n
    · exact record_big w n b h2
    · obtain ⟨k, rfl⟩ : ∃ k : Nat, n = (k : Int) := ⟨n.toNat, by omega⟩
      exact record_mid w k b (by omega)
end Go.Proofs.YtbomgglmplecpaaGreat.Segm
