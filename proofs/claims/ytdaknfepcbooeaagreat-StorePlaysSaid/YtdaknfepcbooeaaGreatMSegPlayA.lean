/-
  The document's Begin; the law's own functions: record, few, same.
-/
import Derived.Test.YtdaknfepcbooeaaGreatMSegC
import Derived.Test.YtdaknfepcbooeaaGreatMDiskE
import Derived.Test.YtdaknfepcbooeaaGreatMStoE
import Derived.Test.YtdaknfepcbooeaaGreatMSegB
import Derived.BigQuiet
namespace Go.Proofs.YtdaknfepcbooeaaGreat.Segm
open Go.RowKit
open Go.Proofs.YtdaknfepcbooeaaGreat.Disk (M Sc Dk Fk Chg Dob Rob Rs Rst Bo append sync remove there rows atI Ok Inv)
set_option linter.unusedVariables false
set_option linter.unusedSimpArgs false

def RBBad (w : World) (B d : Nat) (m : M) (e : Int) (r : Ending) (w' : World) : Prop := r = .returned (.tuple #[.pointer none, .int .i64 e]) ∧ Fk w' B d m ∧ Chg B Rob w w'
def RBGood (w : World) (B d : Nat) (m : M) (f : Int) (ep : BitVec 32) (r : Ending) (w' : World) : Prop :=
  ∃ t, w.heap.size ≤ t ∧ r = .returned (.tuple #[.pointer (some ⟨t, 0, none⟩), .int .i64 0]) ∧ Fk w' B d m ∧ Rg w' t d ⟨f, ep, 0, false⟩ ∧ Chg B Rob w w'
def RBDid (w : World) (B d : Nat) (f : Int) (ep : BitVec 32) (x : Int × Bool × M) (r : Ending) (w' : World) : Prop :=
  (x.2.1 = true → RBGood w B d x.2.2 f ep r w') ∧ (x.2.1 = false → RBBad w B d x.2.2 x.1 r w')
theorem RBDid.good {w : World} {B d : Nat} {f e : Int} {ep : BitVec 32} {m : M} {r : Ending} {w' : World} (h : RBGood w B d m f ep r w') : RBDid w B d f ep (e, true, m) r w' := ⟨fun _ => h, fun h2 => (Bool.noConfusion h2)⟩
theorem RBDid.bad {w : World} {B d : Nat} {f e : Int} {ep : BitVec 32} {m : M} {r : Ending} {w' : World} (h : RBBad w B d m e r w') : RBDid w B d f ep (e, false, m) r w' := ⟨fun h2 => (Bool.noConfusion h2), fun _ => h⟩
theorem Fk_off {w : World} {B d : Nat} {m : M} (h : Fk w B d m) : w.cell? ⟨d, 3, none⟩ = some (.bool m.off) := by
  obtain ⟨A, c, lv, kv, left, h⟩ := h
  exact h.cel.cell 3
theorem at_fk {w : World} {B d : Nat} {m : M} (h : Fk w B d m) (f : Int) : Calls Tryz.prog 32 #[.pointer (some ⟨d, 0, none⟩), .int .i64 f] w fun e w' => e = .returned (.int .i64 (atI f m.files)) ∧ w = w' := by
  obtain ⟨A, c, lv, kv, left, h⟩ := h
  exact Disk.at_ok w d m.files f A c (h.cel.cell 1) h.files h.inv.few
theorem atI_ge (f : Int) (fs : List Int) (h : f ∈ fs) : decide (0 ≤ atI f fs) = true := by unfold atI; rw [if_pos h]; simp
theorem atI_lt (f : Int) (fs : List Int) (h : f ∉ fs) : atI f fs = -1 := by unfold atI; rw [if_neg h]

set_option maxRecDepth 100000 in
set_option maxHeartbeats 1000000 in
theorem rbegin_off (w : World) (B d : Nat) (m : M) (f : Int) (ep : BitVec 32) (hd : Fk w B d m) (ho : m.off = true) :
    Calls Tryz.prog 76 #[.pointer (some ⟨d, 0, none⟩), .int .i64 f, v32 ep] w (RBBad w B d m 8) := by
  have k3 := Fk_off hd
  rw [ho] at k3
  have HD := Lib.hid hd
  clear hd ho
  go_enter Tryz.func76, Tryz.ntmps76
  go_wp2_with fail
  go_ret2
  exact ⟨rfl, HD.out, Chg.refl _ _ _⟩
set_option maxRecDepth 100000 in
set_option maxHeartbeats 1000000 in
theorem rbegin_arg (w : World) (B d : Nat) (m : M) (f : Int) (ep : BitVec 32) (hd : Fk w B d m) (ho : m.off = false) (hf : f < 0) :
    Calls Tryz.prog 76 #[.pointer (some ⟨d, 0, none⟩), .int .i64 f, v32 ep] w (RBBad w B d m 1) := by
  have k3 := Fk_off hd
  rw [ho] at k3
  have HD := Lib.hid hd
  have d1 : decide (f < 0) = true := by simpa using hf
  clear hd ho
  go_enter Tryz.func76, Tryz.ntmps76
  go_wp2_with fail
  go_ret2
  exact ⟨rfl, HD.out, Chg.refl _ _ _⟩
set_option maxRecDepth 100000 in
set_option maxHeartbeats 1000000 in
theorem rbegin_fails (w : World) (B d : Nat) (m m2 : M) (f : Int) (ep : BitVec 32) (hd : Fk w B d m) (hB : B ≤ w.heap.size) (ho : m.off = false) (hf : 0 ≤ f) (hfm : f ∈ m.files) (hr : remove m f = (8, m2)) (hi : Inv m) (hok : Ok m) :
    Calls Tryz.prog 76 #[.pointer (some ⟨d, 0, none⟩), .int .i64 f, v32 ep] w (RBBad w B d m2 8) := by
  have k3 := Fk_off hd
  rw [ho] at k3
  have con := at_fk hd f
  have con2 := Disk.rremove_ok w B d m f hd hB hi hok
  rw [hr] at con2
  replace con2 : Calls Tryz.prog 77 #[.pointer (some ⟨d, 0, none⟩), .int .i64 f] w fun r w' => r = .returned (.int .i64 8) ∧ Fk w' B d m2 ∧ Chg B Rob w w' := con2
  have d1 : decide (f < 0) = false := by simp; omega
  have d2 := atI_ge f m.files hfm
  generalize atI f m.files = ai at *
  clear hd ho hf hr hfm
  go_enter Tryz.func76, Tryz.ntmps76
  go_wp2_with (first | (go_at_call 32; refine con.mono ?_; rintro e w' ⟨rfl, rfl⟩) | (go_at_call 77; refine con2.mono ?_; rintro e' w' ⟨rfl, h2, h3⟩))
  go_ret2
  exact ⟨rfl, h2, h3⟩
set_option maxRecDepth 100000 in
set_option maxHeartbeats 1000000 in
theorem rbegin_goes (w : World) (B d : Nat) (m m2 : M) (f : Int) (ep : BitVec 32) (hd : Fk w B d m) (hB : B ≤ w.heap.size) (ho : m.off = false) (hf : 0 ≤ f) (hfm : f ∈ m.files) (hr : remove m f = (0, m2)) (hi : Inv m) (hok : Ok m) :
    Calls Tryz.prog 76 #[.pointer (some ⟨d, 0, none⟩), .int .i64 f, v32 ep] w (RBGood w B d m2 f ep) := by
  have k3 := Fk_off hd
  rw [ho] at k3
  have con := at_fk hd f
  have con2 := Disk.rremove_ok w B d m f hd hB hi hok
  rw [hr] at con2
  replace con2 : Calls Tryz.prog 77 #[.pointer (some ⟨d, 0, none⟩), .int .i64 f] w fun r w' => r = .returned (.int .i64 0) ∧ Fk w' B d m2 ∧ Chg B Rob w w' := con2
  have d1 : decide (f < 0) = false := by simp; omega
  have d2 := atI_ge f m.files hfm
  generalize atI f m.files = ai at *
  clear hd ho hf hr hfm
  go_enter Tryz.func76, Tryz.ntmps76
  go_wp2_with (first | (go_at_call 32; refine con.mono ?_; rintro e w' ⟨rfl, rfl⟩) | (go_at_call 77; refine con2.mono ?_; rintro e' w' ⟨rfl, h2, h3⟩))
  have HC := Lib.hid (Cel.new w' 96 [.pointer (some ⟨d, 0, none⟩), .int .i64 f, v32 ep, .int .i64 0, .bool false])
  have HB2 := Lib.hid ((Below.refl w'.heap.size w').alloc (Nat.le_refl _) (.cells #[.pointer (some ⟨d, 0, none⟩), .int .i64 f, v32 ep, .int .i64 0, .bool false] 96))
  go_ret2
  exact ⟨w'.heap.size, h3.size, rfl, h2.below HB2.out, HC.out, h3.trans (Chg.of_below HB2.out)⟩
set_option maxRecDepth 100000 in
set_option maxHeartbeats 1000000 in
theorem rbegin_new (w : World) (B d : Nat) (m : M) (f : Int) (ep : BitVec 32) (hd : Fk w B d m) (ho : m.off = false) (hf : 0 ≤ f) (hfm : f ∉ m.files) :
    Calls Tryz.prog 76 #[.pointer (some ⟨d, 0, none⟩), .int .i64 f, v32 ep] w (RBGood w B d m f ep) := by
  have k3 := Fk_off hd
  rw [ho] at k3
  have con := at_fk hd f
  rw [atI_lt f m.files hfm] at con
  have d1 : decide (f < 0) = false := by simp; omega
  have HD := Lib.hid hd
  clear hd ho hf hfm
  go_enter Tryz.func76, Tryz.ntmps76
  go_wp2_with ((go_at_call 32; refine con.mono ?_; rintro e w' ⟨rfl, rfl⟩))
  have HC := Lib.hid (Cel.new w 96 [.pointer (some ⟨d, 0, none⟩), .int .i64 f, v32 ep, .int .i64 0, .bool false])
  have HB2 := Lib.hid ((Below.refl w.heap.size w).alloc (Nat.le_refl _) (.cells #[.pointer (some ⟨d, 0, none⟩), .int .i64 f, v32 ep, .int .i64 0, .bool false] 96))
  go_ret2
  exact ⟨w.heap.size, Nat.le_refl _, rfl, HD.out.below HB2.out, HC.out, Chg.of_below HB2.out⟩
/-- The document's Begin. -/
theorem rbegin_seg (w : World) (B d : Nat) (m : M) (f : Int) (ep : BitVec 32) (hd : Fk w B d m) (hB : B ≤ w.heap.size) (hi : Inv m) (hok : Ok m) :
    Calls Tryz.prog 76 #[.pointer (some ⟨d, 0, none⟩), .int .i64 f, v32 ep] w (RBDid w B d f ep (beginS m f)) := by
  unfold beginS
  cases ho : m.off
  · rw [if_neg (by simp)]
    by_cases h1 : f < 0
    · rw [if_pos h1]
      exact (rbegin_arg w B d m f ep hd ho h1).mono fun _ _ h => RBDid.bad h
    · rw [if_neg h1]
      by_cases h2 : f ∈ m.files
      · rw [if_pos h2]
        have h5 : there m f = 0 := by unfold there; rw [ho, if_neg (by simp), if_pos h2]
        cases h6 : Disk.fails m
        · rw [if_pos (by rw [Disk.remove_goes h5 h6]), Disk.remove_goes h5 h6]
          exact (rbegin_goes w B d m _ f ep hd hB ho (by omega) h2 (Disk.remove_goes h5 h6) hi hok).mono fun _ _ h => RBDid.good h
        · rw [if_neg (by rw [Disk.remove_fails h5 h6]; show ¬ (8 : Int) = 0; decide), Disk.remove_fails h5 h6]
          exact (rbegin_fails w B d m _ f ep hd hB ho (by omega) h2 (Disk.remove_fails h5 h6) hi hok).mono fun _ _ h => RBDid.bad h
      · rw [if_neg h2]
        exact (rbegin_new w B d m f ep hd ho (by omega) h2).mono fun _ _ h => RBDid.good h
  · rw [if_pos rfl]
    exact (rbegin_off w B d m f ep hd ho).mono fun _ _ h => RBDid.bad h

/-! record -/
/-- Bytes in a row of the call's own. -/
def Recs (w : World) (r : Ending) (w' : World) : Prop := ∃ A n c bs, r = .returned (.slice A n c) ∧ By w' A n bs ∧ n ≤ c ∧ c ≤ maxLen ∧ Below w.heap.size w w'
theorem u8_some (z : Int) (h : 0 ≤ z ∧ z < 256) : ∃ y : BitVec 8, (Value.int .u8 z) = v8 y := by
  refine ⟨BitVec.ofNat 8 z.toNat, ?_⟩
  unfold v8
  rw [BitVec.toNat_ofNat, Nat.mod_eq_of_lt (by omega)]
  congr 1
  omega
end Go.Proofs.YtdaknfepcbooeaaGreat.Segm
