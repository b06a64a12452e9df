/-
  The program's segment: Begin.
-/
import Derived.Test.YtdaknfepcbooeaaGreatMSegAppend
namespace Go.Proofs.YtdaknfepcbooeaaGreat.Segm
open Go.RowKit
open Go.Proofs.YtdaknfepcbooeaaGreat.Disk (M Dk Chg Dob Bn Did append sync remove there)
set_option linter.unusedVariables false
set_option linter.unusedSimpArgs false

def BBad (w : World) (B d : Nat) (m : M) (e : Int) (r : Ending) (w' : World) : Prop := r = .returned (.tuple #[.pointer none, .int .i64 e]) ∧ Dk w' B d m ∧ Chg B Dob w w'
def BGood (w : World) (B d : Nat) (m : M) (f : Int) (ep : BitVec 32) (r : Ending) (w' : World) : Prop :=
  ∃ s, w.heap.size ≤ s ∧ r = .returned (.tuple #[.pointer (some ⟨s, 0, none⟩), .int .i64 0]) ∧ Dk w' B d m ∧ Sg w' s d ⟨f, ep, 0, false⟩ ∧ Chg B Dob w w'
/-- What Begin returns, and what the disk is then. -/
def BDid (w : World) (B d : Nat) (f : Int) (ep : BitVec 32) (x : Int × Bool × M) (r : Ending) (w' : World) : Prop :=
  (x.2.1 = true → BGood w B d x.2.2 f ep r w') ∧ (x.2.1 = false → BBad w B d x.2.2 x.1 r w')
theorem BDid.good {w : World} {B d : Nat} {f e : Int} {ep : BitVec 32} {m : M} {r : Ending} {w' : World} (h : BGood w B d m f ep r w') : BDid w B d f ep (e, true, m) r w' := ⟨fun _ => h, fun h2 => (Bool.noConfusion h2)⟩
theorem BDid.bad {w : World} {B d : Nat} {f e : Int} {ep : BitVec 32} {m : M} {r : Ending} {w' : World} (h : BBad w B d m e r w') : BDid w B d f ep (e, false, m) r w' := ⟨fun h2 => (Bool.noConfusion h2), fun _ => h⟩
theorem Dk_on {w : World} {B d : Nat} {m : M} (h : Dk w B d m) : w.cell? ⟨d, 1, none⟩ = some (.bool (!m.off)) := by
  obtain ⟨b, vs, kv, h⟩ := h
  exact h.cel.cell 1

set_option maxRecDepth 100000 in
set_option maxHeartbeats 1000000 in
theorem begin_off (w : World) (B d : Nat) (m : M) (f : Int) (ep : BitVec 32) (hd : Dk w B d m) (ho : m.off = true) :
    Calls Tryz.prog 65 #[.pointer (some ⟨d, 0, none⟩), .int .i64 f, v32 ep] w (BBad w B d m 8) := by
  have con := Disk.on_cell w d false (by rw [Dk_on hd, ho]; rfl)
  have HD := Lib.hid hd
  clear hd ho
  go_enter Tryz.func65, Tryz.ntmps65
  go_wp2_with ((go_at_call 30; refine con.mono ?_; rintro e w' ⟨rfl, rfl⟩))
  go_ret2
  exact ⟨rfl, HD.out, Chg.refl _ _ _⟩
set_option maxRecDepth 100000 in
set_option maxHeartbeats 1000000 in
theorem begin_arg (w : World) (B d : Nat) (m : M) (f : Int) (ep : BitVec 32) (hd : Dk w B d m) (ho : m.off = false) (hf : f < 0) :
    Calls Tryz.prog 65 #[.pointer (some ⟨d, 0, none⟩), .int .i64 f, v32 ep] w (BBad w B d m 1) := by
  have con := Disk.on_cell w d true (by rw [Dk_on hd, ho]; rfl)
  have HD := Lib.hid hd
  have d1 : decide (f < 0) = true := by simpa using hf
  clear hd ho
  go_enter Tryz.func65, Tryz.ntmps65
  go_wp2_with ((go_at_call 30; refine con.mono ?_; rintro e w' ⟨rfl, rfl⟩))
  go_ret2
  exact ⟨rfl, HD.out, Chg.refl _ _ _⟩
set_option maxRecDepth 100000 in
set_option maxHeartbeats 1000000 in
theorem begin_fails (w : World) (B d : Nat) (m m2 : M) (f : Int) (ep : BitVec 32) (hd : Dk w B d m) (hB : B ≤ w.heap.size) (ho : m.off = false) (hf : 0 ≤ f ∧ f < 9223372036854775808) (hr : remove m f = (8, m2)) :
    Calls Tryz.prog 65 #[.pointer (some ⟨d, 0, none⟩), .int .i64 f, v32 ep] w (BBad w B d m2 8) := by
  have con := Disk.on_cell w d true (by rw [Dk_on hd, ho]; rfl)
  have con2 := Disk.remove_call w B d m f ⟨by omega, hf.2⟩ hd hB
  rw [hr] at con2
  replace con2 : Calls Tryz.prog 98 #[.pointer (some ⟨d, 0, none⟩), .int .i64 f] w fun r w' => r = .returned (.int .i64 8) ∧ Dk w' B d m2 ∧ Chg B Dob w w' := con2
  have d1 : decide (f < 0) = false := by simp; omega
  clear hd ho hf hr
  go_enter Tryz.func65, Tryz.ntmps65
  go_wp2_with (first | (go_at_call 30; refine con.mono ?_; rintro e w' ⟨rfl, rfl⟩) | (go_at_call 98; refine con2.mono ?_; rintro e' w' ⟨rfl, h2, h3⟩))
  go_ret2
  exact ⟨rfl, h2, h3⟩
set_option maxRecDepth 100000 in
set_option maxHeartbeats 1000000 in
theorem begin_goes (w : World) (B d : Nat) (m m2 : M) (f e : Int) (ep : BitVec 32) (hd : Dk w B d m) (hB : B ≤ w.heap.size) (ho : m.off = false) (hf : 0 ≤ f ∧ f < 9223372036854775808) (hr : remove m f = (e, m2)) (h04 : e = 0 ∨ e = 4) :
    Calls Tryz.prog 65 #[.pointer (some ⟨d, 0, none⟩), .int .i64 f, v32 ep] w (BGood w B d m2 f ep) := by
  have con := Disk.on_cell w d true (by rw [Dk_on hd, ho]; rfl)
  have con2 := Disk.remove_call w B d m f ⟨by omega, hf.2⟩ hd hB
  rw [hr] at con2
  replace con2 : Calls Tryz.prog 98 #[.pointer (some ⟨d, 0, none⟩), .int .i64 f] w fun r w' => r = .returned (.int .i64 e) ∧ Dk w' B d m2 ∧ Chg B Dob w w' := con2
  have d1 : decide (f < 0) = false := by simp; omega
  clear hd ho hf hr
  rcases h04 with rfl | rfl
  · go_enter Tryz.func65, Tryz.ntmps65
    go_wp2_with (first | (go_at_call 30; refine con.mono ?_; rintro e w' ⟨rfl, rfl⟩) | (go_at_call 98; refine con2.mono ?_; rintro e' w' ⟨rfl, h2, h3⟩))
    have HC := Lib.hid (Cel.new w' 120 [addV d, syncV d, .int .i64 f, v32 ep, .int .i64 0])
    have HB2 := Lib.hid ((Below.refl w'.heap.size w').alloc (Nat.le_refl _) (.cells #[addV d, syncV d, .int .i64 f, v32 ep, .int .i64 0] 120))
    go_ret2
    exact ⟨w'.heap.size, h3.size, rfl, h2.below HB2.out, HC.out, h3.trans (Chg.of_below HB2.out)⟩
  · go_enter Tryz.func65, Tryz.ntmps65
    go_wp2_with (first | (go_at_call 30; refine con.mono ?_; rintro e w' ⟨rfl, rfl⟩) | (go_at_call 98; refine con2.mono ?_; rintro e' w' ⟨rfl, h2, h3⟩))
    have HC := Lib.hid (Cel.new w' 120 [addV d, syncV d, .int .i64 f, v32 ep, .int .i64 0])
    have HB2 := Lib.hid ((Below.refl w'.heap.size w').alloc (Nat.le_refl _) (.cells #[addV d, syncV d, .int .i64 f, v32 ep, .int .i64 0] 120))
    go_ret2
    exact ⟨w'.heap.size, h3.size, rfl, h2.below HB2.out, HC.out, h3.trans (Chg.of_below HB2.out)⟩
/-- The program's Begin. -/
theorem begin_seg (w : World) (B d : Nat) (m : M) (f : Int) (ep : BitVec 32) (hd : Dk w B d m) (hB : B ≤ w.heap.size) (hf : f < 9223372036854775808) :
    Calls Tryz.prog 65 #[.pointer (some ⟨d, 0, none⟩), .int .i64 f, v32 ep] w (BDid w B d f ep (beginS m f)) := by
  unfold beginS
  cases ho : m.off
  · rw [if_neg (by simp)]
    by_cases h1 : f < 0
    · rw [if_pos h1]
      exact (begin_arg w B d m f ep hd ho h1).mono fun _ _ h => BDid.bad h
    · rw [if_neg h1]
      by_cases h2 : f ∈ m.files
      · rw [if_pos h2]
        by_cases h3 : (remove m f).1 = 0
        · rw [if_pos h3]
          exact (begin_goes w B d m (remove m f).2 f (remove m f).1 ep hd hB ho ⟨by omega, hf⟩ rfl (.inl h3)).mono fun _ _ h => BDid.good h
        · rw [if_neg h3]
          have h5 : there m f = 0 := by unfold there; rw [ho, if_neg (by simp), if_pos h2]
          cases h6 : Disk.fails m
          · rw [Disk.remove_goes h5 h6] at h3; exact absurd rfl h3
          · rw [Disk.remove_fails h5 h6]
            exact (begin_fails w B d m (Disk.stepped m) f ep hd hB ho ⟨by omega, hf⟩ (Disk.remove_fails h5 h6)).mono fun _ _ h => BDid.bad h
      · rw [if_neg h2]
        have h5 : there m f = 4 := by unfold there; rw [ho, if_neg (by simp), if_neg h2]
        have h6 : remove m f = (4, m) := by rw [Disk.remove_not (by rw [h5]; decide), h5]
        exact (begin_goes w B d m m f 4 ep hd hB ho ⟨by omega, hf⟩ h6 (.inr rfl)).mono fun _ _ h => BDid.good h
  · rw [if_pos rfl]
    exact (begin_off w B d m f ep hd ho).mono fun _ _ h => BDid.bad h
end Go.Proofs.YtdaknfepcbooeaaGreat.Segm
