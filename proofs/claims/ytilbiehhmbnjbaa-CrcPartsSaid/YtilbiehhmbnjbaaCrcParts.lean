/-
  The walk of davitlaw01.CrcParts: it answers true, whatever comes in.
-/
import Derived.Test.YtilbiehhmbnjbaaCrcWalks
import Derived.Test.YtilbiehhmbnjbaaAppend
import Derived.Deep.QuietTactic
import Derived.BigQuiet
import Derived.Deep.DeepFit
import Derived.Deep.DeepMust
namespace Go.Proofs.Ytilbiehhmbnjbaa.Crc
open Go.RowKit
set_option linter.unusedVariables false

theorem bytesT : ByteRow Try.prog 23 5 := ByteRow.mk' Try.underlying23 (by kernel_rfl)

set_option maxRecDepth 100000 in
set_option maxHeartbeats 400000 in
theorem parts_walk (r : BitVec 32) (A1 : Option Addr) (n1 c1 : Nat) (b1 : List (BitVec 8)) (A2 : Option Addr) (n2 c2 : Nat) (b2 : List (BitVec 8)) (w : World)
    (h1 : Bs w w.heap.size A1 n1 b1) (m1 : n1 ≤ maxLen) (h2 : Bs w w.heap.size A2 n2 b2) (m2 : n2 ≤ maxLen) :
    Calls Try.prog 5 #[v32 r, .slice A1 n1 c1, .slice A2 n2 c2] w fun e w' => e = .returned (.bool true) ∧ Below w.heap.size w w' := by
  have H1 := Lib.hid h1
  have H2 := Lib.hid h2
  clear h1 h2
  by_cases k1 : 500 < n1
  · have d1 : decide ((500 : Int) < (n1 : Int)) = true := by simp; omega
    go_enter Try.func5, Try.ntmps5
    go_wp2_with fail
    refine (knows _).mono ?_
    rintro e w1 ⟨rfl, hb⟩
    go_wp2_with fail
    go_ret
    exact ⟨rfl, hb⟩
  · have d1 : decide ((500 : Int) < (n1 : Int)) = false := by simp; omega
    by_cases k2 : 500 < n2
    · have d2 : decide ((500 : Int) < (n2 : Int)) = true := by simp; omega
      go_enter Try.func5, Try.ntmps5
      go_wp2_with fail
      refine (knows _).mono ?_
      rintro e w1 ⟨rfl, hb⟩
      go_wp2_with fail
      go_ret
      exact ⟨rfl, hb⟩
    · have d2 : decide ((500 : Int) < (n2 : Int)) = false := by simp; omega
      have o0 : (w.alloc (.cells #[] 5)).ownsRow w.heap.size 5 1 (.slice (some ⟨w.heap.size, 0, none⟩) 0 0) 0 (([] : List (BitVec 8)).map v8) :=
        World.ownsRow_lit w #[] 0 (Nat.le_refl _) (Nat.zero_le _) rfl
      have O0 := Lib.hid o0
      clear o0
      have tok1 : True := trivial
      have tok2 : True := trivial
      go_enter Try.func5, Try.ntmps5
      go_wp2_with (first
        | (at_builtin; have _t := tok1; refine wpList_append_bs _ rfl _ _ 23 rfl w.heap.size 5 bytesT (.slice (some ⟨w.heap.size, 0, none⟩) 0 0) 0 [] rfl O0.out w.heap.size A1 n1 c1 b1 rfl (H1.out.alloc (Nat.le_refl _) _) n1 b1 (Nat.zero_add _) (List.nil_append _) (by omega) (by simp) ?_; clear tok1 _t; intro A3 c3 w3 o3 g3 _)
        | (at_builtin; have _t := tok2; refine wpList_append_bs _ rfl _ _ 23 rfl w.heap.size 5 bytesT (.slice A3 n1 c3) n1 b1 rfl o3 w.heap.size A2 n2 c2 b2 rfl (Bs.grown (H2.out.alloc (Nat.le_refl _) _) g3 (by simp) (by intro g hg; simp [Value.ownBlock] at hg; omega)) (n1 + n2) (b1 ++ b2) rfl rfl (by omega) (by have := g3.size; simp at this; omega) ?_; clear tok2 _t; intro A4 c4 w4 o4 g4 _)
        | fail)
      have hb3 : Below w.heap.size w w3 := Below.grown ((Below.refl _ _).alloc (Nat.le_refl _) _) g3 (by simp) (by intro g hg; simp [Value.ownBlock] at hg; omega)
      have hb4 : Below w.heap.size w w4 := hb3.grown g4 hb3.size (fun k hk => (o3.lt k hk).1)
      have s4 := hb4.size
      have HA := Lib.hid (Bs.of_own o4 rfl)
      have O4 := Lib.hid o4
      have G3 := Lib.hid g3
      have G4 := Lib.hid g4
      clear o3 o4 g3 g4
      refine (extend r _ A1 n1 c1 b1 _ (H1.out.below hb4) s4 m1).mono ?_
      rintro e w5 ⟨rfl, hb5⟩
      have s5 := hb5.size
      have hb5' := hb4.trans (hb5.mono s4)
      go_wp2_with fail
      refine (extend _ _ A2 n2 c2 b2 _ (H2.out.below hb5') (by omega) m2).mono ?_
      rintro e w6 ⟨rfl, hb6⟩
      have s6 := hb6.size
      rw [ext_append]
      go_wp2_with fail
      refine (extend r _ A4 (n1 + n2) c4 (b1 ++ b2) _ (((HA.out.below hb5)).below (hb6.mono s5)) (by omega) (by unfold maxLen; omega)).mono ?_
      rintro e w7 ⟨rfl, hb7⟩
      have s7 := hb7.size
      go_wp2_with fail
      refine (knows _).mono ?_
      rintro e w8 ⟨rfl, hb8⟩
      go_wp2_with fail
      go_ret
      exact ⟨rfl, ((hb5'.trans (hb6.mono (by omega))).trans (hb7.mono (by omega))).trans (hb8.mono (by omega))⟩
end Go.Proofs.Ytilbiehhmbnjbaa.Crc
