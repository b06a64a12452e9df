/-
  The walk of davitlaw01.CrcSums: it answers true, whatever comes in.
-/
import Derived.Test.YtilbiehhmbnjbaaCrcWalks
namespace Go.Proofs.Ytilbiehhmbnjbaa.Crc
open Go.RowKit
set_option linter.unusedVariables false

theorem ext_one (r : BitVec 32) (x : BitVec 8) : ext r [x] = fbyte r x := rfl

set_option maxRecDepth 100000 in
set_option maxHeartbeats 400000 in
theorem sums_walk (r : BitVec 32) (x : BitVec 8) (A : Option Addr) (n c : Nat) (bs : List (BitVec 8)) (w : World) (h : Bs w w.heap.size A n bs) (hm : n ≤ maxLen) :
    Calls Try.prog 3 #[v32 r, v8 x, .slice A n c] w fun e w' => e = .returned (.bool true) ∧ Below w.heap.size w w' := by
  have H := Lib.hid h
  clear h
  by_cases k1 : 1000 < n
  · have d1 : decide ((1000 : Int) < (n : Int)) = true := by simp; omega
    go_enter Try.func3, Try.ntmps3
    go_wp2_with fail
    refine (knows _).mono ?_
    rintro e w1 ⟨rfl, hb⟩
    go_wp2_with fail
    go_ret
    exact ⟨rfl, hb⟩
  · have d1 : decide ((1000 : Int) < (n : Int)) = false := by simp; omega
    go_enter Try.func3, Try.ntmps3
    go_wp2_with fail
    have hb0 : Below w.heap.size w (w.alloc (.cells #[v8 x] 5)) := (Below.refl _ _).alloc (Nat.le_refl _) _
    have ho := Bs.lit w 5 (0, 0) #[v8 x] [x] rfl 1 rfl
    have HO := Lib.hid ho
    clear ho
    refine (byte r x _).mono ?_
    rintro e w1 ⟨rfl, hb1⟩
    have s1 := hb1.size
    simp only [World.size_alloc] at s1 hb1
    go_wp2_with fail
    refine (refExtend r (w.heap.size + 1) _ 1 1 [x] _ (HO.out.below hb1) (by decide)).mono ?_
    rintro e w' ⟨rfl, rfl⟩
    rw [ext_one]
    go_wp2_with fail
    have hb1' := hb0.trans (hb1.mono (Nat.le_succ _))
    refine (extend r _ A n c bs _ (H.out.below hb1') (by omega) hm).mono ?_
    rintro e w2 ⟨rfl, hb2⟩
    have s2 := hb2.size
    have hb2' := hb1'.trans (hb2.mono (by omega))
    go_wp2_with fail
    refine (refExtend r _ A n c bs _ (H.out.below hb2') hm).mono ?_
    rintro e w' ⟨rfl, rfl⟩
    go_wp2_with fail
    refine (sum_any _ A n c bs _ (H.out.below hb2') (by omega) hm).mono ?_
    rintro e w3 ⟨rfl, hb3⟩
    have s3 := hb3.size
    have hb3' := hb2'.trans (hb3.mono (by omega))
    go_wp2_with fail
    refine (refSum _ A n c bs _ (H.out.below hb3') hm).mono ?_
    rintro e w' ⟨rfl, rfl⟩
    go_wp2_with fail
    refine (knows _).mono ?_
    rintro e w4 ⟨rfl, hb4⟩
    go_wp2_with fail
    go_ret
    exact ⟨rfl, hb3'.trans (hb4.mono (by omega))⟩
end Go.Proofs.Ytilbiehhmbnjbaa.Crc
