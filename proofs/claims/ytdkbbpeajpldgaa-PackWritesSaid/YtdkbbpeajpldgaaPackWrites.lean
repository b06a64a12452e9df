/-
  The walk of davitlaw02.PackWrites: it answers true, whatever comes in.
-/
import Derived.Test.YtdkbbpeajpldgaaPackKnows
import Derived.Deep.RegionWith
import Derived.Deep.DeepCutAuto
namespace Go.Proofs.Ytdkbbpeajpldgaa.Pack
open Go.RowKit
set_option linter.unusedVariables false

set_option maxRecDepth 100000 in
set_option maxHeartbeats 1000000 in
theorem writes_oo (n : BitVec 64) (k : Nat) (hk1 : 1 ≤ k) (hk8 : k ≤ 8) (A : Option Addr) (l c : Nat) (bs : List (BitVec 8)) (w : World) (h : Bs w w.heap.size A l bs) (hl : l ≤ 2000) :
    Calls Try.prog 3 #[v64 n, .int .i64 (k : Int), .slice A l c] w fun e w' => e = .returned (.bool true) ∧ Below w.heap.size w w' := by
  have H := Lib.hid h
  clear h
  have d1 : decide ((2000 : Int) < (l : Int)) = false := by simp; omega
  have d2 : decide ((66000 : Int) < (l : Int)) = false := by simp; omega
  have d5 : decide ((65535 : Int) < (l : Int)) = false := by simp; omega
  have d6 : decide ((k : Int) < 1) = false := by simp; omega
  have d7 : decide ((8 : Int) < (k : Int)) = false := by simp; omega
  go_enter Try.func3, Try.ntmps3
  go_wp2_with fail
  refine (number n k hk1 hk8 _).mono ?_
  rintro e w1 ⟨A1, c1, rfl, ho1, hb1⟩
  have s1 := hb1.size
  have O1 := Lib.hid ho1
  clear ho1
  go_wp2_with fail
  refine (textOk _ A l c bs _ (H.out.below hb1) s1 (by omega)).mono ?_
  rintro e w2 ⟨A2, c2, rfl, ho2, hb2⟩
  have s2 := hb2.size
  have O2 := Lib.hid ho2
  clear ho2
  go_upto_region 8 with (fail)
  go_cut [47] (fun s47 wx => s47 = .bool false ∧ Below w2.heap.size w2 wx)
  case first =>
    have q1 := toStr (w := w2.drew) ((O1.out.low).bp.below hb2.drew (fun _ hk => hk)) c1
    go_region_with (first
        | (go_at_call 9; refine (refNumber k n hk8 _).mono ?_; rintro e w3 ⟨A3, c3, rfl, ho3, hb3⟩; have q3 := toStr (Own.bp ho3) c3; have q4 := toStr ((O1.out.low).bp.below (hb2.drew.trans (hb3.mono s2)) (fun _ hk => hk)) c1; clear ho3))
    all_goals (go_wp2_with fail; go_meet; exact ⟨rfl, (Below.refl _ _).drew.trans hb3⟩)
  case rest =>
    obtain ⟨rfl, hbx⟩ := hcut
    have hbw := (hb1.trans (hb2.mono s1)).trans (hbx.mono (by omega))
    go_wp2_with fail
    have q5 := toStr (w := wc.drew) ((O2.out.low).bp.below (hbx.drew) (fun _ hk => hk)) c2
    go_region_with (first
        | (go_at_call 10; refine (refText w.heap.size A l c bs _ (H.out.below hbw.drew) hbw.size (by omega)).mono ?_; rintro e w5 ⟨A5, c5, rfl, ho5, hb5⟩; have q6 := toStr (Own.bp ho5) c5; have q7 := toStr ((O2.out.low).bp.below (hbx.drew.trans (hb5.mono hbx.size)) (fun _ hk => hk)) c2; have hbw5 := hbw.drew.trans (hb5.mono hbw.size); clear ho5 hb5)
        | (go_at_call 6; refine (knows _).mono ?_; rintro e w6 ⟨rfl, hb6⟩))
    all_goals (go_wp2_with fail; go_ret; exact ⟨rfl, hbw5.trans (hb6.mono hbw5.size)⟩)
  

set_option maxRecDepth 100000 in
set_option maxHeartbeats 1000000 in
theorem writes_of (n : BitVec 64) (k : Nat) (hk1 : 1 ≤ k) (hk8 : k ≤ 8) (A : Option Addr) (l c : Nat) (bs : List (BitVec 8)) (w : World) (h : Bs w w.heap.size A l bs) (hl : 65535 < l) (hl2 : l ≤ 66000) :
    Calls Try.prog 3 #[v64 n, .int .i64 (k : Int), .slice A l c] w fun e w' => e = .returned (.bool true) ∧ Below w.heap.size w w' := by
  have H := Lib.hid h
  clear h
  have d1 : decide ((2000 : Int) < (l : Int)) = true := by simp; omega
  have d2 : decide ((66000 : Int) < (l : Int)) = false := by simp; omega
  have d3 : decide ((l : Int) ≤ 65535) = false := by simp; omega
  have d5 : decide ((65535 : Int) < (l : Int)) = true := by simp; omega
  have d6 : decide ((k : Int) < 1) = false := by simp; omega
  have d7 : decide ((8 : Int) < (k : Int)) = false := by simp; omega
  go_enter Try.func3, Try.ntmps3
  go_wp2_with fail
  refine (number n k hk1 hk8 _).mono ?_
  rintro e w1 ⟨A1, c1, rfl, ho1, hb1⟩
  have s1 := hb1.size
  have O1 := Lib.hid ho1
  clear ho1
  go_wp2_with fail
  refine (textFull A l c _ hl (by unfold maxLen; omega)).mono ?_
  rintro e w2 ⟨rfl, rfl⟩
  have s2 : w1.heap.size ≤ w1.heap.size := Nat.le_refl _
  have hb2 := Below.refl w1.heap.size w1
  go_upto_region 8 with (fail)
  go_cut [47] (fun s47 wx => s47 = .bool false ∧ Below w1.heap.size w1 wx)
  case first =>
    have q1 := toStr (w := w1.drew) ((O1.out.low).bp.below hb2.drew (fun _ hk => hk)) c1
    go_region_with (first
        | (go_at_call 9; refine (refNumber k n hk8 _).mono ?_; rintro e w3 ⟨A3, c3, rfl, ho3, hb3⟩; have q3 := toStr (Own.bp ho3) c3; have q4 := toStr ((O1.out.low).bp.below (hb2.drew.trans (hb3.mono s2)) (fun _ hk => hk)) c1; clear ho3))
    all_goals (go_wp2_with fail; go_meet; exact ⟨rfl, (Below.refl _ _).drew.trans hb3⟩)
  case rest =>
    obtain ⟨rfl, hbx⟩ := hcut
    have hbw := (hb1.trans (hb2.mono s1)).trans (hbx.mono (by omega))
    go_wp2_with fail
    refine (knows _).mono ?_
    rintro e w4 ⟨rfl, hb4⟩
    go_wp2_with fail
    go_ret
    exact ⟨rfl, hbw.trans (hb4.mono hbw.size)⟩
  

set_option maxRecDepth 100000 in
set_option maxHeartbeats 1000000 in
theorem writes_bo (n : BitVec 64) (size : Int) (hsz : okSize size = false) (A : Option Addr) (l c : Nat) (bs : List (BitVec 8)) (w : World) (h : Bs w w.heap.size A l bs) (hl : l ≤ 2000) :
    Calls Try.prog 3 #[v64 n, .int .i64 size, .slice A l c] w fun e w' => e = .returned (.bool true) ∧ Below w.heap.size w w' := by
  have H := Lib.hid h
  clear h
  have d1 : decide ((2000 : Int) < (l : Int)) = false := by simp; omega
  have d2 : decide ((66000 : Int) < (l : Int)) = false := by simp; omega
  have d5 : decide ((65535 : Int) < (l : Int)) = false := by simp; omega
  have HZ := Lib.hid hsz
  clear hsz
  go_enter Try.func3, Try.ntmps3
  go_wp2_with fail
  refine (number_bad n size HZ.out _).mono ?_
  rintro e w1 ⟨rfl, rfl⟩
  have s1 : w.heap.size ≤ w.heap.size := Nat.le_refl _
  have hb1 := Below.refl w.heap.size w
  go_wp2_with fail
  refine (textOk _ A l c bs _ (H.out.below hb1) s1 (by omega)).mono ?_
  rintro e w2 ⟨A2, c2, rfl, ho2, hb2⟩
  have s2 := hb2.size
  have O2 := Lib.hid ho2
  clear ho2
  have d67 : (decide (size < 1) || decide (8 < size)) = true := by
    have := HZ.out; simp [okSize] at this ⊢; omega
  cases d6 : decide (size < 1)
  all_goals (rw [d6] at d67; simp only [Bool.false_or, Bool.true_or] at d67)
  · have hbx := Below.refl w2.heap.size w2
    have hbw := hb1.trans (hb2.mono s1)
    go_wp2_with fail
    have q5 := toStr (w := w2.drew) ((O2.out.low).bp.below (hbx.drew) (fun _ hk => hk)) c2
    go_region_with (first
        | (go_at_call 10; refine (refText w.heap.size A l c bs _ (H.out.below hbw.drew) hbw.size (by omega)).mono ?_; rintro e w5 ⟨A5, c5, rfl, ho5, hb5⟩; have q6 := toStr (Own.bp ho5) c5; have q7 := toStr ((O2.out.low).bp.below (hbx.drew.trans (hb5.mono hbx.size)) (fun _ hk => hk)) c2; have hbw5 := hbw.drew.trans (hb5.mono hbw.size); clear ho5 hb5)
        | (go_at_call 6; refine (knows _).mono ?_; rintro e w6 ⟨rfl, hb6⟩))
    all_goals (go_wp2_with fail; go_ret; exact ⟨rfl, hbw5.trans (hb6.mono hbw5.size)⟩)
  · have hbx := Below.refl w2.heap.size w2
    have hbw := hb1.trans (hb2.mono s1)
    go_wp2_with fail
    have q5 := toStr (w := w2.drew) ((O2.out.low).bp.below (hbx.drew) (fun _ hk => hk)) c2
    go_region_with (first
        | (go_at_call 10; refine (refText w.heap.size A l c bs _ (H.out.below hbw.drew) hbw.size (by omega)).mono ?_; rintro e w5 ⟨A5, c5, rfl, ho5, hb5⟩; have q6 := toStr (Own.bp ho5) c5; have q7 := toStr ((O2.out.low).bp.below (hbx.drew.trans (hb5.mono hbx.size)) (fun _ hk => hk)) c2; have hbw5 := hbw.drew.trans (hb5.mono hbw.size); clear ho5 hb5)
        | (go_at_call 6; refine (knows _).mono ?_; rintro e w6 ⟨rfl, hb6⟩))
    all_goals (go_wp2_with fail; go_ret; exact ⟨rfl, hbw5.trans (hb6.mono hbw5.size)⟩)

set_option maxRecDepth 100000 in
set_option maxHeartbeats 1000000 in
theorem writes_bf (n : BitVec 64) (size : Int) (hsz : okSize size = false) (A : Option Addr) (l c : Nat) (bs : List (BitVec 8)) (w : World) (h : Bs w w.heap.size A l bs) (hl : 65535 < l) (hl2 : l ≤ 66000) :
    Calls Try.prog 3 #[v64 n, .int .i64 size, .slice A l c] w fun e w' => e = .returned (.bool true) ∧ Below w.heap.size w w' := by
  have H := Lib.hid h
  clear h
  have d1 : decide ((2000 : Int) < (l : Int)) = true := by simp; omega
  have d2 : decide ((66000 : Int) < (l : Int)) = false := by simp; omega
  have d3 : decide ((l : Int) ≤ 65535) = false := by simp; omega
  have d5 : decide ((65535 : Int) < (l : Int)) = true := by simp; omega
  have HZ := Lib.hid hsz
  clear hsz
  go_enter Try.func3, Try.ntmps3
  go_wp2_with fail
  refine (number_bad n size HZ.out _).mono ?_
  rintro e w1 ⟨rfl, rfl⟩
  have s1 : w.heap.size ≤ w.heap.size := Nat.le_refl _
  have hb1 := Below.refl w.heap.size w
  go_wp2_with fail
  refine (textFull A l c _ hl (by unfold maxLen; omega)).mono ?_
  rintro e w2 ⟨rfl, rfl⟩
  have s2 : w.heap.size ≤ w.heap.size := Nat.le_refl _
  have hb2 := Below.refl w.heap.size w
  have d67 : (decide (size < 1) || decide (8 < size)) = true := by
    have := HZ.out; simp [okSize] at this ⊢; omega
  cases d6 : decide (size < 1)
  all_goals (rw [d6] at d67; simp only [Bool.false_or, Bool.true_or] at d67)
  · have hbx := Below.refl w.heap.size w
    have hbw := hb1.trans (hb2.mono s1)
    go_wp2_with fail
    refine (knows _).mono ?_
    rintro e w4 ⟨rfl, hb4⟩
    go_wp2_with fail
    go_ret
    exact ⟨rfl, hbw.trans (hb4.mono hbw.size)⟩
  · have hbx := Below.refl w.heap.size w
    have hbw := hb1.trans (hb2.mono s1)
    go_wp2_with fail
    refine (knows _).mono ?_
    rintro e w4 ⟨rfl, hb4⟩
    go_wp2_with fail
    go_ret
    exact ⟨rfl, hbw.trans (hb4.mono hbw.size)⟩

set_option maxRecDepth 100000 in
set_option maxHeartbeats 1000000 in
theorem writes_out (n : BitVec 64) (size : Int) (A : Option Addr) (l c : Nat) (bs : List (BitVec 8)) (w : World) (hl : 2000 < l ∧ l ≤ 65535 ∨ 66000 < l) (hm : l ≤ maxLen) :
    Calls Try.prog 3 #[v64 n, .int .i64 size, .slice A l c] w fun e w' => e = .returned (.bool true) ∧ Below w.heap.size w w' := by
  have d1 : decide ((2000 : Int) < (l : Int)) = true := by simp; omega
  by_cases h3 : l ≤ 65535
  · have d3 : decide ((l : Int) ≤ 65535) = true := by simp; omega
    clear hl hm
    go_enter Try.func3, Try.ntmps3
    go_wp2_with fail
    refine (knows _).mono ?_
    rintro e w1 ⟨rfl, hb⟩
    go_wp2_with fail
    go_ret
    exact ⟨rfl, hb⟩
  · have d3 : decide ((l : Int) ≤ 65535) = false := by simp; omega
    have d2 : decide ((66000 : Int) < (l : Int)) = true := by simp; omega
    clear hl hm
    go_enter Try.func3, Try.ntmps3
    go_wp2_with fail
    refine (knows _).mono ?_
    rintro e w1 ⟨rfl, hb⟩
    go_wp2_with fail
    go_ret
    exact ⟨rfl, hb⟩

theorem writes_walk (n : BitVec 64) (size : Int) (A : Option Addr) (l c : Nat) (bs : List (BitVec 8)) (w : World) (h : Bs w w.heap.size A l bs) (hm : l ≤ maxLen) :
    Calls Try.prog 3 #[v64 n, .int .i64 size, .slice A l c] w fun e w' => e = .returned (.bool true) ∧ Below w.heap.size w w' := by
  by_cases ho : 2000 < l ∧ l ≤ 65535 ∨ 66000 < l
  · exact writes_out n size A l c bs w ho hm
  · cases hs : okSize size
    · by_cases hl : l ≤ 2000
      · exact writes_bo n size hs A l c bs w h hl
      · exact writes_bf n size hs A l c bs w h (by omega) (by omega)
    · obtain ⟨k, rfl⟩ : ∃ k : Nat, size = (k : Int) := ⟨size.toNat, by simp [okSize] at hs; omega⟩
      have hk1 : 1 ≤ k := by simp [okSize] at hs; omega
      have hk8 : k ≤ 8 := by simp [okSize] at hs; omega
      by_cases hl : l ≤ 2000
      · exact writes_oo n k hk1 hk8 A l c bs w h hl
      · exact writes_of n k hk1 hk8 A l c bs w h (by omega) (by omega)
end Go.Proofs.Ytdkbbpeajpldgaa.Pack
