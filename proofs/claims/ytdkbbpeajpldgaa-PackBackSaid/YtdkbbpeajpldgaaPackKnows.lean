/-
  What davitlaw02.knows comes to: true.
-/
import Derived.Test.YtdkbbpeajpldgaaPackRef
namespace Go.Proofs.Ytdkbbpeajpldgaa.Pack
open Go.RowKit
set_option linter.unusedVariables false

theorem toStr {w : World} {p : Nat → Prop} {A : Option Addr} {n : Nat} {bs : List (BitVec 8)} (h : Bp w p A n bs) (c : Nat) : (convert 23 9 (.slice A n c)).run Try.prog w = .ok (.string (str bs)) w :=
  h.string c Try.underlying23 Try.underlying5 Try.underlying9

theorem str258 : str (num 3 258#64) = ⟨#[0, 1, 2]⟩ := by decide
theorem strAb : str (text [97#8, 98#8]) = ⟨#[0, 2, 97, 98]⟩ := by decide

set_option maxRecDepth 100000 in
set_option maxHeartbeats 400000 in
theorem knows (w : World) : Calls Try.prog 6 #[] w fun e w' => e = .returned (.bool true) ∧ Below w.heap.size w w' := by
  have kc := fun (w : World) (C : Array Value) (n c : Nat) => Lib.run_convert_bytes_const (P := Try.prog) w 23 5 C n c Try.underlying23 Try.underlying5
  go_enter Try.func6, Try.ntmps6
  go_wp2_with fail
  refine (textOk _ _ _ _ [97#8, 98#8] _ (Bs.lit w _ _ _ [97#8, 98#8] rfl 2 rfl) (by simp) (by decide)).mono ?_
  rintro e w1 ⟨A1, c1, rfl, ho1, hb1⟩
  have HO1 := Lib.hid ho1
  have s1 := hb1.size
  simp only [World.size_alloc] at s1 hb1
  clear ho1
  go_wp2_with fail
  refine (number_at 258#64 3 (by decide) (by decide) _ _ rfl rfl _).mono ?_
  rintro e w2 ⟨A2, c2, rfl, ho2, hb2⟩
  have q2 := toStr ho2.bp c2
  rw [str258] at q2
  have q1 := toStr (HO1.out.low.bp.below hb2 (fun _ h => h)) c1
  rw [strAb] at q1
  have s2 := hb2.size
  clear ho2
  go_wp2_with fail
  refine (rEnd_nil _).mono ?_
  rintro e w' ⟨rfl, rfl⟩
  go_wp2_with fail
  refine (rNumber_nil _ _).mono ?_
  rintro e w' ⟨rfl, rfl⟩
  go_wp2_with fail
  go_ret
  exact ⟨rfl, (((Below.refl _ _).alloc (Nat.le_refl _) _).trans (hb1.mono (by omega))).trans (hb2.mono (by omega))⟩
end Go.Proofs.Ytdkbbpeajpldgaa.Pack
