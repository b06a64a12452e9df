/-
  The program's cutter (layer 11): a byte of a word.
-/
import Derived.Test.YtadfoilbcipdjaaLexMake
import Derived.LoopN
namespace Go.Proofs.Ytadfoilbcipdjaa.Lex
open Go.RowKit
set_option linter.unusedVariables false
set_option linter.unusedSimpArgs false

set_option maxRecDepth 100000 in
set_option maxHeartbeats 1000000 in
theorem peither {w : World} {tv ta sa : Nat} (h1 : Cel w tv 78 [.slice (some ⟨ta, 0, none⟩) 3 3]) (h2 : Cel w ta 55 [fv 43, fv 47, fp 41 sa]) (h3 : Cel w sa 9 [.string ⟨#[95]⟩]) (b : BitVec 8) :
    Calls Try.prog 62 #[v8 b, .pointer (some ⟨tv, 0, none⟩)] w fun e w' => e = .returned (.bool (within b)) ∧ w' = w := by
  have k0 := Cel.cell h1 0
  have t0 := Cel.cell h2 0
  have t1 := Cel.cell h2 1
  have t2 := Cel.cell h2 2
  have c1 := pletter w b
  have c2 := pdigit w b
  have c3 := pamong w sa ⟨#[95]⟩ b (Cel.cell h3 0)
  rw [among_low] at c3
  have HW := Lib.hid (show within b = (letter b || digit b || decide (b = 95#8)) from rfl)
  clear h1 h2 h3
  cases hl : letter b
  · rw [hl] at c1 HW
    cases hd : digit b
    · rw [hd] at c2 HW
      cases h5 : decide (b = 95#8)
      · rw [h5] at c3 HW
        have HX := Lib.hid (show within b = false from HW.out)
        clear HW hl hd h5
        go_enter Try.func62, Try.ntmps62
        go_wp2_with fail
        refine wp_loop_rounds 4 ?_
        rw [rounds_succ]; go_wp2_with fail
        refine c1.mono ?_
        rintro e w1 ⟨rfl, rfl⟩
        go_wp2_with fail
        rw [rounds_succ]; go_wp2_with fail
        refine c2.mono ?_
        rintro e w1 ⟨rfl, rfl⟩
        go_wp2_with fail
        rw [rounds_succ]; go_wp2_with fail
        refine c3.mono ?_
        rintro e w1 ⟨rfl, rfl⟩
        go_wp2_with fail
        rw [rounds_succ]; go_wp2_with fail
        go_ret
        exact ⟨by rw [HX.out]; rfl, rfl⟩
      · rw [h5] at c3 HW
        have HX := Lib.hid (show within b = true from HW.out)
        clear HW hl hd h5
        go_enter Try.func62, Try.ntmps62
        go_wp2_with fail
        refine wp_loop_rounds 4 ?_
        rw [rounds_succ]; go_wp2_with fail
        refine c1.mono ?_
        rintro e w1 ⟨rfl, rfl⟩
        go_wp2_with fail
        rw [rounds_succ]; go_wp2_with fail
        refine c2.mono ?_
        rintro e w1 ⟨rfl, rfl⟩
        go_wp2_with fail
        rw [rounds_succ]; go_wp2_with fail
        refine c3.mono ?_
        rintro e w1 ⟨rfl, rfl⟩
        go_wp2_with fail
        go_ret
        exact ⟨by rw [HX.out]; rfl, rfl⟩
    · rw [hd] at c2 HW
      have HX := Lib.hid (show within b = true from HW.out)
      clear HW hl hd c3
      go_enter Try.func62, Try.ntmps62
      go_wp2_with fail
      refine wp_loop_rounds 4 ?_
      rw [rounds_succ]; go_wp2_with fail
      refine c1.mono ?_
      rintro e w1 ⟨rfl, rfl⟩
      go_wp2_with fail
      rw [rounds_succ]; go_wp2_with fail
      refine c2.mono ?_
      rintro e w1 ⟨rfl, rfl⟩
      go_wp2_with fail
      go_ret
      exact ⟨by rw [HX.out]; rfl, rfl⟩
  · rw [hl] at c1 HW
    have HX := Lib.hid (show within b = true by rw [HW.out]; rfl)
    clear HW hl c2 c3
    go_enter Try.func62, Try.ntmps62
    go_wp2_with fail
    refine wp_loop_rounds 4 ?_
    rw [rounds_succ]; go_wp2_with fail
    refine c1.mono ?_
    rintro e w1 ⟨rfl, rfl⟩
    go_wp2_with fail
    go_ret
    exact ⟨by rw [HX.out]; rfl, rfl⟩
end Go.Proofs.Ytadfoilbcipdjaa.Lex
