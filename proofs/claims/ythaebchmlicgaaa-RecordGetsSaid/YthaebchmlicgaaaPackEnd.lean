/-
  What the readers' End come to.
-/
import Derived.Test.YthaebchmlicgaaaPackRef
namespace Go.Proofs.Ythaebchmlicgaaa.Pack
open Go.RowKit
set_option linter.unusedVariables false

set_option maxRecDepth 100000 in
theorem rEnd (B d g : Nat) (st : St) (w : World) (hr : Rd w B d g st) :
    Calls Try.prog 23 #[.pointer (some ⟨g, 0, none⟩)] w fun e w' => e = .returned (.bool (rend st)) ∧ w = w' := by
  obtain ⟨h1, h2, h3⟩ := hr
  rcases h3 with ⟨rfl, hc⟩ | ⟨r, A, n, c, rfl, hc, hd, hb, hn, hm⟩
  · have HC := Lib.hid hc
    clear hc
    go_enter Try.func23, Try.ntmps23
    go_wp2_with fail
    refine (failed_yes g _ HC.out).mono ?_
    rintro e w' ⟨rfl, rfl⟩
    go_wp2_with fail
    go_ret
    exact ⟨rfl, rfl⟩
  · have c1 := hc.cell 1
    have HC := Lib.hid hc
    have HD := Lib.hid hd
    have hl := hb.len
    have HL := Lib.hid hl
    clear hc hd hb hl
    go_enter Try.func23, Try.ntmps23
    go_wp2_with fail
    refine (failed_no g d _ HC.out).mono ?_
    rintro e w' ⟨rfl, rfl⟩
    go_wp2_with fail
    refine (atEnd d A n c _ HD.out).mono ?_
    rintro e w' ⟨rfl, rfl⟩
    go_wp2_with fail
    go_ret
    refine ⟨?_, rfl⟩
    have hl := HL.out
    cases r with
    | nil => simp at hl; subst hl; rfl
    | cons b r => simp at hl; subst hl; rfl
set_option maxRecDepth 100000 in
theorem rEnd_nil (w : World) : Calls Try.prog 23 #[.pointer none] w fun e w' => e = .returned (.bool false) ∧ w = w' := by
  go_enter Try.func23, Try.ntmps23
  go_wp2_with fail
  refine (failed_nil _).mono ?_
  rintro e w' ⟨rfl, rfl⟩
  go_wp2_with fail
  go_ret
  exact ⟨rfl, rfl⟩

set_option maxRecDepth 100000 in
theorem mEnd (p : Nat → Prop) (g : Nat) (st : St) (w : World) (hr : Rm w p g st) :
    Calls Try.prog 29 #[.pointer (some ⟨g, 0, none⟩)] w fun e w' => e = .returned (.bool (rend st)) ∧ w = w' := by
  obtain ⟨A, n, c, hc, hb, hn, hm⟩ := hr
  have c0 := hc.cell 0
  have c1 := hc.cell 1
  clear hc
  cases st with
  | none =>
    clear hb
    go_enter Try.func29, Try.ntmps29
    go_wp2_with fail
    go_ret
    exact ⟨rfl, rfl⟩
  | some r =>
    have hl := (hb r rfl).len
    have HL := Lib.hid hl
    clear hb hl
    go_enter Try.func29, Try.ntmps29
    go_wp2_with fail
    go_ret
    refine ⟨?_, rfl⟩
    have hl := HL.out
    cases r with
    | nil => simp at hl; subst hl; rfl
    | cons b r => simp at hl; subst hl; rfl

end Go.Proofs.Ythaebchmlicgaaa.Pack
