/-
  The program's runbook (layer 12): the parts of the form.
-/
import Derived.Test.YtadfoilbcipdjaaBookMany
namespace Go.Proofs.Ytadfoilbcipdjaa.Book
open Go.RowKit
open Go.Proofs.Ytadfoilbcipdjaa.Lex (Tok Tk B cut Tv Tx tflat Cr cr_ry Ptk hmf)
set_option linter.unusedVariables false
set_option linter.unusedSimpArgs false

section
variable {W : World} {g : Nat}
def gx8 (A : Option Addr) (c : Nat) (x : Px) : Px := { x with A8 := A, c8 := c }
def gx14 (A : Option Addr) (c : Nat) (x : Px) : Px := { x with A14 := A, c14 := c }
set_option maxRecDepth 100000 in
set_option maxHeartbeats 1000000 in
theorem takeMost_ : Contract W g true true 30 fMost := by
  intro w s h hj
  have con := number_ h 2 uMost (fun _ _ _ => rfl) (by decide) (fun _ _ => ⟨rfl, rfl, rfl, rfl, rfl⟩)
  clear h hj
  go_enter Try.func30, Try.ntmps30
  go_wp2_with fail
  refine con.mono ?_
  clear con
  rintro e w2 h2
  have HT := Lib.hid h2
  obtain ⟨b, rfl, _⟩ := h2.bool
  clear h2
  go_wp2_with fail
  go_ret
  exact HT.out
theorem takeMost_e : Enters 30 := enters_of Try.func30 (by kernel_rfl) rfl
set_option maxRecDepth 100000 in
set_option maxHeartbeats 1000000 in
theorem takeName_ : Contract W g true true 33 fName := by
  intro w s h hj
  have con := word_ h 5 uName (fun _ _ _ => rfl) (by decide) (fun _ _ => ⟨rfl, rfl, rfl, rfl, rfl⟩)
  clear h hj
  go_enter Try.func33, Try.ntmps33
  go_wp2_with fail
  refine con.mono ?_
  clear con
  rintro e w2 h2
  have HT := Lib.hid h2
  obtain ⟨b, rfl, _⟩ := h2.bool
  clear h2
  go_wp2_with fail
  go_ret
  exact HT.out
theorem takeName_e : Enters 33 := enters_of Try.func33 (by kernel_rfl) rfl
set_option maxRecDepth 100000 in
set_option maxHeartbeats 1000000 in
theorem takeVariable_ : Contract W g true true 68 fVar := by
  intro w s h hj
  have con := word_ h 15 uAs (fun _ _ _ => rfl) (by decide) (fun _ _ => ⟨rfl, rfl, rfl, rfl, rfl⟩)
  clear h hj
  go_enter Try.func68, Try.ntmps68
  go_wp2_with fail
  refine con.mono ?_
  clear con
  rintro e w2 h2
  have HT := Lib.hid h2
  obtain ⟨b, rfl, _⟩ := h2.bool
  clear h2
  go_wp2_with fail
  go_ret
  exact HT.out
theorem takeVariable_e : Enters 68 := enters_of Try.func68 (by kernel_rfl) rfl
set_option maxRecDepth 100000 in
set_option maxHeartbeats 1000000 in
theorem takePattern_ : Contract W g true true 56 fPat := by
  intro w s h hj
  have con := text_ h 14 uPat (gx := gx14) (fun _ _ _ _ _ => rfl) (by decide) (fun _ _ => ⟨rfl, rfl, rfl⟩) (fun _ _ _ => ⟨rfl, rfl, rfl, ⟨rfl, rfl, rfl⟩, rfl, rfl, rfl⟩) (fun _ _ _ _ _ h1 h2 h3 => ⟨h2, h1⟩)
  clear h hj
  go_enter Try.func56, Try.ntmps56
  go_wp2_with fail
  refine con.mono ?_
  clear con
  rintro e w2 h2
  have HT := Lib.hid h2
  obtain ⟨b, rfl, _⟩ := h2.bool
  clear h2
  go_wp2_with fail
  go_ret
  exact HT.out
theorem takePattern_e : Enters 56 := enters_of Try.func56 (by kernel_rfl) rfl
set_option maxRecDepth 100000 in
set_option maxHeartbeats 1000000 in
theorem takeTry_ : Contract W g true true 60 fTry := by
  intro w s h hj
  have con := number_ h 11 uTry (fun _ _ _ => rfl) (by decide) (fun _ _ => ⟨rfl, rfl, rfl, rfl, rfl⟩)
  clear h hj
  go_enter Try.func60, Try.ntmps60
  go_wp2_with fail
  refine con.mono ?_
  clear con
  rintro e w2 h2
  have HT := Lib.hid h2
  obtain ⟨b, rfl, _⟩ := h2.bool
  clear h2
  go_wp2_with fail
  go_ret
  exact HT.out
theorem takeTry_e : Enters 60 := enters_of Try.func60 (by kernel_rfl) rfl
set_option maxRecDepth 100000 in
set_option maxHeartbeats 1000000 in
theorem takeLine_ : Contract W g true true 54 fLine := by
  intro w s h hj
  obtain ⟨K, x, h⟩ := h
  have k0 : w.cell? ⟨g, 7, none⟩ = some (.bool s.step.sends) := h.c 7
  have f0 := h.f 7
  have h2 : Pw W (w.setCell ⟨g, 7, none⟩ (.bool true)) g K true (uSends s) x := h.put (by rfl) h.rest h.send h.pat ⟨rfl, rfl, rfl, rfl⟩ ⟨rfl, rfl, rfl, rfl⟩
  have hc : Chp w (w.setCell ⟨g, 7, none⟩ (.bool true)) := Chp.frm h.cel ((Frm.refl [g] w).set (p := ⟨g, 7, none⟩) (by simp) _)
  have con := (text_ (W := W) ⟨K, x, h2⟩ 8 uSend (gx := gx8) (fun _ _ _ _ _ => rfl) (by decide) (fun _ _ => ⟨rfl, rfl, rfl⟩) (fun _ _ _ => ⟨rfl, rfl, rfl, ⟨rfl, rfl, rfl⟩, rfl, rfl, rfl⟩) (fun _ _ _ _ _ h1 h2 h3 => ⟨h1, h3⟩)).mono fun e w' hh => hh.of hc
  rw [show fWant (kd 3) uSend (uSends s) = fLine s from rfl] at con
  clear h h2 hc hj
  go_enter Try.func54, Try.ntmps54
  go_wp2_with fail
  refine con.mono ?_
  clear con
  rintro e w2 h2
  have HT := Lib.hid h2
  obtain ⟨b, rfl, _⟩ := h2.bool
  clear h2
  go_wp2_with fail
  go_ret
  exact HT.out
theorem takeLine_e : Enters 54 := enters_of Try.func54 (by kernel_rfl) rfl
set_option maxRecDepth 100000 in
set_option maxHeartbeats 1000000 in
theorem takeLimit_ : Contract W g true true 13 fLimit := by
  intro w s h hj
  have con := maybe_ (W := W) takeMost_e takeMost_ h hj wMost _ rfl
  rw [show str wMost = ByteArray.mk #[109, 111, 115, 116] from rfl] at con
  have hm := hmf
  clear h hj
  go_enter Try.func13, Try.ntmps13
  go_wp2_with fail
  refine con.mono ?_
  clear con
  rintro e w2 h2
  have HT := Lib.hid h2
  obtain ⟨b, rfl, _⟩ := h2.bool
  clear h2
  go_wp2_with fail
  go_ret
  exact HT.out
theorem takeLimit_e : Enters 13 := enters_of Try.func13 (by kernel_rfl) rfl
set_option maxRecDepth 100000 in
set_option maxHeartbeats 1000000 in
theorem takeSend_ : Contract W g true true 35 fSend := by
  intro w s h hj
  have con := maybe_ (W := W) takeLine_e takeLine_ h hj wSend _ rfl
  rw [show str wSend = ByteArray.mk #[115, 101, 110, 100] from rfl] at con
  have hm := hmf
  clear h hj
  go_enter Try.func35, Try.ntmps35
  go_wp2_with fail
  refine con.mono ?_
  clear con
  rintro e w2 h2
  have HT := Lib.hid h2
  obtain ⟨b, rfl, _⟩ := h2.bool
  clear h2
  go_wp2_with fail
  go_ret
  exact HT.out
theorem takeSend_e : Enters 35 := enters_of Try.func35 (by kernel_rfl) rfl
set_option maxRecDepth 100000 in
set_option maxHeartbeats 1000000 in
theorem takeAs_ : Contract W g true true 57 fAs := by
  intro w s h hj
  have con := maybe_ (W := W) takeVariable_e takeVariable_ h hj wAs _ rfl
  rw [show str wAs = ByteArray.mk #[97, 115] from rfl] at con
  have hm := hmf
  clear h hj
  go_enter Try.func57, Try.ntmps57
  go_wp2_with fail
  refine con.mono ?_
  clear con
  rintro e w2 h2
  have HT := Lib.hid h2
  obtain ⟨b, rfl, _⟩ := h2.bool
  clear h2
  go_wp2_with fail
  go_ret
  exact HT.out
theorem takeAs_e : Enters 57 := enters_of Try.func57 (by kernel_rfl) rfl
set_option maxRecDepth 100000 in
set_option maxHeartbeats 1000000 in
theorem takeTries_ : Contract W g true true 38 fTries := by
  intro w s h hj
  have con := maybe_ (W := W) takeTry_e takeTry_ h hj wTries _ rfl
  rw [show str wTries = ByteArray.mk #[116, 114, 105, 101, 115] from rfl] at con
  have hm := hmf
  clear h hj
  go_enter Try.func38, Try.ntmps38
  go_wp2_with fail
  refine con.mono ?_
  clear con
  rintro e w2 h2
  have HT := Lib.hid h2
  obtain ⟨b, rfl, _⟩ := h2.bool
  clear h2
  go_wp2_with fail
  go_ret
  exact HT.out
theorem takeTries_e : Enters 38 := enters_of Try.func38 (by kernel_rfl) rfl
set_option maxRecDepth 100000 in
set_option maxHeartbeats 1000000 in
theorem takeGo_ : Contract W g true true 58 fGo := by
  intro w s h hj
  obtain ⟨K, x, h⟩ := h
  have con := hasWord_ h wGo _ rfl
  rw [show str wGo = ByteArray.mk #[103, 111] from rfl] at con
  obtain ⟨b, hb⟩ : ∃ b, b = wd wGo s.l := ⟨_, rfl⟩
  unfold HwSays at con
  rw [← hb] at con
  cases b with
  | false =>
    have HEND := Lib.hid (show ∀ w' x', Chp w w' → Pw W w' g K true s x' → PtSays W w g true (fGo s) (.returned (.bool false)) w' from fun w' x' hc hp => by unfold fGo; rw [fAfter_miss hb.symm]; exact ⟨hc, rfl, s, rfl, Pb.weak ⟨K, x', hp⟩⟩)
    clear h hb hj
    go_enter Try.func58, Try.ntmps58
    go_wp2_with fail
    refine con.mono ?_
    clear con
    rintro e w1 ⟨rfl, hc, x', hp⟩
    have HT := Lib.hid (HEND.out w1 x' hc hp)
    clear hc hp
    go_wp2_with fail
    go_ret
    exact HT.out
  | true =>
    have HEND := Lib.hid (show ∀ w' x', Chp w w' → Pw W w' g K true (takeS s) x' → Calls Try.prog 53 #[pp g, .pointer (some ⟨g, 16, none⟩)] w' (PtSays W w g true (fGo s)) from fun w' x' hc hp => by
      unfold fGo
      rw [fAfter_hit hb.symm]
      have h : Pb W w' g true (takeS s) := ⟨K, x', hp⟩
      exact (word_ h 16 uGo (fun _ _ _ => rfl) (by decide) (fun _ _ => ⟨rfl, rfl, rfl, rfl, rfl⟩)).mono fun e w2 h2 => h2.of hc)
    clear h hb hj
    go_enter Try.func58, Try.ntmps58
    go_wp2_with fail
    refine con.mono ?_
    clear con
    rintro e w1 ⟨rfl, hc, x', hp⟩
    have con2 := HEND.out w1 x' hc hp
    clear hc hp
    go_wp2_with fail
    refine con2.mono ?_
    clear con2
    rintro e w2 h2
    have HT := Lib.hid h2
    obtain ⟨b, rfl, _⟩ := h2.bool
    clear h2
    go_wp2_with fail
    go_ret
    exact HT.out
theorem takeGo_e : Enters 58 := enters_of Try.func58 (by kernel_rfl) rfl
set_option maxRecDepth 100000 in
set_option maxHeartbeats 1000000 in
theorem takeTime_ : Contract W g true true 37 fTime := by
  intro w s h hj
  obtain ⟨K, x, h⟩ := h
  have con := hasWord_ h wWithin _ rfl
  rw [show str wWithin = ByteArray.mk #[119, 105, 116, 104, 105, 110] from rfl] at con
  obtain ⟨b, hb⟩ : ∃ b, b = wd wWithin s.l := ⟨_, rfl⟩
  unfold HwSays at con
  rw [← hb] at con
  cases b with
  | false =>
    have HEND := Lib.hid (show ∀ w' x', Chp w w' → Pw W w' g K true s x' → PtSays W w g true (fTime s) (.returned (.bool false)) w' from fun w' x' hc hp => by unfold fTime; rw [fAfter_miss hb.symm]; exact ⟨hc, rfl, s, rfl, Pb.weak ⟨K, x', hp⟩⟩)
    clear h hb hj
    go_enter Try.func37, Try.ntmps37
    go_wp2_with fail
    refine con.mono ?_
    clear con
    rintro e w1 ⟨rfl, hc, x', hp⟩
    have HT := Lib.hid (HEND.out w1 x' hc hp)
    clear hc hp
    go_wp2_with fail
    go_ret
    exact HT.out
  | true =>
    have HEND := Lib.hid (show ∀ w' x', Chp w w' → Pw W w' g K true (takeS s) x' → Calls Try.prog 52 #[pp g, .pointer (some ⟨g, 10, none⟩)] w' (PtSays W w g true (fTime s)) from fun w' x' hc hp => by
      unfold fTime
      rw [fAfter_hit hb.symm]
      have h : Pb W w' g true (takeS s) := ⟨K, x', hp⟩
      exact (number_ h 10 uTime (fun _ _ _ => rfl) (by decide) (fun _ _ => ⟨rfl, rfl, rfl, rfl, rfl⟩)).mono fun e w2 h2 => h2.of hc)
    clear h hb hj
    go_enter Try.func37, Try.ntmps37
    go_wp2_with fail
    refine con.mono ?_
    clear con
    rintro e w1 ⟨rfl, hc, x', hp⟩
    have con2 := HEND.out w1 x' hc hp
    clear hc hp
    go_wp2_with fail
    refine con2.mono ?_
    clear con2
    rintro e w2 h2
    have HT := Lib.hid h2
    obtain ⟨b, rfl, _⟩ := h2.bool
    clear h2
    go_wp2_with fail
    go_ret
    exact HT.out
theorem takeTime_e : Enters 37 := enters_of Try.func37 (by kernel_rfl) rfl
set_option maxRecDepth 100000 in
set_option maxHeartbeats 1000000 in
theorem takeElse_ : Contract W g true true 39 fElse := by
  intro w s h hj
  obtain ⟨K, x, h⟩ := h
  have con := hasWord_ h wElse _ rfl
  rw [show str wElse = ByteArray.mk #[101, 108, 115, 101] from rfl] at con
  obtain ⟨b, hb⟩ : ∃ b, b = wd wElse s.l := ⟨_, rfl⟩
  unfold HwSays at con
  rw [← hb] at con
  cases b with
  | false =>
    have HEND := Lib.hid (show ∀ w' x', Chp w w' → Pw W w' g K true s x' → PtSays W w g true (fElse s) (.returned (.bool false)) w' from fun w' x' hc hp => by unfold fElse; rw [fAfter_miss hb.symm]; exact ⟨hc, rfl, s, rfl, Pb.weak ⟨K, x', hp⟩⟩)
    clear h hb hj
    go_enter Try.func39, Try.ntmps39
    go_wp2_with fail
    refine con.mono ?_
    clear con
    rintro e w1 ⟨rfl, hc, x', hp⟩
    have HT := Lib.hid (HEND.out w1 x' hc hp)
    clear hc hp
    go_wp2_with fail
    go_ret
    exact HT.out
  | true =>
    have HEND := Lib.hid (show ∀ w' x', Chp w w' → Pw W w' g K true (takeS s) x' → Calls Try.prog 53 #[pp g, .pointer (some ⟨g, 12, none⟩)] w' (PtSays W w g true (fElse s)) from fun w' x' hc hp => by
      unfold fElse
      rw [fAfter_hit hb.symm]
      have h : Pb W w' g true (takeS s) := ⟨K, x', hp⟩
      exact (word_ h 12 uElse (fun _ _ _ => rfl) (by decide) (fun _ _ => ⟨rfl, rfl, rfl, rfl, rfl⟩)).mono fun e w2 h2 => h2.of hc)
    clear h hb hj
    go_enter Try.func39, Try.ntmps39
    go_wp2_with fail
    refine con.mono ?_
    clear con
    rintro e w1 ⟨rfl, hc, x', hp⟩
    have con2 := HEND.out w1 x' hc hp
    clear hc hp
    go_wp2_with fail
    refine con2.mono ?_
    clear con2
    rintro e w2 h2
    have HT := Lib.hid h2
    obtain ⟨b, rfl, _⟩ := h2.bool
    clear h2
    go_wp2_with fail
    go_ret
    exact HT.out
theorem takeElse_e : Enters 39 := enters_of Try.func39 (by kernel_rfl) rfl
end
end Go.Proofs.Ytadfoilbcipdjaa.Book
