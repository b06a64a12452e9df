/-
  The program's lines (layer 13): its tests of bytes; how long a name is; the piece with which a text begins.
-/
import Derived.Test.YtamklllmjppinaaVarsPieces
namespace Go.Proofs.Ytamklllmjppinaa.Vars
open Go.RowKit
open Go.Proofs.Ytamklllmjppinaa.Lex (letter digit within b_ne drop_at Owb lit_one rowB run_cutMid bs_cut add_pos')
set_option linter.unusedVariables false
set_option linter.unusedSimpArgs false

set_option maxRecDepth 100000 in
theorem pletter (w : World) (x : BitVec 8) : Calls Try.prog 26 #[v8 x] w fun e w' => e = .returned (.bool (letter x)) ∧ w' = w := by
  have HL := Lib.hid (show letter x = (decide (97 ≤ x.toNat) && decide (x.toNat ≤ 122)) from rfl)
  by_cases h1 : 97 ≤ x.toNat
  · by_cases h2 : x.toNat ≤ 122
    · go_enter Try.func26, Try.ntmps26
      go_wp2_with fail
      go_ret
      exact ⟨by rw [HL.out]; simp [h1, h2]; try omega, rfl⟩
    · go_enter Try.func26, Try.ntmps26
      go_wp2_with fail
      go_ret
      exact ⟨by rw [HL.out]; simp [h1, h2]; try omega, rfl⟩
  · go_enter Try.func26, Try.ntmps26
    go_wp2_with fail
    go_ret
    exact ⟨by rw [HL.out]; simp [h1], rfl⟩
set_option maxRecDepth 100000 in
theorem pomitted (w : World) (x : BitVec 8) : Calls Try.prog 22 #[v8 x] w fun e w' => e = .returned (.bool (!keep x)) ∧ w' = w := by
  obtain ⟨r, hr⟩ : ∃ r, r = !keep x := ⟨_, rfl⟩
  rw [← hr]
  by_cases h10 : x = 10#8
  · subst h10
    rw [show (!keep 10#8) = true by decide] at hr
    subst hr
    go_enter Try.func22, Try.ntmps22
    go_wp2_with fail
    go_ret
    exact ⟨rfl, rfl⟩
  have e10 : ((x.toNat : Int) == 10) = false := b_ne (k := 10) (by decide) h10
  by_cases h13 : x = 13#8
  · subst h13
    rw [show (!keep 13#8) = true by decide] at hr
    subst hr
    go_enter Try.func22, Try.ntmps22
    go_wp2_with fail
    go_ret
    exact ⟨rfl, rfl⟩
  have e13 : ((x.toNat : Int) == 13) = false := b_ne (k := 13) (by decide) h13
  by_cases h21 : x = 21#8
  · subst h21
    rw [show (!keep 21#8) = true by decide] at hr
    subst hr
    go_enter Try.func22, Try.ntmps22
    go_wp2_with fail
    go_ret
    exact ⟨rfl, rfl⟩
  have e21 : ((x.toNat : Int) == 21) = false := b_ne (k := 21) (by decide) h21
  rw [show keep x = true by unfold keep; simp [h10, h13, h21]] at hr
  simp only [Bool.not_true] at hr
  subst hr
  go_enter Try.func22, Try.ntmps22
  go_wp2_with fail
  go_ret
  exact ⟨rfl, rfl⟩
set_option maxRecDepth 100000 in
set_option maxHeartbeats 400000 in
theorem pwithin (w : World) (x : BitVec 8) : Calls Try.prog 27 #[v8 x] w fun e w' => e = .returned (.bool (within x)) ∧ w' = w := by
  have con := pletter w x
  obtain ⟨r, hr⟩ : ∃ r, r = within x := ⟨_, rfl⟩
  rw [← hr]
  cases hl : letter x
  · rw [hl] at con
    by_cases h5 : x = 95#8
    · subst h5
      rw [show within 95#8 = true by decide] at hr
      subst hr
      clear hl
      go_enter Try.func27, Try.ntmps27
      go_wp2_with fail
      refine con.mono ?_
      rintro e w' ⟨rfl, rfl⟩
      go_wp2_with fail
      go_ret
      exact ⟨rfl, rfl⟩
    have e5 : ((x.toNat : Int) == 95) = false := b_ne (k := 95) (by decide) h5
    rw [show within x = digit x by simp [within, h5, hl]] at hr
    unfold digit at hr
    clear h5 hl
    by_cases h3 : 48 ≤ x.toNat
    · by_cases h4 : x.toNat ≤ 57
      · rw [decide_eq_true h3, decide_eq_true h4] at hr
        simp only [Bool.and_self] at hr
        subst hr
        go_enter Try.func27, Try.ntmps27
        go_wp2_with fail
        refine con.mono ?_
        rintro e w' ⟨rfl, rfl⟩
        go_wp2_with fail
        go_ret
        exact ⟨rfl, rfl⟩
      · rw [decide_eq_true h3, decide_eq_false h4] at hr
        simp only [Bool.and_false] at hr
        subst hr
        have z4 : decide ((x.toNat : Int) ≤ 57) = false := by simp; omega
        go_enter Try.func27, Try.ntmps27
        go_wp2_with fail
        refine con.mono ?_
        rintro e w' ⟨rfl, rfl⟩
        go_wp2_with fail
        go_ret
        exact ⟨rfl, rfl⟩
    · rw [decide_eq_false h3] at hr
      simp only [Bool.false_and] at hr
      subst hr
      go_enter Try.func27, Try.ntmps27
      go_wp2_with fail
      refine con.mono ?_
      rintro e w' ⟨rfl, rfl⟩
      go_wp2_with fail
      go_ret
      exact ⟨rfl, rfl⟩
  · rw [hl] at con
    rw [show within x = true from Lex.letter_within hl] at hr
    subst hr
    clear hl
    go_enter Try.func27, Try.ntmps27
    go_wp2_with fail
    refine con.mono ?_
    rintro e w' ⟨rfl, rfl⟩
    go_wp2_with fail
    go_ret
    exact ⟨rfl, rfl⟩
set_option maxRecDepth 100000 in
set_option maxHeartbeats 1000000 in
theorem pname (w : World) (B : Nat) (A : Option Addr) (n c : Nat) (s : List (BitVec 8)) (hs : Bs w B A n s) (hn : n ≤ 100000) :
    Calls Try.prog 23 #[.slice A n c] w fun e w' => e = .returned (.int .i64 (nameR s : Int)) ∧ w = w' := by
  obtain ⟨K, hK⟩ : ∃ K, K = nameR s := ⟨_, rfl⟩
  rw [← hK]
  have HS := Lib.hid hs
  have HSL := Lib.hid hs.len
  rcases Nat.eq_zero_or_pos n with h0 | h0
  · subst h0
    have hs0 : s = [] := List.eq_nil_of_length_eq_zero hs.len
    have hk0 : K = 0 := by rw [hK, hs0]; rfl
    subst hk0
    clear hK hs hs0
    go_enter Try.func23, Try.ntmps23
    go_wp2_with fail
    go_ret
    exact ⟨rfl, rfl⟩
  obtain ⟨x, hx⟩ : ∃ x, s[0]? = some x := ⟨_, List.getElem?_eq_getElem (by rw [HSL.out]; exact h0)⟩
  obtain ⟨bd, rfl, _, b0⟩ := HS.out.at_ h0
  rw [List.getD_eq_getElem?_getD, hx] at b0
  change _ = some (v8 x) at b0
  rw [show bd.add 0 = bd from by unfold Addr.add; exact if_pos rfl] at b0
  have hd : s = x :: s.drop 1 := by have := drop_at hx; simpa using this
  have con := pletter w x
  have n0 : ((n : Int) == 0) = false := by simp; omega
  cases hl : letter x
  · rw [hl] at con
    have hk0 : K = 0 := by rw [hK, hd, nameR_cons, if_neg (by simp [hl])]
    subst hk0
    clear hK hs hd hl hx
    go_enter Try.func23, Try.ntmps23
    go_wp2_with fail
    refine con.mono ?_
    rintro e w' ⟨rfl, rfl⟩
    go_wp2_with fail
    go_ret
    exact ⟨rfl, rfl⟩
  · rw [hl] at con
    have HK0 := Lib.hid (show K = 1 + more 1 (s.drop 1) by rw [hK, hd, nameR_cons, if_pos hl]; rfl)
    clear hK hs hd hl hx
    go_enter Try.func23, Try.ntmps23
    go_wp2_with fail
    refine con.mono ?_
    clear con
    rintro e w' ⟨rfl, rfl⟩
    go_wp2_with fail
    go_loopw [3] (fun v3 wr => ∃ (k : Nat), 1 ≤ k ∧ k ≤ n ∧ v3 = .int .i64 (k : Int) ∧ w' = wr ∧ Hid (K = k + more k (s.drop k))) (fun v3 _ => n - (intOf v3).toNat)
    case atStart => exact ⟨1, Nat.le_refl _, h0, rfl, rfl, HK0⟩
    case round =>
      clear HK0
      obtain ⟨k, hk1, hk, rfl, rfl, HK⟩ := hrel
      rcases Nat.lt_or_ge k n with hlt | hge
      · obtain ⟨y, hy⟩ : ∃ y, s[k]? = some y := ⟨_, List.getElem?_eq_getElem (by rw [HSL.out]; exact hlt)⟩
        obtain ⟨bd2, hbd, _, b1⟩ := HS.out.at_ hlt
        cases hbd
        rw [List.getD_eq_getElem?_getD, hy] at b1
        change _ = some (v8 y) at b1
        have con := pwithin w' y
        cases hw : within y
        · rw [hw] at con
          have HN := Lib.hid (show K = k by rw [HK.out, drop_at hy, more_no (by cases h : letter y; rfl; rw [Lex.letter_within h] at hw; exact hw) (.inr hw)]; rfl)
          clear HK hy hw
          go_wp2_with fail
          refine con.mono ?_
          rintro e w2 ⟨rfl, rfl⟩
          go_wp2_with fail
          go_ret
          rw [HN.out]
          exact ⟨rfl, rfl⟩
        · rw [hw] at con
          have HN := Lib.hid (show K = (k + 1) + more (k + 1) (s.drop (k + 1)) by rw [HK.out, drop_at hy, more_go (.inr ⟨hk1, hw⟩)]; omega)
          clear HK hy hw
          go_wp2_with fail
          refine con.mono ?_
          rintro e w2 ⟨rfl, rfl⟩
          go_wp2_with fail
          exact ⟨⟨k + 1, by omega, by omega, by rw [show ((k + 1 : Nat) : Int) = (k : Int) + 1 by omega], by trivial, HN⟩, by simp [intOf]; omega⟩
      · have HN := Lib.hid (show K = k by rw [HK.out, List.drop_eq_nil_of_le (by rw [HSL.out]; exact hge), more_nil]; rfl)
        go_wp2_with fail
        go_ret
        rw [HN.out]
        exact ⟨rfl, rfl⟩
end Go.Proofs.Ytamklllmjppinaa.Vars
