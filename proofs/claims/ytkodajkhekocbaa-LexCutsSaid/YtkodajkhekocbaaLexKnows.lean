/-
  What the examples of layer 11's statements ask (knows): four tokens; a byte that begins none.
-/
import Derived.Test.YtkodajkhekocbaaLexPcut
import Derived.Lib.SlBytesConst
namespace Go.Proofs.Ytkodajkhekocbaa.Lex
open Go.RowKit
set_option linter.unusedVariables false
set_option linter.unusedSimpArgs false

def k4 : List (BitVec 8) := [115#8, 116#8, 101#8, 112#8, 32#8, 97#8, 49#8, 32#8, 34#8, 120#8, 92#8, 34#8, 121#8, 34#8, 32#8, 50#8, 48#8]
theorem cut_k4 : cut k4 = .ok [⟨⟨1, 0, [115#8, 116#8, 101#8, 112#8]⟩, 0⟩, ⟨⟨1, 0, [97#8, 49#8]⟩, 5⟩, ⟨⟨3, 0, [120#8, 34#8, 121#8]⟩, 8⟩, ⟨⟨2, 20, []⟩, 15⟩] := by kernel_rfl
theorem cut_kq : cut [97#8, 32#8, 63#8] = .error (2, 2) := by kernel_rfl
theorem four_of {vs : List Tv} {a b c d : Tok} (h : vs.map (·.t) = [a, b, c, d]) : ∃ v0 v1 v2 v3, vs = [v0, v1, v2, v3] ∧ v0.t = a ∧ v1.t = b ∧ v2.t = c ∧ v3.t = d := by
  rcases vs with _ | ⟨v0, _ | ⟨v1, _ | ⟨v2, _ | ⟨v3, _ | ⟨v4, l⟩⟩⟩⟩⟩ <;> simp at h
  exact ⟨v0, v1, v2, v3, rfl, h.1, h.2.1, h.2.2.1, h.2.2.2⟩
set_option maxRecDepth 100000 in
set_option maxHeartbeats 1000000 in
theorem knows11 (w : World) : Calls Try.prog 5 #[] w fun e w' => e = .returned (.bool true) ∧ Below w.heap.size w w' := by
  have kc := fun (w : World) (C : Array Value) (n c : Nat) => Lib.run_convert_bytes_const (P := Try.prog) w 22 5 C n c Try.underlying22 Try.underlying5
  go_enter Try.func5, Try.ntmps5
  go_wp2_with fail
  obtain ⟨W1, hW1⟩ : ∃ W1, W1 = w.alloc (.cells #[.int .u8 115, .int .u8 116, .int .u8 101, .int .u8 112, .int .u8 32, .int .u8 97, .int .u8 49, .int .u8 32, .int .u8 34, .int .u8 120, .int .u8 92, .int .u8 34, .int .u8 121, .int .u8 34, .int .u8 32, .int .u8 50, .int .u8 48] 5 (17, 18)) := ⟨_, rfl⟩
  have hb1 : Below w.heap.size w W1 := by rw [hW1]; exact (Below.refl _ _).alloc (Nat.le_refl _) _
  have b1 := Bs.lit w 5 (17, 18) #[.int .u8 115, .int .u8 116, .int .u8 101, .int .u8 112, .int .u8 32, .int .u8 97, .int .u8 49, .int .u8 32, .int .u8 34, .int .u8 120, .int .u8 92, .int .u8 34, .int .u8 121, .int .u8 34, .int .u8 32, .int .u8 50, .int .u8 48] k4 rfl 17 rfl
  have con := pcut W1 (w.heap.size + 1) (some ⟨w.heap.size, 0, none⟩) 17 17 k4 (by rw [hW1]; exact b1) (by rw [hW1]; simp) (by decide)
  rw [cut_k4] at con
  rw [← hW1]
  refine con.mono ?_
  clear con b1 hW1
  rintro e w2 ⟨hb2, A, c, vs, rfl, hp, hvs, _⟩
  have HB2 := Lib.hid (hb1.trans (hb2.mono hb1.size))
  have HP := Lib.hid (hp 0)
  have HV := Lib.hid hvs
  clear hb1 hb2 hp hvs
  go_wp2_with fail
  obtain ⟨W3, hW3⟩ : ∃ W3, W3 = w2.alloc (.cells #[.int .u8 97, .int .u8 32, .int .u8 63] 5 (3, 4)) := ⟨_, rfl⟩
  have hb3 : Below w2.heap.size w2 W3 := by rw [hW3]; exact (Below.refl _ _).alloc (Nat.le_refl _) _
  have b3 := Bs.lit w2 5 (3, 4) #[.int .u8 97, .int .u8 32, .int .u8 63] [97#8, 32#8, 63#8] rfl 3 rfl
  have con := pcut W3 (w2.heap.size + 1) (some ⟨w2.heap.size, 0, none⟩) 3 3 [97#8, 32#8, 63#8] (by rw [hW3]; exact b3) (by rw [hW3]; simp) (by decide)
  rw [cut_kq] at con
  rw [← hW3]
  refine con.mono ?_
  clear con b3 hW3
  rintro e w4 ⟨hb4, _, rfl⟩
  have HB4 := Lib.hid (HB2.out.trans ((hb3.trans (hb4.mono hb3.size)).mono HB2.out.size))
  have hp := (HP.out.below (Nat.zero_le _) hb3).below (Nat.zero_le _) hb4
  obtain ⟨v0, v1, v2, v3, rfl, e0, e1, e2, e3⟩ : ∃ v0 v1 v2 v3, vs = [v0, v1, v2, v3] ∧ v0.t = ⟨⟨1, 0, [115#8, 116#8, 101#8, 112#8]⟩, 0⟩ ∧ v1.t = ⟨⟨1, 0, [97#8, 49#8]⟩, 5⟩ ∧ v2.t = ⟨⟨3, 0, [120#8, 34#8, 121#8]⟩, 8⟩ ∧ v3.t = ⟨⟨2, 20, []⟩, 15⟩ := four_of HV.out
  obtain ⟨ad, rfl, q0, _, _, _⟩ := hp.at_ (i := 1) (v := v1) rfl
  obtain ⟨ad', hd, _, _, _, q1⟩ := hp.at_ (i := 2) (v := v2) rfl
  cases hd
  obtain ⟨ad', hd, _, _, q2, _⟩ := hp.at_ (i := 3) (v := v3) rfl
  cases hd
  have s1 := (hp.tx v2 (by simp)).str (Nat.zero_le _) v2.c 0
  rw [e1] at q0
  rw [e2] at q1 s1
  rw [e3] at q2
  change w4.cell? (ad.add 4) = some (.int .i64 1) at q0
  rw [add_pos' ad 4 (by omega)] at q0
  change w4.cell? ⟨(ad.add 8).block, (ad.add 8).off + 3, none⟩ = some (.slice v2.A 3 v2.c) at q1
  simp only [add_pos' ad 8 (by omega)] at q1
  change w4.cell? ⟨(ad.add 12).block, (ad.add 12).off + 2, none⟩ = some (.int .i64 20) at q2
  simp only [add_pos' ad 12 (by omega)] at q2
  change (convert 22 9 (.slice v2.A 3 v2.c)).run Try.prog w4 = .ok (.string ⟨#[120, 34, 121]⟩) w4 at s1
  clear hp hb3 hb4 HP HV HB2 e0 e1 e2 e3
  go_wp2_with fail
  go_ret
  exact ⟨rfl, HB4.out⟩
end Go.Proofs.Ytkodajkhekocbaa.Lex
