/-
  What the examples of layer 10's statements ask (knows): two patterns, what is found in four bytes, and in none.
-/
import Derived.Test.YtjpbndpfbdfhjaaMSeekParms
import Derived.Test.YtjpbndpfbdfhjaaMSeekB
import Derived.Test.YtjpbndpfbdfhjaaMSeekComp
import Derived.Lib.SlBytesConst
namespace Go.Proofs.Ytjpbndpfbdfhjaa.Seek
open Go.RowKit Go.Proofs.Ytjpbndpfbdfhjaa.Nfa
open Go.Proofs.Ytjpbndpfbdfhjaa.Reg (Sp Spn sflat)
set_option linter.unusedVariables false
set_option linter.unusedSimpArgs false

def kBs : List In := [⟨1, 0, 0, false, [⟨98#8, 98#8⟩]⟩, ⟨2, -1, 1, false, []⟩, ⟨4, 0, 0, false, []⟩]
def kAb : List In := [⟨1, 0, 0, false, [⟨97#8, 97#8⟩]⟩, ⟨1, 0, 0, false, [⟨98#8, 98#8⟩]⟩, ⟨4, 0, 0, false, []⟩]
theorem arms_k : armsF 0 [[98#8, 43#8], [97#8, 98#8]] = .ok [kBs, kAb] := by rfl
theorem arms_bad : armsF 0 [[], [40#8]] = .error (1, 2) := by rfl
theorem best_k : Best [kBs, kAb] [120#8, 97#8, 98#8, 98#8] 0 2 3 := bestF_best (by kernel_rfl)
theorem none_k : None_ [kBs, kAb] [] := noneF_none (by kernel_rfl)
/-- Two patterns in a literal. -/
theorem sas_two (w : World) (B : Nat) (x y : Sv) (hB : B ≤ w.heap.size) (h1 : Bs w B x.A x.s.length x.s) (h2 : Bs w B y.A y.s.length y.s) : Sas (w.alloc (.cells #[.slice x.A x.s.length x.c, .slice y.A y.s.length y.c] 24)) B (some ⟨w.heap.size, 0, none⟩) [x, y] := by
  have hb : Below B w (w.alloc (.cells #[.slice x.A x.s.length x.c, .slice y.A y.s.length y.c] 24)) := (Below.refl _ _).alloc hB _
  refine ⟨cz_ry (Ry.of_cel (Cel.new w 24 [.slice x.A x.s.length x.c, .slice y.A y.s.length y.c])), fun z hz => ?_⟩
  simp only [List.mem_cons, List.not_mem_nil, or_false] at hz
  rcases hz with rfl | rfl
  · exact h1.below hb
  · exact h2.below hb
/-- Arms that Arms returns can be walked. -/
theorem fine_of {ys : List Av} {ss : List (List (BitVec 8))} {ps : List (List In)} (h : armsF 0 ss = .ok ps) (e : ys.map Av.p = ps) : ys.length = ss.length ∧ ∀ x ∈ ys, x.us.length ≤ 200 ∧ (∀ u ∈ x.us, (-9223372036854775808 ≤ u.i.x ∧ u.i.x < 9223372036854775808) ∧ -9223372036854775808 ≤ u.i.y ∧ u.i.y < 9223372036854775808) ∧ ∀ u ∈ x.us, u.i.sp.length ≤ 1000 := by
  obtain ⟨h1, h2⟩ := armsF_nice 0 ss ps h
  subst e
  refine ⟨by simpa using h1, fun x hx => ?_⟩
  obtain ⟨q1, q2⟩ := h2 x.p (List.mem_map_of_mem hx)
  have q3 : ∀ u ∈ x.us, NiceI u.i := fun u hu => q2 u.i (List.mem_map_of_mem hu)
  refine ⟨by simpa [Av.p] using q1, fun u hu => ?_, fun u hu => (q3 u hu).2.2⟩
  obtain ⟨⟨a1, a2⟩, ⟨a3, a4⟩, _⟩ := q3 u hu
  omega
set_option maxRecDepth 100000 in
set_option maxHeartbeats 1000000 in
theorem knows10 (w : World) : Calls Try.prog 6 #[] w fun e w' => e = .returned (.bool true) ∧ Below w.heap.size w w' := by
  have kc := fun (w : World) (C : Array Value) (n c : Nat) => Lib.run_convert_bytes_const (P := Try.prog) w 24 5 C n c Try.underlying24 Try.underlying5
  have k2 := kc (w.alloc (.cells #[.int .u8 98, .int .u8 43] 5 (2, 3))) #[.int .u8 97, .int .u8 98] 2 2
  rw [show (w.alloc (.cells #[.int .u8 98, .int .u8 43] 5 (2, 3))).heap.size = w.heap.size + 1 by simp] at k2
  go_enter Try.func6, Try.ntmps6
  go_wp2_with fail
  obtain ⟨W3, hW3⟩ : ∃ W3, W3 = ((w.alloc (.cells #[.int .u8 98, .int .u8 43] 5 (2, 3))).alloc (.cells #[.int .u8 97, .int .u8 98] 5 (2, 3))).alloc (.cells #[.slice (some ⟨w.heap.size, 0, none⟩) 2 2, .slice (some ⟨w.heap.size + 1, 0, none⟩) 2 2] 24) := ⟨_, rfl⟩
  have hb3 : Below w.heap.size w W3 := by rw [hW3]; exact ((((Below.refl _ _).alloc (Nat.le_refl _) _).alloc (by simp) _).alloc (by simp; omega) _)
  have hsas : Sas W3 W3.heap.size (some ⟨w.heap.size + 1 + 1, 0, none⟩) [⟨[98#8, 43#8], some ⟨w.heap.size, 0, none⟩, 2⟩, ⟨[97#8, 98#8], some ⟨w.heap.size + 1, 0, none⟩, 2⟩] := by
    have b1 := Bs.lit w 5 (2, 3) #[.int .u8 98, .int .u8 43] [98#8, 43#8] rfl 2 rfl
    have b2 := Bs.lit (w.alloc (.cells #[.int .u8 98, .int .u8 43] 5 (2, 3))) 5 (2, 3) #[.int .u8 97, .int .u8 98] [97#8, 98#8] rfl 2 rfl
    have hs1 : (w.alloc (.cells #[.int .u8 98, .int .u8 43] 5 (2, 3))).heap.size = w.heap.size + 1 := by simp
    rw [hs1] at b2
    have b1' := (b1.below ((Below.refl (w.heap.size + 1) (w.alloc (.cells #[.int .u8 98, .int .u8 43] 5 (2, 3)))).alloc (by simp) (.cells #[.int .u8 97, .int .u8 98] 5 (2, 3)))).more (show w.heap.size + 1 ≤ w.heap.size + 1 + 1 by omega)
    have := sas_two _ (w.heap.size + 1 + 1) ⟨[98#8, 43#8], some ⟨w.heap.size, 0, none⟩, 2⟩ ⟨[97#8, 98#8], some ⟨w.heap.size + 1, 0, none⟩, 2⟩ (by simp) b1' b2
    rw [hW3]
    refine ⟨?_, fun x hx => (this.bs x hx).more (by simp)⟩
    have h2 := this.ry
    rw [show ((w.alloc (.cells #[.int .u8 98, .int .u8 43] 5 (2, 3))).alloc (.cells #[.int .u8 97, .int .u8 98] 5 (2, 3))).heap.size = w.heap.size + 1 + 1 by simp] at h2
    exact h2
  have con := parms W3 W3.heap.size _ 2 2 _ hsas (Nat.le_refl _) rfl (by decide)
  rw [show List.map Sv.s [⟨[98#8, 43#8], some ⟨w.heap.size, 0, none⟩, 2⟩, ⟨[97#8, 98#8], some ⟨w.heap.size + 1, 0, none⟩, 2⟩] = [[98#8, 43#8], [97#8, 98#8]] from rfl, arms_k] at con
  rw [← hW3]
  refine con.mono ?_
  clear con k2 hsas
  rintro e w4 ⟨hb4, A4, n4, c4, ys, rfl, hn4, hpas, hps⟩
  obtain ⟨hyl, hfine⟩ := fine_of arms_k hps
  obtain rfl : n4 = 2 := hn4.trans hyl
  have HB4 := Lib.hid (hb3.trans (hb4.mono hb3.size))
  have HP := Lib.hid hpas
  have HYL := Lib.hid hyl
  have HFI := Lib.hid hfine
  have HPS := Lib.hid hps
  clear hb3 hb4 hpas hyl hfine hps hn4 hW3
  go_wp2_with fail
  obtain ⟨W5, hW5⟩ : ∃ W5, W5 = w4.alloc (.cells #[.int .u8 120, .int .u8 97, .int .u8 98, .int .u8 98] 5 (4, 5)) := ⟨_, rfl⟩
  have hb5 : Below w4.heap.size w4 W5 := by rw [hW5]; exact (Below.refl _ _).alloc (Nat.le_refl _) _
  have b5 := Bs.lit w4 5 (4, 5) #[.int .u8 120, .int .u8 97, .int .u8 98, .int .u8 98] [120#8, 97#8, 98#8, 98#8] rfl 4 rfl
  have con := plook W5 A4 2 c4 ys (HP.out.below hb5) HYL.out (by decide) HFI.out (some ⟨w4.heap.size, 0, none⟩) 4 4 [120#8, 97#8, 98#8, 98#8] (by rw [hW5]; exact b5.more (by simp)) (by decide) (Nat.le_refl _)
  rw [HPS.out] at con
  rw [← hW5]
  refine con.mono ?_
  clear con b5
  rintro e w6 ⟨hb6, a, f, t, n, rfl, htl⟩
  obtain ⟨rfl, rfl, rfl, rfl⟩ : a = 0 ∧ f = 2 ∧ t = 3 ∧ n = 0 := by
    rcases htl with ⟨h, _⟩ | ⟨i, g, e, hbest, rfl, rfl, rfl, rfl⟩
    · exact absurd h (best_k.not_none)
    · obtain ⟨h1, h2, h3⟩ := hbest.unique best_k
      omega
  have HB6 := Lib.hid ((HB4.out.trans (hb5.mono HB4.out.size)).trans (hb6.mono (Nat.le_trans HB4.out.size hb5.size)))
  have HP6 := Lib.hid ((HP.out.below hb5).below hb6)
  clear hb5 hb6 htl HB4 HP hW5
  obtain ⟨W7, hW7⟩ : ∃ W7, W7 = w6.alloc (.cells #[.int .i64 0, .int .i64 2, .int .i64 3] 41) := ⟨_, rfl⟩
  have hb7 : Below w6.heap.size w6 W7 := by rw [hW7]; exact (Below.refl _ _).alloc (Nat.le_refl _) _
  have hc7 : Cel W7 w6.heap.size 41 [.int .i64 0, .int .i64 2, .int .i64 3] := by rw [hW7]; exact Cel.new w6 _ _
  have con := plook W7 A4 2 c4 ys (HP6.out.below hb7) HYL.out (by decide) HFI.out none 0 0 [] Bs.nil_ (by decide) (Nat.le_refl _)
  rw [HPS.out] at con
  go_wp2_with fail
  rw [← hW7]
  refine con.mono ?_
  clear con
  rintro e w8 ⟨hb8, a, f, t, n, rfl, htl⟩
  obtain ⟨rfl, rfl, rfl, rfl⟩ : a = 0 ∧ f = 0 ∧ t = 0 ∧ n = 1 := by
    rcases htl with ⟨_, h⟩ | ⟨i, g, e, hbest, _⟩
    · exact h
    · exact absurd none_k hbest.not_none
  have HC8 := Lib.hid (hc7.below hb8 hc7.lt)
  have HB8 := Lib.hid ((HB6.out.trans (hb7.mono HB6.out.size)).trans (hb8.mono (Nat.le_trans HB6.out.size hb7.size)))
  clear hb7 hc7 hb8 htl HB6 HP6 hW7 HYL HFI HPS
  have k9 := kc (w8.alloc (.cells #[.int .i64 0, .int .i64 0, .int .i64 0] 41)) #[.int .u8 40] 1 1
  rw [show (w8.alloc (.cells #[.int .i64 0, .int .i64 0, .int .i64 0] 41)).heap.size = w8.heap.size + 1 by simp] at k9
  go_wp2_with fail
  obtain ⟨W9, hW9⟩ : ∃ W9, W9 = (w8.alloc (.cells #[.int .i64 0, .int .i64 0, .int .i64 0] 41)).alloc (.cells #[.int .u8 40] 5 (1, 2)) := ⟨_, rfl⟩
  have hs9 : W9.heap.size = w8.heap.size + 1 + 1 := by rw [hW9]; simp
  have hb9 : Below w8.heap.size w8 W9 := by rw [hW9]; exact ((Below.refl _ _).alloc (Nat.le_refl _) _).alloc (by simp) _
  have b9 := Bs.lit (w8.alloc (.cells #[.int .i64 0, .int .i64 0, .int .i64 0] 41)) 5 (1, 2) #[.int .u8 40] [40#8] rfl 1 rfl
  have h9 := sas_two W9 W9.heap.size ⟨[], none, 0⟩ ⟨[40#8], some ⟨w8.heap.size + 1, 0, none⟩, 1⟩ (Nat.le_refl _) Bs.nil_ (by rw [hs9, hW9]; rw [show (w8.alloc (.cells #[.int .i64 0, .int .i64 0, .int .i64 0] 41)).heap.size = w8.heap.size + 1 by simp] at b9; exact b9)
  have con := parms _ W9.heap.size _ 2 2 _ h9 (by simp) rfl (by decide)
  rw [show List.map Sv.s [⟨[], none, 0⟩, ⟨[40#8], some ⟨w8.heap.size + 1, 0, none⟩, 1⟩] = [[], [40#8]] from rfl, arms_bad, hs9] at con
  rw [← hW9]
  refine con.mono ?_
  clear con h9 b9
  rintro e w10 ⟨hb10, _, rfl⟩
  have hb11 := hb9.trans ((((Below.refl W9.heap.size W9).alloc (Nat.le_refl _) _).trans (hb10.mono (by simp))).mono hb9.size)
  have hc10 := HC8.out.below hb11 HC8.out.lt
  have HB10 := Lib.hid (HB8.out.trans (hb11.mono HB8.out.size))
  have c0 := hc10.cell 0
  have c1 := hc10.cell 1
  have c2 := hc10.cell 2
  clear hb9 hb10 hb11 hc10 hW9 hs9 HB8 HC8
  go_wp2_with fail
  go_ret
  exact ⟨rfl, HB10.out⟩
end Go.Proofs.Ytjpbndpfbdfhjaa.Seek
