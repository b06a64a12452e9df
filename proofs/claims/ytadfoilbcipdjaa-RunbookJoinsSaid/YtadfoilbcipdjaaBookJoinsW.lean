/-
  RunbookJoins (P12.2): the walk.
-/
import Derived.Test.YtadfoilbcipdjaaBookKnows
import Derived.Test.YtadfoilbcipdjaaAppendFull
import Derived.BigQuiet
namespace Go.Proofs.Ytadfoilbcipdjaa.Book
open Go.RowKit
open Go.Proofs.Ytadfoilbcipdjaa.Lex (Tok Tk B cut Tv Tx tflat Cr cr_ry Ptk add_at4 Owb rowB lit_one)
set_option linter.unusedVariables false
set_option linter.unusedSimpArgs false

theorem PpSays.form {w w' : World} {r : Except (Nat × Nat) Book} {e : Ending} (h : PpSays w r e w') : ∃ (most : Int) (A1 : Option Addr) (n1 c1 : Nat) (p : Nat) (en : Nat), e = .returned (.tuple #[.agg #[.int .i64 most, .slice A1 n1 c1], .int .i64 (p : Int), .int .i64 (en : Int)]) ∧ Below w.heap.size w w' ∧
    (en ≠ 0 → r = .error (p, en)) ∧ (en = 0 → ∃ b vs, r = .ok b ∧ most = b.most ∧ n1 = b.steps.length ∧ Pbk w' A1 vs ∧ vs.map (·.s) = b.steps ∧ n1 ≤ 3000) := by
  obtain ⟨hb, h⟩ := h
  cases r with
  | error pb =>
    obtain ⟨p, bad⟩ := pb
    obtain ⟨h1, rfl⟩ := h
    exact ⟨0, none, 0, 0, p, bad, rfl, hb, fun _ => rfl, fun e => absurd e h1⟩
  | ok b =>
    obtain ⟨A', c', vs, rfl, h1, h2, h3⟩ := h
    exact ⟨b.most, A', _, c', 0, 0, rfl, hb, fun e => absurd rfl e, fun _ => ⟨b, vs, rfl, rfl, rfl, h1, h2, h3⟩⟩
/-- What the loop compares. -/
theorem step_at {w : World} {A : Option Addr} {vs : List Bv} {ss : List Step} (h : Pbk w A vs) (hs : vs.map (·.s) = ss) {i : Nat} {st : Step} (hi : ss[i]? = some st) : ∃ ad A4 c4 A5 c5, A = some ad ∧
    w.cell? (ad.add (i * 9)) = some (.int .i64 (st.at_ : Int)) ∧ w.cell? ⟨(ad.add (i * 9)).block, (ad.add (i * 9)).off + 1, none⟩ = some (.string (str st.name)) ∧ w.cell? ⟨(ad.add (i * 9)).block, (ad.add (i * 9)).off + 2, none⟩ = some (.int .i64 st.tag) ∧
    w.cell? ⟨(ad.add (i * 9)).block, (ad.add (i * 9)).off + 3, none⟩ = some (.bool st.sends) ∧ w.cell? ⟨(ad.add (i * 9)).block, (ad.add (i * 9)).off + 4, none⟩ = some (.slice A4 st.send.length c4) ∧ w.cell? ⟨(ad.add (i * 9)).block, (ad.add (i * 9)).off + 5, none⟩ = some (.slice A5 st.arms.length c5) ∧
    w.cell? ⟨(ad.add (i * 9)).block, (ad.add (i * 9)).off + 6, none⟩ = some (.int .i64 st.time) ∧ w.cell? ⟨(ad.add (i * 9)).block, (ad.add (i * 9)).off + 7, none⟩ = some (.int .i64 st.try_) ∧ w.cell? ⟨(ad.add (i * 9)).block, (ad.add (i * 9)).off + 8, none⟩ = some (.string (str st.els)) := by
  rw [← hs, List.getElem?_map] at hi
  cases hv : vs[i]? with
  | none => rw [hv] at hi; cases hi
  | some v =>
    rw [hv] at hi
    obtain rfl : v.s = st := Option.some.inj hi
    obtain ⟨ad, rfl, hc⟩ := h.cell hv
    refine ⟨ad, v.A4, v.c4, v.A5, v.c5, rfl, hc 0 _ rfl, ?_, ?_, ?_, ?_, ?_, ?_, ?_, ?_⟩
    all_goals rw [add_at4 _ _ _ (by decide)]
    · exact hc 1 _ rfl
    · exact hc 2 _ rfl
    · exact hc 3 _ rfl
    · exact hc 4 _ rfl
    · exact hc 5 _ rfl
    · exact hc 6 _ rfl
    · exact hc 7 _ rfl
    · exact hc 8 _ rfl
set_option maxRecDepth 100000 in
set_option maxHeartbeats 4000000 in
theorem joins_walk (A : Option Addr) (n c : Nat) (s : List (BitVec 8)) (w : World) (h : Bs w w.heap.size A n s) (hd1 : n ≤ maxLen) (C : Option Addr) (m d : Nat) (t : List (BitVec 8)) (ht : Bs w w.heap.size C m t) (hd2 : m ≤ maxLen) :
    Calls Try.prog 3 #[.slice A n c, .slice C m d] w fun e w' => e = .returned (.bool true) ∧ Below w.heap.size w w' := by
  by_cases hn : 900 < n
  · have HB0 := Lib.hid (Below.refl w.heap.size w)
    clear h ht
    go_enter Try.func3, Try.ntmps3
    go_wp2_with fail
    refine (knows12 _).mono ?_
    rintro e wk ⟨rfl, hbk⟩
    have HBK := Lib.hid (HB0.out.trans (hbk.mono HB0.out.size))
    clear hbk
    go_wp2_with fail
    go_ret
    exact ⟨rfl, HBK.out⟩
  by_cases hm : 900 < m
  · have HB0 := Lib.hid (Below.refl w.heap.size w)
    have z5 : decide ((900 : Int) < (n : Int)) = false := by simp; omega
    clear h ht
    go_enter Try.func3, Try.ntmps3
    go_wp2_with fail
    refine (knows12 _).mono ?_
    rintro e wk ⟨rfl, hbk⟩
    have HBK := Lib.hid (HB0.out.trans (hbk.mono HB0.out.size))
    clear hbk
    go_wp2_with fail
    go_ret
    exact ⟨rfl, HBK.out⟩
  have z5 : decide ((900 : Int) < (n : Int)) = false := by simp; omega
  have z6 : decide ((900 : Int) < (m : Int)) = false := by simp; omega
  have con := pparse w w.heap.size A n c s h (Nat.le_refl _) (by omega)
  have H := Lib.hid h
  have HT := Lib.hid ht
  have HSL := Lib.hid h.len
  have HTL := Lib.hid ht.len
  have hn9 : n ≤ 900 := by omega
  have hm9 : m ≤ 900 := by omega
  clear h ht hn hm
  go_enter Try.func3, Try.ntmps3
  go_wp2_with fail
  refine con.mono ?_
  clear con
  intro e w1 hr1
  obtain ⟨most1, A1, n1, c1, p1, en1, rfl, hb1, hx1, hy1⟩ := hr1.form
  clear hr1
  go_upto_region 4 with fail
  obtain ⟨W1, hW1⟩ : ∃ W1, W1 = w1.alloc (.cells #[.int .i64 most1, .slice A1 n1 c1] 26) := ⟨_, rfl⟩
  have hbw1 : Below w1.heap.size w1 W1 := by rw [hW1]; exact (Below.refl _ _).alloc (Nat.le_refl _) _
  have HV1 := Lib.hid (show Cel W1 w1.heap.size 26 [.int .i64 most1, .slice A1 n1 c1] by rw [hW1]; exact Cel.new w1 _ _)
  have HB1 := Lib.hid (hb1.trans (hbw1.mono hb1.size))
  have HG1 := Lib.hid hb1.size
  have HX1 := Lib.hid hx1
  have HY1 := Lib.hid (show en1 = 0 → ∃ b vs, bookOf s = .ok b ∧ most1 = b.most ∧ n1 = b.steps.length ∧ Pbk W1 A1 vs ∧ vs.map (·.s) = b.steps ∧ n1 ≤ 3000 from fun e => by
    obtain ⟨b, vs, q1, q2, q3, q4, q5, q6⟩ := hy1 e
    exact ⟨b, vs, q1, q2, q3, q4.below hbw1, q5, q6⟩)
  rw [← hW1]
  clear hW1 hbw1 hb1 hx1 hy1
  generalize w1.heap.size = g1 at HV1 HG1 ⊢
  have con := pparse W1 w.heap.size C m d t (HT.out.below HB1.out) HB1.out.size (by omega)
  go_wp2_with fail
  refine con.mono ?_
  clear con
  intro e w2 hr2
  obtain ⟨most2, A2, n2, c2, p2, en2, rfl, hb2, hx2, hy2⟩ := hr2.form
  clear hr2
  go_upto_region 5 with fail
  obtain ⟨W2, hW2⟩ : ∃ W2, W2 = w2.alloc (.cells #[.int .i64 most2, .slice A2 n2 c2] 26) := ⟨_, rfl⟩
  have hbw2 : Below w2.heap.size w2 W2 := by rw [hW2]; exact (Below.refl _ _).alloc (Nat.le_refl _) _
  have hb12 : Below W1.heap.size W1 W2 := hb2.trans (hbw2.mono hb2.size)
  have HV2 := Lib.hid (show Cel W2 w2.heap.size 26 [.int .i64 most2, .slice A2 n2 c2] by rw [hW2]; exact Cel.new w2 _ _)
  have HV12 := Lib.hid (show Cel W2 g1 26 [.int .i64 most1, .slice A1 n1 c1] from (hb12.block _ HV1.out.lt).trans HV1.out)
  have HB2 := Lib.hid (HB1.out.trans (hb12.mono HB1.out.size))
  have HG2 := Lib.hid (Nat.le_trans HB1.out.size hb2.size)
  have HX2 := Lib.hid hx2
  have HY12 := Lib.hid (show en1 = 0 → ∃ b vs, bookOf s = .ok b ∧ most1 = b.most ∧ n1 = b.steps.length ∧ Pbk W2 A1 vs ∧ vs.map (·.s) = b.steps ∧ n1 ≤ 3000 from fun e => by
    obtain ⟨b, vs, q1, q2, q3, q4, q5, q6⟩ := HY1.out e
    exact ⟨b, vs, q1, q2, q3, q4.below hb12, q5, q6⟩)
  have HY2 := Lib.hid (show en2 = 0 → ∃ b vs, bookOf t = .ok b ∧ most2 = b.most ∧ n2 = b.steps.length ∧ Pbk W2 A2 vs ∧ vs.map (·.s) = b.steps ∧ n2 ≤ 3000 from fun e => by
    obtain ⟨b, vs, q1, q2, q3, q4, q5, q6⟩ := hy2 e
    exact ⟨b, vs, q1, q2, q3, q4.below hbw2, q5, q6⟩)
  rw [← hW2]
  clear hW2 hbw2 hb2 hb12 hx2 hy2 HY1 HV1
  generalize w2.heap.size = g2 at HV2 HG2 ⊢
  rcases Nat.eq_zero_or_pos en1 with h1 | h1
  rotate_left
  · have hbi : ((en1 : Int) == 0) = false := by simp; omega
    have hbj : ¬ ((en1 : Int) = 0) := by omega
    clear h1
    go_wp2_with fail
    refine (knows12 _).mono ?_
    rintro e wk ⟨rfl, hbk⟩
    have HBK := Lib.hid (HB2.out.trans (hbk.mono HB2.out.size))
    clear hbk
    go_wp2_with fail
    go_ret
    exact ⟨rfl, HBK.out⟩
  subst h1
  rcases Nat.eq_zero_or_pos en2 with h2 | h2
  rotate_left
  · have hbi : ((en2 : Int) == 0) = false := by simp; omega
    have hbj : ¬ ((en2 : Int) = 0) := by omega
    clear h2
    go_wp2_with fail
    refine (knows12 _).mono ?_
    rintro e wk ⟨rfl, hbk⟩
    have HBK := Lib.hid (HB2.out.trans (hbk.mono HB2.out.size))
    clear hbk
    go_wp2_with fail
    go_ret
    exact ⟨rfl, HBK.out⟩
  subst h2
  obtain ⟨b1, vs1, hbk1, rfl, hn1, hP1, hvs1, hf1⟩ := HY12.out rfl
  obtain ⟨b2, vs2, hbk2, rfl, hn2, hP2, hvs2, hf2⟩ := HY2.out rfl
  have hjo := joins hbk1 hbk2 (by rw [HSL.out]; exact hn9) (by rw [HTL.out]; exact hm9)
  have hat := at_le hbk2
  rw [HSL.out] at hjo
  rw [HTL.out] at hat
  have HJO := Lib.hid hjo
  have HAT := Lib.hid hat
  have HN1 := Lib.hid hn1
  have HN2 := Lib.hid hn2
  have HP1 := Lib.hid hP1
  have HP2 := Lib.hid hP2
  have HVS1 := Lib.hid hvs1
  have HVS2 := Lib.hid hvs2
  have H2 := Lib.hid (H.out.below HB2.out)
  have HT2 := Lib.hid (HT.out.below HB2.out)
  have HC10 := Lib.hid (fun (W : World) => lit_one W 10#8)
  clear hbk1 hbk2 hn1 hn2 hP1 hP2 hvs1 hvs2 hjo hat HY12 HY2 HX1 HX2
  generalize b1.most = most1 at *
  generalize b2.most = most2 at *
  go_wp2_with (first
    | (at_builtin; refine wpList_append_new _ rfl _ _ 22 rfl 5 rowB rfl w.heap.size A n c s rfl H2.out HB2.out.size (by omega) ?_; intro A4 c4 w4 ho4 hb4; have HO4 := Lib.hid ho4; have HB4 := Lib.hid hb4; have HO5 := Lib.hid (show Owb (w4.alloc (.cells #[v8 10#8] 5)) W2.heap.size A4 n c4 s from Lex.Owb.below (show Owb w4 W2.heap.size A4 n c4 s from ho4) ((Below.refl _ _).alloc (Nat.le_refl _) _)); have HB5 := Lib.hid (hb4.trans (((Below.refl w4.heap.size w4).alloc (Nat.le_refl _) (.cells #[v8 10#8] 5)).mono hb4.size)); clear ho4 hb4)
    | (at_builtin; refine wpList_append_bs _ rfl _ _ 22 rfl W2.heap.size 5 rowB (.slice A4 n c4) n s rfl HO5.out (w4.heap.size + 1) (some ⟨w4.heap.size, 0, none⟩) 1 1 [10#8] rfl (HC10.out w4) (n + 1) (s ++ [10#8]) rfl rfl (by omega) HB5.out.size ?_; intro A6 c6 w6 ho6 hg6 _; have HO6 := Lib.hid (show Owb w6 W2.heap.size A6 (n + 1) c6 (s ++ [10#8]) from ho6); have HB6 := Lib.hid (HB5.out.trans (Lex.Owb.grew HO5.out hg6 HB5.out.size)); clear ho6 hg6)
    | (at_builtin; refine wpList_append_bs _ rfl _ _ 22 rfl W2.heap.size 5 rowB (.slice A6 (n + 1) c6) (n + 1) (s ++ [10#8]) rfl HO6.out w.heap.size C m d t rfl (HT2.out.below (HB6.out.mono HB2.out.size)) (n + 1 + m) (s ++ [10#8] ++ t) rfl rfl (by omega) HB6.out.size ?_; intro A8 c8 w8 ho8 hg8 _; have HO8 := Lib.hid (show Owb w8 W2.heap.size A8 (n + 1 + m) c8 (s ++ [10#8] ++ t) from ho8); have HB8 := Lib.hid (HB6.out.trans (Lex.Owb.grew HO6.out hg8 HB6.out.size)); have con8 := pparse w8 w8.heap.size A8 (n + 1 + m) c8 (s ++ [10#8] ++ t) (Bs.of_own HO8.out rfl) (Nat.le_refl _) (by omega); clear ho8 hg8)
    | fail)
  rw [show s ++ [10#8] ++ t = s ++ 10#8 :: t by simp] at con8
  refine con8.mono ?_
  clear con8
  intro e w3 hr3
  obtain ⟨most3, A3, n3, c3, p3, en3, rfl, hb3, hx3, hy3⟩ := hr3.form
  clear hr3
  go_upto_region 8 with fail
  obtain ⟨W3, hW3⟩ : ∃ W3, W3 = w3.alloc (.cells #[.int .i64 most3, .slice A3 n3 c3] 26) := ⟨_, rfl⟩
  have hbw3 : Below w3.heap.size w3 W3 := by rw [hW3]; exact (Below.refl _ _).alloc (Nat.le_refl _) _
  have hb23 : Below W2.heap.size W2 W3 := (HB8.out.trans (hb3.mono HB8.out.size)).trans (hbw3.mono (Nat.le_trans HB8.out.size hb3.size))
  have HV3 := Lib.hid (show Cel W3 w3.heap.size 26 [.int .i64 most3, .slice A3 n3 c3] by rw [hW3]; exact Cel.new w3 _ _)
  have HV13 := Lib.hid (show Cel W3 g1 26 [.int .i64 most1, .slice A1 n1 c1] from (hb23.block _ HV12.out.lt).trans HV12.out)
  have HV23 := Lib.hid (show Cel W3 g2 26 [.int .i64 most2, .slice A2 n2 c2] from (hb23.block _ HV2.out.lt).trans HV2.out)
  have HB3 := Lib.hid (HB2.out.trans (hb23.mono HB2.out.size))
  have HP13 := Lib.hid (HP1.out.below hb23)
  have HP23 := Lib.hid (HP2.out.below hb23)
  have HX3 := Lib.hid hx3
  have HY3 := Lib.hid (show en3 = 0 → ∃ b vs, bookOf (s ++ 10#8 :: t) = .ok b ∧ most3 = b.most ∧ n3 = b.steps.length ∧ Pbk W3 A3 vs ∧ vs.map (·.s) = b.steps ∧ n3 ≤ 3000 from fun e => by
    obtain ⟨b, vs, q1, q2, q3, q4, q5, q6⟩ := hy3 e
    exact ⟨b, vs, q1, q2, q3, q4.below hbw3, q5, q6⟩)
  rw [← hW3]
  clear hW3 hbw3 hb3 hb23 hx3 hy3 HV12 HV2 HP1 HP2 HO4 HB4 HO5 HB5 HO6 HB6 HO8 HB8
  generalize w3.heap.size = g3 at HV3 ⊢
  rcases Nat.eq_zero_or_pos en3 with h3 | h3
  rotate_left
  · have hbi : ((en3 : Int) == 0) = false := by simp; omega
    have hbj : ¬ ((en3 : Int) = 0) := by omega
    have HE3 := Lib.hid (HX3.out (by omega))
    have kc := fun (w : World) (C : Array Value) (n c : Nat) => Lib.run_convert_bytes_const (P := Try.prog) w 22 5 C n c Try.underlying22 Try.underlying5
    have HT3 := Lib.hid (HT.out.below HB3.out)
    have hbp := Bs.lit W3 5 (27, 28) #[.int .u8 115, .int .u8 116, .int .u8 101, .int .u8 112, .int .u8 32, .int .u8 97, .int .u8 32, .int .u8 119, .int .u8 105, .int .u8 116, .int .u8 104, .int .u8 105, .int .u8 110, .int .u8 32, .int .u8 49, .int .u8 32, .int .u8 101, .int .u8 108, .int .u8 115, .int .u8 101, .int .u8 32, .int .u8 97, .int .u8 32, .int .u8 101, .int .u8 110, .int .u8 100, .int .u8 32] pre rfl 27 rfl
    have HBP := Lib.hid hbp
    clear h3 hbp
    go_wp2_with (first
      | (at_builtin; refine wpList_append_full _ rfl _ _ 22 rfl 5 rowB W3.heap.size 27 pre rfl (by simpa using HBP.out) w.heap.size C m d t rfl (HT3.out.below (((Below.refl _ _).alloc (Nat.le_refl _) _).mono HB3.out.size)) (by omega) ?_; intro A9 c9 w9 hb9 hs9; have HB9 := Lib.hid hb9; have con9 := pparse w9 w9.heap.size A9 (27 + m) c9 (pre ++ t) hs9 (Nat.le_refl _) (by omega); clear hb9 hs9)
      | fail)
    have hbw9 : Below w.heap.size w w9 := HB3.out.trans ((((Below.refl W3.heap.size W3).alloc (Nat.le_refl _) _).trans (HB9.out.mono (by simp))).mono HB3.out.size)
    obtain ⟨p, hp, h27⟩ : ∃ p, bookOf (pre ++ t) = .error (p, 2) ∧ 27 ≤ p := by
      rcases HJO.out with ⟨cc, hcc, _⟩ | ⟨_, hp⟩
      · rw [HE3.out] at hcc; cases hcc
      · exact hp
    rw [hp] at con9
    refine con9.mono ?_
    clear con9
    rintro e w10 ⟨hb10, _, rfl⟩
    have HB10 := Lib.hid (show Below w.heap.size w (w10.alloc (.cells #[.int .i64 0, .slice none 0 0] 26)) from (hbw9.trans (hb10.mono hbw9.size)).trans (((Below.refl w10.heap.size w10).alloc (Nat.le_refl _) _).mono (Nat.le_trans hbw9.size hb10.size)))
    have hp27 : decide ((27 : Int) ≤ (p : Int)) = true := by simp; omega
    clear hbw9 hp hb10 h27 HB9
    go_wp2_with fail
    refine (knows12 _).mono ?_
    rintro e wk ⟨rfl, hbk⟩
    have HBK := Lib.hid (HB10.out.trans (hbk.mono HB10.out.size))
    clear hbk
    go_wp2_with fail
    go_ret
    exact ⟨rfl, HBK.out⟩
  subst h3
  obtain ⟨b3, vs3, hbk3, rfl, hn3, hP3, hvs3, hf3⟩ := HY3.out rfl
  obtain ⟨hst, hmo⟩ : b3.steps = b1.steps ++ b2.steps.map (shS (n + 1)) ∧ (b1.steps = [] ∨ b3.most = most1) := by
    rcases HJO.out with ⟨cc, hcc, hst, hmo⟩ | ⟨⟨e, he⟩, _⟩
    · rw [hbk3] at hcc
      injection hcc with hcc
      subst hcc
      exact ⟨hst, hmo⟩
    · rw [hbk3] at he; cases he
  obtain rfl : n3 = n1 + n2 := by rw [hn3, hst, List.length_append, List.length_map, HN1.out, HN2.out]
  have HMO := Lib.hid (show n1 = 0 ∨ b3.most = most1 from hmo.imp (fun e => by rw [HN1.out, e]; rfl) id)
  have HST := Lib.hid hst
  have HP3 := Lib.hid hP3
  have HVS3 := Lib.hid hvs3
  generalize b3.most = most3 at HMO HV3 ⊢
  clear hbk3 hn3 hP3 hvs3 hst hmo HY3 HJO HX3
  have a1 := HV13.out.cell 1
  have a2 := HV23.out.cell 1
  have a3 := HV3.out.cell 1
  have hi2 : n2 ≤ 3000 := hf2
  go_wp2_with fail
  go_loopw [17] (fun v17 wr => ∃ (i : Nat), i ≤ n2 ∧ v17 = .int .i64 (i : Int) ∧ Below W3.heap.size W3 wr) (fun v17 _ => n2 - (intOf v17).toNat)
  case atStart => exact ⟨0, Nat.zero_le _, rfl, Below.refl _ _⟩
  case round =>
    clear a1 a2 a3
    obtain ⟨i, hi, rfl, hb⟩ := hrel
    obtain ⟨W0, rfl⟩ : ∃ W0, W0 = wr := ⟨_, rfl⟩
    have hw1 := (hb.block _ HV13.out.lt).trans HV13.out
    have hw2 := (hb.block _ HV23.out.lt).trans HV23.out
    have hw3 := (hb.block _ HV3.out.lt).trans HV3.out
    replace hw1 : Cel W0 g1 26 [.int .i64 most1, .slice A1 n1 c1] := hw1
    replace hw2 : Cel W0 g2 26 [.int .i64 most2, .slice A2 n2 c2] := hw2
    replace hw3 : Cel W0 g3 26 [.int .i64 most3, .slice A3 (n1 + n2) c3] := hw3
    have l1 := hw1.lt
    have l2 := hw2.lt
    have l3 := hw3.lt
    have a1 := hw1.cell 1
    have a2 := hw2.cell 1
    have a3 := hw3.cell 1
    have a4 := hw1.cell 0
    have a5 := hw3.cell 0
    have HB := Lib.hid hb
    rcases Nat.lt_or_ge i n2 with hlt | hge
    · obtain ⟨st, hst⟩ : ∃ st, b2.steps[i]? = some st := ⟨_, List.getElem?_eq_getElem (by rw [← HN2.out]; exact hlt)⟩
      have hst3 : b3.steps[n1 + i]? = some (shS (n + 1) st) := by
        rw [HST.out, List.getElem?_append_right (by rw [← HN1.out]; omega), ← HN1.out, Nat.add_sub_cancel_left, List.getElem?_map, hst]
        rfl
      have hatm : st.at_ ≤ 900 := Nat.le_trans (HAT.out st (List.mem_of_getElem? hst)) hm9
      obtain ⟨ad, A4, c4, A5, c5, rfl, x0, x1, x2, x3, x4, x5, x6, x7, x8⟩ := step_at (HP23.out.below hb) HVS2.out hst
      obtain ⟨bd, B4, d4, B5, d5, rfl, y0, y1, y2, y3, y4, y5, y6, y7, y8⟩ := step_at (HP3.out.below hb) HVS3.out hst3
      change _ = some (Value.int .i64 ((st.at_ + n + 1 : Nat) : Int)) at y0
      change _ = some (Value.string (str st.name)) at y1
      rw [show (shS (n + 1) st).arms.length = st.arms.length by unfold shS; simp] at y5
      have lx : (ad.add (i * 9)).block < W0.heap.size := cell_lt x0
      have ly : (bd.add ((n1 + i) * 9)).block < W0.heap.size := cell_lt y0
      clear hb hw1 hw2 hw3 hst hst3 x2 x3 x4 x6 x7 x8 a4 a5
      generalize st.at_ = sa at *
      generalize str st.name = sn at *
      generalize st.arms.length = sl at *
      generalize (shS (n + 1) st) = st3 at *
      have hbx : Below W0.heap.size W0 (W0.alloc (.cells #[.int .i64 ((sa : Int) + (n : Int) + 1), .string sn, .int .i64 st3.tag, .bool st3.sends, .slice B4 st3.send.length d4, .slice B5 sl d5, .int .i64 st3.time, .int .i64 st3.try_, .string (str st3.els)] 32)) := (Below.refl _ _).alloc (Nat.le_refl _) _
      have HBX := Lib.hid (HB.out.trans (hbx.mono HB.out.size))
      clear hbx
      go_wp2_with fail
      go_quiet (fail)
      go_wp2_with fail
      exact ⟨⟨i + 1, hlt, by rw [show ((i + 1 : Nat) : Int) = (i : Int) + 1 by omega], Lex.lbelow_drewN HBX.out nq⟩, by simp [intOf]; omega⟩
    · obtain rfl : i = n2 := by omega
      have HBW := Lib.hid (HB3.out.trans (HB.out.mono HB3.out.size))
      clear hb hw1 hw2 hw3
      rcases Nat.eq_zero_or_pos n1 with h0 | h0
      · subst h0
        go_wp2_with fail
        refine (knows12 _).mono ?_
        rintro e wk ⟨rfl, hbk⟩
        have HBK := Lib.hid (HBW.out.trans (hbk.mono HBW.out.size))
        clear hbk
        go_wp2_with fail
        go_ret
        exact ⟨rfl, HBK.out⟩
      · have hz : ((n1 : Int) == 0) = false := by simp; omega
        obtain rfl : most3 = most1 := by rcases HMO.out with h | h
                                         · omega
                                         · exact h
        clear h0
        go_wp2_with fail
        refine (knows12 _).mono ?_
        rintro e wk ⟨rfl, hbk⟩
        have HBK := Lib.hid (HBW.out.trans (hbk.mono HBW.out.size))
        clear hbk
        go_wp2_with fail
        go_ret
        exact ⟨rfl, HBK.out⟩
end Go.Proofs.Ytadfoilbcipdjaa.Book
