/-
  What the examples of layer 9's statements ask (knows): a pattern, its instructions.
-/
import Derived.Test.YtpfogoncholiaaaNfaBuild
import Derived.Test.YtpfogoncholiaaaNfaPhas
import Derived.Test.YtpfogoncholiaaaRegParse
import Derived.Lib.SlBytesConst
namespace Go.Proofs.Ytpfogoncholiaaa.Reg
set_option linter.unusedVariables false
set_option linter.unusedSimpArgs false

theorem escS_len (c : BitVec 8) : (escS c).length ≤ 4 := by
  unfold escS
  split
  · split <;> simp
  · unfold classOf
    repeat' split
    all_goals simp
theorem atomL_sp {s : List (BitVec 8)} {k : Nat} {c : BitVec 8} {o : Rop} {j : Nat} (h : atomL s k c = .ok (o, j)) (hc : s[k]? = some c) (hs : s.length ≤ 80) : o.sp.length ≤ 1000 := by
  have hk := get_lt hc
  unfold atomL at h
  split at h
  · cases h
  · split at h
    · have := setR_ok h hk
      omega
    · split at h
      · unfold escape at h
        split at h
        · cases h
        · rename_i c' hc'
          have := escS_len c'
          rcases e : escS c' with _ | ⟨x, t⟩ <;> rw [e] at h
          · cases h
          · injection h with h; injection h with e1 e2; subst e1
            rw [e] at this
            exact Nat.le_trans this (by omega)
      · split at h <;> (injection h with h; injection h with e1 e2; subst e1; show 1 ≤ 1000; omega)
theorem one_sp (k : Int) : (one k).sp.length ≤ 1000 := Nat.zero_le _
theorem piece_sp {s : List (BitVec 8)} {x : St} (h : ∀ o ∈ x.ops, o.sp.length ≤ 1000) : ∀ o ∈ (pieceEnd s x).ops, o.sp.length ≤ 1000 := by
  intro o ho
  unfold pieceEnd at ho
  simp only [List.mem_append] at ho
  rcases ho with (ho | ho) | ho
  · exact h o ho
  · split at ho
    · simp at ho
    · rw [List.mem_singleton.1 ho]; exact one_sp _
  · split at ho
    · rw [List.mem_singleton.1 ho]; exact one_sp _
    · simp at ho
theorem branch_sp {x : St} (h : ∀ o ∈ x.ops, o.sp.length ≤ 1000) : ∀ o ∈ (branchEnd x).ops, o.sp.length ≤ 1000 := by
  intro o ho
  unfold branchEnd at ho
  simp only [List.mem_append] at ho
  rcases ho with (ho | ho) | ho
  · exact h o ho
  · split at ho
    · simp at ho
    · rw [List.mem_singleton.1 ho]; exact one_sp _
  · split at ho
    · rw [List.mem_singleton.1 ho]; exact one_sp _
    · simp at ho
theorem step_sp {s : List (BitVec 8)} {x y : St} {c : BitVec 8} (h : step s x c = .ok y) (hc : s[x.at_]? = some c) (hs : s.length ≤ 80) (hx : ∀ o ∈ x.ops, o.sp.length ≤ 1000) : ∀ o ∈ y.ops, o.sp.length ≤ 1000 := by
  unfold step at h
  split at h
  · split at h
    · cases h
    · injection h with h; subst h; exact hx
  · split at h
    · split at h
      · cases h
      · injection h with h; subst h; exact piece_sp (branch_sp hx)
    · split at h
      · injection h with h; subst h; exact branch_sp hx
      · split at h
        · cases h
        · rename_i o j e
          injection h with h; subst h
          refine piece_sp fun o' ho => ?_
          rcases List.mem_append.1 ho with ho | ho
          · exact hx o' ho
          · rw [List.mem_singleton.1 ho]; exact atomL_sp e hc hs
theorem runF_sp {s : List (BitVec 8)} (hs : s.length ≤ 80) : ∀ (n : Nat) (x : St) (l : List Rop), (∀ o ∈ x.ops, o.sp.length ≤ 1000) → runF s n x = .ok l → ∀ o ∈ l, o.sp.length ≤ 1000 := by
  intro n
  induction n with
  | zero => intro x l _ h; cases h
  | succ n ih =>
    intro x l hx h
    unfold runF at h
    split at h
    · split at h
      · cases h
      · injection h with h; subst h; exact branch_sp hx
    · rename_i c hc
      split at h
      · cases h
      · rename_i y hy
        exact ih y l (step_sp hy hc hs hx) h
theorem parse_sp {s : List (BitVec 8)} {l : List Rop} (h : parse s = .ok l) : ∀ o ∈ l, o.sp.length ≤ 1000 := by
  unfold parse at h
  split at h
  · cases h
  · exact runF_sp (by omega) _ _ _ (by simp [St0]) h
theorem piled_kinds : ∀ (l : List Rop) (n m : Nat), piled n l = some m → ∀ o ∈ l, 1 ≤ o.kind ∧ o.kind ≤ 7
  | [], _, _, _ => by simp
  | o :: l, n, m, h => by
    unfold piled at h
    split at h
    · cases h
    · rename_i k e
      have h2 := piled_kinds l k m h
      intro x hx
      rcases List.mem_cons.1 hx with rfl | hx
      · unfold does at e
        split at e
        · cases e
        · rename_i t ht
          unfold takes at ht
          split at ht
          · omega
          · split at ht
            · omega
            · split at ht
              · omega
              · cases ht
      · exact h2 x hx
theorem piled_len : ∀ (l : List Rop) (n m : Nat), piled n l = some m → m + heavy l ≤ n + l.length * 3
  | [], n, m, h => by cases h; simp [heavy]
  | o :: l, n, m, h => by
    unfold piled at h
    split at h
    · cases h
    · rename_i k e
      have h2 := piled_len l k m h
      have h3 : k ≤ n + 1 := by
        unfold does at e
        split at e
        · cases e
        · split at e
          · cases e
          · injection e with e; omega
      have h4 : weight o.kind ≤ 2 := by 
        unfold weight
        split
        · decide
        · split <;> decide
      have h5 : heavy (o :: l) = weight o.kind + heavy l := by simp [heavy]
      simp only [List.length_cons]; omega
end Go.Proofs.Ytpfogoncholiaaa.Reg
namespace Go.Proofs.Ytpfogoncholiaaa.Nfa
open Go.RowKit Go.Proofs.Ytpfogoncholiaaa.Ord
open Go.Proofs.Ytpfogoncholiaaa.Reg (Ov oflat Sp sflat sflat_length Rop Spn Ows parse parse_top parse_good parse_sp piled_kinds ParseSays)
set_option linter.unusedVariables false
set_option linter.unusedSimpArgs false

theorem Pr8.of_ows {w : World} {B n c : Nat} {A : Option Addr} {l : List Rop} (h : Ows w B (.slice A n c) l) (hn : l.length = n) : ∃ us : List Ov, us.map (·.o) = l ∧ us.length = n ∧ Pr8 w A us := by
  obtain ⟨us, ho, hm, hs⟩ := h.row
  rw [hn] at ho
  exact ⟨us, hm, by rw [← hn, ← hm, List.length_map], ⟨cz_ry (Ry.of_own ho (by decide)), fun u hu => cz_ry (hs u hu)⟩⟩
theorem parse_ab : parse [97#8, 124#8, 98#8] = .ok [⟨1, false, [⟨97#8, 97#8⟩]⟩, ⟨1, false, [⟨98#8, 98#8⟩]⟩, ⟨4, false, []⟩] := by rfl
theorem build_ab : build [⟨1, false, [⟨97#8, 97#8⟩]⟩, ⟨1, false, [⟨98#8, 98#8⟩]⟩, ⟨4, false, []⟩] = .ok [⟨2, 1, 3, false, []⟩, ⟨1, 0, 0, false, [⟨97#8, 97#8⟩]⟩, ⟨3, 2, 0, false, []⟩, ⟨1, 0, 0, false, [⟨98#8, 98#8⟩]⟩, ⟨4, 0, 0, false, []⟩] := by rfl
theorem five_of {vs : List Iv} {a b c d e : In} (h : vs.map (·.i) = [a, b, c, d, e]) : ∃ v0 v1 v2 v3 v4 : Iv, vs = [v0, v1, v2, v3, v4] ∧ v0.i = a ∧ v1.i = b ∧ v2.i = c ∧ v3.i = d ∧ v4.i = e := by
  rcases vs with _ | ⟨v0, _ | ⟨v1, _ | ⟨v2, _ | ⟨v3, _ | ⟨v4, _ | ⟨v5, r⟩⟩⟩⟩⟩⟩ <;> simp at h
  exact ⟨v0, v1, v2, v3, v4, rfl, h⟩
set_option maxRecDepth 100000 in
set_option maxHeartbeats 1000000 in
theorem knows9 (w : World) : Calls Try.prog 7 #[] w fun e w' => e = .returned (.bool true) ∧ Below w.heap.size w w' := by
  have kc := fun (w : World) (C : Array Value) (n c : Nat) => Lib.run_convert_bytes_const (P := Try.prog) w 44 5 C n c Try.underlying44 Try.underlying5
  go_enter Try.func7, Try.ntmps7
  go_wp2_with fail
  refine (parse_top _ _ _ _ _ [97#8, 124#8, 98#8] (Bs.lit w _ _ _ [97#8, 124#8, 98#8] rfl 3 rfl) (by simp)).mono ?_
  intro e w1 hps
  rw [parse_ab] at hps
  obtain ⟨hb1, A1, c1, rfl, ho1⟩ := hps
  obtain ⟨us, hm1, hl1, hp1⟩ := Pr8.of_ows ho1 rfl
  have hb1 := ((Below.refl w.heap.size w).alloc (Nat.le_refl _) _).trans (hb1.mono (by simp))
  have con := build_call w1 A1 3 c1 us hp1 hl1 (by decide) (fun u hu => by have := piled_kinds _ 0 1 (parse_good parse_ab).2.1 u.o (by rw [← hm1]; exact List.mem_map_of_mem hu); omega) (fun u hu => parse_sp parse_ab u.o (by rw [← hm1]; exact List.mem_map_of_mem hu))
  rw [hm1, build_ab] at con
  have HB1 := Lib.hid hb1
  clear hb1 ho1 hm1 hl1 hp1
  go_wp2_with fail
  refine con.mono ?_
  rintro e w2 ⟨hb2, A2, c2, vs, rfl, hi2, ho2, hs2⟩
  obtain ⟨⟨i0, B0, d0⟩, ⟨i1, B1, d1⟩, ⟨i2, B2, d2⟩, ⟨i3, B3, d3⟩, ⟨i4, B4, d4⟩, rfl, e0, e1, e2, e3, e4⟩ := five_of hi2
  dsimp only at e0 e1 e2 e3 e4
  subst e0 e1 e2 e3 e4
  have ho2 : w2.ownsRow w1.heap.size 38 5 (.slice A2 5 c2) 5 _ := ho2
  have hc5 : 5 ≤ c2 := by
    rcases ho2.2 with ⟨hv, h0⟩ | ⟨g', cap', cur, hv, _, _, h1, h2, _⟩
    · cases h0
    · cases hv; exact h1
  obtain ⟨g, cap, hv, hg, hglt⟩ := ho2.form (by decide)
  cases hv
  have cell : ∀ j, j < 25 → w2.cell? ⟨g, j, none⟩ = _ := fun j hj => ho2.cellAt j hj
  have k0 : w2.cell? ⟨g, 0, none⟩ = some (.int .i64 2) := cell 0 (by decide)
  have k2 : w2.cell? ⟨g, 2, none⟩ = some (.int .i64 3) := cell 2 (by decide)
  have k5 : w2.cell? ⟨g, 5, none⟩ = some (.int .i64 1) := cell 5 (by decide)
  have k6 : w2.cell? ⟨g, 6, none⟩ = some (.int .i64 0) := cell 6 (by decide)
  have k7 : w2.cell? ⟨g, 7, none⟩ = some (.int .i64 0) := cell 7 (by decide)
  have k8 : w2.cell? ⟨g, 8, none⟩ = some (.bool false) := cell 8 (by decide)
  have k9 : w2.cell? ⟨g, 9, none⟩ = some (.slice B1 1 d1) := cell 9 (by decide)
  have k11 : w2.cell? ⟨g, 11, none⟩ = some (.int .i64 2) := cell 11 (by decide)
  have k20 : w2.cell? ⟨g, 20, none⟩ = some (.int .i64 4) := cell 20 (by decide)
  have hcz : Cz w2 B1 (sflat [⟨97#8, 97#8⟩]) := cz_ry (hs2 ⟨⟨1, 0, 0, false, [⟨97#8, 97#8⟩]⟩, B1, d1⟩ (by simp))
  have HB2 := Lib.hid (HB1.out.trans (hb2.mono HB1.out.size))
  have con3 := phas w2 ⟨1, 0, 0, false, [⟨97#8, 97#8⟩]⟩ B1 d1 97#8 hcz (by decide)
  have HCZ := Lib.hid hcz
  clear hb2 hi2 ho2 hs2 cell con hcz
  go_wp2_with fail
  refine con3.mono ?_
  rintro e w3 ⟨rfl, hb3⟩
  have l5 := (hb3.cell (p := ⟨g, 5, none⟩) hglt).trans k5
  have l6 := (hb3.cell (p := ⟨g, 6, none⟩) hglt).trans k6
  have l7 := (hb3.cell (p := ⟨g, 7, none⟩) hglt).trans k7
  have l8 := (hb3.cell (p := ⟨g, 8, none⟩) hglt).trans k8
  have l9 := (hb3.cell (p := ⟨g, 9, none⟩) hglt).trans k9
  have con4 := phas w3 ⟨1, 0, 0, false, [⟨97#8, 97#8⟩]⟩ B1 d1 98#8 (HCZ.out.below hb3) (by decide)
  have HB3 := Lib.hid (HB2.out.trans (hb3.mono HB2.out.size))
  rw [show has ⟨1, 0, 0, false, [⟨97#8, 97#8⟩]⟩ 97#8 = true by decide]
  clear hb3 con3 k0 k2 k5 k6 k7 k8 k9 k11 k20
  go_wp2_with fail
  refine con4.mono ?_
  rintro e w4 ⟨rfl, hb4⟩
  rw [show has ⟨1, 0, 0, false, [⟨97#8, 97#8⟩]⟩ 98#8 = false by decide]
  have HB4 := Lib.hid (HB3.out.trans (hb4.mono HB3.out.size))
  clear hb4 con4
  go_wp2_with fail
  go_ret
  exact ⟨rfl, HB4.out⟩
end Go.Proofs.Ytpfogoncholiaaa.Nfa
