/-
  The document's instructions (layer 9): may ops be executed, and how many instructions they have.
-/
import Derived.Test.YtjpbndpfbdfhjaaMNfaWords
namespace Go.Proofs.Ytjpbndpfbdfhjaa.Nfa
open Go.RowKit
open Go.Proofs.Ytjpbndpfbdfhjaa.Reg (Ov oflat RSpn sflat takes does piled weight heavy piled_append)
set_option linter.unusedVariables false
set_option linter.unusedSimpArgs false

def takesI (k : Int) : Int := match takes k with
  | some t => (t : Int)
  | none => -1
set_option maxRecDepth 100000 in
set_option maxHeartbeats 400000 in
theorem rtakes (w : World) (k : Int) : Calls Try.prog 41 #[.int .i64 k] w fun e w' => e = .returned (.int .i64 (takesI k)) ∧ w = w' := by
  unfold takesI takes
  by_cases h1 : k = 1
  · subst h1
    go_enter Try.func41, Try.ntmps41
    go_wp2_with fail
    go_ret
    exact ⟨rfl, rfl⟩
  by_cases h2 : k = 2
  · subst h2
    go_enter Try.func41, Try.ntmps41
    go_wp2_with fail
    go_ret
    exact ⟨rfl, rfl⟩
  by_cases h3 : k = 3
  · subst h3
    go_enter Try.func41, Try.ntmps41
    go_wp2_with fail
    go_ret
    exact ⟨rfl, rfl⟩
  by_cases h4 : k = 4
  · subst h4
    go_enter Try.func41, Try.ntmps41
    go_wp2_with fail
    go_ret
    exact ⟨rfl, rfl⟩
  by_cases h5 : k = 5
  · subst h5
    go_enter Try.func41, Try.ntmps41
    go_wp2_with fail
    go_ret
    exact ⟨rfl, rfl⟩
  by_cases h6 : k = 6
  · subst h6
    go_enter Try.func41, Try.ntmps41
    go_wp2_with fail
    go_ret
    exact ⟨rfl, rfl⟩
  by_cases h7 : k = 7
  · subst h7
    go_enter Try.func41, Try.ntmps41
    go_wp2_with fail
    go_ret
    exact ⟨rfl, rfl⟩
  rw [if_neg (by omega), if_neg (by omega), if_neg (by omega)]
  have d1 : (k == 1) = false := beq_eq_false_iff_ne.2 h1
  have d2 : (k == 2) = false := beq_eq_false_iff_ne.2 h2
  have d3 : (k == 3) = false := beq_eq_false_iff_ne.2 h3
  have d4 : (k == 4) = false := beq_eq_false_iff_ne.2 h4
  have d5 : (k == 5) = false := beq_eq_false_iff_ne.2 h5
  have d6 : (k == 6) = false := beq_eq_false_iff_ne.2 h6
  have d7 : (k == 7) = false := beq_eq_false_iff_ne.2 h7
  clear h1 h2 h3 h4 h5 h6 h7
  go_enter Try.func41, Try.ntmps41
  go_wp2_with fail
  go_ret
  exact ⟨rfl, rfl⟩

theorem piled_le (l : List Reg.Rop) : ∀ n k, piled n l = some k → k ≤ n + l.length := by
  induction l with
  | nil => intro n k h; injection h with h; omega
  | cons o l ih =>
    intro n k h
    have h : (match does n o.kind with | none => none | some m => piled m l) = some k := h
    split at h
    · cases h
    · rename_i m hm
      have := ih m k h
      unfold does at hm
      split at hm
      · cases hm
      · rename_i t ht
        split at hm
        · cases hm
        · injection hm with hm
          simp; omega

theorem piled_take {l : List Reg.Rop} {k : Nat} {o : Reg.Rop} (h : l[k]? = some o) {n : Nat} (hn : piled 0 (l.take k) = some n) : piled 0 (l.take (k + 1)) = does n o.kind := by
  rw [List.take_add_one, h, piled_append, hn]
  show (match does n o.kind with | none => none | some m => some m) = _
  cases does n o.kind <;> rfl
theorem piled_none {l : List Reg.Rop} {k : Nat} (h : piled 0 (l.take k) = none) : piled 0 l = none := by
  have := piled_append (l.take k) (l.drop k) 0
  rw [List.take_append_drop, h] at this
  exact this

set_option maxRecDepth 100000 in
set_option maxHeartbeats 1000000 in
theorem rmay (w : World) (A : Option Addr) (n c : Nat) (us : List Ov) (h : Rl w A us) (hl : us.length = n) (hn : n ≤ 1000) :
    Calls Try.prog 27 #[.slice A n c] w fun e w' => e = .returned (.bool (decide (piled 0 (us.map (·.o)) = some 1))) ∧ w = w' := by
  have H := Lib.hid h
  generalize hops : us.map (·.o) = ops
  have HOPS := Lib.hid hops
  have hol : ops.length = n := by rw [← hops, List.length_map, hl]
  clear h hops
  go_enter Try.func27, Try.ntmps27
  go_wp2_with fail
  go_loopw [3, 4] (fun v3 v4 wr => ∃ (i m : Nat), i ≤ n ∧ v4 = .int .i64 (i : Int) ∧ v3 = .int .i64 (m : Int) ∧ piled 0 (ops.take i) = some m ∧ m ≤ i ∧ wr = w) (fun _ v4 _ => n - (intOf v4).toNat)
  case atStart => exact ⟨0, 0, Nat.zero_le _, rfl, rfl, by simp [piled], Nat.le_refl _, rfl⟩
  case round =>
    obtain ⟨i, m, hi, rfl, rfl, hp, hm, rfl⟩ := hrel
    have HP := Lib.hid hp
    clear hp
    rcases Nat.lt_or_ge i n with hlt | hge
    · obtain ⟨u, hu⟩ : ∃ u, us[i]? = some u := ⟨_, List.getElem?_eq_getElem (by omega)⟩
      obtain ⟨ad, rfl, k0, k1, k2⟩ := H.out.at_ hu
      have ho : ops[i]? = some u.o := by rw [← HOPS.out, List.getElem?_map, hu]; rfl
      have HN := Lib.hid (piled_take ho HP.out)
      have HT := Lib.hid (show takesI u.o.kind = match takes u.o.kind with | some t => (t : Int) | none => -1 from rfl)
      clear hu ho
      generalize u.o.kind = kd at *
      go_wp2_with fail
      refine (rtakes wr kd).mono ?_
      rintro e w1 ⟨rfl, rfl⟩
      unfold does at HN
      rcases ht : takes kd with _ | t
      · rw [HT.out, ht]
        rw [ht] at HN
        have HN2 := Lib.hid (piled_none HN.out)
        clear ht
        dsimp only
        go_wp2_with fail
        go_ret
        rw [HN2.out]
        exact ⟨rfl, rfl⟩
      · rw [HT.out, ht]
        rw [ht] at HN
        dsimp only at HN ⊢
        have ht2 : t ≤ 2 := by
          unfold takes at ht
          split at ht
          · injection ht with ht; omega
          · split at ht
            · injection ht with ht; omega
            · split at ht
              · injection ht with ht; omega
              · cases ht
        have dt : decide ((t : Int) < 0) = false := by simp
        clear ht
        by_cases hmt : m < t
        · rw [if_pos hmt] at HN
          have HN2 := Lib.hid (piled_none HN.out)
          have d1 : decide (m < t) = true := decide_eq_true hmt
          clear hmt
          go_wp2_with fail
          go_ret
          rw [HN2.out]
          exact ⟨rfl, rfl⟩
        · rw [if_neg hmt] at HN
          have d1 : decide (m < t) = false := decide_eq_false hmt
          go_wp2_with fail
          exact ⟨⟨i + 1, m - t + 1, by omega, by rw [show ((i + 1 : Nat) : Int) = (i : Int) + 1 by omega], by rw [show ((m - t + 1 : Nat) : Int) = (m : Int) - t + 1 by omega], HN.out, by omega, by simp⟩, by simp [intOf]; omega⟩
    · obtain rfl : i = n := by omega
      have HP2 := Lib.hid (show piled 0 ops = some m by have := HP.out; rwa [List.take_of_length_le (by omega)] at this)
      have hmd : ((m : Int) == 1) = decide (m = 1) := by
        rw [Bool.eq_iff_iff]; simp only [beq_iff_eq, decide_eq_true_eq]; omega
      clear hge
      go_wp2_with fail
      go_ret
      rw [HP2.out]
      simp

theorem heavy_take {l : List Reg.Rop} {k : Nat} {o : Reg.Rop} (h : l[k]? = some o) : heavy (l.take (k + 1)) = heavy (l.take k) + weight o.kind := by
  rw [List.take_add_one, h, Reg.heavy_append]
  simp [heavy]
theorem heavy_le (l : List Reg.Rop) : heavy l ≤ 2 * l.length := by
  induction l with
  | nil => simp [heavy]
  | cons o l ih =>
    have : heavy (o :: l) = weight o.kind + heavy l := by simp [heavy]
    rw [this, List.length_cons]
    have : weight o.kind ≤ 2 := by unfold weight; split <;> (try split) <;> omega
    omega
set_option maxRecDepth 100000 in
set_option maxHeartbeats 1000000 in
theorem rmany (w : World) (A : Option Addr) (n c : Nat) (us : List Ov) (h : Rl w A us) (hl : us.length = n) (hn : n ≤ 1000) :
    Calls Try.prog 28 #[.slice A n c] w fun e w' => e = .returned (.int .i64 ((heavy (us.map (·.o)) : Int) + 1)) ∧ w = w' := by
  have H := Lib.hid h
  generalize hops : us.map (·.o) = ops
  have HOPS := Lib.hid hops
  have hol : ops.length = n := by rw [← hops, List.length_map, hl]
  clear h hops
  go_enter Try.func28, Try.ntmps28
  go_wp2_with fail
  go_loopw [3, 4] (fun v3 v4 wr => ∃ (i m : Nat), i ≤ n ∧ v4 = .int .i64 (i : Int) ∧ v3 = .int .i64 ((m : Int) + 1) ∧ heavy (ops.take i) = m ∧ m ≤ 2 * i ∧ wr = w) (fun _ v4 _ => n - (intOf v4).toNat)
  case atStart => exact ⟨0, 0, Nat.zero_le _, rfl, rfl, by simp [heavy], by omega, rfl⟩
  case round =>
    obtain ⟨i, m, hi, rfl, rfl, hp, hm, rfl⟩ := hrel
    have HP := Lib.hid hp
    clear hp
    rcases Nat.lt_or_ge i n with hlt | hge
    · obtain ⟨u, hu⟩ : ∃ u, us[i]? = some u := ⟨_, List.getElem?_eq_getElem (by omega)⟩
      obtain ⟨ad, rfl, k0, k1, k2⟩ := H.out.at_ hu
      have ho : ops[i]? = some u.o := by rw [← HOPS.out, List.getElem?_map, hu]; rfl
      have HN := Lib.hid (heavy_take ho)
      clear hu ho
      generalize u.o.kind = kd at *
      have fin : ∀ t : Nat, weight kd = t → t ≤ 2 → heavy (ops.take (i + 1)) = m + t := fun t e _ => by rw [HN.out, HP.out, e]
      have FIN := Lib.hid fin
      clear fin
      by_cases h4 : kd = 4 ∨ kd = 5
      · have F := Lib.hid (FIN.out 2 (by unfold weight; rw [if_pos h4]) (by omega))
        have dor : (kd == 4) = true ∨ (kd == 4) = false ∧ (kd == 5) = true := by
          rcases h4 with q | q
          · exact .inl (beq_iff_eq.2 q)
          · exact .inr ⟨by rw [q]; rfl, beq_iff_eq.2 q⟩
        clear h4
        rcases dor with d1 | ⟨d1, d2⟩
        all_goals
          go_wp2_with fail
          exact ⟨⟨i + 1, m + 2, by omega, by rw [show ((i + 1 : Nat) : Int) = (i : Int) + 1 by omega], by rw [show ((m + 2 : Nat) : Int) + 1 = (m : Int) + 1 + 2 by omega], F.out, by omega, by simp⟩, by simp [intOf]; omega⟩
      · have d1 : (kd == 4) = false := beq_eq_false_iff_ne.2 fun q => h4 (.inl q)
        have d2 : (kd == 5) = false := beq_eq_false_iff_ne.2 fun q => h4 (.inr q)
        by_cases h1 : kd = 1 ∨ kd = 6 ∨ kd = 7
        · have F := Lib.hid (FIN.out 1 (by unfold weight; rw [if_neg h4, if_pos h1]) (by omega))
          have dor : (kd == 1) = true ∨ (kd == 1) = false ∧ (kd == 6) = true ∨ (kd == 1) = false ∧ (kd == 6) = false ∧ (kd == 7) = true := by
            rcases h1 with q | q | q
            · exact .inl (beq_iff_eq.2 q)
            · exact .inr (.inl ⟨by rw [q]; rfl, beq_iff_eq.2 q⟩)
            · exact .inr (.inr ⟨by rw [q]; rfl, by rw [q]; rfl, beq_iff_eq.2 q⟩)
          clear h4 h1
          rcases dor with d3 | ⟨d3, d4⟩ | ⟨d3, d4, d5⟩
          all_goals
            go_wp2_with fail
            exact ⟨⟨i + 1, m + 1, by omega, by rw [show ((i + 1 : Nat) : Int) = (i : Int) + 1 by omega], by rw [show ((m + 1 : Nat) : Int) + 1 = (m : Int) + 1 + 1 by omega], F.out, by omega, by simp⟩, by simp [intOf]; omega⟩
        · have F := Lib.hid (FIN.out 0 (by unfold weight; rw [if_neg h4, if_neg h1]) (by omega))
          have d3 : (kd == 1) = false := beq_eq_false_iff_ne.2 fun q => h1 (.inl q)
          have d4 : (kd == 6) = false := beq_eq_false_iff_ne.2 fun q => h1 (.inr (.inl q))
          have d5 : (kd == 7) = false := beq_eq_false_iff_ne.2 fun q => h1 (.inr (.inr q))
          clear h4 h1
          go_wp2_with fail
          exact ⟨⟨i + 1, m, by omega, by rw [show ((i + 1 : Nat) : Int) = (i : Int) + 1 by omega], rfl, F.out, by omega, by simp⟩, by simp [intOf]; omega⟩
    · obtain rfl : i = n := by omega
      have HP2 := Lib.hid (show heavy ops = m by have := HP.out; rwa [List.take_of_length_le (by omega)] at this)
      clear hge
      go_wp2_with fail
      go_ret
      rw [HP2.out]
      exact ⟨rfl, rfl⟩
end Go.Proofs.Ytjpbndpfbdfhjaa.Nfa
