/-
  davitlaw09.NfaPlaces: the walk.
-/
import Derived.Test.YtpfogoncholiaaaNfaBuilds
namespace Go.Proofs.Ytpfogoncholiaaa.Nfa
open Go.RowKit Go.Proofs.Ytpfogoncholiaaa.Ord
open Go.Proofs.Ytpfogoncholiaaa.Reg (Ov oflat Sp sflat sflat_length Rop Spn parse parse_top parse_good parse_sp piled_kinds heavy piled)
set_option linter.unusedVariables false
set_option linter.unusedSimpArgs false

theorem runF_len {s : List (BitVec 8)} : ∀ (n : Nat) (x : Reg.St) (l : List Rop), Reg.runF s n x = .ok l → l.length ≤ x.ops.length + 4 * n := by
  intro n
  induction n with
  | zero => intro x l h; cases h
  | succ n ih =>
    intro x l h
    unfold Reg.runF at h
    split at h
    · split at h
      · cases h
      · injection h with h
        subst h
        unfold Reg.branchEnd
        simp only [List.length_append]
        split <;> split <;> simp <;> omega
    · rename_i c hc
      split at h
      · cases h
      · rename_i y hy
        have h1 := (Reg.step_few hy).1
        have h2 := ih y l h
        omega
theorem parse_len {s : List (BitVec 8)} {l : List Rop} (h : parse s = .ok l) : l.length ≤ 100000 := by
  have h80 := (parse_good h).1
  unfold parse at h
  split at h
  · cases h
  · have := runF_len _ _ _ h
    simp [Reg.St0] at this
    omega
theorem build_of_parse {s : List (BitVec 8)} {l : List Rop} (h : parse s = .ok l) : build l = .error 3 ∨ ∃ a, build l = .ok a ∧ a.length ≤ 2 * s.length + 1 ∧ 1 ≤ a.length ∧ a.length ≤ 200 ∧ ∀ (i : Nat) (x : In), a[i]? = some x → 1 ≤ x.kind ∧ x.kind ≤ 4 ∧ (x.kind = 4 ↔ i + 1 = a.length) ∧ (x.kind = 2 ∨ x.kind = 3 → 0 ≤ (i : Int) + x.x ∧ (i : Int) + x.x < a.length) ∧ (x.kind = 2 → 0 ≤ (i : Int) + x.y ∧ (i : Int) + x.y < a.length) := by
  obtain ⟨_, hp, hh, _⟩ := parse_good h
  rw [build_may, if_pos hp]
  obtain ⟨a, ha, hal⟩ := sem_one hp
  rw [ha]
  dsimp only
  by_cases h2 : 200 < heavy l + 1
  · rw [if_pos h2]; exact .inl rfl
  · rw [if_neg h2]
    refine .inr ⟨_, rfl, by rw [List.length_append]; simp; omega, by simp, by rw [List.length_append]; simp; omega, fun i x hx => ?_⟩
    have hb : Stays a := sem_stays l [] [a] ha (by simp) a (by simp)
    obtain ⟨p1, p2, p3, p4, p5⟩ := places hb hx
    rw [List.length_append, List.length_singleton]
    refine ⟨p1, p2, ⟨fun e => by have := p3.1 e; omega, fun e => p3.2 (by omega)⟩, fun e => ?_, fun e => ?_⟩
    · have := p4 e; omega
    · have := p5 e; omega

set_option maxRecDepth 100000 in
set_option maxHeartbeats 2000000 in
theorem places_walk (A : Option Addr) (n c : Nat) (w : World) (s : List (BitVec 8)) (h : Bs w w.heap.size A n s) (hn : n ≤ maxLen) :
    Calls Try.prog 5 #[.slice A n c] w fun e w' => e = .returned (.bool true) ∧ Below w.heap.size w w' := by
  unfold maxLen at hn
  by_cases h5 : 500 < n
  · clear h
    go_enter Try.func5, Try.ntmps5
    go_wp2_with fail
    refine (knows9 _).mono ?_
    rintro e w1 ⟨rfl, hb1⟩
    have HB1 := Lib.hid hb1
    clear hb1
    go_wp2_with fail
    go_ret
    exact ⟨rfl, HB1.out⟩
  have con := parse_top w w.heap.size A n c s h (Nat.le_refl _)
  have HSL := Lib.hid h.len
  clear h
  go_enter Try.func5, Try.ntmps5
  go_wp2_with fail
  refine con.mono ?_
  intro e w1 hps
  clear con
  cases hpa : parse s with
  | error x =>
    obtain ⟨bad, p⟩ := x
    rw [hpa] at hps
    obtain ⟨hb1, hbad, rfl⟩ := hps
    have HB1 := Lib.hid hb1
    have hbi : ¬ ((bad : Int) = 0) := by omega
    clear hb1 hpa
    go_wp2_with fail
    refine (knows9 _).mono ?_
    rintro e w2 ⟨rfl, hb2⟩
    have HB2 := Lib.hid (HB1.out.trans (hb2.mono HB1.out.size))
    clear hb2
    go_wp2_with fail
    go_ret
    exact ⟨rfl, HB2.out⟩
  | ok l =>
    rw [hpa] at hps
    obtain ⟨hb1, A1, c1, rfl, ho1⟩ := hps
    obtain ⟨us, hm1, hl1, hp1⟩ := Pr8.of_ows ho1 rfl
    have hg := parse_good hpa
    have hln := parse_len hpa
    have con2 := build_call w1 A1 l.length c1 us hp1 hl1 hln (fun u hu => by have := piled_kinds _ 0 1 hg.2.1 u.o (by rw [← hm1]; exact List.mem_map_of_mem hu); omega) (fun u hu => parse_sp hpa u.o (by rw [← hm1]; exact List.mem_map_of_mem hu))
    rw [hm1] at con2
    have HB1 := Lib.hid hb1
    have HBP := Lib.hid (build_of_parse hpa)
    generalize l.length = ll at *
    clear hb1 ho1 hm1 hl1 hp1 hg hpa
    go_wp2_with fail
    refine con2.mono ?_
    clear con2
    rintro e w2 ⟨hb2, hr2⟩
    have HB2 := Lib.hid (HB1.out.trans (hb2.mono HB1.out.size))
    clear hb2
    rcases HBP.out with hbu | ⟨a, hbu, hal, ha1, ha2, hpl⟩
    · rw [hbu] at hr2
      obtain rfl := hr2
      clear hbu
      go_wp2_with fail
      refine (knows9 _).mono ?_
      rintro e w3 ⟨rfl, hb3⟩
      have HB3 := Lib.hid (HB2.out.trans (hb3.mono HB2.out.size))
      clear hb3
      go_wp2_with fail
      go_ret
      exact ⟨rfl, HB3.out⟩
    · rw [hbu] at hr2
      obtain ⟨A2, c2, vs, rfl, hvi, hov, hsv⟩ := hr2
      obtain ⟨m, hm⟩ : ∃ m, m = a.length := ⟨_, rfl⟩
      rw [← hm] at hov hal ha1 ha2 ⊢
      have HPL := Lib.hid (show ∀ (i : Nat) (v : Iv), vs[i]? = some v → _ from fun i v hv => hpl i v.i (by rw [← hvi, List.getElem?_map, hv]; rfl))
      rw [← hm] at HPL
      have HVL := Lib.hid (show vs.length = m by rw [hm, ← hvi, List.length_map])
      obtain ⟨g, cs, rfl, hcel, hmc, _⟩ := own_cel hov (by omega)
      have HOV := Lib.hid hov
      have hglt := hcel.lt
      have hsl : s.length = n := HSL.out
      have ew : IntKind.i64.wrap (3 * (n : Int)) = 3 * (n : Int) := IntWalk.i64_in _ (by omega)
      have ew2 : IntKind.i64.wrap (3 * (n : Int) + 1) = 3 * (n : Int) + 1 := IntWalk.i64_in _ (by omega)
      rw [hsl] at hal
      clear hbu hvi hov hsv hm hcel hsl hpl
      go_wp2_with fail
      go_loopw [8, 9] (fun v8 v9 wr => ∃ i : Nat, i ≤ m ∧ v8 = .int .i64 (i : Int) ∧ Below w2.heap.size w2 wr) (fun v8 _ _ => m - (intOf v8).toNat)
      case atStart => exact ⟨0, Nat.zero_le _, rfl, Below.refl _ _⟩
      case round =>
        obtain ⟨i, hi, rfl, hbr⟩ := hrel
        obtain ⟨W0, rfl⟩ : ∃ W0, W0 = wr := ⟨_, rfl⟩
        have hws := hbr.size
        have HBR := Lib.hid hbr
        clear hbr
        rcases Nat.lt_or_ge i m with hlt | hge
        · obtain ⟨⟨⟨kd, x, y, ng, sp⟩, B, d⟩, hv⟩ : ∃ v, vs[i]? = some v := ⟨_, List.getElem?_eq_getElem (by rw [HVL.out]; exact hlt)⟩
          have cell : ∀ k, k < 5 → W0.cell? ⟨g, i * 5 + k, none⟩ = (Iv.cells ⟨⟨kd, x, y, ng, sp⟩, B, d⟩)[k]? := fun k hk => by
            rw [HBR.out.cell (p := ⟨g, i * 5 + k, none⟩) hglt, HOV.out.cellAt _ (by omega), iflat_at hv hk]
          have k0 : W0.cell? ⟨g, i * 5, none⟩ = some (.int .i64 kd) := cell 0 (by decide)
          have k1 : W0.cell? ⟨g, i * 5 + 1, none⟩ = some (.int .i64 x) := cell 1 (by decide)
          have k2 : W0.cell? ⟨g, i * 5 + 2, none⟩ = some (.int .i64 y) := cell 2 (by decide)
          have k3 : W0.cell? ⟨g, i * 5 + 3, none⟩ = some (.bool ng) := cell 3 (by decide)
          have k4 : W0.cell? ⟨g, i * 5 + 4, none⟩ = some (.slice B sp.length d) := cell 4 (by decide)
          obtain ⟨q1, q2, q3, q4, q5⟩ := HPL.out i _ hv
          dsimp only at q1 q2 q3 q4 q5
          have hc : Cel (W0.alloc (.cells #[.int .i64 kd, .int .i64 x, .int .i64 y, .bool ng, .slice B sp.length d] 38)) W0.heap.size 38 [.int .i64 kd, .int .i64 x, .int .i64 y, .bool ng, .slice B sp.length d] := Cel.new W0 _ _
          have HB3 := Lib.hid (show Below w2.heap.size w2 (W0.alloc (.cells #[.int .i64 kd, .int .i64 x, .int .i64 y, .bool ng, .slice B sp.length d] 38)) from HBR.out.alloc hws _)
          have x0 := hc.cell 0
          have x1 := hc.cell 1
          have x2 := hc.cell 2
          clear hc cell hv
          have em : IntKind.i64.wrap ((m : Int) - 1) = (m : Int) - 1 := IntWalk.i64_in _ (by omega)
          obtain rfl | rfl | rfl | rfl : kd = 1 ∨ kd = 2 ∨ kd = 3 ∨ kd = 4 := by omega
          · have hne : ¬ ((i : Int) = (m : Int) - 1) := fun e => by have := q3.2 (by omega); omega
            clear q1 q2 q3 q4 q5
            go_wp2_with fail
            exact ⟨⟨i + 1, by omega, by rw [show ((i + 1 : Nat) : Int) = (i : Int) + 1 by omega], HB3.out⟩, by simp [intOf]; omega⟩
          · have hne : ¬ ((i : Int) = (m : Int) - 1) := fun e => by have := q3.2 (by omega); omega
            obtain ⟨r1, r2⟩ := q4 (.inl rfl)
            obtain ⟨r3, r4⟩ := q5 rfl
            have ex : IntKind.i64.wrap ((i : Int) + x) = (i : Int) + x := IntWalk.i64_in _ (by omega)
            have ey : IntKind.i64.wrap ((i : Int) + y) = (i : Int) + y := IntWalk.i64_in _ (by omega)
            have d1 : ¬ ((i : Int) + x < 0) := by omega
            have d2 : ¬ ((m : Int) ≤ (i : Int) + x) := by omega
            have d3 : ¬ ((i : Int) + y < 0) := by omega
            have d4 : ¬ ((m : Int) ≤ (i : Int) + y) := by omega
            clear q1 q2 q3 q4 q5
            go_wp2_with fail
            exact ⟨⟨i + 1, by omega, by rw [show ((i + 1 : Nat) : Int) = (i : Int) + 1 by omega], HB3.out⟩, by simp [intOf]; omega⟩
          · have hne : ¬ ((i : Int) = (m : Int) - 1) := fun e => by have := q3.2 (by omega); omega
            obtain ⟨r1, r2⟩ := q4 (.inr rfl)
            have ex : IntKind.i64.wrap ((i : Int) + x) = (i : Int) + x := IntWalk.i64_in _ (by omega)
            have d1 : ¬ ((i : Int) + x < 0) := by omega
            have d2 : ¬ ((m : Int) ≤ (i : Int) + x) := by omega
            clear q1 q2 q3 q4 q5
            go_wp2_with fail
            exact ⟨⟨i + 1, by omega, by rw [show ((i + 1 : Nat) : Int) = (i : Int) + 1 by omega], HB3.out⟩, by simp [intOf]; omega⟩
          · have hm1 : (m : Int) - 1 = (i : Int) := by have := q3.1 rfl; omega
            replace em := em.trans hm1
            clear q1 q2 q3 q4 q5 hm1
            go_wp2_with fail
            exact ⟨⟨i + 1, by omega, by rw [show ((i + 1 : Nat) : Int) = (i : Int) + 1 by omega], HB3.out⟩, by simp [intOf]; omega⟩
        · obtain rfl : i = m := by omega
          have d1 : decide ((i : Int) ≤ 3 * (n : Int) + 1) = true := decide_eq_true (by omega)
          have d2 : decide ((1 : Int) ≤ (i : Int)) = true := decide_eq_true (by omega)
          go_wp2_with fail
          refine (knows9 _).mono ?_
          rintro e w3 ⟨rfl, hb3⟩
          have HB3 := Lib.hid (HB2.out.trans ((HBR.out.mono HB2.out.size).trans (hb3.mono (Nat.le_trans HB2.out.size hws))))
          clear hb3
          go_wp2_with fail
          go_ret
          exact ⟨rfl, HB3.out⟩
end Go.Proofs.Ytpfogoncholiaaa.Nfa
