/-
  davitlaw10.SeekArms: the walk.
-/
import Derived.Test.YtjpbndpfbdfhjaaMSeekKnows
import Derived.Test.YtjpbndpfbdfhjaaMSeekOpen
namespace Go.Proofs.Ytjpbndpfbdfhjaa.Seek
open Go.RowKit Go.Proofs.Ytjpbndpfbdfhjaa.Nfa Go.Proofs.Ytjpbndpfbdfhjaa.Ord
open Go.Proofs.Ytjpbndpfbdfhjaa.Reg (Sp Spn sflat)
set_option linter.unusedVariables false
set_option linter.unusedSimpArgs false

/-- What Arms returns, beside an error too. -/
def armsR : Except (Nat × Nat) (List (List In)) → List (List In) × Nat × Nat
  | .error (i, bad) => ([], i, bad)
  | .ok ps => (ps, 0, 0)
theorem pa_r {w w' : World} {r : Except (Nat × Nat) (List (List In))} {e : Ending} (h : PaSays w r e w') : ∃ A c ys, e = .returned (.tuple #[.slice A (armsR r).1.length c, .int .i64 ((armsR r).2.1 : Int), .int .i64 ((armsR r).2.2 : Int)]) ∧ Pas w' A ys ∧ ys.map Av.p = (armsR r).1 ∧ Below w.heap.size w w' := by
  obtain ⟨hb, h⟩ := h
  rcases r with ⟨i, bad⟩ | ps
  · obtain ⟨_, rfl⟩ := h
    exact ⟨none, 0, [], rfl, ⟨fun h => absurd rfl h, by simp⟩, rfl, hb⟩
  · obtain ⟨A, n, c, ys, rfl, hn, hp, hps⟩ := h
    refine ⟨A, c, ys, ?_, hp, hps, hb⟩
    subst hps
    subst hn
    simp [armsR]
theorem ra_r {w w' : World} {r : Except (Nat × Nat) (List (List In))} {e : Ending} (h : RArms w r e w') : ∃ A c ys, e = .returned (.tuple #[.slice A (armsR r).1.length c, .int .i64 ((armsR r).2.1 : Int), .int .i64 ((armsR r).2.2 : Int)]) ∧ Ras w' A ys ∧ ys.map Av.p = (armsR r).1 ∧ Below w.heap.size w w' := by
  obtain ⟨hb, h⟩ := h
  rcases r with ⟨i, bad⟩ | ps
  · obtain ⟨_, rfl⟩ := h
    exact ⟨none, 0, [], rfl, ⟨fun h => absurd rfl h, by simp⟩, rfl, hb⟩
  · obtain ⟨A, n, c, ys, rfl, hp, hps⟩ := h
    refine ⟨A, c, ys, ?_, hp.ras, hps, hb⟩
    have := hp.len
    subst hps
    subst this
    simp [armsR]
theorem armsR_few (ss : List (List (BitVec 8))) : (armsR (armsF 0 ss)).1.length ≤ ss.length ∧ ∀ p ∈ (armsR (armsF 0 ss)).1, p.length ≤ 200 ∧ ∀ x ∈ p, NiceI x := by
  cases h : armsF 0 ss with
  | error q => simp [armsR]
  | ok ps =>
    obtain ⟨h1, h2⟩ := armsF_nice 0 ss ps h
    exact ⟨Nat.le_of_eq h1, h2⟩

set_option maxRecDepth 100000 in
set_option maxHeartbeats 2000000 in
theorem arms_walk (A : Option Addr) (n c : Nat) (w : World) (ss : List Sv) (h : Sas w w.heap.size A ss) (hl : ss.length = n) (hn : n ≤ maxLen) (hsm : ∀ x ∈ ss, x.s.length ≤ maxLen) :
    Calls Try.prog 3 #[.slice A n c] w fun e w' => e = .returned (.bool true) ∧ Below w.heap.size w w' := by
  unfold maxLen at hn hsm
  by_cases h20 : 20 < n
  · clear h hl hsm
    go_enter Try.func3, Try.ntmps3
    go_wp2_with fail
    refine (knows10 _).mono ?_
    rintro e w1 ⟨rfl, hb1⟩
    have HB1 := Lib.hid hb1
    clear hb1
    go_wp2_with fail
    go_ret
    exact ⟨rfl, HB1.out⟩
  have H := Lib.hid h
  have HL := Lib.hid hl
  have HSM := Lib.hid hsm
  clear h hl hsm
  go_enter Try.func3, Try.ntmps3
  go_wp2_with fail
  go_loopw [3] (fun v3 wr => ∃ i : Nat, i ≤ n ∧ v3 = .int .i64 (i : Int) ∧ w = wr) (fun v3 _ => n - (intOf v3).toNat)
  case atStart => exact ⟨0, Nat.zero_le _, rfl, rfl⟩
  case round =>
    obtain ⟨i, hi, rfl, hwr⟩ := hrel
    subst hwr
    rcases Nat.lt_or_ge i n with hlt | hge
    · obtain ⟨x, hx⟩ : ∃ x, ss[i]? = some x := ⟨_, List.getElem?_eq_getElem (by rw [HL.out]; exact hlt)⟩
      obtain ⟨ad, rfl, a0⟩ := H.out.at_ hx
      have hxl := HSM.out x (List.mem_of_getElem? hx)
      clear hx
      generalize x.s.length = xl at *
      by_cases h2 : 200 < xl
      · go_wp2_with fail
        refine (knows10 _).mono ?_
        rintro e w1 ⟨rfl, hb1⟩
        have HB1 := Lib.hid hb1
        clear hb1
        go_wp2_with fail
        go_ret
        exact ⟨rfl, HB1.out⟩
      · go_wp2_with fail
        exact ⟨⟨i + 1, by omega, by rw [show ((i + 1 : Nat) : Int) = (i : Int) + 1 by omega], by trivial⟩, by simp [intOf]; omega⟩
    · obtain rfl : i = n := by omega
      have con := parms w w.heap.size A i c ss H.out (Nat.le_refl _) HL.out (by omega)
      have HFEW := Lib.hid (armsR_few (ss.map Sv.s))
      obtain ⟨r, hr⟩ : ∃ r, r = armsF 0 (ss.map Sv.s) := ⟨_, rfl⟩
      have HR := Lib.hid hr
      rw [← hr] at con HFEW
      go_wp2_with fail
      refine con.mono ?_
      clear con hr
      intro e w1 hpa
      obtain ⟨A1, c1, ys1, rfl, hp1, hm1, hb1⟩ := pa_r hpa
      have con := rarms w1 w.heap.size A i c ss (H.out.below (Nat.le_refl _) hb1) hb1.size HL.out (by omega)
      rw [← HR.out] at con
      obtain ⟨n1, hn1⟩ : ∃ n1, n1 = (armsR r).1.length := ⟨_, rfl⟩
      rw [← hn1]
      have HN1 := Lib.hid hn1
      have HB1 := Lib.hid hb1
      have HP1 := Lib.hid hp1
      have HM1 := Lib.hid hm1
      clear hpa hb1 hp1 hm1 hn1
      go_wp2_with fail
      refine con.mono ?_
      clear con
      intro e w2 hra
      obtain ⟨A2, c2, ys2, rfl, hp2, hm2, hb2⟩ := ra_r hra
      rw [← HN1.out]
      have hn20 : n1 ≤ 20 := by have := HFEW.out.1; rw [← HN1.out, List.length_map, HL.out] at this; omega
      have hy1 : ys1.length = n1 := by rw [HN1.out, ← HM1.out, List.length_map]
      have hy2 : ys2.length = n1 := by rw [HN1.out, ← hm2, List.length_map]
      have hfew1 : ∀ x ∈ ys1, x.us.length ≤ 1000 ∧ ∀ u ∈ x.us, u.i.sp.length ≤ 1000 := fun x hx => by
        obtain ⟨q1, q2⟩ := HFEW.out.2 x.p (by rw [← HM1.out]; exact List.mem_map_of_mem hx)
        exact ⟨by have : x.us.length = x.p.length := by simp [Av.p]
                  omega, fun u hu => (q2 u.i (List.mem_map_of_mem hu)).2.2⟩
      have con := as10 w2 A1 n1 c1 ys1 (HP1.out.below hb2) hy1 (by omega) hfew1
      have HP2 := Lib.hid hp2
      have HM2 := Lib.hid (hm2.trans HM1.out.symm)
      have HY2 := Lib.hid hy2
      have HY1 := Lib.hid hy1
      have HF1 := Lib.hid hfew1
      have HB2 := Lib.hid (HB1.out.trans (hb2.mono HB1.out.size))
      generalize ((armsR r).2.1 : Int) = za at *
      generalize ((armsR r).2.2 : Int) = zb at *
      clear hra hp2 hm2 hy2 hy1 hfew1 hb2 HB1 HP1 HN1 HFEW HR HSM HL H
      go_wp2_with fail
      refine con.mono ?_
      clear con
      rintro e w3 ⟨A3, c3, ys3, rfl, hra3, hm3, hb3⟩
      have HP3 := Lib.hid hra3.ras
      have HY3 := Lib.hid hra3.len
      have HP2b := Lib.hid (HP2.out.below hb3)
      have HM3 := Lib.hid (hm3.trans HM2.out.symm)
      have HB3 := Lib.hid (HB2.out.trans (hb3.mono HB2.out.size))
      clear hra3 hm3 hb3 HB2 HP2
      go_wp2_with fail
      go_loopw [11] (fun v11 wr => ∃ i : Nat, i ≤ n1 ∧ v11 = .int .i64 (i : Int) ∧ Below w3.heap.size w3 wr) (fun v11 _ => n1 - (intOf v11).toNat)
      case atStart => exact ⟨0, Nat.zero_le _, rfl, Below.refl _ _⟩
      case round =>
        obtain ⟨i, hi, rfl, hb⟩ := hrel
        obtain ⟨W0, rfl⟩ : ∃ W0, W0 = wr := ⟨_, rfl⟩
        have HB := Lib.hid hb
        clear hb
        rcases Nat.lt_or_ge i n1 with hlt | hge
        · obtain ⟨z, hz⟩ : ∃ z, ys3[i]? = some z := ⟨_, List.getElem?_eq_getElem (by rw [HY3.out]; exact hlt)⟩
          obtain ⟨y, hy⟩ : ∃ y, ys2[i]? = some y := ⟨_, List.getElem?_eq_getElem (by rw [HY2.out]; exact hlt)⟩
          have hzy : z.p = y.p := by
            have e : (ys3.map Av.p)[i]? = (ys2.map Av.p)[i]? := by rw [HM3.out]
            rw [List.getElem?_map, List.getElem?_map, hz, hy] at e
            injection e
          have hzl : z.us.length = y.us.length := by have := congrArg List.length hzy; simpa [Av.p] using this
          have hyf : z.us.length ≤ 1000 ∧ ∀ u ∈ z.us, u.i.sp.length ≤ 1000 := by
            obtain ⟨x, hx⟩ : ∃ x, ys1[i]? = some x := ⟨_, List.getElem?_eq_getElem (by rw [HY1.out]; exact hlt)⟩
            have hxz : z.p = x.p := by
              have e : (ys3.map Av.p)[i]? = (ys1.map Av.p)[i]? := by rw [HM3.out, HM2.out]
              rw [List.getElem?_map, List.getElem?_map, hz, hx] at e
              injection e
            obtain ⟨q1, q2⟩ := HF1.out x (List.mem_of_getElem? hx)
            have hl : z.us.length = x.us.length := by have := congrArg List.length hxz; simpa [Av.p] using this
            refine ⟨by omega, fun u hu => ?_⟩
            have : u.i ∈ x.p := by rw [← hxz]; exact List.mem_map_of_mem hu
            obtain ⟨u', hu', e⟩ := List.mem_map.1 this
            rw [← e]; exact q2 u' hu'
          obtain ⟨ad3, rfl, a3⟩ := (HP3.out.below HB.out).at_ hz
          obtain ⟨ad2, rfl, a2⟩ := (HP2b.out.below HB.out).at_ hy
          have con := rsame W0.drew z.A y.A z.us.length z.c y.c z.us y.us (Rr.below' ((HP3.out.below HB.out).arms z (List.mem_of_getElem? hz)) (Below.refl _ _).drew) (Rr.below' ((HP2b.out.below HB.out).arms y (List.mem_of_getElem? hy)) (Below.refl _ _).drew) rfl hyf.1 hzy hyf.2
          rw [hzl] at con a3
          clear hz hy hzy hyf
          go_wp2_with fail
          have hH : Below W0.heap.size W0 W0.drew := (Below.refl _ _).drew
          refine wp_region_N [9] (Below W0.heap.size W0) (by kernel_rfl) ?_
          refine wpAnyN_take (i := 0) (v := .slice (some ad3) n1 c3) [2, 3, 8, 9] (by kernel_rfl) rfl (by kernel_rfl) (by kernel_rfl) (by kernel_rfl) (fun _ _ _ h => h) (Or.inl ⟨by rfl, ?_⟩) hH ?_
          · intro V hV; go_simp
          try simp only [Act.put, List.setIfInBounds_toArray, List.set_cons_zero, List.set_cons_succ, List.getElem_toArray, List.getElem_cons_succ, List.getElem_cons_zero]
          refine wpAnyN_take (i := 1) (v := .int .i64 (i : Int)) [2, 3, 8, 9] (by kernel_rfl) rfl (by kernel_rfl) (by kernel_rfl) (by kernel_rfl) (fun _ _ _ h => h) (Or.inl ⟨by rfl, ?_⟩) hH ?_
          · intro V hV; go_simp
          try simp only [Act.put, List.setIfInBounds_toArray, List.set_cons_zero, List.set_cons_succ, List.getElem_toArray, List.getElem_cons_succ, List.getElem_cons_zero]
          refine wpAnyN_take (i := 2) (v := .pointer (some (ad3.add i))) [3, 8, 9] (by kernel_rfl) rfl (by kernel_rfl) (by kernel_rfl) (by kernel_rfl) (fun _ _ _ h => h) (Or.inl ⟨by rfl, ?_⟩) hH ?_
          · intro V hV; go_simp
          try simp only [Act.put, List.setIfInBounds_toArray, List.set_cons_zero, List.set_cons_succ, List.getElem_toArray, List.getElem_cons_succ, List.getElem_cons_zero]
          refine wpAnyN_take (i := 3) (v := .slice z.A y.us.length z.c) [8, 9] (by kernel_rfl) rfl (by kernel_rfl) (by kernel_rfl) (by kernel_rfl) (fun _ _ _ h => h) (Or.inl ⟨by rfl, ?_⟩) hH ?_
          · intro V hV; have z0 := (hV.cell (cell_lt a3)).trans a3; go_simp
          try simp only [Act.put, List.setIfInBounds_toArray, List.set_cons_zero, List.set_cons_succ, List.getElem_toArray, List.getElem_cons_succ, List.getElem_cons_zero]
          refine wpAnyN_take (i := 4) (v := .slice (some ad2) n1 c2) [6, 7, 8, 9] (by kernel_rfl) rfl (by kernel_rfl) (by kernel_rfl) (by kernel_rfl) (fun _ _ _ h => h) (Or.inl ⟨by rfl, ?_⟩) hH ?_
          · intro V hV; go_simp
          try simp only [Act.put, List.setIfInBounds_toArray, List.set_cons_zero, List.set_cons_succ, List.getElem_toArray, List.getElem_cons_succ, List.getElem_cons_zero]
          refine wpAnyN_take (i := 5) (v := .int .i64 (i : Int)) [6, 7, 8, 9] (by kernel_rfl) rfl (by kernel_rfl) (by kernel_rfl) (by kernel_rfl) (fun _ _ _ h => h) (Or.inl ⟨by rfl, ?_⟩) hH ?_
          · intro V hV; go_simp
          try simp only [Act.put, List.setIfInBounds_toArray, List.set_cons_zero, List.set_cons_succ, List.getElem_toArray, List.getElem_cons_succ, List.getElem_cons_zero]
          refine wpAnyN_take (i := 6) (v := .pointer (some (ad2.add i))) [7, 8, 9] (by kernel_rfl) rfl (by kernel_rfl) (by kernel_rfl) (by kernel_rfl) (fun _ _ _ h => h) (Or.inl ⟨by rfl, ?_⟩) hH ?_
          · intro V hV; go_simp
          try simp only [Act.put, List.setIfInBounds_toArray, List.set_cons_zero, List.set_cons_succ, List.getElem_toArray, List.getElem_cons_succ, List.getElem_cons_zero]
          refine wpAnyN_take (i := 7) (v := .slice y.A y.us.length y.c) [8, 9] (by kernel_rfl) rfl (by kernel_rfl) (by kernel_rfl) (by kernel_rfl) (fun _ _ _ h => h) (Or.inl ⟨by rfl, ?_⟩) hH ?_
          · intro V hV; have z0 := (hV.cell (cell_lt a2)).trans a2; go_simp
          try simp only [Act.put, List.setIfInBounds_toArray, List.set_cons_zero, List.set_cons_succ, List.getElem_toArray, List.getElem_cons_succ, List.getElem_cons_zero]
          refine wpAnyN_one (i := 8) (by kernel_rfl) rfl (fun K hK => ?_)
          go_simp
          refine con.mono ?_
          rintro e w5 ⟨rfl, hb5⟩
          go_wp2_with fail
          have hS5 : Below W0.heap.size W0 w5 := hH.trans (hb5.mono hH.size)
          refine hK.out _ _ (.inr hS5) ?_
          clear hK K hb5 con
          try simp only [Act.put, List.setIfInBounds_toArray, List.set_cons_zero, List.set_cons_succ, List.getElem_toArray, List.getElem_cons_succ, List.getElem_cons_zero]
          refine wpAnyN_one (i := 9) (by kernel_rfl) rfl (fun K hK => ?_)
          go_simp
          refine hK.out _ _ (.inl (by decide)) ?_
          clear hK K
          try simp only [Act.put, List.setIfInBounds_toArray, List.set_cons_zero, List.set_cons_succ, List.getElem_toArray, List.getElem_cons_succ, List.getElem_cons_zero]
          refine wpAnyN_done (by kernel_rfl) ?_ _
          have HB5 := Lib.hid (HB.out.trans (hS5.mono HB.out.size))
          clear hS5 hH
          go_wp2_with fail
          exact ⟨⟨i + 1, by omega, by rw [show ((i + 1 : Nat) : Int) = (i : Int) + 1 by omega], HB5.out⟩, by simp [intOf]; omega⟩
        · obtain rfl : i = n1 := by omega
          go_wp2_with fail
          refine (knows10 _).mono ?_
          rintro e w5 ⟨rfl, hb5⟩
          have HB5 := Lib.hid ((HB3.out.trans (HB.out.mono HB3.out.size)).trans (hb5.mono (Nat.le_trans HB3.out.size HB.out.size)))
          clear hb5
          go_wp2_with fail
          go_ret
          exact ⟨rfl, HB5.out⟩
end Go.Proofs.Ytjpbndpfbdfhjaa.Seek
