/-
  LexAlone (P11.2): the walk.
-/
import Derived.Test.YtkodajkhekocbaaLexCuts
import Derived.Deep.Cut
namespace Go.Proofs.Ytkodajkhekocbaa.Lex
open Go.RowKit
set_option linter.unusedVariables false
set_option linter.unusedSimpArgs false

theorem map_at {us : List Tv} {ts : List Tok} (h : us.map (·.t) = ts) {i : Nat} {u : Tv} (hu : us[i]? = some u) : ts[i]? = some u.t := by
  rw [← h, List.getElem?_map, hu]; rfl
theorem one_tok {us : List Tv} {t : Tok} (h : us.map (·.t) = [t]) : ∃ x, us = [x] ∧ x.t = t := one_of h
set_option maxRecDepth 100000 in
set_option maxHeartbeats 4000000 in
theorem alone_walk (A : Option Addr) (n c : Nat) (s : List (BitVec 8)) (w : World) (h : Bs w w.heap.size A n s) (hc1 : n ≤ c) (hc2 : c ≤ maxLen) (C : Option Addr) (m d : Nat) (a : List (BitVec 8)) (ha : Bs w w.heap.size C m a) (hd2 : m ≤ maxLen) :
    Calls Try.prog 4 #[.slice A n c, .slice C m d] w fun e w' => e = .returned (.bool true) ∧ Below w.heap.size w w' := by
  by_cases h5 : 500 < n
  · have HB0 := Lib.hid (Below.refl w.heap.size w)
    clear h ha
    go_enter Try.func4, Try.ntmps4
    go_wp2_with fail
    refine (knows11 _).mono ?_
    rintro e wk ⟨rfl, hbk⟩
    have HBK := Lib.hid (HB0.out.trans (hbk.mono HB0.out.size))
    clear hbk
    go_wp2_with fail
    go_ret
    exact ⟨rfl, HBK.out⟩

  by_cases h6 : 500 < m
  · have HB0 := Lib.hid (Below.refl w.heap.size w)
    have z5 : decide ((500 : Int) < (n : Int)) = false := by simp; omega
    clear h ha
    go_enter Try.func4, Try.ntmps4
    go_wp2_with fail
    refine (knows11 _).mono ?_
    rintro e wk ⟨rfl, hbk⟩
    have HBK := Lib.hid (HB0.out.trans (hbk.mono HB0.out.size))
    clear hbk
    go_wp2_with fail
    go_ret
    exact ⟨rfl, HBK.out⟩

  have z5 : decide ((500 : Int) < (n : Int)) = false := by simp; omega
  have z6 : decide ((500 : Int) < (m : Int)) = false := by simp; omega
  have con := pcut w w.heap.size A n c s h (Nat.le_refl _) (by omega)
  have H := Lib.hid h
  have HA := Lib.hid ha
  have HSL := Lib.hid h.len
  have HAL := Lib.hid ha.len
  have hn5 : n ≤ 500 := by omega
  have hm5 : m ≤ 500 := by omega
  clear h ha h5 h6
  go_enter Try.func4, Try.ntmps4

  go_wp2_with fail
  refine con.mono ?_
  clear con
  rintro e w1 ⟨hb1, hr1⟩
  have HB1 := Lib.hid hb1
  cases hcut : cut s with
  | error r =>
    obtain ⟨p, bad⟩ := r
    rw [hcut] at hr1
    obtain ⟨hbad, rfl⟩ := hr1
    have hbi : ¬ ((bad : Int) = 0) := by omega
    clear hcut hb1 hbad
    go_wp2_with fail
    refine (knows11 _).mono ?_
    rintro e wk ⟨rfl, hbk⟩
    have HBK := Lib.hid (HB1.out.trans (hbk.mono HB1.out.size))
    clear hbk
    go_wp2_with fail
    go_ret
    exact ⟨rfl, HBK.out⟩

  | ok ts =>
    rw [hcut] at hr1
    obtain ⟨A1, c1, us, rfl, hp, hus, hts⟩ := hr1
    obtain ⟨_, hal⟩ := cut_alone hcut
    have HAL1 := Lib.hid hal
    have HP := Lib.hid (hp w.heap.size)
    have HUS := Lib.hid hus
    have hul : us.length = ts.length := by rw [← hus]; simp
    have HUL := Lib.hid hul
    have HCUT := Lib.hid hcut
    obtain ⟨k, hk⟩ : ∃ k, k = ts.length := ⟨_, rfl⟩
    rw [← hk] at hts HUL ⊢
    have HK := Lib.hid hk
    clear hb1 hp hus hul hal hcut hk
    go_wp2_with fail
    go_loopw [8] (fun v8 wr => ∃ (i : Nat), i ≤ k ∧ v8 = .int .i64 (i : Int) ∧ Below w1.heap.size w1 wr) (fun v8 _ => k - (intOf v8).toNat)
    case atStart => exact ⟨0, Nat.zero_le _, rfl, Below.refl _ _⟩
    case round =>
      obtain ⟨i, hi, rfl, hb⟩ := hrel
      obtain ⟨W0, rfl⟩ : ∃ W0, W0 = wr := ⟨_, rfl⟩
      have HBL := Lib.hid hb
      rcases Nat.lt_or_ge i k with hlt | hge
      · obtain ⟨u, hu⟩ : ∃ u, us[i]? = some u := ⟨_, List.getElem?_eq_getElem (by rw [HUL.out]; exact hlt)⟩
        have htu := map_at HUS.out hu
        have hP := HP.out.below HB1.out.size hb
        obtain ⟨ad, rfl, k0, k1, k2, k3⟩ := hP.at_ hu
        have HTX := Lib.hid (HP.out.tx u (List.mem_of_getElem? hu))
        obtain ⟨hx1, hx2, hx3⟩ := HAL1.out i u.t htu
        rw [HSL.out] at hx1 hx2 hx3
        have HU := Lib.hid hu
        clear hb
        obtain ⟨⟨⟨uk, un, ut⟩, p⟩, uA, uc⟩ := u
        dsimp only at k0 k1 k2 k3 HTX hx1 hx2 hx3
        have tail_ : True := trivial
        rcases Nat.lt_or_ge (i + 1) k with hl1 | hl1
        · obtain ⟨v, hv⟩ : ∃ v, us[i + 1]? = some v := ⟨_, List.getElem?_eq_getElem (by rw [HUL.out]; exact hl1)⟩
          have htv := map_at HUS.out hv
          obtain ⟨ad', hd', _, q1, _, _⟩ := hP.at_ hv
          cases hd'
          have hnx : next n ts i = v.t.at_ := by unfold next; rw [htv]
          rw [hnx] at hx1 hx2 hx3
          obtain ⟨nx, hto⟩ : ∃ nx, nx = v.t.at_ := ⟨_, rfl⟩
          rw [← hto] at hx1 hx2 hx3 q1
          have hl1d : decide ((i : Int) + 1 < (k : Int)) = true := by simp; omega
          clear htv hv hnx hto htu
          have hp0 : decide ((p : Int) < 0) = false := by simp
          have hp1 : decide ((nx : Int) ≤ (p : Int)) = false := by simp; omega
          have hp2 : decide ((n : Int) < (nx : Int)) = false := by simp; omega
          have hp1n : decide (nx ≤ p) = false := by simp; omega
          have hp2n : decide (n < nx) = false := by simp; omega
          obtain ⟨Bc, e, dc, hcutm⟩ : ∃ (Bc : Option Addr) (e dc : Nat), (∀ V, (Instr.sliceAt 22 (.slice A n c) (some (.int .i64 (p : Int))) (some (.int .i64 (nx : Int))) none).run Try.prog V = .ok (.slice Bc e dc) V) ∧ (∀ V : World, Bs V w.heap.size A n s → Bs V w.heap.size Bc e ((s.take nx).drop p)) ∧ e ≤ 500 :=
            ⟨_, _, _, fun V => run_cutMid (size := 1) V Try.underlying22 (by kernel_rfl) A n c p nx .i64 .i64 (by omega) (by omega), fun V hV => bs_cut hV (by omega) hx2 hc1, by omega⟩
          obtain ⟨hcr, hcb, hce⟩ := hcutm
          have HBW := Lib.hid (HB1.out.trans (HBL.out.mono HB1.out.size))
          have con := pcut W0 w.heap.size Bc e dc _ (hcb W0 (H.out.below HBW.out)) HBW.out.size (by omega)
          rw [hx3] at con
          have K0 := Lib.hid k0
          have K2 := Lib.hid k2
          have K3 := Lib.hid k3
          clear hcb hx3 hP
          go_wp2_with fail
          refine con.mono ?_
          clear con hcr k0 k1 k2 k3 q1 hl1d
          rintro e2 w2 ⟨hb2, A2, c2, ys, rfl, hy, hys, _⟩
          obtain ⟨y, rfl, hyt⟩ := one_of hys
          have hy2 := hy w.heap.size
          obtain ⟨bd, rfl, j0, j1, j2, j3⟩ := hy2.at_ (i := 0) (v := y) rfl
          have s1 := (hy2.tx y (by simp)).str (Nat.le_trans HBW.out.size hb2.size) y.c
          have hTX := (HTX.out.below HB1.out.size HBL.out).below HBW.out.size hb2
          have s2 := hTX.str (Nat.le_trans HBW.out.size hb2.size) uc
          rw [hyt] at j0 j2 j3 s1
          have m0 := (hb2.cell (cell_lt K0.out)).trans K0.out
          have m2 := (hb2.cell (cell_lt K2.out)).trans K2.out
          have m3 := (hb2.cell (cell_lt K3.out)).trans K3.out
          have HB2 := Lib.hid (HBL.out.trans (hb2.mono HBL.out.size))
          rw [show (0 * 4 : Nat) = 0 from rfl] at j0 j2 j3
          simp only [show bd.add 0 = bd from rfl] at j0 j2 j3
          clear hb2 hy hys hy2 hyt hTX j1
          dsimp only at j0 j2 j3 s1 s2 m0 m2 m3
          generalize hut : ut.length = ul at *
          generalize hstr : str ut = us' at *
          clear hut hstr
          go_wp2_with fail
          go_quiet (fail)
          go_wp2_with fail
          exact ⟨⟨i + 1, by omega, by rw [show ((i + 1 : Nat) : Int) = (i : Int) + 1 by omega], lbelow_drew HB2.out nq⟩, by simp [intOf]; omega⟩

        · have hnx : next n ts i = n := by
            unfold next
            rw [List.getElem?_eq_none (by rw [← HK.out]; exact hl1)]
          rw [hnx] at hx1 hx2 hx3
          have hl1d : decide ((i : Int) + 1 < (k : Int)) = false := by simp; omega
          clear hnx htu
          have hp0 : decide ((p : Int) < 0) = false := by simp
          have hp1 : decide ((n : Int) ≤ (p : Int)) = false := by simp; omega
          have hp2 : decide ((n : Int) < (n : Int)) = false := by simp
          have hp1n : decide (n ≤ p) = false := by simp; omega
          have hp2n : decide (n < n) = false := by simp
          obtain ⟨Bc, e, dc, hcutm⟩ : ∃ (Bc : Option Addr) (e dc : Nat), (∀ V, (Instr.sliceAt 22 (.slice A n c) (some (.int .i64 (p : Int))) (some (.int .i64 (n : Int))) none).run Try.prog V = .ok (.slice Bc e dc) V) ∧ (∀ V : World, Bs V w.heap.size A n s → Bs V w.heap.size Bc e ((s.take n).drop p)) ∧ e ≤ 500 :=
            ⟨_, _, _, fun V => run_cutMid (size := 1) V Try.underlying22 (by kernel_rfl) A n c p n .i64 .i64 (by omega) (by omega), fun V hV => bs_cut hV (by omega) hx2 hc1, by omega⟩
          obtain ⟨hcr, hcb, hce⟩ := hcutm
          have HBW := Lib.hid (HB1.out.trans (HBL.out.mono HB1.out.size))
          have con := pcut W0 w.heap.size Bc e dc _ (hcb W0 (H.out.below HBW.out)) HBW.out.size (by omega)
          rw [hx3] at con
          have K0 := Lib.hid k0
          have K2 := Lib.hid k2
          have K3 := Lib.hid k3
          clear hcb hx3 hP
          go_wp2_with fail
          refine con.mono ?_
          clear con hcr k0 k1 k2 k3 hl1d
          rintro e2 w2 ⟨hb2, A2, c2, ys, rfl, hy, hys, _⟩
          obtain ⟨y, rfl, hyt⟩ := one_of hys
          have hy2 := hy w.heap.size
          obtain ⟨bd, rfl, j0, j1, j2, j3⟩ := hy2.at_ (i := 0) (v := y) rfl
          have s1 := (hy2.tx y (by simp)).str (Nat.le_trans HBW.out.size hb2.size) y.c
          have hTX := (HTX.out.below HB1.out.size HBL.out).below HBW.out.size hb2
          have s2 := hTX.str (Nat.le_trans HBW.out.size hb2.size) uc
          rw [hyt] at j0 j2 j3 s1
          have m0 := (hb2.cell (cell_lt K0.out)).trans K0.out
          have m2 := (hb2.cell (cell_lt K2.out)).trans K2.out
          have m3 := (hb2.cell (cell_lt K3.out)).trans K3.out
          have HB2 := Lib.hid (HBL.out.trans (hb2.mono HBL.out.size))
          rw [show (0 * 4 : Nat) = 0 from rfl] at j0 j2 j3
          simp only [show bd.add 0 = bd from rfl] at j0 j2 j3
          clear hb2 hy hys hy2 hyt hTX j1
          dsimp only at j0 j2 j3 s1 s2 m0 m2 m3
          generalize hut : ut.length = ul at *
          generalize hstr : str ut = us' at *
          clear hut hstr
          go_wp2_with fail
          go_quiet (fail)
          go_wp2_with fail
          exact ⟨⟨i + 1, by omega, by rw [show ((i + 1 : Nat) : Int) = (i : Int) + 1 by omega], lbelow_drew HB2.out nq⟩, by simp [intOf]; omega⟩
      · obtain rfl : i = k := by omega
        have HBW := Lib.hid (HB1.out.trans (HBL.out.mono HB1.out.size))
        have con := pcut W0 w.heap.size C m d a (HA.out.below HBW.out) HBW.out.size (by omega)
        clear hb
        go_wp2_with fail
        refine con.mono ?_
        clear con
        rintro e w2 ⟨hb2, hr2⟩
        have HB2 := Lib.hid (HBW.out.trans (hb2.mono HBW.out.size))
        have HBL2 := Lib.hid (HBL.out.trans (hb2.mono HBL.out.size))
        clear hb2
        cases hcut2 : cut a with
        | error r =>
          obtain ⟨p, bad⟩ := r
          rw [hcut2] at hr2
          obtain ⟨hbad, rfl⟩ := hr2
          have hbi : ¬ ((bad : Int) = 0) := by omega
          clear hcut2 hbad
          go_wp2_with fail
          refine (knows11 _).mono ?_
          rintro e wk ⟨rfl, hbk⟩
          have HBK := Lib.hid (HB2.out.trans (hbk.mono HB2.out.size))
          clear hbk
          go_wp2_with fail
          go_ret
          exact ⟨rfl, HBK.out⟩

        | ok ta =>
          rw [hcut2] at hr2
          obtain ⟨A2, c2, vs, rfl, _, _, hta⟩ := hr2
          have HBEH := Lib.hid (cut_behind hcut2 HCUT.out (by rw [HSL.out, HAL.out]; omega))
          obtain ⟨b, hbl⟩ : ∃ b, b = ta.length := ⟨_, rfl⟩
          rw [← hbl] at hta ⊢
          have HBT := Lib.hid hbl
          clear hcut2 hbl
          have HW2 := Lib.hid (Nat.le_trans HB2.out.size (Nat.le_refl w2.heap.size))
          have H2 := Lib.hid (H.out.below HB2.out)
          have HA2 := Lib.hid (HA.out.below HB2.out)
          have HC10 := Lib.hid (fun (W : World) => lit_one W 10#8)
          go_wp2_with (first
            | (at_builtin; refine wpList_append_new _ rfl _ _ 22 rfl 5 rowB rfl w.heap.size C m d a rfl HA2.out HB2.out.size (by omega) ?_; intro A4 c4 w4 ho4 hb4; have HO4 := Lib.hid ho4; have HB4 := Lib.hid hb4; have HO5 := Lib.hid (show Owb (w4.alloc (.cells #[v8 10#8] 5)) w2.heap.size A4 m c4 a from Owb.below (show Owb w4 w2.heap.size A4 m c4 a from ho4) ((Below.refl _ _).alloc (Nat.le_refl _) _)); have HB5 := Lib.hid (hb4.trans (((Below.refl w4.heap.size w4).alloc (Nat.le_refl _) (.cells #[v8 10#8] 5)).mono hb4.size)); clear ho4 hb4)
            | (at_builtin; refine wpList_append_bs _ rfl _ _ 22 rfl w2.heap.size 5 rowB (.slice A4 m c4) m a rfl HO5.out (w4.heap.size + 1) (some ⟨w4.heap.size, 0, none⟩) 1 1 [10#8] rfl (HC10.out w4) (m + 1) (a ++ [10#8]) rfl rfl (by omega) HB5.out.size ?_; intro A6 c6 w6 ho6 hg6 _; have HO6 := Lib.hid (show Owb w6 w2.heap.size A6 (m + 1) c6 (a ++ [10#8]) from ho6); have HB6 := Lib.hid (HB5.out.trans (Owb.grew HO5.out hg6 HB5.out.size)); clear ho6 hg6)
            | (at_builtin; refine wpList_append_bs _ rfl _ _ 22 rfl w2.heap.size 5 rowB (.slice A6 (m + 1) c6) (m + 1) (a ++ [10#8]) rfl HO6.out w.heap.size A n c s rfl (H2.out.below (HB6.out.mono HB2.out.size)) (m + 1 + n) (a ++ [10#8] ++ s) rfl rfl (by omega) HB6.out.size ?_; intro A8 c8 w8 ho8 hg8 _; have HO8 := Lib.hid (show Owb w8 w2.heap.size A8 (m + 1 + n) c8 (a ++ [10#8] ++ s) from ho8); have HB8 := Lib.hid (HB6.out.trans (Owb.grew HO6.out hg8 HB6.out.size)); have con8 := pcut w8 w8.heap.size A8 (m + 1 + n) c8 (a ++ [10#8] ++ s) (Bs.of_own HO8.out rfl) (Nat.le_refl _) (by omega); clear ho8 hg8)
            | fail)
          rw [show cut (a ++ [10#8] ++ s) = .ok (ta ++ ts.map (shift (m + 1))) by rw [← HAL.out, ← HBEH.out]; simp] at con8
          have hlen : (ta ++ ts.map (shift (m + 1))).length = b + i := by rw [List.length_append, List.length_map, ← HBT.out, ← HK.out]
          refine con8.mono ?_
          clear con8
          intro e w9 hr9
          obtain ⟨hb9, A9, c9, zs, rfl, hp9, hzs, hzl⟩ := hr9
          rw [hlen]
          rw [hlen] at hzl
          have HZS := Lib.hid hzs
          have hzn : zs.length = b + i := by rw [← hlen, ← hzs]; simp
          have HZN := Lib.hid hzn
          have HP9 := Lib.hid (hp9 w.heap.size)
          have HB9 := Lib.hid ((HB2.out.trans (HB8.out.mono HB2.out.size)).trans (hb9.mono (Nat.le_trans HB2.out.size HB8.out.size)))
          have HBL9 := Lib.hid ((HBL2.out.trans (HB8.out.mono HBL2.out.size)).trans (hb9.mono (Nat.le_trans HBL2.out.size HB8.out.size)))
          clear hb9 hp9 hzs hlen hzn HO4 HB4 HO5 HB5 HO6 HB6 HO8 HB8
          go_wp2_with fail
          go_loopw [20] (fun v20 wr => ∃ (j : Nat), j ≤ i ∧ v20 = .int .i64 (j : Int) ∧ Below w9.heap.size w9 wr) (fun v20 _ => i - (intOf v20).toNat)
          case atStart => exact ⟨0, Nat.zero_le _, rfl, Below.refl _ _⟩
          case round =>
            obtain ⟨j, hj, rfl, hb⟩ := hrel
            obtain ⟨W1, rfl⟩ : ∃ W1, W1 = wr := ⟨_, rfl⟩
            have HBR := Lib.hid hb
            rcases Nat.lt_or_ge j i with hlt | hge
            · obtain ⟨u, hu⟩ : ∃ u, us[j]? = some u := ⟨_, List.getElem?_eq_getElem (by rw [HUL.out]; exact hlt)⟩
              obtain ⟨y, hy⟩ : ∃ y, zs[b + j]? = some y := ⟨_, List.getElem?_eq_getElem (by rw [HZN.out]; omega)⟩
              have hyt : y.t = shift (m + 1) u.t := by
                have h1 := map_at HZS.out hy
                rw [List.getElem?_append_right (by rw [← HBT.out]; omega), ← HBT.out, Nat.add_sub_cancel_left, List.getElem?_map, map_at HUS.out hu] at h1
                exact (Option.some.inj h1).symm
              have hU := (HP.out.below HB1.out.size HBL9.out).below HB9.out.size hb
              have hY := HP9.out.below HB9.out.size hb
              obtain ⟨ad, rfl, k0, k1, _, _⟩ := hU.at_ hu
              obtain ⟨ad9, rfl, j0, j1, j2, j3⟩ := hY.at_ hy
              rw [hyt] at j0 j1 j2 j3
              have hpn : u.t.at_ ≤ 500 := by
                obtain ⟨hx1, hx2, _⟩ := HAL1.out j u.t (map_at HUS.out hu)
                have := HSL.out
                omega
              obtain ⟨⟨⟨uk, un, ut⟩, p⟩, uA, uc⟩ := u
              obtain ⟨⟨yt, yp⟩, yA, yc⟩ := y
              dsimp only at hpn
              change _ = some (Value.int .i64 uk) at j0
              change _ = some (Value.int .i64 ((p + (m + 1) : Nat) : Int)) at j1
              change _ = some (Value.int .i64 un) at j2
              change _ = some (Value.slice yA ut.length yc) at j3
              change _ = some (Value.int .i64 uk) at k0
              change _ = some (Value.int .i64 (p : Int)) at k1
              rw [show ((p + (m + 1) : Nat) : Int) = (p : Int) + (m : Int) + 1 by omega] at j1
              have hb2 : Below W1.heap.size W1 (W1.alloc (.cells #[.int .i64 uk, .int .i64 ((p : Int) + (m : Int) + 1), .int .i64 un, .slice yA ut.length yc] 35)) := (Below.refl _ _).alloc (Nat.le_refl _) _
              have k0' := (hb2.cell (cell_lt k0)).trans k0
              have k1' := (hb2.cell (cell_lt k1)).trans k1
              have HB3 := Lib.hid (hb.trans (hb2.mono hb.size))
              clear hu hy hyt hU hY hb hb2 k0 k1
              generalize ut.length = ul at *
              go_wp2_with fail
              go_quiet (fail)
              go_wp2_with fail
              exact ⟨⟨j + 1, by omega, by rw [show ((j + 1 : Nat) : Int) = (j : Int) + 1 by omega], lbelow_drew HB3.out nq⟩, by simp [intOf]; omega⟩
            · obtain rfl : j = i := by omega
              have HBZ := Lib.hid (HB9.out.trans (hb.mono HB9.out.size))
              clear hb
              go_wp2_with fail
              refine (knows11 _).mono ?_
              rintro e wk ⟨rfl, hbk⟩
              have HBK := Lib.hid (HBZ.out.trans (hbk.mono HBZ.out.size))
              clear hbk
              go_wp2_with fail
              go_ret
              exact ⟨rfl, HBK.out⟩
end Go.Proofs.Ytkodajkhekocbaa.Lex
