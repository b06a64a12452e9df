/-
  davitlaw10.SeekLooks: the walk.
-/
import Derived.Test.YtjpbndpfbdfhjaaMSeekKnows
import Derived.Test.YtjpbndpfbdfhjaaMSeekOpen
namespace Go.Proofs.Ytjpbndpfbdfhjaa.Seek
open Go.RowKit Go.Proofs.Ytjpbndpfbdfhjaa.Nfa Go.Proofs.Ytjpbndpfbdfhjaa.Ord
open Go.Proofs.Ytjpbndpfbdfhjaa.Reg (Sp Spn sflat)
set_option linter.unusedVariables false
set_option linter.unusedSimpArgs false

theorem tells_same {ps : List (List In)} {b : List (BitVec 8)} {over : Bool} {a f t n a' f' t' n' : Int} (h : LkTells ps b over a f t n) (h' : LkTells ps b over a' f' t' n') : a = a' ∧ f = f' ∧ t = t' ∧ n = n' := by
  rcases h with ⟨h1, h2, h3, h4, h5⟩ | ⟨i, g, e, hb, h2, h3, h4, h5⟩
  · rcases h' with ⟨_, k2, k3, k4, k5⟩ | ⟨_, _, _, hb', _⟩
    · exact ⟨h2.trans k2.symm, h3.trans k3.symm, h4.trans k4.symm, h5.trans k5.symm⟩
    · exact absurd h1 hb'.not_none
  · rcases h' with ⟨k1, _⟩ | ⟨i', g', e', hb', k2, k3, k4, k5⟩
    · exact absurd k1 hb.not_none
    · obtain ⟨q1, q2, q3⟩ := hb.unique hb'
      omega
/-- Arms that are alike: what holds of the one's instructions holds of the other's. -/
theorem like_arms {xs ys : List Av} {P : In → Prop} {k : Nat} (e : ys.map Av.p = xs.map Av.p) (h : ∀ x ∈ xs, x.us.length ≤ k ∧ ∀ u ∈ x.us, P u.i) : ∀ y ∈ ys, y.us.length ≤ k ∧ ∀ u ∈ y.us, P u.i := fun y hy => by
  have : y.p ∈ xs.map Av.p := by rw [← e]; exact List.mem_map_of_mem hy
  obtain ⟨x, hx, hxy⟩ := List.mem_map.1 this
  obtain ⟨q1, q2⟩ := h x hx
  have hl : x.us.length = y.us.length := by have := congrArg List.length hxy; simpa [Av.p] using this
  refine ⟨by omega, fun u hu => ?_⟩
  have : u.i ∈ x.p := by rw [hxy]; exact List.mem_map_of_mem hu
  obtain ⟨v, hv, e⟩ := List.mem_map.1 this
  rw [← e]; exact q2 v hv

set_option maxRecDepth 100000 in
set_option maxHeartbeats 4000000 in
theorem looks_walk (A : Option Addr) (n c : Nat) (w : World) (h : IsV w (.slice (.recs [.int .i64, .int .i64, .int .i64, .bool, .recs [.int .u8, .int .u8]])) (.slice A n c)) (B : Option Addr) (m bc : Nat) (bs : List (BitVec 8)) (hb : Bs w w.heap.size B m bs) (hcap : m ≤ bc) (hm : bc ≤ maxLen) :
    Calls Try.prog 4 #[.slice A n c, .slice B m bc] w fun e w' => e = .returned (.bool true) ∧ Below w.heap.size w w' := by
  obtain ⟨xs, hl, hn, hpas, hsm⟩ := arms_of_isv h
  clear h
  unfold maxLen at hn hsm hm
  by_cases hbig : 4 < n ∨ 60 < m ∧ m < 250 ∨ 260 < m
  · clear hb hpas hsm hl
    go_enter Try.func4, Try.ntmps4
    by_cases h4 : 4 < n
    · go_wp2_with fail
      refine (knows10 _).mono ?_
      rintro e w1 ⟨rfl, hb1⟩
      have HB1 := Lib.hid hb1
      clear hb1
      go_wp2_with fail
      go_ret
      exact ⟨rfl, HB1.out⟩
    · by_cases h60 : 60 < m
      · by_cases h250 : m < 250
        · go_wp2_with fail
          refine (knows10 _).mono ?_
          rintro e w1 ⟨rfl, hb1⟩
          have HB1 := Lib.hid hb1
          clear hb1
          go_wp2_with fail
          go_ret
          exact ⟨rfl, HB1.out⟩
        · have h260 : 260 < m := by omega
          go_wp2_with fail
          refine (knows10 _).mono ?_
          rintro e w1 ⟨rfl, hb1⟩
          have HB1 := Lib.hid hb1
          clear hb1
          go_wp2_with fail
          go_ret
          exact ⟨rfl, HB1.out⟩
      · exact absurd hbig (by omega)
  have h4 : n ≤ 4 := by omega
  have h260 : m ≤ 260 := by omega
  have hmid : m ≤ 60 ∨ 250 ≤ m := by omega
  have H := Lib.hid hpas
  have HL := Lib.hid hl
  have HSM := Lib.hid hsm
  have HB := Lib.hid hb
  clear hb hpas hsm hl hbig
  go_enter Try.func4, Try.ntmps4
  go_upto_region 1 with fail
  go_cut [30] from 13 to 31 (fun s30 wx => s30 = .bool false ∧ w = wx)
  case first =>
    have z4 : decide ((4 : Int) < (n : Int)) = false := by simp; omega
    have z5 : decide ((260 : Int) < (m : Int)) = false := by simp; omega
    rcases hmid with h60 | h250
    · go_wp2_with fail
      go_meet
      case rel => exact ⟨by simp [z4, z5], rfl⟩
    · have z6 : decide ((m : Int) < (250 : Int)) = false := by simp; omega
      go_wp2_with fail
      go_meet
      case rel => exact ⟨by simp [z4, z5, z6], rfl⟩
  case rest =>
    obtain ⟨rfl, rfl⟩ := hcut
    go_wp2_with fail
    go_loopw [5] (fun v5 wr => ∃ i : Nat, i ≤ n ∧ v5 = .int .i64 (i : Int) ∧ w = wr ∧ ∀ (k : Nat) x, k < i → xs[k]? = some x → x.us.length ≤ 60 ∧ ∀ u ∈ x.us, u.i.sp.length ≤ 20) (fun v5 _ => n - (intOf v5).toNat)
    case atStart => exact ⟨0, Nat.zero_le _, rfl, rfl, fun k x hk => absurd hk (Nat.not_lt_zero _)⟩
    case round =>
      obtain ⟨i, hi, rfl, rfl, hfew⟩ := hrel
      have HFEW := Lib.hid hfew
      clear hfew
      rcases Nat.lt_or_ge i n with hlt | hge
      · obtain ⟨x, hx⟩ : ∃ x, xs[i]? = some x := ⟨_, List.getElem?_eq_getElem (by rw [HL.out]; exact hlt)⟩
        obtain ⟨ad, rfl, a0⟩ := H.out.at_ hx
        have HPR := Lib.hid (H.out.arms x (List.mem_of_getElem? hx))
        obtain ⟨hxl, hxs⟩ := HSM.out x (List.mem_of_getElem? hx)
        have HXS := Lib.hid hxs
        have HX := Lib.hid hx
        obtain ⟨l, hl⟩ : ∃ l, l = x.us.length := ⟨_, rfl⟩
        have HLX := Lib.hid hl.symm
        rw [← hl] at a0 hxl
        clear hx hxs hl
        by_cases h60 : 60 < l
        · go_wp2_with fail
          refine (knows10 _).mono ?_
          rintro e w1 ⟨rfl, hb1⟩
          have HB1 := Lib.hid hb1
          clear hb1
          go_wp2_with fail
          go_ret
          exact ⟨rfl, HB1.out⟩
        · go_wp2_with fail
          go_loopw [6] (fun v6 wr => ∃ k : Nat, k ≤ l ∧ v6 = .int .i64 (k : Int) ∧ w = wr ∧ ∀ (j : Nat) u, j < k → x.us[j]? = some u → u.i.sp.length ≤ 20) (fun v6 _ => l - (intOf v6).toNat)
          case atStart => exact ⟨0, Nat.zero_le _, rfl, rfl, fun k x hk => absurd hk (Nat.not_lt_zero _)⟩
          case round =>
            obtain ⟨k, hk, rfl, rfl, hfk⟩ := hrel
            have HFK := Lib.hid hfk
            clear hfk
            rcases Nat.lt_or_ge k l with hlk | hgk
            · obtain ⟨u, hu⟩ : ∃ u, x.us[k]? = some u := ⟨_, List.getElem?_eq_getElem (by rw [HLX.out]; exact hlk)⟩
              obtain ⟨xd, hA, _, _, _, _, i4⟩ := cz_five HPR.out.ry hu
              obtain ⟨hul, _, _⟩ := HXS.out u (List.mem_of_getElem? hu)
              have HU := Lib.hid hu
              obtain ⟨⟨us, xA, xc⟩, hx⟩ : ∃ y, y = x := ⟨_, rfl⟩
              subst hx
              dsimp only at *
              subst hA
              generalize hq : u.i.sp.length = q at *
              have HQ := Lib.hid hq
              clear hq hu
              by_cases h20 : 20 < q
              · go_wp2_with fail
                refine (knows10 _).mono ?_
                rintro e w1 ⟨rfl, hb1⟩
                have HB1 := Lib.hid hb1
                clear hb1
                go_wp2_with fail
                go_ret
                exact ⟨rfl, HB1.out⟩
              · go_wp2_with fail
                exact ⟨⟨k + 1, by omega, by rw [show ((k + 1 : Nat) : Int) = (k : Int) + 1 by omega], by trivial, fun j v hj hv => by
                  rcases Nat.lt_or_ge j k with e | e
                  · exact HFK.out j v e hv
                  · obtain rfl : j = k := by omega
                    have := HU.out
                    rw [hv] at this
                    cases this
                    rw [HQ.out]; omega⟩, by simp [intOf]; omega⟩
            · obtain rfl : k = l := by omega
              go_wp2_with fail
              exact ⟨⟨i + 1, by omega, by rw [show ((i + 1 : Nat) : Int) = (i : Int) + 1 by omega], by trivial, fun j y hj hy => by
                rcases Nat.lt_or_ge j i with e | e
                · exact HFEW.out j y e hy
                · obtain rfl : j = i := by omega
                  have := HX.out
                  rw [hy] at this
                  cases this
                  refine ⟨by rw [HLX.out]; omega, fun u hu => ?_⟩
                  obtain ⟨q, hq⟩ := List.mem_iff_getElem?.1 hu
                  exact HFK.out q u (by rw [← HLX.out]; exact (List.getElem?_eq_some_iff.1 hq).1) hq⟩, by simp [intOf]; omega⟩
      · obtain rfl : i = n := by omega
        have hall : ∀ x ∈ xs, x.us.length ≤ 60 ∧ ∀ u ∈ x.us, u.i.sp.length ≤ 20 ∧ fit64 u.i.x ∧ fit64 u.i.y := fun x hx => by
          obtain ⟨k, hk⟩ := List.mem_iff_getElem?.1 hx
          obtain ⟨q1, q2⟩ := HFEW.out k x (by rw [← HL.out]; exact (List.getElem?_eq_some_iff.1 hk).1) hk
          exact ⟨q1, fun u hu => ⟨q2 u hu, ((HSM.out x hx).2 u hu).2⟩⟩
        have con := plook w A i c xs H.out HL.out (by omega) (fun x hx => ⟨by have := (hall x hx).1; omega, fun u hu => ((hall x hx).2 u hu).2, fun u hu => by have := ((hall x hx).2 u hu).1; omega⟩) B m bc bs HB.out (by omega) hcap
        have HALL := Lib.hid hall
        clear hall
        go_wp2_with fail
        refine con.mono ?_
        clear con
        rintro e w1 ⟨hb1, a, f, t, z, rfl, htl⟩
        have HT1 := Lib.hid htl
        have hb2 := hb1.trans ((Below.refl w1.heap.size w1).alloc (Nat.le_refl _) (.cells #[.int .i64 a, .int .i64 f, .int .i64 t] 41) |>.mono hb1.size)
        have hc2 := Cel.new w1 41 [.int .i64 a, .int .i64 f, .int .i64 t]
        have con := as10 _ A i c xs (H.out.below hb2) HL.out (by omega) (fun x hx => ⟨by have := (HALL.out x hx).1; omega, fun u hu => by have := ((HALL.out x hx).2 u hu).1; omega⟩)
        have HC2 := Lib.hid hc2
        have HB2 := Lib.hid hb2
        clear hb1 htl hb2 hc2
        go_wp2_with fail
        refine con.mono ?_
        clear con
        rintro e w3 ⟨A3, c3, ys, rfl, hra, hps, hb3⟩
        have HB3 := Lib.hid (HB2.out.trans (hb3.mono HB2.out.size))
        have HC3 := Lib.hid (HC2.out.below hb3 HC2.out.lt)
        have hys := like_arms (P := fun v => v.sp.length ≤ 20 ∧ fit64 v.x ∧ fit64 v.y) hps HALL.out
        have con := look_ w3 A3 i c3 ys hra.ras hra.len (by omega) (fun y hy => ⟨by have := (hys y hy).1; omega, fun u hu => ((hys y hy).2 u hu).2, fun u hu => by have := ((hys y hy).2 u hu).1; omega⟩) B m bc bs ((HB.out.below HB3.out).more HB3.out.size) (by omega) hcap
        rw [hps] at con
        clear hra hps hb3 hys
        go_wp2_with fail
        refine con.mono ?_
        clear con
        rintro e w4 ⟨hb4, a', f', t', z', rfl, htl⟩
        obtain ⟨rfl, rfl, rfl, rfl⟩ := tells_same HT1.out htl
        have hc4 := HC3.out.below hb4 HC3.out.lt
        have HB4 := Lib.hid (HB3.out.trans (hb4.mono HB3.out.size))
        have c0 := hc4.cell 0
        have c1 := hc4.cell 1
        have c2 := hc4.cell 2
        have con := knows10 w4
        clear hb4 htl hc4 HT1 HC3 HB3 HC2 HB2 HALL HFEW HSM HL H HB
        go_wp2_with fail
        refine con.mono ?_
        clear con
        rintro e w5 ⟨rfl, hb5⟩
        have HB5 := Lib.hid (HB4.out.trans (hb5.mono HB4.out.size))
        clear hb5
        go_wp2_with fail
        go_ret
        exact ⟨rfl, HB5.out⟩
end Go.Proofs.Ytjpbndpfbdfhjaa.Seek
