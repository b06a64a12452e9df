/-
  The law SegmentPlays walked.
-/
import Derived.Test.YtbomgglmplecpaaGreatMDiskFail
import Derived.Test.YtbomgglmplecpaaGreatMSegPlayB
import Derived.Test.YtbomgglmplecpaaGreatMSegPlan
namespace Go.Proofs.YtbomgglmplecpaaGreat.Segm
open Go.RowKit
open Go.Proofs.YtbomgglmplecpaaGreat.Disk (M Sc Dk Fk Chg Dob Rob Rs Rst Bo append sync remove there rows Ok Inv fit64 crash up fail)
open Go.Proofs.YtbomgglmplecpaaGreat.Ord
set_option linter.unusedVariables false
set_option linter.unusedSimpArgs false

theorem Fk_sob {B d : Nat} {m : M} {w w' : World} (h : Fk w B d m) (hc : Chg B Sob w w') : Fk w' B d m := by
  obtain ⟨A, c, lv, kv, left, h⟩ := h
  exact ⟨A, c, lv, kv, left, h.chg hc (by rintro cs t fz (rfl | rfl | rfl | rfl) (h | h | h) <;> revert h <;> decide)⟩
theorem Rg_sob {B t d : Nat} {g : Gm} {w w' : World} (h : Rg w t d g) (hc : Chg B Sob w w') : Rg w' t d g := h.chg hc (by rintro cs fz (h | h | h) <;> revert h <;> decide)
theorem Dk_qob {B d : Nat} {m : M} {w w' : World} (h : Dk w B d m) (hc : Chg B Qob w w') : Dk w' B d m := by
  obtain ⟨b, vs, kv, h⟩ := h
  exact ⟨b, vs, kv, h.chg hc (by rintro cs t fz (rfl | rfl | rfl) (h | h | h) <;> revert h <;> decide) (fun _ _ h => h)⟩
theorem Sg_qob {B s d : Nat} {g : Gm} {w w' : World} (h : Sg w s d g) (hc : Chg B Qob w w') : Sg w' s d g := h.chg hc (by rintro cs fz (h | h | h) <;> revert h <;> decide)
theorem By_sob {B : Nat} {w w' : World} {A : Option Addr} {n : Nat} {bs : List (BitVec 8)} (h : By w A n bs) (hc : Chg B Sob w w') : By w' A n bs := h.keep fun k cs fz hk => by
  rw [hk]; exact hc.block _ _ hk (.inr (by rintro (h | h | h) <;> revert h <;> decide))
theorem Dk_inv {w : World} {B d : Nat} {m : M} (h : Dk w B d m) : Inv m := by obtain ⟨_, _, _, h⟩ := h; exact h.inv
theorem deed_sob {B g : Nat} {w w' : World} {cs : List Value} (h : Cel w g 43 cs) (hc : Chg B Sob w w') : Cel w' g 43 cs := Disk.Cel.chg h hc (by rintro (h | h | h) <;> revert h <;> decide)
theorem deed_qob {B g : Nat} {w w' : World} {cs : List Value} (h : Cel w g 43 cs) (hc : Chg B Qob w w') : Cel w' g 43 cs := Disk.Cel.chg h hc (by rintro (h | h | h) <;> revert h <;> decide)
theorem dob_s {B : Nat} {w w' : World} (hc : Chg B Dob w w') : Chg B Sob w w' := hc.mono (Nat.le_refl _) dob_sob
theorem rob_q {B : Nat} {w w' : World} (hc : Chg B Rob w w') : Chg B Qob w w' := hc.mono (Nat.le_refl _) rob_qob

/-- Both disks and both segments, alike. -/
structure Both (w W : World) (d d2 s t : Nat) (f : Int) (k : Nat) (m : M) (g : Gm) : Prop where
  dk : Dk W w.heap.size d m
  fk : Fk W w.heap.size d2 m
  sg : Sg W s d g
  rg : Rg W t d2 g
  own : w.heap.size ≤ s ∧ w.heap.size ≤ t
  file : g.file = f
  size : g.size ≤ 100 * k
  ok : Ok m
  low : Below w.heap.size w W
/-- Both disks, alike. -/
structure Two (w W : World) (d d2 : Nat) (m : M) : Prop where
  dk : Dk W w.heap.size d m
  fk : Fk W w.heap.size d2 m
  ok : Ok m
  low : Below w.heap.size w W
namespace Two
variable {w W W' : World} {d d2 : Nat} {m : M}
theorem below (h : Two w W d d2 m) (hb : Below W.heap.size W W') : Two w W' d d2 m := ⟨h.dk.below hb, h.fk.below hb, h.ok, h.low.trans (hb.mono h.low.size)⟩
end Two
namespace Both
variable {w W W' : World} {d d2 s t : Nat} {f : Int} {k : Nat} {m : M} {g : Gm}
theorem two (h : Both w W d d2 s t f k m g) : Two w W d d2 m := ⟨h.dk, h.fk, h.ok, h.low⟩
theorem below (h : Both w W d d2 s t f k m g) (hb : Below W.heap.size W W') : Both w W' d d2 s t f k m g :=
  ⟨h.dk.below hb, h.fk.below hb, h.sg.below hb, h.rg.below hb, h.own, h.file, h.size, h.ok, h.low.trans (hb.mono h.low.size)⟩
end Both

theorem cell4 {w : World} {g : Nat} {t : TypeId} {a0 a1 a2 a3 : Value} (h : Cel w g t [a0, a1, a2, a3]) : w.cell? ⟨g, 0, none⟩ = some a0 ∧ w.cell? ⟨g, 1, none⟩ = some a1 ∧ w.cell? ⟨g, 2, none⟩ = some a2 ∧ w.cell? ⟨g, 3, none⟩ = some a3 :=
  ⟨h.cell 0, h.cell 1, h.cell 2, h.cell 3⟩

set_option maxRecDepth 100000 in
set_option maxHeartbeats 4000000 in
theorem plays_walk (r f : Int) (hr : fit64 r) (hf : fit64 f) (ep : BitVec 32) (A : Option Addr) (l c : Nat) (w : World) (h : IsV w (.recs [.int .i64, .int .i64, .int .u8, .slice .bool]) (.slice A l c)) :
    Calls Tryz.prog 3 #[.int .i64 r, .int .i64 f, v32 ep, .slice A l c] w fun e w' => e = .returned (.bool true) ∧ Below w.heap.size w w' := by
  obtain ⟨hlen, hdeeds⟩ := IsDd.of_isv h
  have con := few_ok w A l c hlen hdeeds
  have HDS := Lib.hid hdeeds
  unfold fit64 at hr hf
  unfold maxLen at hlen
  clear hdeeds h
  go_enter Tryz.func3, Tryz.ntmps3
  go_wp2_with fail
  refine con.mono ?_
  clear con
  rintro e w1 ⟨b, rfl, hb30, rfl⟩
  cases b
  · go_wp2_with fail
    refine (knows w).mono ?_
    rintro e w2 ⟨rfl, hb⟩
    go_wp2_with fail
    go_ret
    exact ⟨rfl, hb⟩
  have hl30 := hb30 rfl
  clear hb30
  by_cases hb1 : r < 1
  · go_wp2_with fail
    refine (knows w).mono ?_
    rintro e w3 ⟨rfl, hb⟩
    go_wp2_with fail
    go_ret
    exact ⟨rfl, hb⟩
  by_cases hb2 : 60 < r
  · go_wp2_with fail
    refine (knows w).mono ?_
    rintro e w3 ⟨rfl, hb⟩
    go_wp2_with fail
    go_ret
    exact ⟨rfl, hb⟩
  obtain ⟨rn, hrn⟩ : ∃ rn : Nat, r = (rn : Int) := ⟨r.toNat, by omega⟩
  subst hrn
  have hr1 : 1 ≤ rn := by omega
  have hr2 : rn ≤ 60 := by omega
  have con := Disk.new_ok w w.heap.size rn (Nat.le_refl _) hr1 (by omega)
  clear hb1 hb2 hr
  go_wp2_with fail
  refine con.mono ?_
  clear con
  rintro e w2 ⟨d, rfl, hd2, hb2⟩
  have HD2 := Lib.hid hd2
  have HB2 := Lib.hid hb2
  clear hd2 hb2
  have hcw := Cel.new w2 35 [.int .i64 rn, .slice none 0 0, .slice none 0 0, .bool false, .bool false, .int .i64 0, .slice none 0 0]
  have hf0 : Fk (w2.alloc (.cells #[.int .i64 rn, .slice none 0 0, .slice none 0 0, .bool false, .bool false, .int .i64 0, .slice none 0 0] 35)) w.heap.size w2.heap.size ⟨rn, [], [], false, none⟩ :=
    ⟨none, 0, .slice none 0 0, .slice none 0 0, 0, ⟨Inv.new rn hr1 (by omega), hcw, HB2.out.size, Nat.le_refl _, Disk.Is.nil_ _ _, World.ownsRow_nil _ _ _ _, fun k ks e => by cases e⟩⟩
  have hb0 : Below w2.heap.size w2 (w2.alloc (.cells #[.int .i64 rn, .slice none 0 0, .slice none 0 0, .bool false, .bool false, .int .i64 0, .slice none 0 0] 35)) := (Below.refl _ _).alloc (Nat.le_refl _) _
  have HT0 : Hid (Two w (w2.alloc (.cells #[.int .i64 rn, .slice none 0 0, .slice none 0 0, .bool false, .bool false, .int .i64 0, .slice none 0 0] 35)) d w2.heap.size ⟨rn, [], [], false, none⟩) :=
    Lib.hid ⟨HD2.out.below hb0, hf0, (fun k ks e => by cases e), HB2.out.trans (hb0.mono HB2.out.size)⟩
  clear hcw hf0 hb0 HD2 HB2
  go_wp2_with fail
  obtain ⟨d2, hd2⟩ : ∃ d2, d2 = w2.heap.size := ⟨_, rfl⟩
  rw [← hd2] at HT0 ⊢
  clear hd2
  generalize w2.alloc (.cells #[.int .i64 rn, .slice none 0 0, .slice none 0 0, .bool false, .bool false, .int .i64 0, .slice none 0 0] 35) = W0 at *
  have con := begin_seg W0 w.heap.size d ⟨rn, [], [], false, none⟩ f ep HT0.out.dk HT0.out.low.size hf.2
  have HX := Lib.hid (beginS_keeps ⟨rn, [], [], false, none⟩ f HT0.out.ok)
  have hcon2 := fun W h1 h2 => rbegin_seg W w.heap.size d2 ⟨rn, [], [], false, none⟩ f ep h1 h2 (Dk_inv HT0.out.dk) HT0.out.ok
  have HCON2 := Lib.hid hcon2
  clear hcon2
  generalize beginS ⟨rn, [], [], false, none⟩ f = x0 at *
  obtain ⟨e0, ok0, m0⟩ := x0
  refine con.mono ?_
  clear con
  rintro e w3 hbd
  cases ok0
  · obtain ⟨rfl, hd3, hc3⟩ := hbd.2 rfl
    dsimp only at hd3
    have con := HCON2.out w3 (Fk_sob HT0.out.fk (dob_s hc3)) (Nat.le_trans HT0.out.low.size hc3.size)
    have HC3 := Lib.hid hc3
    clear hbd hd3 hc3 HCON2
    dsimp only
    go_wp2_with fail
    refine con.mono ?_
    clear con
    rintro e w4 hbd2
    obtain ⟨rfl, hf4, hc4⟩ := hbd2.2 rfl
    have HL := Lib.hid (HT0.out.low.trans ((HC3.out.below HT0.out.low.size).trans (hc4.below (Nat.le_trans HT0.out.low.size HC3.out.size))))
    clear hbd2 hf4 hc4 HC3 HX
    dsimp only
    go_wp2_with fail
    go_loop [14, 16] (fun v i => v = .pointer none ∧ i = .int .i64 0) (fun _ _ => 0)
    case atStart => exact ⟨rfl, rfl⟩
    case round =>
      obtain ⟨rfl, rfl⟩ := hrel
      by_cases hlt : 0 < l
      · go_wp2_with fail
        refine (knows _).mono ?_
        rintro e w9 ⟨rfl, hb9⟩
        go_wp2_with fail
        go_ret
        exact ⟨rfl, HL.out.trans (hb9.mono HL.out.size)⟩
      · obtain rfl : l = 0 := by omega
        go_wp2_with fail
        refine (knows _).mono ?_
        rintro e w9 ⟨rfl, hb9⟩
        go_wp2_with fail
        go_ret
        exact ⟨rfl, HL.out.trans (hb9.mono HL.out.size)⟩
  · obtain ⟨s0, hs0, rfl, hd3, hg3, hc3⟩ := hbd.1 rfl
    dsimp only at hd3
    have con := HCON2.out w3 (Fk_sob HT0.out.fk (dob_s hc3)) (Nat.le_trans HT0.out.low.size hc3.size)
    have HD3 := Lib.hid hd3
    have HG3 := Lib.hid hg3
    have HC3 := Lib.hid hc3
    have hs0w : w.heap.size ≤ s0 := Nat.le_trans HT0.out.low.size hs0
    clear hbd hd3 hg3 hc3 HCON2 hs0
    go_wp2_with fail
    refine con.mono ?_
    clear con
    rintro e w4 hbd2
    obtain ⟨t0, ht0, rfl, hf4, hg4, hc4⟩ := hbd2.1 rfl
    dsimp only at hf4
    have ht0w : w.heap.size ≤ t0 := Nat.le_trans HT0.out.low.size (Nat.le_trans HC3.out.size ht0)
    have HI : Hid (Both w w4 d d2 s0 t0 f 0 m0 ⟨f, ep, 0, false⟩) := Lib.hid ⟨Dk_qob HD3.out (rob_q hc4), hf4, Sg_qob HG3.out (rob_q hc4), hg4, ⟨hs0w, ht0w⟩, rfl, Nat.zero_le _, HX.out, HT0.out.low.trans ((HC3.out.below HT0.out.low.size).trans (hc4.below (Nat.le_trans HT0.out.low.size HC3.out.size)))⟩
    clear hbd2 hf4 hg4 hc4 HD3 HG3 HC3 HX HT0 hs0w ht0w ht0
    go_wp2_with fail
    go_loopw [12, 14, 16] (fun v12 v14 i wr => ∃ (k : Nat) (m : M), k ≤ l ∧ i = .int .i64 k ∧ ((v12 = .pointer none ∧ v14 = .pointer none ∧ Two w wr d d2 m) ∨ ∃ s t g, v12 = .pointer (some ⟨s, 0, none⟩) ∧ v14 = .pointer (some ⟨t, 0, none⟩) ∧ Both w wr d d2 s t f k m g)) (fun _ _ i _ => l - (Go.RowKit.intOf i).toNat)
    case atStart => exact ⟨0, m0, Nat.zero_le _, rfl, .inr ⟨s0, t0, ⟨f, ep, 0, false⟩, rfl, rfl, HI.out⟩⟩
    case round =>
      clear HI
      obtain ⟨k, m, hk, rfl, hcase⟩ := hrel
      rcases hcase with ⟨rfl, rfl, hN⟩ | ⟨s, t, g, rfl, rfl, hB⟩
      · have HN := Lib.hid hN
        clear hN
        by_cases hlt : k < l
        · go_wp2_with fail
          refine (knows _).mono ?_
          rintro e w9 ⟨rfl, hb9⟩
          go_wp2_with fail
          go_ret
          exact ⟨rfl, HN.out.low.trans (hb9.mono HN.out.low.size)⟩
        · obtain rfl : k = l := by omega
          go_wp2_with fail
          refine (knows _).mono ?_
          rintro e w9 ⟨rfl, hb9⟩
          go_wp2_with fail
          go_ret
          exact ⟨rfl, HN.out.low.trans (hb9.mono HN.out.low.size)⟩
      · have HB := Lib.hid hB
        clear hB
        by_cases hlt : k < l
        · skip
          obtain ⟨x, hA, hDD⟩ := HDS.out (by omega)
          subst hA
          obtain ⟨D, hD⟩ := hDD k hlt
          obtain ⟨c0, c1, c2, c3⟩ := hD.at_ HB.out.low
          obtain ⟨what, n, bb, kA, kc, ks⟩ := D
          have HKP := Lib.hid (fun (V : World) (hV : Below w.heap.size w V) => hD.keepAt hV)
          have HKL := Lib.hid hD.len
          have hn := hD.fits.2
          dsimp only at c0 c1 c2 c3 hn HKP HKL
          unfold fit64 at hn
          have hW1b : Below wr.heap.size wr (wr.alloc (.cells #[.int .i64 what, .int .i64 n, .int .u8 (bb.toNat : Int), .slice kA ks.length kc] 43)) := (Below.refl _ _).alloc (Nat.le_refl _) _
          have HV1 : Hid (Cel (wr.alloc (.cells #[.int .i64 what, .int .i64 n, .int .u8 (bb.toNat : Int), .slice kA ks.length kc] 43)) wr.heap.size 43 [.int .i64 what, .int .i64 n, .int .u8 (bb.toNat : Int), .slice kA ks.length kc]) := Lib.hid (Cel.new wr 43 [.int .i64 what, .int .i64 n, .int .u8 (bb.toNat : Int), .slice kA ks.length kc])
          have HB1 := Lib.hid (HB.out.below hW1b)
          clear hW1b hD hDD HB
          by_cases h0 : what = 0
          · subst h0
            go_wp2_with fail
            generalize wr.alloc (.cells #[.int .i64 0, .int .i64 n, .int .u8 (bb.toNat : Int), .slice kA ks.length kc] 43) = W1 at *
            obtain ⟨v0, v1, v2, v3⟩ := cell4 HV1.out
            refine (record_ok W1 n bb).mono ?_
            rintro e W3 ⟨RA, rl, rc, bs, rfl, hby, hrc, hrm, hb⟩
            have HB3 := Lib.hid (HB1.out.below hb)
            have HBY := Lib.hid hby
            have HRM := Lib.hid hrm
            clear hb hby v0 v1 v2 v3 hrm
            have con := append_seg W3 w.heap.size s d m g RA rl rc bs HB3.out.dk HB3.out.sg HB3.out.low.size HB3.out.own.1 (by rw [HB3.out.file]; exact hf.2) (by have := HB3.out.size; omega) HBY.out.rd hrc HRM.out
            have CON2 := Lib.hid (fun W4 h1 h2 h3 h4 => rappend_seg W4 w.heap.size t d2 m g RA rl rc bs h1 h2 h3 HB3.out.own.2 (by rw [HB3.out.file]; exact hf.2) (by have := HB3.out.size; omega) h4 hrc HRM.out HB3.out.ok)
            have HX := Lib.hid (appendS_keeps m g bs HB3.out.ok)
            generalize appendS m g bs = x at *
            obtain ⟨ex, mx, gx⟩ := x
            replace con : Calls Tryz.prog 10 #[.pointer (some ⟨s, 0, none⟩), .slice RA rl rc] W3 fun r w' => r = .returned (.int .i64 ex) ∧ Dk w' w.heap.size d mx ∧ Sg w' s d gx ∧ Chg w.heap.size Sob W3 w' := con
            have HCON := Lib.hid con
            clear con
            go_wp2_with fail
            refine HCON.out.mono ?_
            clear HCON
            rintro e W4 ⟨rfl, hd, hg, hc⟩
            have HD4 := Lib.hid hd
            have HG4 := Lib.hid hg
            have HC4 := Lib.hid hc
            have con := CON2.out W4 (Fk_sob HB3.out.fk hc) (Rg_sob HB3.out.rg hc) (Nat.le_trans HB3.out.low.size hc.size) (By_sob HBY.out hc)
            replace con : Calls Tryz.prog 11 #[.pointer (some ⟨t, 0, none⟩), .slice RA rl rc] W4 fun r w' => r = .returned (.int .i64 ex) ∧ Fk w' w.heap.size d2 mx ∧ Rg w' t d2 gx ∧ Chg w.heap.size Qob W4 w' := con
            clear hd hg hc CON2
            go_wp2_with fail
            refine con.mono ?_
            clear con
            rintro e W5 ⟨rfl, hf5, hg5, hc5⟩
            have hB9 : Both w W5 d d2 s t f (k + 1) mx gx := ⟨Dk_qob HD4.out hc5, hf5, Sg_qob HG4.out hc5, hg5, HB3.out.own, HX.out.2.1.trans HB3.out.file, (by have h1 := HX.out.2.2; have h2 := HB3.out.size; omega), HX.out.1,
              HB3.out.low.trans ((HC4.out.below HB3.out.low.size).trans (hc5.below (Nat.le_trans HB3.out.low.size HC4.out.size)))⟩
            clear hf5 hg5 hc5 HD4 HG4 HC4 HB3 HBY HRM HX
            have HB9 := Lib.hid hB9
            clear hB9
            have HK3 := Lib.hid (fun (V : World) (hV : From (W5) V) => (show V.cell? ⟨t, 3, none⟩ = some (.int .i64 ((gx).size : Int)) from (HB9.out.rg.below hV).cell 3))
            go_wp2_with fail
            refine wp_region_N [] (From (W5)) (by kernel_rfl) ?_
            have hH : From (W5) (W5).drew := (From.self _).drew
            refine wpAnyN_take (i := 0) (v := .pointer (some ⟨s, 0, none⟩)) [] (by kernel_rfl) rfl (by kernel_rfl) (by kernel_rfl) (by kernel_rfl) (fun _ _ _ h => h) (Or.inl ⟨by rfl, ?_⟩) hH ?_
            · intro V hV; go_simp
            try simp only [Act.put, List.setIfInBounds_toArray, List.set_cons_zero, List.set_cons_succ, List.getElem_toArray, List.getElem_cons_succ, List.getElem_cons_zero]
            refine wpAnyN_take (i := 2) (v := .pointer (some ⟨t, 0, none⟩)) [] (by kernel_rfl) rfl (by kernel_rfl) (by kernel_rfl) (by kernel_rfl) (fun _ _ _ h => h) (Or.inl ⟨by rfl, ?_⟩) hH ?_
            · intro V hV; go_simp
            try simp only [Act.put, List.setIfInBounds_toArray, List.set_cons_zero, List.set_cons_succ, List.getElem_toArray, List.getElem_cons_succ, List.getElem_cons_zero]
            refine wpAnyN_take (i := 3) (v := .pointer (some ⟨t, 0, none⟩)) [] (by kernel_rfl) rfl (by kernel_rfl) (by kernel_rfl) (by kernel_rfl) (fun _ _ _ h => h) (Or.inl ⟨by rfl, ?_⟩) hH ?_
            · intro V hV; go_simp
            try simp only [Act.put, List.setIfInBounds_toArray, List.set_cons_zero, List.set_cons_succ, List.getElem_toArray, List.getElem_cons_succ, List.getElem_cons_zero]
            refine wpAnyN_take (i := 4) (v := .pointer (some ⟨t, 3, none⟩)) [] (by kernel_rfl) rfl (by kernel_rfl) (by kernel_rfl) (by kernel_rfl) (fun _ _ _ h => h) (Or.inl ⟨by rfl, ?_⟩) hH ?_
            · intro V hV; go_simp
            try simp only [Act.put, List.setIfInBounds_toArray, List.set_cons_zero, List.set_cons_succ, List.getElem_toArray, List.getElem_cons_succ, List.getElem_cons_zero]
            refine wpAnyN_take (i := 5) (v := .int .i64 ((gx).size : Int)) [] (by kernel_rfl) rfl (by kernel_rfl) (by kernel_rfl) (by kernel_rfl) (fun _ _ _ h => h) (Or.inl ⟨by rfl, ?_⟩) hH ?_
            · intro V hV; have kz := HK3.out V hV; go_simp
            try simp only [Act.put, List.setIfInBounds_toArray, List.set_cons_zero, List.set_cons_succ, List.getElem_toArray, List.getElem_cons_succ, List.getElem_cons_zero]
            refine wpAnyN_one (i := 1) (by kernel_rfl) rfl (fun K hK => ?_)
            go_simp
            refine (size_call (W5).drew s d (gx) (HB9.out.sg.below (Below.refl _ _).drew)).mono ?_
            rintro e W10 ⟨rfl, rfl⟩
            go_wp2_with fail
            refine hK.out _ _ (.inr hH) ?_
            clear hK K
            try simp only [Act.put, List.setIfInBounds_toArray, List.set_cons_zero, List.set_cons_succ, List.getElem_toArray, List.getElem_cons_succ, List.getElem_cons_zero]
            refine wpAnyN_take (i := 6) (v := .bool false) [] (by kernel_rfl) rfl (by kernel_rfl) (by kernel_rfl) (by kernel_rfl) (fun _ _ _ h => h) (Or.inl ⟨by rfl, ?_⟩) hH ?_
            · intro V hV; go_simp
            try simp only [Act.put, List.setIfInBounds_toArray, List.set_cons_zero, List.set_cons_succ, List.getElem_toArray, List.getElem_cons_succ, List.getElem_cons_zero]
            refine wpAnyN_done (by kernel_rfl) ?_ _
            clear HK3 hH
            simp only [Exit.then]
            have HB10 := Lib.hid (HB9.out.below (Below.refl _ (W5)).drew)
            clear HB9
            go_wp2_with fail
            refine (same_ok (W5).drew w.heap.size d d2 (mx) f hf HB10.out.dk HB10.out.fk).mono ?_
            rintro e W11 ⟨rfl, hb11⟩
            have HB11 := Lib.hid (HB10.out.below hb11)
            clear hb11
            go_wp2_with fail
            go_roundw
            case rel => exact ⟨k + 1, (mx), by omega, by go_num, .inr ⟨s, t, (gx), rfl, rfl, HB11.out⟩⟩
            case measure => simp [Go.RowKit.intOf]; omega
          · have t0 : (what == 0) = false := by simpa using h0
            clear h0
            by_cases h1 : what = 1
            · subst h1
              go_wp2_with fail
              generalize wr.alloc (.cells #[.int .i64 1, .int .i64 n, .int .u8 (bb.toNat : Int), .slice kA ks.length kc] 43) = W1 at *
              obtain ⟨v0, v1, v2, v3⟩ := cell4 HV1.out
              have con := sync_seg W1 w.heap.size s d m g HB1.out.dk HB1.out.sg HB1.out.low.size HB1.out.own.1 (by rw [HB1.out.file]; exact hf)
              have CON2 := Lib.hid (fun W4 h1 h2 h3 => rsync_seg W4 w.heap.size t d2 m g h1 h2 h3 HB1.out.own.2 (by rw [HB1.out.file]; exact hf) HB1.out.ok (Dk_inv HB1.out.dk))
              have HX := Lib.hid (syncS_keeps m g HB1.out.ok)
              generalize syncS m g = x at *
              obtain ⟨ex, mx, gx⟩ := x
              replace con : Calls Tryz.prog 12 #[.pointer (some ⟨s, 0, none⟩)] W1 fun r w' => r = .returned (.int .i64 ex) ∧ Dk w' w.heap.size d mx ∧ Sg w' s d gx ∧ Chg w.heap.size Sob W1 w' := con
              clear v0 v1 v2 v3
              refine con.mono ?_
              clear con
              rintro e W4 ⟨rfl, hd, hg, hc⟩
              have HD4 := Lib.hid hd
              have HG4 := Lib.hid hg
              have HC4 := Lib.hid hc
              have con := CON2.out W4 (Fk_sob HB1.out.fk hc) (Rg_sob HB1.out.rg hc) (Nat.le_trans HB1.out.low.size hc.size)
              replace con : Calls Tryz.prog 13 #[.pointer (some ⟨t, 0, none⟩)] W4 fun r w' => r = .returned (.int .i64 ex) ∧ Fk w' w.heap.size d2 mx ∧ Rg w' t d2 gx ∧ Chg w.heap.size Qob W4 w' := con
              clear hd hg hc CON2
              go_wp2_with fail
              refine con.mono ?_
              clear con
              rintro e W5 ⟨rfl, hf5, hg5, hc5⟩
              have hB9 : Both w W5 d d2 s t f (k + 1) mx gx := ⟨Dk_qob HD4.out hc5, hf5, Sg_qob HG4.out hc5, hg5, HB1.out.own, HX.out.2.1.trans HB1.out.file, (by have h1 := HX.out.2.2; have h2 := HB1.out.size; omega), HX.out.1,
                HB1.out.low.trans ((HC4.out.below HB1.out.low.size).trans (hc5.below (Nat.le_trans HB1.out.low.size HC4.out.size)))⟩
              clear hf5 hg5 hc5 HD4 HG4 HC4 HX
              have HB9 := Lib.hid hB9
              clear hB9
              have HK3 := Lib.hid (fun (V : World) (hV : From (W5) V) => (show V.cell? ⟨t, 3, none⟩ = some (.int .i64 ((gx).size : Int)) from (HB9.out.rg.below hV).cell 3))
              go_wp2_with fail
              refine wp_region_N [] (From (W5)) (by kernel_rfl) ?_
              have hH : From (W5) (W5).drew := (From.self _).drew
              refine wpAnyN_take (i := 0) (v := .pointer (some ⟨s, 0, none⟩)) [] (by kernel_rfl) rfl (by kernel_rfl) (by kernel_rfl) (by kernel_rfl) (fun _ _ _ h => h) (Or.inl ⟨by rfl, ?_⟩) hH ?_
              · intro V hV; go_simp
              try simp only [Act.put, List.setIfInBounds_toArray, List.set_cons_zero, List.set_cons_succ, List.getElem_toArray, List.getElem_cons_succ, List.getElem_cons_zero]
              refine wpAnyN_take (i := 2) (v := .pointer (some ⟨t, 0, none⟩)) [] (by kernel_rfl) rfl (by kernel_rfl) (by kernel_rfl) (by kernel_rfl) (fun _ _ _ h => h) (Or.inl ⟨by rfl, ?_⟩) hH ?_
              · intro V hV; go_simp
              try simp only [Act.put, List.setIfInBounds_toArray, List.set_cons_zero, List.set_cons_succ, List.getElem_toArray, List.getElem_cons_succ, List.getElem_cons_zero]
              refine wpAnyN_take (i := 3) (v := .pointer (some ⟨t, 0, none⟩)) [] (by kernel_rfl) rfl (by kernel_rfl) (by kernel_rfl) (by kernel_rfl) (fun _ _ _ h => h) (Or.inl ⟨by rfl, ?_⟩) hH ?_
              · intro V hV; go_simp
              try simp only [Act.put, List.setIfInBounds_toArray, List.set_cons_zero, List.set_cons_succ, List.getElem_toArray, List.getElem_cons_succ, List.getElem_cons_zero]
              refine wpAnyN_take (i := 4) (v := .pointer (some ⟨t, 3, none⟩)) [] (by kernel_rfl) rfl (by kernel_rfl) (by kernel_rfl) (by kernel_rfl) (fun _ _ _ h => h) (Or.inl ⟨by rfl, ?_⟩) hH ?_
              · intro V hV; go_simp
              try simp only [Act.put, List.setIfInBounds_toArray, List.set_cons_zero, List.set_cons_succ, List.getElem_toArray, List.getElem_cons_succ, List.getElem_cons_zero]
              refine wpAnyN_take (i := 5) (v := .int .i64 ((gx).size : Int)) [] (by kernel_rfl) rfl (by kernel_rfl) (by kernel_rfl) (by kernel_rfl) (fun _ _ _ h => h) (Or.inl ⟨by rfl, ?_⟩) hH ?_
              · intro V hV; have kz := HK3.out V hV; go_simp
              try simp only [Act.put, List.setIfInBounds_toArray, List.set_cons_zero, List.set_cons_succ, List.getElem_toArray, List.getElem_cons_succ, List.getElem_cons_zero]
              refine wpAnyN_one (i := 1) (by kernel_rfl) rfl (fun K hK => ?_)
              go_simp
              refine (size_call (W5).drew s d (gx) (HB9.out.sg.below (Below.refl _ _).drew)).mono ?_
              rintro e W10 ⟨rfl, rfl⟩
              go_wp2_with fail
              refine hK.out _ _ (.inr hH) ?_
              clear hK K
              try simp only [Act.put, List.setIfInBounds_toArray, List.set_cons_zero, List.set_cons_succ, List.getElem_toArray, List.getElem_cons_succ, List.getElem_cons_zero]
              refine wpAnyN_take (i := 6) (v := .bool false) [] (by kernel_rfl) rfl (by kernel_rfl) (by kernel_rfl) (by kernel_rfl) (fun _ _ _ h => h) (Or.inl ⟨by rfl, ?_⟩) hH ?_
              · intro V hV; go_simp
              try simp only [Act.put, List.setIfInBounds_toArray, List.set_cons_zero, List.set_cons_succ, List.getElem_toArray, List.getElem_cons_succ, List.getElem_cons_zero]
              refine wpAnyN_done (by kernel_rfl) ?_ _
              clear HK3 hH
              simp only [Exit.then]
              have HB10 := Lib.hid (HB9.out.below (Below.refl _ (W5)).drew)
              clear HB9
              go_wp2_with fail
              refine (same_ok (W5).drew w.heap.size d d2 (mx) f hf HB10.out.dk HB10.out.fk).mono ?_
              rintro e W11 ⟨rfl, hb11⟩
              have HB11 := Lib.hid (HB10.out.below hb11)
              clear hb11
              go_wp2_with fail
              go_roundw
              case rel => exact ⟨k + 1, (mx), by omega, by go_num, .inr ⟨s, t, (gx), rfl, rfl, HB11.out⟩⟩
              case measure => simp [Go.RowKit.intOf]; omega
            · have t1 : (what == 1) = false := by simpa using h1
              clear h1
              by_cases h2 : what = 2
              · subst h2
                go_wp2_with fail
                generalize wr.alloc (.cells #[.int .i64 2, .int .i64 n, .int .u8 (bb.toNat : Int), .slice kA ks.length kc] 43) = W1 at *
                obtain ⟨v0, v1, v2, v3⟩ := cell4 HV1.out
                refine (Disk.fail_call W1 w.heap.size d m n hn.2 (.slice kA ks.length kc) ks HB1.out.dk (HKP.out W1 HB1.out.low) HB1.out.low.size HKL.out).mono ?_
                rintro e W4 ⟨rfl, hd, hc⟩
                have HD4 := Lib.hid hd
                have HC4 := Lib.hid (dob_s hc)
                have HV4 := Lib.hid (deed_sob HV1.out (dob_s hc))
                have HL4 := Lib.hid (HB1.out.low.trans (hc.below HB1.out.low.size))
                have HG4 := Lib.hid (HB1.out.sg.dob hc)
                clear hd hc v0 v1 v2 v3
                obtain ⟨v0, v1, v2, v3⟩ := cell4 HV4.out
                go_wp2_with fail
                refine (Disk.rfail_ok W4 w.heap.size d2 m n hn.2 (.slice kA ks.length kc) ks (Fk_sob HB1.out.fk HC4.out) (HKP.out W4 HL4.out)).mono ?_
                rintro e W5 ⟨rfl, hf5, hc5⟩
                have hB9 : Both w W5 d d2 s t f (k + 1) (fail m n ks) g := ⟨Dk_qob HD4.out (rob_q hc5), hf5, Sg_qob HG4.out (rob_q hc5), (Rg_sob HB1.out.rg HC4.out).rob hc5, HB1.out.own, HB1.out.file, (by have h2 := HB1.out.size; omega), Disk.ok_fail HB1.out.ok n HKL.out,
                  HL4.out.trans (hc5.below HL4.out.size)⟩
                clear hf5 hc5 HD4 HC4 HV4 HL4 HG4 v0 v1 v2 v3
                have HB9 := Lib.hid hB9
                clear hB9
                have HK3 := Lib.hid (fun (V : World) (hV : From (W5) V) => (show V.cell? ⟨t, 3, none⟩ = some (.int .i64 ((g).size : Int)) from (HB9.out.rg.below hV).cell 3))
                go_wp2_with fail
                refine wp_region_N [] (From (W5)) (by kernel_rfl) ?_
                have hH : From (W5) (W5).drew := (From.self _).drew
                refine wpAnyN_take (i := 0) (v := .pointer (some ⟨s, 0, none⟩)) [] (by kernel_rfl) rfl (by kernel_rfl) (by kernel_rfl) (by kernel_rfl) (fun _ _ _ h => h) (Or.inl ⟨by rfl, ?_⟩) hH ?_
                · intro V hV; go_simp
                try simp only [Act.put, List.setIfInBounds_toArray, List.set_cons_zero, List.set_cons_succ, List.getElem_toArray, List.getElem_cons_succ, List.getElem_cons_zero]
                refine wpAnyN_take (i := 2) (v := .pointer (some ⟨t, 0, none⟩)) [] (by kernel_rfl) rfl (by kernel_rfl) (by kernel_rfl) (by kernel_rfl) (fun _ _ _ h => h) (Or.inl ⟨by rfl, ?_⟩) hH ?_
                · intro V hV; go_simp
                try simp only [Act.put, List.setIfInBounds_toArray, List.set_cons_zero, List.set_cons_succ, List.getElem_toArray, List.getElem_cons_succ, List.getElem_cons_zero]
                refine wpAnyN_take (i := 3) (v := .pointer (some ⟨t, 0, none⟩)) [] (by kernel_rfl) rfl (by kernel_rfl) (by kernel_rfl) (by kernel_rfl) (fun _ _ _ h => h) (Or.inl ⟨by rfl, ?_⟩) hH ?_
                · intro V hV; go_simp
                try simp only [Act.put, List.setIfInBounds_toArray, List.set_cons_zero, List.set_cons_succ, List.getElem_toArray, List.getElem_cons_succ, List.getElem_cons_zero]
                refine wpAnyN_take (i := 4) (v := .pointer (some ⟨t, 3, none⟩)) [] (by kernel_rfl) rfl (by kernel_rfl) (by kernel_rfl) (by kernel_rfl) (fun _ _ _ h => h) (Or.inl ⟨by rfl, ?_⟩) hH ?_
                · intro V hV; go_simp
                try simp only [Act.put, List.setIfInBounds_toArray, List.set_cons_zero, List.set_cons_succ, List.getElem_toArray, List.getElem_cons_succ, List.getElem_cons_zero]
                refine wpAnyN_take (i := 5) (v := .int .i64 ((g).size : Int)) [] (by kernel_rfl) rfl (by kernel_rfl) (by kernel_rfl) (by kernel_rfl) (fun _ _ _ h => h) (Or.inl ⟨by rfl, ?_⟩) hH ?_
                · intro V hV; have kz := HK3.out V hV; go_simp
                try simp only [Act.put, List.setIfInBounds_toArray, List.set_cons_zero, List.set_cons_succ, List.getElem_toArray, List.getElem_cons_succ, List.getElem_cons_zero]
                refine wpAnyN_one (i := 1) (by kernel_rfl) rfl (fun K hK => ?_)
                go_simp
                refine (size_call (W5).drew s d (g) (HB9.out.sg.below (Below.refl _ _).drew)).mono ?_
                rintro e W10 ⟨rfl, rfl⟩
                go_wp2_with fail
                refine hK.out _ _ (.inr hH) ?_
                clear hK K
                try simp only [Act.put, List.setIfInBounds_toArray, List.set_cons_zero, List.set_cons_succ, List.getElem_toArray, List.getElem_cons_succ, List.getElem_cons_zero]
                refine wpAnyN_take (i := 6) (v := .bool false) [] (by kernel_rfl) rfl (by kernel_rfl) (by kernel_rfl) (by kernel_rfl) (fun _ _ _ h => h) (Or.inl ⟨by rfl, ?_⟩) hH ?_
                · intro V hV; go_simp
                try simp only [Act.put, List.setIfInBounds_toArray, List.set_cons_zero, List.set_cons_succ, List.getElem_toArray, List.getElem_cons_succ, List.getElem_cons_zero]
                refine wpAnyN_done (by kernel_rfl) ?_ _
                clear HK3 hH
                simp only [Exit.then]
                have HB10 := Lib.hid (HB9.out.below (Below.refl _ (W5)).drew)
                clear HB9
                go_wp2_with fail
                refine (same_ok (W5).drew w.heap.size d d2 ((fail m n ks)) f hf HB10.out.dk HB10.out.fk).mono ?_
                rintro e W11 ⟨rfl, hb11⟩
                have HB11 := Lib.hid (HB10.out.below hb11)
                clear hb11
                go_wp2_with fail
                go_roundw
                case rel => exact ⟨k + 1, ((fail m n ks)), by omega, by go_num, .inr ⟨s, t, (g), rfl, rfl, HB11.out⟩⟩
                case measure => simp [Go.RowKit.intOf]; omega
              · have t2 : (what == 2) = false := by simpa using h2
                clear h2
                by_cases h3 : what = 3
                · subst h3
                  go_wp2_with fail
                  generalize wr.alloc (.cells #[.int .i64 3, .int .i64 n, .int .u8 (bb.toNat : Int), .slice kA ks.length kc] 43) = W1 at *
                  obtain ⟨v0, v1, v2, v3⟩ := cell4 HV1.out
                  refine (Disk.crash_call W1 w.heap.size d m (.slice kA ks.length kc) ks HB1.out.dk (HKP.out W1 HB1.out.low) HB1.out.low.size HKL.out).mono ?_
                  rintro e W4 ⟨rfl, hd, hc⟩
                  have HD4 := Lib.hid hd
                  have HF4 := Lib.hid (Fk_sob HB1.out.fk (dob_s hc))
                  have HV4 := Lib.hid (deed_sob HV1.out (dob_s hc))
                  have HL4 := Lib.hid (HB1.out.low.trans (hc.below HB1.out.low.size))
                  clear hd hc v0 v1 v2 v3
                  obtain ⟨v0, v1, v2, v3⟩ := cell4 HV4.out
                  go_wp2_with fail
                  refine (Disk.rcrash_ok W4 w.heap.size d2 m (.slice kA ks.length kc) ks HF4.out HL4.out.size (HKP.out W4 HL4.out) HKL.out).mono ?_
                  rintro e W5 ⟨rfl, hf5, hc5⟩
                  have HF5 := Lib.hid hf5
                  have HD5 := Lib.hid (Dk_qob HD4.out (rob_q hc5))
                  have HL5 := Lib.hid (HL4.out.trans (hc5.below HL4.out.size))
                  clear hf5 hc5 v0 v1 v2 v3 HD4 HF4 HV4 HL4
                  go_wp2_with fail
                  refine (Disk.up_call W5 w.heap.size d (crash m ks) HD5.out).mono ?_
                  rintro e W6 ⟨rfl, hd6, hc6⟩
                  have HD6 := Lib.hid hd6
                  have HF6 := Lib.hid (Fk_sob HF5.out (dob_s hc6))
                  have HL6 := Lib.hid (HL5.out.trans (hc6.below HL5.out.size))
                  clear hd6 hc6 HD5 HF5 HL5
                  go_wp2_with fail
                  refine (Disk.rup_ok W6 w.heap.size d2 (crash m ks) HF6.out).mono ?_
                  rintro e W7 ⟨rfl, hf7, hc7⟩
                  have hT7 : Two w W7 d d2 (up (crash m ks)) := ⟨Dk_qob HD6.out (rob_q hc7), hf7, Disk.ok_up (Disk.ok_crash HB1.out.ok ks), HL6.out.trans (hc7.below HL6.out.size)⟩
                  have HT7 := Lib.hid hT7
                  clear hf7 hc7 HD6 HF6 HL6 hT7
                  generalize up (crash m ks) = m3 at *
                  have con := begin_seg W7 w.heap.size d m3 f ep HT7.out.dk HT7.out.low.size hf.2
                  have CON2 := Lib.hid (fun W h1 h2 => rbegin_seg W w.heap.size d2 m3 f ep h1 h2 (Dk_inv HT7.out.dk) HT7.out.ok)
                  have HX := Lib.hid (beginS_keeps m3 f HT7.out.ok)
                  generalize beginS m3 f = x at *
                  obtain ⟨ex, okx, mx⟩ := x
                  have HCON := Lib.hid con
                  clear con
                  go_wp2_with fail
                  refine HCON.out.mono ?_
                  clear HCON
                  rintro e W8 hbd
                  cases okx
                  · obtain ⟨rfl, hd8, hc8⟩ := hbd.2 rfl
                    dsimp only at hd8
                    have con := CON2.out W8 (Fk_sob HT7.out.fk (dob_s hc8)) (Nat.le_trans HT7.out.low.size hc8.size)
                    have HD8 := Lib.hid hd8
                    have HC8 := Lib.hid hc8
                    clear hbd hd8 hc8 CON2
                    dsimp only
                    go_wp2_with fail
                    refine con.mono ?_
                    clear con
                    rintro e W9 hbd2
                    obtain ⟨rfl, hf9, hc9⟩ := hbd2.2 rfl
                    dsimp only at hf9
                    have hT9 : Two w W9 d d2 mx := ⟨Dk_qob HD8.out (rob_q hc9), hf9, HX.out, HT7.out.low.trans ((HC8.out.below HT7.out.low.size).trans (hc9.below (Nat.le_trans HT7.out.low.size HC8.out.size)))⟩
                    have HT9 := Lib.hid hT9
                    clear hbd2 hf9 hc9 hT9 HD8 HC8 HX HT7
                    dsimp only
                    go_wp2_with fail
                    refine (same_ok W9 w.heap.size d d2 mx f hf HT9.out.dk HT9.out.fk).mono ?_
                    rintro e W11 ⟨rfl, hb11⟩
                    have HT11 := Lib.hid (HT9.out.below hb11)
                    clear hb11
                    go_wp2_with fail
                    go_roundw
                    case rel => exact ⟨k + 1, mx, by omega, by go_num, .inl ⟨rfl, rfl, HT11.out⟩⟩
                    case measure => simp [Go.RowKit.intOf]; omega
                  · obtain ⟨s1, hs1, rfl, hd8, hg8, hc8⟩ := hbd.1 rfl
                    dsimp only at hd8
                    have con := CON2.out W8 (Fk_sob HT7.out.fk (dob_s hc8)) (Nat.le_trans HT7.out.low.size hc8.size)
                    have HD8 := Lib.hid hd8
                    have HG8 := Lib.hid hg8
                    have HC8 := Lib.hid hc8
                    have hs1w : w.heap.size ≤ s1 := Nat.le_trans HT7.out.low.size hs1
                    clear hbd hd8 hg8 hc8 CON2 hs1
                    go_wp2_with fail
                    refine con.mono ?_
                    clear con
                    rintro e W9 hbd2
                    obtain ⟨t1, ht1, rfl, hf9, hg9, hc9⟩ := hbd2.1 rfl
                    dsimp only at hf9
                    have ht1w : w.heap.size ≤ t1 := Nat.le_trans HT7.out.low.size (Nat.le_trans HC8.out.size ht1)
                    have hB9 : Both w W9 d d2 s1 t1 f (k + 1) mx ⟨f, ep, 0, false⟩ := ⟨Dk_qob HD8.out (rob_q hc9), hf9, Sg_qob HG8.out (rob_q hc9), hg9, ⟨hs1w, ht1w⟩, rfl, Nat.zero_le _, HX.out, HT7.out.low.trans ((HC8.out.below HT7.out.low.size).trans (hc9.below (Nat.le_trans HT7.out.low.size HC8.out.size)))⟩
                    clear hbd2 hf9 hg9 hc9 HD8 HG8 HC8 HX HT7 hs1w ht1w ht1
                    have HB9 := Lib.hid hB9
                    clear hB9
                    have HK3 := Lib.hid (fun (V : World) (hV : From (W9) V) => (show V.cell? ⟨t1, 3, none⟩ = some (.int .i64 (((⟨f, ep, 0, false⟩ : Gm)).size : Int)) from (HB9.out.rg.below hV).cell 3))
                    go_wp2_with fail
                    refine wp_region_N [] (From (W9)) (by kernel_rfl) ?_
                    have hH : From (W9) (W9).drew := (From.self _).drew
                    refine wpAnyN_take (i := 0) (v := .pointer (some ⟨s1, 0, none⟩)) [] (by kernel_rfl) rfl (by kernel_rfl) (by kernel_rfl) (by kernel_rfl) (fun _ _ _ h => h) (Or.inl ⟨by rfl, ?_⟩) hH ?_
                    · intro V hV; go_simp
                    try simp only [Act.put, List.setIfInBounds_toArray, List.set_cons_zero, List.set_cons_succ, List.getElem_toArray, List.getElem_cons_succ, List.getElem_cons_zero]
                    refine wpAnyN_take (i := 2) (v := .pointer (some ⟨t1, 0, none⟩)) [] (by kernel_rfl) rfl (by kernel_rfl) (by kernel_rfl) (by kernel_rfl) (fun _ _ _ h => h) (Or.inl ⟨by rfl, ?_⟩) hH ?_
                    · intro V hV; go_simp
                    try simp only [Act.put, List.setIfInBounds_toArray, List.set_cons_zero, List.set_cons_succ, List.getElem_toArray, List.getElem_cons_succ, List.getElem_cons_zero]
                    refine wpAnyN_take (i := 3) (v := .pointer (some ⟨t1, 0, none⟩)) [] (by kernel_rfl) rfl (by kernel_rfl) (by kernel_rfl) (by kernel_rfl) (fun _ _ _ h => h) (Or.inl ⟨by rfl, ?_⟩) hH ?_
                    · intro V hV; go_simp
                    try simp only [Act.put, List.setIfInBounds_toArray, List.set_cons_zero, List.set_cons_succ, List.getElem_toArray, List.getElem_cons_succ, List.getElem_cons_zero]
                    refine wpAnyN_take (i := 4) (v := .pointer (some ⟨t1, 3, none⟩)) [] (by kernel_rfl) rfl (by kernel_rfl) (by kernel_rfl) (by kernel_rfl) (fun _ _ _ h => h) (Or.inl ⟨by rfl, ?_⟩) hH ?_
                    · intro V hV; go_simp
                    try simp only [Act.put, List.setIfInBounds_toArray, List.set_cons_zero, List.set_cons_succ, List.getElem_toArray, List.getElem_cons_succ, List.getElem_cons_zero]
                    refine wpAnyN_take (i := 5) (v := .int .i64 (((⟨f, ep, 0, false⟩ : Gm)).size : Int)) [] (by kernel_rfl) rfl (by kernel_rfl) (by kernel_rfl) (by kernel_rfl) (fun _ _ _ h => h) (Or.inl ⟨by rfl, ?_⟩) hH ?_
                    · intro V hV; have kz := HK3.out V hV; go_simp
                    try simp only [Act.put, List.setIfInBounds_toArray, List.set_cons_zero, List.set_cons_succ, List.getElem_toArray, List.getElem_cons_succ, List.getElem_cons_zero]
                    refine wpAnyN_one (i := 1) (by kernel_rfl) rfl (fun K hK => ?_)
                    go_simp
                    refine (size_call (W9).drew s1 d ((⟨f, ep, 0, false⟩ : Gm)) (HB9.out.sg.below (Below.refl _ _).drew)).mono ?_
                    rintro e W10 ⟨rfl, rfl⟩
                    go_wp2_with fail
                    refine hK.out _ _ (.inr hH) ?_
                    clear hK K
                    try simp only [Act.put, List.setIfInBounds_toArray, List.set_cons_zero, List.set_cons_succ, List.getElem_toArray, List.getElem_cons_succ, List.getElem_cons_zero]
                    refine wpAnyN_take (i := 6) (v := .bool false) [] (by kernel_rfl) rfl (by kernel_rfl) (by kernel_rfl) (by kernel_rfl) (fun _ _ _ h => h) (Or.inl ⟨by rfl, ?_⟩) hH ?_
                    · intro V hV; go_simp
                    try simp only [Act.put, List.setIfInBounds_toArray, List.set_cons_zero, List.set_cons_succ, List.getElem_toArray, List.getElem_cons_succ, List.getElem_cons_zero]
                    refine wpAnyN_done (by kernel_rfl) ?_ _
                    clear HK3 hH
                    simp only [Exit.then]
                    have HB10 := Lib.hid (HB9.out.below (Below.refl _ (W9)).drew)
                    clear HB9
                    go_wp2_with fail
                    refine (same_ok (W9).drew w.heap.size d d2 (mx) f hf HB10.out.dk HB10.out.fk).mono ?_
                    rintro e W11 ⟨rfl, hb11⟩
                    have HB11 := Lib.hid (HB10.out.below hb11)
                    clear hb11
                    go_wp2_with fail
                    go_roundw
                    case rel => exact ⟨k + 1, (mx), by omega, by go_num, .inr ⟨s1, t1, ((⟨f, ep, 0, false⟩ : Gm)), rfl, rfl, HB11.out⟩⟩
                    case measure => simp [Go.RowKit.intOf]; omega
                · have t3 : (what == 3) = false := by simpa using h3
                  clear h3
                  have hB9 : Both w (wr.alloc (.cells #[.int .i64 what, .int .i64 n, .int .u8 (bb.toNat : Int), .slice kA ks.length kc] 43)) d d2 s t f (k + 1) m g := ⟨HB1.out.dk, HB1.out.fk, HB1.out.sg, HB1.out.rg, HB1.out.own, HB1.out.file, (by have h2 := HB1.out.size; omega), HB1.out.ok, HB1.out.low⟩
                  have HB9 := Lib.hid hB9
                  clear hB9
                  have HK3 := Lib.hid (fun (V : World) (hV : From (wr.alloc (.cells #[.int .i64 what, .int .i64 n, .int .u8 (bb.toNat : Int), .slice kA ks.length kc] 43)) V) => (show V.cell? ⟨t, 3, none⟩ = some (.int .i64 ((g).size : Int)) from (HB9.out.rg.below hV).cell 3))
                  go_wp2_with fail
                  refine wp_region_N [] (From (wr.alloc (.cells #[.int .i64 what, .int .i64 n, .int .u8 (bb.toNat : Int), .slice kA ks.length kc] 43))) (by kernel_rfl) ?_
                  have hH : From (wr.alloc (.cells #[.int .i64 what, .int .i64 n, .int .u8 (bb.toNat : Int), .slice kA ks.length kc] 43)) (wr.alloc (.cells #[.int .i64 what, .int .i64 n, .int .u8 (bb.toNat : Int), .slice kA ks.length kc] 43)).drew := (From.self _).drew
                  refine wpAnyN_take (i := 0) (v := .pointer (some ⟨s, 0, none⟩)) [] (by kernel_rfl) rfl (by kernel_rfl) (by kernel_rfl) (by kernel_rfl) (fun _ _ _ h => h) (Or.inl ⟨by rfl, ?_⟩) hH ?_
                  · intro V hV; go_simp
                  try simp only [Act.put, List.setIfInBounds_toArray, List.set_cons_zero, List.set_cons_succ, List.getElem_toArray, List.getElem_cons_succ, List.getElem_cons_zero]
                  refine wpAnyN_take (i := 2) (v := .pointer (some ⟨t, 0, none⟩)) [] (by kernel_rfl) rfl (by kernel_rfl) (by kernel_rfl) (by kernel_rfl) (fun _ _ _ h => h) (Or.inl ⟨by rfl, ?_⟩) hH ?_
                  · intro V hV; go_simp
                  try simp only [Act.put, List.setIfInBounds_toArray, List.set_cons_zero, List.set_cons_succ, List.getElem_toArray, List.getElem_cons_succ, List.getElem_cons_zero]
                  refine wpAnyN_take (i := 3) (v := .pointer (some ⟨t, 0, none⟩)) [] (by kernel_rfl) rfl (by kernel_rfl) (by kernel_rfl) (by kernel_rfl) (fun _ _ _ h => h) (Or.inl ⟨by rfl, ?_⟩) hH ?_
                  · intro V hV; go_simp
                  try simp only [Act.put, List.setIfInBounds_toArray, List.set_cons_zero, List.set_cons_succ, List.getElem_toArray, List.getElem_cons_succ, List.getElem_cons_zero]
                  refine wpAnyN_take (i := 4) (v := .pointer (some ⟨t, 3, none⟩)) [] (by kernel_rfl) rfl (by kernel_rfl) (by kernel_rfl) (by kernel_rfl) (fun _ _ _ h => h) (Or.inl ⟨by rfl, ?_⟩) hH ?_
                  · intro V hV; go_simp
                  try simp only [Act.put, List.setIfInBounds_toArray, List.set_cons_zero, List.set_cons_succ, List.getElem_toArray, List.getElem_cons_succ, List.getElem_cons_zero]
                  refine wpAnyN_take (i := 5) (v := .int .i64 ((g).size : Int)) [] (by kernel_rfl) rfl (by kernel_rfl) (by kernel_rfl) (by kernel_rfl) (fun _ _ _ h => h) (Or.inl ⟨by rfl, ?_⟩) hH ?_
                  · intro V hV; have kz := HK3.out V hV; go_simp
                  try simp only [Act.put, List.setIfInBounds_toArray, List.set_cons_zero, List.set_cons_succ, List.getElem_toArray, List.getElem_cons_succ, List.getElem_cons_zero]
                  refine wpAnyN_one (i := 1) (by kernel_rfl) rfl (fun K hK => ?_)
                  go_simp
                  refine (size_call (wr.alloc (.cells #[.int .i64 what, .int .i64 n, .int .u8 (bb.toNat : Int), .slice kA ks.length kc] 43)).drew s d (g) (HB9.out.sg.below (Below.refl _ _).drew)).mono ?_
                  rintro e W10 ⟨rfl, rfl⟩
                  go_wp2_with fail
                  refine hK.out _ _ (.inr hH) ?_
                  clear hK K
                  try simp only [Act.put, List.setIfInBounds_toArray, List.set_cons_zero, List.set_cons_succ, List.getElem_toArray, List.getElem_cons_succ, List.getElem_cons_zero]
                  refine wpAnyN_take (i := 6) (v := .bool false) [] (by kernel_rfl) rfl (by kernel_rfl) (by kernel_rfl) (by kernel_rfl) (fun _ _ _ h => h) (Or.inl ⟨by rfl, ?_⟩) hH ?_
                  · intro V hV; go_simp
                  try simp only [Act.put, List.setIfInBounds_toArray, List.set_cons_zero, List.set_cons_succ, List.getElem_toArray, List.getElem_cons_succ, List.getElem_cons_zero]
                  refine wpAnyN_done (by kernel_rfl) ?_ _
                  clear HK3 hH
                  simp only [Exit.then]
                  have HB10 := Lib.hid (HB9.out.below (Below.refl _ (wr.alloc (.cells #[.int .i64 what, .int .i64 n, .int .u8 (bb.toNat : Int), .slice kA ks.length kc] 43))).drew)
                  clear HB9
                  go_wp2_with fail
                  refine (same_ok (wr.alloc (.cells #[.int .i64 what, .int .i64 n, .int .u8 (bb.toNat : Int), .slice kA ks.length kc] 43)).drew w.heap.size d d2 (m) f hf HB10.out.dk HB10.out.fk).mono ?_
                  rintro e W11 ⟨rfl, hb11⟩
                  have HB11 := Lib.hid (HB10.out.below hb11)
                  clear hb11
                  go_wp2_with fail
                  go_roundw
                  case rel => exact ⟨k + 1, (m), by omega, by go_num, .inr ⟨s, t, (g), rfl, rfl, HB11.out⟩⟩
                  case measure => simp [Go.RowKit.intOf]; omega
        · obtain rfl : k = l := by omega
          go_wp2_with fail
          refine (knows _).mono ?_
          rintro e w9 ⟨rfl, hb9⟩
          go_wp2_with fail
          go_ret
          exact ⟨rfl, HB.out.low.trans (hb9.mono HB.out.low.size)⟩
end Go.Proofs.YtbomgglmplecpaaGreat.Segm
