/-
  The law StoreKeeps walked.
-/
import Derived.Test.YtdaknfepcbooeaaGreatMDiskFail
import Derived.Test.YtdaknfepcbooeaaGreatMBaseB
import Derived.Test.YtdaknfepcbooeaaGreatMStoD
namespace Go.Proofs.YtdaknfepcbooeaaGreat.Sto
open Go.RowKit
open Go.Proofs.YtdaknfepcbooeaaGreat.Disk (M Sc Dk Rs Bo Chg Dob rows there up crash lost Ok Inv fit64)
open Go.Proofs.YtdaknfepcbooeaaGreat.Segm (Gm Sg Sob secsAll IsDd kept)
open Go.Proofs.YtdaknfepcbooeaaGreat.Frag (Rd Rv)
set_option linter.unusedVariables false
set_option linter.unusedSimpArgs false

theorem bo_stb {B : Nat} {w w' : World} {v : Value} {ks : List Bool} (h : Bo w B v ks) (hc : Chg B Stb w w') : Bo w' B v ks := h.chg hc (by rintro cs fz (h | h | h | h) <;> revert h <;> decide)
theorem by_stb {B : Nat} {w w' : World} {A : Option Addr} {n : Nat} {bs : List (BitVec 8)} (h : By w A n bs) (hc : Chg B Stb w w') : By w' A n bs := h.keep fun k cs fz hk => by
  rw [hk]; exact hc.block _ _ hk (.inr (by rintro (h | h | h | h) <;> revert h <;> decide))
theorem sizeRec : (Tryz.prog.info? 44).map (·.size) = some 1 := by kernel_rfl
theorem rem_small (n : Int) : recN (n.tmod 2001) ≤ 2000 := by
  have h := Int.tmod_lt_of_pos n (show (0 : Int) < 2001 by decide)
  unfold recN
  split
  · exact Nat.zero_le _
  · split
    · omega
    · omega
/-- Where the law is, while the power is on. -/
structure Kp (w : World) (d q : Nat) (ks : List Bool) (k : Nat) (m : M) (s : St) (rs : List (List (BitVec 8))) (n : Nat) (va vs : Value) (wr : World) : Prop where
  j : J false 1000 ks k m s rs n
  dk : Dk wr w.heap.size d m
  ss : Ss wr w.heap.size q d s
  all : Rw w wr va rs
  syn : Rw w wr vs (rs.take n)
  chg : Chg w.heap.size Stb w wr
theorem Kp.below {w : World} {d q : Nat} {ks : List Bool} {k : Nat} {m : M} {s : St} {rs : List (List (BitVec 8))} {n : Nat} {va vs : Value} {wr w' : World} (h : Kp w d q ks k m s rs n va vs wr) (hb : Below wr.heap.size wr w') : Kp w d q ks k m s rs n va vs w' :=
  ⟨h.j, h.dk.below hb, h.ss.below hb, h.all.below hb, h.syn.below hb, h.chg.trans (Chg.of_below hb)⟩
/-- Where it is behind the failure: what the journal is sure to have. -/
structure Gp (w : World) (d : Nat) (ks : List Bool) (m : M) (sy : List (List (BitVec 8))) (vs : Value) (wr : World) : Prop where
  gone : Gone ks (crash m ks) sy
  dk : Dk wr w.heap.size d m
  syn : Rw w wr vs sy
  chg : Chg w.heap.size Stb w wr
theorem Gp.below {w : World} {d : Nat} {ks : List Bool} {m : M} {sy : List (List (BitVec 8))} {vs : Value} {wr w' : World} (h : Gp w d ks m sy vs wr) (hb : Below wr.heap.size wr w') : Gp w d ks m sy vs w' :=
  ⟨h.gone, h.dk.below hb, h.syn.below hb, h.chg.trans (Chg.of_below hb)⟩
theorem Kp.gp {w : World} {d q : Nat} {ks : List Bool} {k : Nat} {m : M} {s : St} {rs : List (List (BitVec 8))} {n : Nat} {va vs : Value} {wr : World} (h : Kp w d q ks k m s rs n va vs wr) (hk : k ≤ 30) : Gp w d ks m (rs.take n) vs wr :=
  ⟨by have hc : crash m ks = lost m ks := by unfold crash; rw [h.j.on.off]; rfl
      rw [hc]; exact h.j.gone hk, h.dk, h.syn, h.chg⟩
theorem gone_crash {ks : List Bool} {m : M} {sy : List (List (BitVec 8))} (h : Gone ks m sy) : Gone ks (crash m ks) sy := by
  have hc : crash m ks = m := by unfold crash; rw [h.off]; rfl
  rw [hc]; exact h
theorem Dk_on {w : World} {B d : Nat} {m : M} (h : Dk w B d m) : w.cell? ⟨d, 1, none⟩ = some (.bool (!m.off)) := Segm.Dk_on h

theorem Own7.rw_ {w0 w w' : World} {A : Option Addr} {c : Nat} {rs : List Rv} (h : Own7 w w' A c rs) (hb : w0.heap.size ≤ w.heap.size) : Rw w0 w' (.slice A rs.length c) (rs.map (·.bs)) :=
  ⟨A, c, rs, rfl, rfl, own_lower h.own hb, h.by_⟩
set_option maxRecDepth 100000 in
set_option maxHeartbeats 8000000 in
theorem keeps_walk (steps : Int) (hst : fit64 steps) (A : Option Addr) (l c : Nat) (kA : Option Addr) (kn kc : Nat) (ks : List Bool) (w : World) (h : IsV w (.recs [.int .i64, .int .i64, .int .u8, .slice .bool]) (.slice A l c)) (hk : Bo w w.heap.size (.slice kA kn kc) ks) (hkl : ks.length = kn) (hkm : kn ≤ maxLen) :
    Calls Tryz.prog 4 #[.slice A l c, .int .i64 steps, .slice kA kn kc] w fun e w' => e = .returned (.bool true) ∧ Below w.heap.size w w' := by
  obtain ⟨hlen, hdeeds⟩ := IsDd.of_isv h
  have con := few_ok w A l c hlen hdeeds
  have HDS := Lib.hid hdeeds
  have HK := Lib.hid hk
  have HKL := Lib.hid hkl
  unfold fit64 at hst
  unfold maxLen at hlen hkm
  clear hdeeds h hk hkl
  go_enter Tryz.func4, Tryz.ntmps4
  go_wp2_with fail
  refine con.mono ?_
  clear con
  rintro e w1 ⟨b, rfl, hb30, rfl⟩
  cases b
  · go_wp2_with fail
    refine (knows w).mono ?_
    rintro e w2 ⟨rfl, hb⟩
    go_wp2_with fail
    go_ret
    exact ⟨rfl, hb⟩
  clear hb30
  by_cases hb1 : 20 < l
  · go_wp2_with fail
    refine (knows w).mono ?_
    rintro e w2 ⟨rfl, hb⟩
    go_wp2_with fail
    go_ret
    exact ⟨rfl, hb⟩
  by_cases hb2 : 60 < kn
  · go_wp2_with fail
    refine (knows w).mono ?_
    rintro e w2 ⟨rfl, hb⟩
    go_wp2_with fail
    go_ret
    exact ⟨rfl, hb⟩
  have hl20 : l ≤ 20 := by omega
  have hk60 : kn ≤ 60 := by omega
  have con := Disk.new_ok w w.heap.size 1000 (Nat.le_refl _) (by omega) (by omega)
  go_wp2_with fail
  clear hb1 hb2
  refine con.mono ?_
  clear con
  rintro r w1 ⟨d, rfl, hd1, hb1⟩
  have con := open_call w1 w.heap.size d ⟨1000, [], [], false, none⟩ hd1 (fun f => Nat.zero_le _)
  rw [open1000] at con
  have HD1 := Lib.hid hd1
  have HB1 := Lib.hid hb1
  clear hd1 hb1
  go_wp2_with fail
  refine con.mono ?_
  clear con
  rintro r w2 hos
  obtain ⟨q, A2, c2, rs2, hq, rfl, hrs2, hown2, hs2⟩ := hos.2 rfl
  have hB2 : Below w.heap.size w w2 := HB1.out.trans (hown2.low.mono HB1.out.size)
  have hqw : w.heap.size ≤ q := Nat.le_trans HB1.out.size hq
  have HS2 := Lib.hid (show Ss w2 w.heap.size q d s00 from hs2)
  have HD2 := Lib.hid (HD1.out.below hown2.low)
  have HB2 := Lib.hid hB2
  clear hos hrs2 hown2 hs2 hB2 hq HD1 HB1
  go_wp2_with fail
  refine (Disk.fail_call w2 w.heap.size d ⟨1000, [], [], false, none⟩ steps hst.2 (.slice kA kn kc) ks HD2.out (HK.out.below HB2.out) HB2.out.size (by rw [HKL.out]; unfold maxLen; omega)).mono ?_
  rintro r w3 ⟨rfl, hd3, hc3⟩
  obtain ⟨m3, hm3, hj3⟩ := start1000 steps ks (by omega)
  rw [hm3] at hd3
  have HI : Hid (Kp w d q ks 0 m3 s00 [] 0 (.slice none 0 0) (.slice none 0 0) w3) := Lib.hid ⟨hj3, hd3, HS2.out.chg hc3 (by rintro cs fz (h | h) <;> revert h <;> decide) (by rintro cs fz (h | h) <;> revert h <;> decide), Rw.nil_ _ _, Rw.nil_ _ _, (Chg.of_below HB2.out).trans (hc3.mono (Nat.le_refl _) dob_stb)⟩
  clear hd3 hc3 hj3 hm3 HD2 HS2 HB2
  go_wp2_with fail
  go_loopw [12, 13, 14, 15] (fun vs va vo i wr => ∃ (k : Nat) (m : M) (s : St) (rs : List (List (BitVec 8))) (n : Nat), k ≤ l ∧ i = .int .i64 (k : Int) ∧ vo = .slice none 0 0 ∧ Kp w d q ks k m s rs n va vs wr) (fun _ _ _ i _ => l - (intOf i).toNat)
  case atStart => exact ⟨0, m3, s00, [], 0, Nat.zero_le _, rfl, rfl, HI.out⟩
  case round =>
    clear HI
    obtain ⟨k, m, s, rs, n, hk, rfl, rfl, hP⟩ := hrel
    have HP := Lib.hid hP
    obtain ⟨Aa, ca, rfl, hca, hcam⟩ := hP.all.form
    obtain ⟨As, cs, rfl, hcs, hcsm⟩ := hP.syn.form
    clear hP
    obtain ⟨sy, hsy⟩ : ∃ sy, rs.take n = sy := ⟨_, rfl⟩
    have HSY := Lib.hid hsy
    obtain ⟨sl, hsl⟩ : ∃ sl, sy.length = sl := ⟨_, rfl⟩
    obtain ⟨al, hal⟩ : ∃ al, rs.length = al := ⟨_, rfl⟩
    rw [hsy, hsl] at HP hcs ⊢
    rw [hal] at HP hca ⊢
    have HSL := Lib.hid hsl
    have HAL := Lib.hid hal
    clear hsy hsl hal
    by_cases hlt : k < l
    · obtain ⟨x, hA, hDD⟩ := HDS.out (by omega)
      subst hA
      obtain ⟨D, hD⟩ := hDD k hlt
      have hlow : Below w.heap.size w wr := HP.out.chg.below (Nat.le_refl _)
      obtain ⟨c0, c1, c2, c3⟩ := hD.at_ hlow
      obtain ⟨what, n0, bb, dA, dc, dks⟩ := D
      dsimp only at c0 c1 c2 c3
      have HV1 : Hid (Cel (wr.alloc (.cells #[.int .i64 what, .int .i64 n0, .int .u8 (bb.toNat : Int), .slice dA dks.length dc] 43)) wr.heap.size 43 [.int .i64 what, .int .i64 n0, .int .u8 (bb.toNat : Int), .slice dA dks.length dc]) := Lib.hid (Cel.new wr 43 [.int .i64 what, .int .i64 n0, .int .u8 (bb.toNat : Int), .slice dA dks.length dc])
      have HB1 := Lib.hid (HP.out.below (below_at wr (.cells #[.int .i64 what, .int .i64 n0, .int .u8 (bb.toNat : Int), .slice dA dks.length dc] 43)))
      clear hD hDD hlow HP
      go_wp2_with fail
      generalize wr.alloc (.cells #[.int .i64 what, .int .i64 n0, .int .u8 (bb.toNat : Int), .slice dA dks.length dc] 43) = W1 at *
      generalize wr.heap.size = xb at *
      refine (record_ok W1 (n0.tmod 2001) bb).mono ?_
      rintro e W2 ⟨g2, kz, hg2, rfl, hkz, hcg, hkm2, hb2⟩
      have hkz2 : kz ≤ 2000 := by rw [← hkz]; exact rem_small n0
      have HV2 := Lib.hid (celb HV1.out hb2)
      have HP2 := Lib.hid (HB1.out.below hb2)
      obtain ⟨b, hbe⟩ : ∃ b, b = recB kz bb := ⟨_, rfl⟩
      rw [← hbe] at hcg
      have hbl : b.length = kz := by rw [hbe, recB_len]
      have HBY := Lib.hid (Segm.cel_by hcg hbl)
      have v0 : W2.cell? ⟨xb, 0, none⟩ = some (.int .i64 what) := HV2.out.cell 0
      have HBL := Lib.hid hbl
      clear hcg hb2 hkz hbe hg2 HB1 HV1 c0 c1 c2 c3 hbl
      have hJ := HP2.out.j
      by_cases h0 : what = 0
      · subst h0
        go_wp2_with fail
        have con := begin_call W2 w.heap.size q d s m (some ⟨g2, 0, none⟩) kz kz b HP2.out.dk HP2.out.ss HP2.out.chg.size hqw HBY.out (Nat.le_refl _) (by unfold maxLen; omega) (hJ.ok_ (by rw [HKL.out]; unfold maxLen; omega)) (fun g hg => (hJ.seg g hg).1)
        have hgo := begin_goes7 hJ b (by rw [HBL.out]; exact hkz2) (by omega) (by omega)
        clear hJ
        rw [HSY.out] at hgo
        rcases hgo with ⟨m', s', -, hx, hG⟩ | ⟨m', s', hx, hJ2⟩
        · rw [hx] at con
          refine Calls.mono con ?_
          clear con hx
          rintro r W3 ⟨rfl, hd3, hs3, hc3⟩
          have HON := Lib.hid (fun V (hV : Below W3.heap.size W3 V) => Disk.on_cell V d false (by rw [kept hV (Dk_on hd3), hG.off]; rfl))
          have HG3 : Hid (Gp w d ks m' sy (.slice As sl cs) W3) := Lib.hid ⟨gone_crash hG, hd3, by have h := HP2.out.syn.stb hc3; rw [HSY.out] at h; exact h, HP2.out.chg.trans hc3⟩
          have HBY3 := Lib.hid (by_stb HBY.out hc3)
          clear hd3 hs3 hc3 hG HP2 HV2 v0 HBY
          dsimp only
          go_wp2_with (first | (go_at_call 30; refine (HON.out _ (Below.refl _ _)).mono ?_; rintro e w' ⟨rfl, rfl⟩) | (go_at_call 30; refine (HON.out _ (below_at _ _)).mono ?_; rintro e w' ⟨rfl, rfl⟩))
          have GP := Lib.hid (HG3.out.below (below_at W3 (.cells #[.slice (some ⟨g2, 0, none⟩) kz kz] 44)))
          have GO := Lib.hid (Rw.one w W3 HG3.out.chg.size (c := kz) HBY3.out)
          generalize hw4 : W3.alloc (.cells #[.slice (some ⟨g2, 0, none⟩) kz kz] 44) = W4 at *
          generalize W3.heap.size = ob at *
          clear hw4 HG3 HBY3 HON
          refine (Disk.crash_call W4 w.heap.size d m' (.slice kA kn kc) ks GP.out.dk (bo_stb HK.out GP.out.chg) GP.out.chg.size (by rw [HKL.out]; unfold maxLen; omega)).mono ?_
          rintro r V2 ⟨rfl, hd2, hc2⟩
          have GC2 := Lib.hid (GP.out.chg.trans (hc2.mono (Nat.le_refl _) dob_stb))
          have GS2 := Lib.hid (GP.out.syn.stb (hc2.mono (Nat.le_refl _) dob_stb))
          have GO2 := Lib.hid (GO.out.stb (hc2.mono (Nat.le_refl _) dob_stb))
          have GG := Lib.hid GP.out.gone
          have GD2 := Lib.hid hd2
          clear hd2 hc2 GP
          go_wp2_with fail
          refine (Disk.up_call V2 w.heap.size d (crash m' ks) GD2.out).mono ?_
          rintro r V3 ⟨rfl, hd3, hc3⟩
          obtain ⟨ep, recs, ho, hrl, hrt⟩ := GG.out.read
          have con := open_call V3 w.heap.size d (up (crash m' ks)) hd3 GG.out.few
          have hfew := open_few (up (crash m' ks)) GG.out.few
          rw [ho] at con hfew
          dsimp only at hfew
          have GC3 := Lib.hid (GC2.out.trans (hc3.mono (Nat.le_refl _) dob_stb))
          have GS3 := Lib.hid (GS2.out.stb (hc3.mono (Nat.le_refl _) dob_stb))
          have GO3 := Lib.hid (GO2.out.stb (hc3.mono (Nat.le_refl _) dob_stb))
          have HRT := Lib.hid hrt
          clear hd3 hc3 GD2 GG ho hrt GC2 GS2
          go_wp2_with fail
          refine con.mono ?_
          clear con
          rintro r V4 hos
          obtain ⟨q4, A4, c4, rs4, hq4, rfl, hrs4, hown4, hs4⟩ := hos.2 rfl
          have hrw := hown4.rw_ GC3.out.size
          have hl4 := congrArg List.length hrs4
          rw [List.length_map] at hl4
          dsimp only at hl4 hrs4
          rw [hrs4] at hrw
          generalize rs4.length = n4 at *
          obtain ⟨hc5, hc5m⟩ := hrw.cap
          have hslr : sl ≤ n4 := by rw [HSL.out] at hrl; omega
          have hslc : sl ≤ c4 := by omega
          have hn4 : n4 ≤ 200 := by omega
          have GR := Lib.hid hrw.rd
          have GS4 := Lib.hid (GS3.out.below hown4.low)
          have GO4 := Lib.hid (GO3.out.below hown4.low)
          have GC4 := Lib.hid (GC3.out.trans (Chg.of_below hown4.low))
          have GT := Lib.hid (show Rd V4 V4.heap.size A4 sl sy from by
            have h := Segm.Rd_take hrw.rd hslr
            have h2 := HRT.out
            rw [HSL.out] at h2
            rw [h2] at h
            exact h)
          clear hos hrs4 hown4 hs4 hrw hq4 hc5 hc5m hl4 GC3 GS3
          go_wp2_with fail
          refine (same_any A4 (some ⟨ob, 0, none⟩) n4 1 c4 1 recs [b] V4.heap.size V4 GR.out GO4.out.rd (Nat.le_refl _) (by omega) (by omega)).mono ?_
          rintro e V5 ⟨⟨b0, rfl⟩, hb5⟩
          have GC5 := Lib.hid (GC4.out.trans (Chg.of_below hb5))
          have GS5 := Lib.hid (GS4.out.below hb5)
          have GT5 := Lib.hid ((GT.out.below hb5).more hb5.size)
          clear hb5 GC4 GS4 GT GR
          cases b0
          · go_wp2_with ((refine wpList_slice rfl 30 (.tmp 157) none (some (.tmp 159)) none rfl (.slice A4 sl c4) ?_ ?_; exact run_cutTo _ undRec sizeRec A4 n4 c4 sl .i64 (by omega)))
            refine (Frag.refSame A4 As sl c4 cs sy V5.heap.size V5 GT5.out GS5.out.rd (Nat.le_refl _) (by omega)).mono ?_
            rintro e V6 ⟨rfl, hb6⟩
            have GC6 := Lib.hid (GC5.out.trans (Chg.of_below hb6))
            clear hb6
            go_wp2_with fail
            refine (knows V6).mono ?_
            rintro e V7 ⟨rfl, hb7⟩
            have GC7 := Lib.hid (GC6.out.trans (Chg.of_below hb7))
            clear hb7
            go_wp2_with fail
            go_ret
            exact ⟨rfl, GC7.out.below (Nat.le_refl _)⟩
          · go_wp2_with fail
            refine (knows V5).mono ?_
            rintro e V6 ⟨rfl, hb6⟩
            have GC6 := Lib.hid (GC5.out.trans (Chg.of_below hb6))
            clear hb6
            go_wp2_with fail
            go_ret
            exact ⟨rfl, GC6.out.below (Nat.le_refl _)⟩
        · rw [hx] at con
          refine Calls.mono con ?_
          clear con hx
          rintro r W3 ⟨rfl, hd3, hs3, hc3⟩
          have HON := Lib.hid (fun V (hV : Below W3.heap.size W3 V) => Disk.on_cell V d true (by rw [kept hV (Dk_on hd3), hJ2.on.off]; rfl))
          have hrw1 := Rw.one w W3 (Nat.le_trans HP2.out.chg.size hc3.size) (c := kz) (by_stb HBY.out hc3)
          have hby4 := (by_stb HBY.out hc3).below (below_at W3 (.cells #[.slice (some ⟨g2, 0, none⟩) kz kz] 44))
          have hb4 := below_at W3 (.cells #[.slice (some ⟨g2, 0, none⟩) kz kz] 44)
          have hz4 : w.heap.size ≤ (W3.alloc (.cells #[.slice (some ⟨g2, 0, none⟩) kz kz] 44)).heap.size := Nat.le_trans (Nat.le_trans HP2.out.chg.size hc3.size) hb4.size
          have hrw2 := Rw.one w (W3.alloc (.cells #[.slice (some ⟨g2, 0, none⟩) kz kz] 44)) hz4 (c := kz) hby4
          rw [size_at rfl] at hrw2
          have hb5 := below_at (W3.alloc (.cells #[.slice (some ⟨g2, 0, none⟩) kz kz] 44)) (.cells #[.slice (some ⟨g2, 0, none⟩) kz kz] 44)
          have hb45 := hb4.trans (hb5.mono hb4.size)
          have HB45 := Lib.hid hb45
          have HK5 := Lib.hid (⟨hJ2, hd3.below hb45, hs3.below hb45, hrw1.below hb5, hrw2, (HP2.out.chg.trans hc3).trans (Chg.of_below hb45)⟩ : Kp w d q ks (k + 1) m' s' [b] 1 _ _ _)
          clear hd3 hs3 hc3 hJ2 HP2 HV2 v0 HBY hrw1 hby4 hb4 hz4 hrw2 hb5 hb45
          dsimp only
          go_wp2_with ((go_at_call 30; refine (HON.out _ HB45.out).mono ?_; rintro e w' ⟨rfl, rfl⟩))
          go_roundw
          case rel => exact ⟨k + 1, m', s', [b], 1, by omega, by go_num, rfl, HK5.out⟩
          case measure => simp [intOf]; omega
      · by_cases h1 : what = 1
        · subst h1
          go_wp2_with fail
          have con := append_call W2 w.heap.size q d s m (some ⟨g2, 0, none⟩) kz kz b HP2.out.dk HP2.out.ss HP2.out.chg.size hqw HBY.out (Nat.le_refl _) (by unfold maxLen; omega) (fun g hg => by
            obtain ⟨_, h2, h3⟩ := hJ.seg g hg
            rw [h2]
            exact ⟨(fileOf_fit7 _).2, by omega⟩)
          have hgo := append_goes7 hJ b (by rw [HBL.out]; exact hkz2) (by omega) (by omega)
          have hcnt := hJ.cnt
          have hnr := hJ.le
          rw [HAL.out] at hcnt
          clear hJ
          rw [HSY.out] at hgo
          rcases hgo with ⟨m', s', -, hx, hG⟩ | ⟨he, hx⟩ | ⟨m', s', hx, hJ2⟩
          · rw [hx] at con
            refine Calls.mono con ?_
            clear con hx
            rintro r W3 ⟨rfl, hd3, hs3, hc3⟩
            have HON := Lib.hid (fun V (hV : Below W3.heap.size W3 V) => Disk.on_cell V d false (by rw [kept hV (Dk_on hd3), hG.off]; rfl))
            have GP : Hid (Gp w d ks m' sy (.slice As sl cs) W3) := Lib.hid ⟨gone_crash hG, hd3, by have h := HP2.out.syn.stb hc3; rw [HSY.out] at h; exact h, HP2.out.chg.trans hc3⟩
            clear hd3 hs3 hc3 hG HP2 HV2 v0 HBY
            dsimp only
            go_wp2_with ((go_at_call 30; refine (HON.out _ (Below.refl _ _)).mono ?_; rintro e w' ⟨rfl, rfl⟩))
            refine (Disk.crash_call W3 w.heap.size d m' (.slice kA kn kc) ks GP.out.dk (bo_stb HK.out GP.out.chg) GP.out.chg.size (by rw [HKL.out]; unfold maxLen; omega)).mono ?_
            rintro r V2 ⟨rfl, hd2, hc2⟩
            have GC2 := Lib.hid (GP.out.chg.trans (hc2.mono (Nat.le_refl _) dob_stb))
            have GS2 := Lib.hid (GP.out.syn.stb (hc2.mono (Nat.le_refl _) dob_stb))
            have GG := Lib.hid GP.out.gone
            have GD2 := Lib.hid hd2
            clear hd2 hc2 GP
            go_wp2_with fail
            refine (Disk.up_call V2 w.heap.size d (crash m' ks) GD2.out).mono ?_
            rintro r V3 ⟨rfl, hd3, hc3⟩
            obtain ⟨ep, recs, ho, hrl, hrt⟩ := GG.out.read
            have con := open_call V3 w.heap.size d (up (crash m' ks)) hd3 GG.out.few
            have hfew := open_few (up (crash m' ks)) GG.out.few
            rw [ho] at con hfew
            dsimp only at hfew
            have GC3 := Lib.hid (GC2.out.trans (hc3.mono (Nat.le_refl _) dob_stb))
            have GS3 := Lib.hid (GS2.out.stb (hc3.mono (Nat.le_refl _) dob_stb))
            have HRT := Lib.hid hrt
            clear hd3 hc3 GD2 GG ho hrt GC2 GS2
            go_wp2_with fail
            refine con.mono ?_
            clear con
            rintro r V4 hos
            obtain ⟨q4, A4, c4, rs4, hq4, rfl, hrs4, hown4, hs4⟩ := hos.2 rfl
            have hrw := hown4.rw_ GC3.out.size
            have hl4 := congrArg List.length hrs4
            rw [List.length_map] at hl4
            dsimp only at hl4 hrs4
            rw [hrs4] at hrw
            generalize rs4.length = n4 at *
            obtain ⟨hc5, hc5m⟩ := hrw.cap
            have hslr : sl ≤ n4 := by rw [HSL.out] at hrl; omega
            have hslc : sl ≤ c4 := by omega
            have hn4 : n4 ≤ 200 := by omega
            have GR := Lib.hid hrw.rd
            have GS4 := Lib.hid (GS3.out.below hown4.low)
            have GC4 := Lib.hid (GC3.out.trans (Chg.of_below hown4.low))
            have GT := Lib.hid (show Rd V4 V4.heap.size A4 sl sy from by
              have h := Segm.Rd_take hrw.rd hslr
              have h2 := HRT.out
              rw [HSL.out] at h2
              rw [h2] at h
              exact h)
            clear hos hrs4 hown4 hs4 hrw hq4 hc5 hc5m hl4 GC3 GS3
            go_wp2_with ((refine wpList_slice rfl 30 (.tmp 157) none (some (.tmp 159)) none rfl (.slice A4 sl c4) ?_ ?_; exact run_cutTo _ undRec sizeRec A4 n4 c4 sl .i64 (by omega)))
            refine (Frag.refSame A4 As sl c4 cs sy V4.heap.size V4 GT.out GS4.out.rd (Nat.le_refl _) (by omega)).mono ?_
            rintro e V6 ⟨rfl, hb6⟩
            have GC6 := Lib.hid (GC4.out.trans (Chg.of_below hb6))
            clear hb6
            go_wp2_with fail
            refine (knows V6).mono ?_
            rintro e V7 ⟨rfl, hb7⟩
            have GC7 := Lib.hid (GC6.out.trans (Chg.of_below hb7))
            clear hb7
            go_wp2_with fail
            go_ret
            exact ⟨rfl, GC7.out.below (Nat.le_refl _)⟩
          · rw [hx] at con
            refine Calls.mono con ?_
            clear con hx
            rintro r W3 ⟨rfl, hd3, hs3, hc3⟩
            have HON := Lib.hid (fun V (hV : Below W3.heap.size W3 V) => Disk.on_cell V d true (by rw [kept hV (Dk_on hd3), HP2.out.j.on.off]; rfl))
            have HK5 := Lib.hid (⟨HP2.out.j.next, hd3, hs3, HP2.out.all.stb hc3, HP2.out.syn.stb hc3, HP2.out.chg.trans hc3⟩ : Kp w d q ks (k + 1) m s rs n _ _ _)
            clear hd3 hs3 hc3 HP2 HV2 v0 HBY
            dsimp only
            go_wp2_with ((go_at_call 30; refine (HON.out _ (Below.refl _ _)).mono ?_; rintro e w' ⟨rfl, rfl⟩))
            go_roundw
            case rel => exact ⟨k + 1, m, s, rs, n, by omega, by go_num, rfl, HK5.out⟩
            case measure => simp [intOf]; omega
          · rw [hx] at con
            refine Calls.mono con ?_
            clear con hx
            rintro r W3 ⟨rfl, hd3, hs3, hc3⟩
            have HON := Lib.hid (fun V (hV : Below W3.heap.size W3 V) => Disk.on_cell V d true (by rw [kept hV (Dk_on hd3), hJ2.on.off]; rfl))
            have hal3 := HP2.out.all.stb hc3
            obtain ⟨xs, hxs, hxl, hsrc, hxb⟩ := hal3.src
            have HA3 := Lib.hid hd3
            have HS3 := Lib.hid hs3
            have HC3 := Lib.hid (HP2.out.chg.trans hc3)
            have HY3 := Lib.hid (by_stb HBY.out hc3)
            have HSY3 := Lib.hid (HP2.out.syn.stb hc3)
            have HXS := Lib.hid hxs
            have HXL := Lib.hid hxl
            have HXB := Lib.hid hxb
            have HJ2 := Lib.hid hJ2
            have hz3 : w.heap.size ≤ W3.heap.size := HC3.out.size
            have hsrc1 : Src (W3.alloc (.cells #[] 44)) Aa al (xs.map Rv.val) := fun hp => by
              obtain ⟨ad, h1, h2⟩ := hsrc hp
              exact ⟨ad, h1, fun j u hu => kept (below_at W3 _) (h2 j u hu)⟩
            have HSR := Lib.hid hsrc1
            have O0 := Lib.hid (World.ownsRow_lit (base := w.heap.size) (e := 44) (size := 1) W3 #[] 0 hz3 (by decide) rfl)
            clear hd3 hs3 hc3 hJ2 HP2 HV2 v0 HBY hal3 hxs hxl hsrc hxb hsrc1
            dsimp only
            go_wp2_with (first | (at_builtin; refine wpList_append_any _ rfl (.tmp 115) (.tmp 116) 30 rfl w.heap.size 44 recsT _ 0 [] rfl O0.out Aa al ca (xs.map Rv.val) rfl (by rw [List.length_map, HXL.out, Nat.mul_one]) HSR.out (Rw.vals_one xs) al _ (Nat.zero_add _) (List.nil_append _) (by unfold maxLen; omega) (by omega) (by simp; omega) ?_; intro A5 c5 W5 o5 g5 e5; have O5 := Lib.hid o5; have G5 := Lib.hid g5; have E5 := Lib.hid e5; have hb5 : Below W3.heap.size W3 W5 := (below_at W3 _).grown g5 (by simp) (by intro q hq; cases hq; exact Nat.le_refl _); have B5 := Lib.hid hb5; have z5 := hb5.size; clear o5 g5 e5 hb5) | (at_builtin; refine wpList_append_any _ rfl (.tmp 117) (.tmp 119) 30 rfl w.heap.size 44 recsT _ al (xs.map Rv.val) rfl (Frag.own_below O5.out (below_at W5 _)) (some ⟨W5.heap.size, 0, none⟩) 1 1 [.slice (some ⟨g2, 0, none⟩) kz kz] rfl rfl (src_one W5 44 _) (by intro u hu; rw [List.mem_singleton.1 hu]; rfl) (al + 1) _ rfl rfl (by unfold maxLen; omega) (by omega) (by simp; omega) ?_; intro A6 c6 W6 o6 g6 e6; have O6 := Lib.hid o6; have hb6 : Below W3.heap.size W3 W6 := (B5.out.trans ((below_at W5 _).mono z5)).grown g6 (by simp; omega) (by intro q hq; exact own_ge E5.out hq); have B6 := Lib.hid hb6; clear o6 g6 e6 hb6) | (go_at_call 30; refine (HON.out _ B6.out).mono ?_; rintro e w' ⟨rfl, rfl⟩))
            have HK5 := Lib.hid (⟨HJ2.out, HA3.out.below B6.out, HS3.out.below B6.out, Rw.push HXS.out HXL.out O6.out (fun x hx => (HXB.out x hx).below B6.out) (HY3.out.below B6.out), by rw [List.take_append_of_le_length hnr, HSY.out]; have h := HSY3.out.below B6.out; rw [HSY.out] at h; exact h, HC3.out.trans (Chg.of_below B6.out)⟩ : Kp w d q ks (k + 1) m' s' (rs ++ [b]) n _ (.slice As sl cs) _)
            go_roundw
            case rel => exact ⟨k + 1, m', s', rs ++ [b], n, by omega, by go_num, rfl, HK5.out⟩
            case measure => simp [intOf]; omega
        · by_cases h2 : what = 2
          · subst h2
            go_wp2_with fail
            have con := sync_call W2 w.heap.size q d s m HP2.out.dk HP2.out.ss HP2.out.chg.size hqw (fun g hg => by
              obtain ⟨_, h2, _⟩ := hJ.seg g hg
              rw [h2]
              exact fileOf_fit7 _)
            have hgo := sync_goes7 hJ (by omega)
            clear hJ
            rw [HSY.out] at hgo
            rcases hgo with ⟨m', -, hx, hG⟩ | ⟨he, hx⟩ | ⟨m', hx, hJ2⟩
            · rw [hx] at con
              refine Calls.mono con ?_
              clear con hx
              rintro r W3 ⟨rfl, hd3, hs3, hc3⟩
              have HON := Lib.hid (fun V (hV : Below W3.heap.size W3 V) => Disk.on_cell V d false (by rw [kept hV (Dk_on hd3), hG.off]; rfl))
              have GP : Hid (Gp w d ks m' sy (.slice As sl cs) W3) := Lib.hid ⟨gone_crash hG, hd3, by have h := HP2.out.syn.stb hc3; rw [HSY.out] at h; exact h, HP2.out.chg.trans hc3⟩
              clear hd3 hs3 hc3 hG HP2 HV2 v0 HBY
              dsimp only
              go_wp2_with ((go_at_call 30; refine (HON.out _ (Below.refl _ _)).mono ?_; rintro e w' ⟨rfl, rfl⟩))
              refine (Disk.crash_call W3 w.heap.size d m' (.slice kA kn kc) ks GP.out.dk (bo_stb HK.out GP.out.chg) GP.out.chg.size (by rw [HKL.out]; unfold maxLen; omega)).mono ?_
              rintro r V2 ⟨rfl, hd2, hc2⟩
              have GC2 := Lib.hid (GP.out.chg.trans (hc2.mono (Nat.le_refl _) dob_stb))
              have GS2 := Lib.hid (GP.out.syn.stb (hc2.mono (Nat.le_refl _) dob_stb))
              have GG := Lib.hid GP.out.gone
              have GD2 := Lib.hid hd2
              clear hd2 hc2 GP
              go_wp2_with fail
              refine (Disk.up_call V2 w.heap.size d (crash m' ks) GD2.out).mono ?_
              rintro r V3 ⟨rfl, hd3, hc3⟩
              obtain ⟨ep, recs, ho, hrl, hrt⟩ := GG.out.read
              have con := open_call V3 w.heap.size d (up (crash m' ks)) hd3 GG.out.few
              have hfew := open_few (up (crash m' ks)) GG.out.few
              rw [ho] at con hfew
              dsimp only at hfew
              have GC3 := Lib.hid (GC2.out.trans (hc3.mono (Nat.le_refl _) dob_stb))
              have GS3 := Lib.hid (GS2.out.stb (hc3.mono (Nat.le_refl _) dob_stb))
              have HRT := Lib.hid hrt
              clear hd3 hc3 GD2 GG ho hrt GC2 GS2
              go_wp2_with fail
              refine con.mono ?_
              clear con
              rintro r V4 hos
              obtain ⟨q4, A4, c4, rs4, hq4, rfl, hrs4, hown4, hs4⟩ := hos.2 rfl
              have hrw := hown4.rw_ GC3.out.size
              have hl4 := congrArg List.length hrs4
              rw [List.length_map] at hl4
              dsimp only at hl4 hrs4
              rw [hrs4] at hrw
              generalize rs4.length = n4 at *
              obtain ⟨hc5, hc5m⟩ := hrw.cap
              have hslr : sl ≤ n4 := by rw [HSL.out] at hrl; omega
              have hslc : sl ≤ c4 := by omega
              have hn4 : n4 ≤ 200 := by omega
              have GR := Lib.hid hrw.rd
              have GS4 := Lib.hid (GS3.out.below hown4.low)
              have GC4 := Lib.hid (GC3.out.trans (Chg.of_below hown4.low))
              have GT := Lib.hid (show Rd V4 V4.heap.size A4 sl sy from by
                have h := Segm.Rd_take hrw.rd hslr
                have h2 := HRT.out
                rw [HSL.out] at h2
                rw [h2] at h
                exact h)
              clear hos hrs4 hown4 hs4 hrw hq4 hc5 hc5m hl4 GC3 GS3
              go_wp2_with ((refine wpList_slice rfl 30 (.tmp 157) none (some (.tmp 159)) none rfl (.slice A4 sl c4) ?_ ?_; exact run_cutTo _ undRec sizeRec A4 n4 c4 sl .i64 (by omega)))
              refine (Frag.refSame A4 As sl c4 cs sy V4.heap.size V4 GT.out GS4.out.rd (Nat.le_refl _) (by omega)).mono ?_
              rintro e V6 ⟨rfl, hb6⟩
              have GC6 := Lib.hid (GC4.out.trans (Chg.of_below hb6))
              clear hb6
              go_wp2_with fail
              refine (knows V6).mono ?_
              rintro e V7 ⟨rfl, hb7⟩
              have GC7 := Lib.hid (GC6.out.trans (Chg.of_below hb7))
              clear hb7
              go_wp2_with fail
              go_ret
              exact ⟨rfl, GC7.out.below (Nat.le_refl _)⟩
            · rw [hx] at con
              refine Calls.mono con ?_
              clear con hx
              rintro r W3 ⟨rfl, hd3, hs3, hc3⟩
              have HON := Lib.hid (fun V (hV : Below W3.heap.size W3 V) => Disk.on_cell V d true (by rw [kept hV (Dk_on hd3), HP2.out.j.on.off]; rfl))
              have HK5 := Lib.hid (⟨HP2.out.j.next, hd3, hs3, HP2.out.all.stb hc3, HP2.out.syn.stb hc3, HP2.out.chg.trans hc3⟩ : Kp w d q ks (k + 1) m s rs n _ _ _)
              clear hd3 hs3 hc3 HP2 HV2 v0 HBY
              dsimp only
              go_wp2_with ((go_at_call 30; refine (HON.out _ (Below.refl _ _)).mono ?_; rintro e w' ⟨rfl, rfl⟩))
              go_roundw
              case rel => exact ⟨k + 1, m, s, rs, n, by omega, by go_num, rfl, HK5.out⟩
              case measure => simp [intOf]; omega
            · rw [hx] at con
              refine Calls.mono con ?_
              clear con hx
              rintro r W3 ⟨rfl, hd3, hs3, hc3⟩
              have HON := Lib.hid (fun V (hV : Below W3.heap.size W3 V) => Disk.on_cell V d true (by rw [kept hV (Dk_on hd3), hJ2.on.off]; rfl))
              have hall := HP2.out.all.stb hc3
              have HK5 := Lib.hid (⟨hJ2, hd3, hs3, hall, by rw [List.take_length]; exact hall, HP2.out.chg.trans hc3⟩ : Kp w d q ks (k + 1) m' s rs rs.length _ _ _)
              clear hd3 hs3 hc3 HP2 HV2 v0 HBY hall hJ2
              dsimp only
              go_wp2_with ((go_at_call 30; refine (HON.out _ (Below.refl _ _)).mono ?_; rintro e w' ⟨rfl, rfl⟩))
              go_roundw
              case rel => exact ⟨k + 1, m', s, rs, rs.length, by omega, by go_num, rfl, HK5.out⟩
              case measure => simp [intOf]; omega
          · have t0 : (what == 0) = false := by simpa using h0
            have t1 : (what == 1) = false := by simpa using h1
            have t2 : (what == 2) = false := by simpa using h2
            have HON := Lib.hid (fun V (hV : Below W2.heap.size W2 V) => Disk.on_cell V d true (by rw [kept hV (Dk_on HP2.out.dk), hJ.on.off]; rfl))
            have HK5 := Lib.hid (⟨hJ.next, HP2.out.dk, HP2.out.ss, HP2.out.all, HP2.out.syn, HP2.out.chg⟩ : Kp w d q ks (k + 1) m s rs n _ _ _)
            clear h0 h1 h2 hJ HV2 HP2 HBY
            go_wp2_with ((go_at_call 30; refine (HON.out _ (Below.refl _ _)).mono ?_; rintro e w' ⟨rfl, rfl⟩))
            go_roundw
            case rel => exact ⟨k + 1, m, s, rs, n, by omega, by go_num, rfl, HK5.out⟩
            case measure => simp [intOf]; omega
    · obtain rfl : k = l := by omega
      have GP : Hid (Gp w d ks m sy (.slice As sl cs) wr) := Lib.hid (by have h := HP.out.gp (by omega); rw [HSY.out] at h; exact h)
      clear HP
      go_wp2_with fail
      refine (Disk.crash_call wr w.heap.size d m (.slice kA kn kc) ks GP.out.dk (bo_stb HK.out GP.out.chg) GP.out.chg.size (by rw [HKL.out]; unfold maxLen; omega)).mono ?_
      rintro r V2 ⟨rfl, hd2, hc2⟩
      have GC2 := Lib.hid (GP.out.chg.trans (hc2.mono (Nat.le_refl _) dob_stb))
      have GS2 := Lib.hid (GP.out.syn.stb (hc2.mono (Nat.le_refl _) dob_stb))
      have GG := Lib.hid GP.out.gone
      have GD2 := Lib.hid hd2
      clear hd2 hc2 GP
      go_wp2_with fail
      refine (Disk.up_call V2 w.heap.size d (crash m ks) GD2.out).mono ?_
      rintro r V3 ⟨rfl, hd3, hc3⟩
      obtain ⟨ep, recs, ho, hrl, hrt⟩ := GG.out.read
      have con := open_call V3 w.heap.size d (up (crash m ks)) hd3 GG.out.few
      have hfew := open_few (up (crash m ks)) GG.out.few
      rw [ho] at con hfew
      dsimp only at hfew
      have GC3 := Lib.hid (GC2.out.trans (hc3.mono (Nat.le_refl _) dob_stb))
      have GS3 := Lib.hid (GS2.out.stb (hc3.mono (Nat.le_refl _) dob_stb))
      have HRT := Lib.hid hrt
      clear hd3 hc3 GD2 GG ho hrt GC2 GS2
      go_wp2_with fail
      refine con.mono ?_
      clear con
      rintro r V4 hos
      obtain ⟨q4, A4, c4, rs4, hq4, rfl, hrs4, hown4, hs4⟩ := hos.2 rfl
      have hrw := hown4.rw_ GC3.out.size
      have hl4 := congrArg List.length hrs4
      rw [List.length_map] at hl4
      dsimp only at hl4 hrs4
      rw [hrs4] at hrw
      generalize rs4.length = n4 at *
      obtain ⟨hc5, hc5m⟩ := hrw.cap
      have hslr : sl ≤ n4 := by rw [HSL.out] at hrl; omega
      have hslc : sl ≤ c4 := by omega
      have hn4 : n4 ≤ 200 := by omega
      have GR := Lib.hid hrw.rd
      have GS4 := Lib.hid (GS3.out.below hown4.low)
      have GC4 := Lib.hid (GC3.out.trans (Chg.of_below hown4.low))
      have GT := Lib.hid (show Rd V4 V4.heap.size A4 sl sy from by
        have h := Segm.Rd_take hrw.rd hslr
        have h2 := HRT.out
        rw [HSL.out] at h2
        rw [h2] at h
        exact h)
      clear hos hrs4 hown4 hs4 hrw hq4 hc5 hc5m hl4 GC3 GS3
      go_wp2_with ((refine wpList_slice rfl 30 (.tmp 157) none (some (.tmp 159)) none rfl (.slice A4 sl c4) ?_ ?_; exact run_cutTo _ undRec sizeRec A4 n4 c4 sl .i64 (by omega)))
      refine (Frag.refSame A4 As sl c4 cs sy V4.heap.size V4 GT.out GS4.out.rd (Nat.le_refl _) (by omega)).mono ?_
      rintro e V6 ⟨rfl, hb6⟩
      have GC6 := Lib.hid (GC4.out.trans (Chg.of_below hb6))
      clear hb6
      go_wp2_with fail
      refine (knows V6).mono ?_
      rintro e V7 ⟨rfl, hb7⟩
      have GC7 := Lib.hid (GC6.out.trans (Chg.of_below hb7))
      clear hb7
      go_wp2_with fail
      go_ret
      exact ⟨rfl, GC7.out.below (Nat.le_refl _)⟩
end Go.Proofs.YtdaknfepcbooeaaGreat.Sto
