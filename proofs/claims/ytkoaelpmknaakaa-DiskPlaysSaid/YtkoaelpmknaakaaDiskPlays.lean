/-
  The law DiskPlays walked.
-/
import Derived.Test.YtkoaelpmknaakaaDiskDeeds
import Derived.Test.YtkoaelpmknaakaaDiskRefApp
import Derived.Test.YtkoaelpmknaakaaDiskRefRename
namespace Go.Proofs.Ytkoaelpmknaakaa.Disk
open Go.RowKit Go.Maps
set_option linter.unusedVariables false
set_option linter.unusedSimpArgs false

/-- The list of a planned failure is not longer than any list. -/
def Ok (m : M) : Prop := ∀ k ks, m.plan = some (k, ks) → ks.length ≤ maxLen
theorem ok_lost (m : M) (ks : List Bool) : Ok (lost m ks) := fun k l e => by cases e
theorem ok_stepped {m : M} (h : Ok m) : Ok (stepped m) := by
  unfold stepped
  split
  · exact ok_lost _ _
  · rename_i n k e; intro a b e'; cases e'; exact h _ _ e
  · exact h
theorem ok_with {m : M} (h : Ok m) (fs : List Int) (l : List Cl) : Ok { m with files := fs, l := l } := h
theorem ok_append {m : M} (h : Ok m) (f : Int) (bs : List (BitVec 8)) : Ok (append m f bs).2 := by
  unfold append
  split
  · exact h
  split
  · exact h
  split
  · exact h
  split
  · exact ok_stepped h
  · exact ok_with (ok_stepped h) _ _
theorem ok_sync {m : M} (h : Ok m) (f : Int) : Ok (sync m f).2 := by
  unfold sync
  split
  · exact h
  split
  · exact ok_stepped h
  · exact ok_with (ok_stepped h) _ _
theorem ok_remove {m : M} (h : Ok m) (f : Int) : Ok (remove m f).2 := by
  unfold remove
  split
  · exact h
  split
  · exact ok_stepped h
  · exact ok_with (ok_stepped h) _ _
theorem ok_rename {m : M} (h : Ok m) (f t : Int) : Ok (rename m f t).2 := by
  unfold rename
  split
  · exact h
  split
  · exact h
  split
  · exact ok_stepped h
  split
  · exact ok_stepped h
  · exact ok_with (ok_stepped h) _ _
theorem ok_fail {m : M} (h : Ok m) (s : Int) {ks : List Bool} (hk : ks.length ≤ maxLen) : Ok (fail m s ks) := fun a b e => by
  unfold fail at e
  dsimp only at e
  split at e
  · cases e
  · cases e; exact hk
theorem ok_crash {m : M} (h : Ok m) (ks : List Bool) : Ok (crash m ks) := by
  unfold crash
  split
  · exact h
  · exact ok_lost _ _
theorem ok_up {m : M} (h : Ok m) : Ok (up m) := h
theorem there_cases {m : M} {f : Int} (h : there m f ≠ 0) : (m.off = true ∧ there m f = 8) ∨ (m.off = false ∧ f ∉ m.files ∧ there m f = 4) := by
  unfold there at *
  cases ho : m.off
  · rw [ho] at h
    by_cases hf : f ∈ m.files
    · simp [hf] at h
    · exact .inr ⟨rfl, hf, by simp [hf]⟩
  · exact .inl ⟨rfl, rfl⟩
theorem bn_drop {w : World} {B g : Nat} {bs : List (BitVec 8)} (h : Bn w B (some ⟨g, 0, none⟩) 512 bs) : Bn w B (some ⟨g, 1, none⟩) 511 (bs.drop 1) := by
  refine ⟨by rw [List.length_drop, h.1], fun _ => ?_⟩
  obtain ⟨ad, o, e, ho, hk, hc⟩ := h.2 (by omega)
  cases e
  refine ⟨_, o, rfl, ho, hk, fun j hj => ?_⟩
  have := hc (j + 1) (by omega)
  rw [Addr.add_lit] at this ⊢
  rw [List.getD_eq_getElem?_getD, List.getElem?_drop, Nat.add_comm 1 j, ← List.getD_eq_getElem?_getD, ← this]
  congr 2
  omega
theorem bs_drop {w : World} {B g : Nat} {bs : List (BitVec 8)} (h : Bs w B (some ⟨g, 0, none⟩) 512 bs) : Bs w B (some ⟨g, 1, none⟩) 511 (bs.drop 1) := by
  refine ⟨by rw [List.length_drop, h.1], fun _ => ?_⟩
  obtain ⟨ad, e, hk, hc⟩ := h.2 (by omega)
  cases e
  refine ⟨_, rfl, hk, fun j hj => ?_⟩
  have := hc (j + 1) (by omega)
  rw [Addr.add_lit] at this ⊢
  rw [List.getD_eq_getElem?_getD, List.getElem?_drop, Nat.add_comm 1 j, ← List.getD_eq_getElem?_getD, ← this]
  congr 2
  omega
theorem Bo.below_ {w V : World} {v : Value} {ks : List Bool} (h : Bo w w.heap.size v ks) (hb : Below w.heap.size w V) : Bo V w.heap.size v ks := h.below hb

set_option maxRecDepth 100000 in
set_option maxHeartbeats 20000000 in
theorem plays_walk (r : Int) (hr : fit64 r) (A : Option Addr) (l c : Nat) (w : World) (h : IsV w (.recs [.int .i64, .int .i64, .int .i64, .int .u8, .slice .bool]) (.slice A l c)) :
    Calls Try.prog 3 #[.int .i64 r, .slice A l c] w fun e w' => e = .returned (.bool true) ∧ Below w.heap.size w w' := by
  obtain ⟨hlen, hdeeds⟩ := IsDd.of_isv h
  have con := few_ok w A l c hlen hdeeds
  have HDS := Lib.hid hdeeds
  unfold fit64 at hr
  unfold maxLen at hlen
  clear hdeeds h
  go_enter Try.func3, Try.ntmps3
  go_wp2_with fail
  refine con.mono ?_
  clear con
  rintro e w1 ⟨b, rfl, rfl⟩
  cases b
  · go_wp2_with fail
    refine (knows_ok w).mono ?_
    rintro e w2 ⟨rfl, hb⟩
    go_wp2_with fail
    go_ret
    exact ⟨rfl, hb⟩
  by_cases hbad : r < 1 ∨ 1000 < r
  · have con := new_bad w r hbad
    go_wp2_with fail
    refine con.mono ?_
    clear con
    rintro e w2 ⟨rfl, rfl⟩
    by_cases hb1 : r < 1
    · clear hbad
      go_wp2_with fail
      refine (knows_ok w2).mono ?_
      rintro e w3 ⟨rfl, hb⟩
      go_wp2_with fail
      go_ret
      exact ⟨rfl, hb⟩
    · have hb2 : 1000 < r := by omega
      clear hbad
      go_wp2_with fail
      refine (knows_ok w2).mono ?_
      rintro e w3 ⟨rfl, hb⟩
      go_wp2_with fail
      go_ret
      exact ⟨rfl, hb⟩
  obtain ⟨rn, hrn⟩ : ∃ rn : Nat, r = (rn : Int) := ⟨r.toNat, by omega⟩
  subst hrn
  have hr1 : 1 ≤ rn := by omega
  have hr2 : rn ≤ 1000 := by omega
  have con := new_ok w w.heap.size rn (Nat.le_refl _) hr1 hr2
  clear hbad hr
  go_wp2_with fail
  refine con.mono ?_
  clear con
  rintro e w2 ⟨d, rfl, hd2, hb2⟩
  have HD2 := Lib.hid hd2
  have HB2 := Lib.hid hb2
  clear hd2 hb2
  go_wp2_with fail
  have hcw := Cel.new w2 34 [.int .i64 rn, .slice none 0 0, .slice none 0 0, .bool false, .bool false, .int .i64 0, .slice none 0 0]
  have hf0 : Fk (w2.alloc (.cells #[.int .i64 rn, .slice none 0 0, .slice none 0 0, .bool false, .bool false, .int .i64 0, .slice none 0 0] 34)) w.heap.size w2.heap.size (m0 rn) :=
    ⟨none, 0, .slice none 0 0, .slice none 0 0, 0, ⟨Inv.new rn hr1 hr2, hcw, HB2.out.size, Nat.le_refl _, Is.nil_ _ _, World.ownsRow_nil _ _ _ _, fun k ks e => by cases e⟩⟩
  have hd0 := HD2.out.below ((Below.refl _ w2).alloc (Nat.le_refl _) (.cells #[.int .i64 rn, .slice none 0 0, .slice none 0 0, .bool false, .bool false, .int .i64 0, .slice none 0 0] 34))
  have hb0 : Below w.heap.size w (w2.alloc (.cells #[.int .i64 rn, .slice none 0 0, .slice none 0 0, .bool false, .bool false, .int .i64 0, .slice none 0 0] 34)) := HB2.out.alloc HB2.out.size _
  have HF0 := Lib.hid hf0
  have HD0 := Lib.hid hd0
  have HB0 := Lib.hid hb0
  clear hcw hf0 hd0 hb0 HD2 HB2
  obtain ⟨d2, hd2⟩ : ∃ d2, d2 = w2.heap.size := ⟨_, rfl⟩
  rw [← hd2] at HF0 ⊢
  clear hd2
  generalize w2.alloc (.cells #[.int .i64 rn, .slice none 0 0, .slice none 0 0, .bool false, .bool false, .int .i64 0, .slice none 0 0] 34) = W0 at *
  go_loopw [8] (fun i wr => ∃ (k : Nat) (m : M), k ≤ l ∧ i = .int .i64 k ∧ Dk wr w.heap.size d m ∧ Fk wr w.heap.size d2 m ∧ Ok m ∧ Below w.heap.size w wr) (fun i _ => l - (Go.RowKit.intOf i).toNat)
  case atStart => exact ⟨0, m0 rn, Nat.zero_le _, rfl, HD0.out, HF0.out, (fun k ks e => by cases e), HB0.out⟩
  case round =>
    clear HD0 HF0 HB0
    obtain ⟨k, m, hk, rfl, hd, hf, hom, hbw⟩ := hrel
    by_cases hlt : k < l
    · obtain ⟨x, hA, hDD⟩ := HDS.out (by omega)
      subst hA
      obtain ⟨D, hD⟩ := hDD k hlt
      obtain ⟨c0, c1, c2, c3, c4⟩ := hD.at_ hbw
      have HINV := Lib.hid (show Inv m by obtain ⟨_, _, _, h⟩ := hd; exact h.inv)
      have HOM := Lib.hid hom
      obtain ⟨what, n, to, bb, kA, kc, ks⟩ := D
      have HFT := Lib.hid hD.fits
      have HKL := Lib.hid hD.len
      have HK0 := Lib.hid hD.keep
      have hn := hD.fits.2.1
      have hto := hD.fits.2.2
      dsimp only at c0 c1 c2 c3 c4 hn hto
      unfold fit64 at hn hto
      have hW1v := Cel.new wr 36 [.int .i64 what, .int .i64 n, .int .i64 to, .int .u8 (bb.toNat : Int), .slice kA ks.length kc]
      have hW1b : Below wr.heap.size wr (wr.alloc (.cells #[.int .i64 what, .int .i64 n, .int .i64 to, .int .u8 (bb.toNat : Int), .slice kA ks.length kc] 36)) := (Below.refl _ _).alloc (Nat.le_refl _) _
      have HV1 : Hid (Cel (wr.alloc (.cells #[.int .i64 what, .int .i64 n, .int .i64 to, .int .u8 (bb.toNat : Int), .slice kA ks.length kc] 36)) wr.heap.size 36 [.int .i64 what, .int .i64 n, .int .i64 to, .int .u8 (bb.toNat : Int), .slice kA ks.length kc]) := Lib.hid hW1v
      have HD1 := Lib.hid (hd.below hW1b)
      have HF1 := Lib.hid (hf.below hW1b)
      have HB1 := Lib.hid (hbw.trans (hW1b.mono hbw.size))
      clear hW1v hW1b hd hf hom hD hDD hbw
      by_cases h0 : what = 0
      · subst h0
        go_wp2_with fail
        generalize wr.alloc (.cells #[.int .i64 0, .int .i64 n, .int .i64 to, .int .u8 (bb.toNat : Int), .slice kA ks.length kc] 36) = W1 at *
        obtain ⟨v0, v1, v2, v3, v4⟩ := Cel.at0 HV1.out
        have con := full_ok W1 bb
        refine con.mono ?_
        clear con
        rintro e W3 ⟨rfl, hc3, hb⟩
        have HD3 := Lib.hid (HD1.out.below hb)
        have HF3 := Lib.hid (HF1.out.below hb)
        have HV3 := Lib.hid (Cel.below HV1.out hb HV1.out.lt)
        have HB3 := Lib.hid (HB1.out.trans (hb.mono HB1.out.size))
        clear hb
        obtain ⟨v0, v1, v2, v3, v4⟩ := Cel.at0 HV3.out
        have HC3 := Lib.hid hc3
        clear hc3
        have hg : W1.heap.size < W3.heap.size := HC3.out.lt
        by_cases h255 : bb = 255#8
        · subst h255
          have t255 : (((255#8).toNat : Int) == 255) = true := rfl
          have con := append_call W3 w.heap.size d m n (some ⟨W1.heap.size, 1, none⟩) 511 511 ((fullL 255#8).drop 1) HD3.out HB3.out.size (by omega) (bn_drop (full_bn HC3.out)) (fun ad e => by cases e; exact ⟨_, _, rfl⟩) (by unfold maxLen; omega)
          go_wp2_with fail
          refine con.mono ?_
          clear con t255
          rintro e W4 ⟨rfl, hd, hc⟩
          have HD4 := Lib.hid hd
          have HF4 := Lib.hid (HF3.out.dob hc)
          have HV4 := Lib.hid (Cel.chg HV3.out hc (by rintro (h | h) <;> revert h <;> decide))
          have HB4 := Lib.hid (HB3.out.trans ((hc.below HB3.out.size).mono (Nat.le_refl _)))
          have hc4 : Cel W4 W1.heap.size 5 ((fullL 255#8).map v8) := Cel.chg HC3.out hc (by rintro (h | h) <;> revert h <;> decide)
          have HC4 := Lib.hid hc4
          clear hd hc hc4
          obtain ⟨v0, v1, v2, v3, v4⟩ := Cel.at0 HV4.out
          have qs := toStr (bs_drop (full_bs HC4.out)) 511
          go_wp2_with fail
          have con := rappend_ok W4 w.heap.size d2 m n ((fullL 255#8).drop 1) HF4.out HB4.out.size (by omega) (by rw [List.length_drop, fullL_len]; unfold maxLen; omega) HOM.out
          refine con.mono ?_
          clear con
          rintro e W5 ⟨rfl, hf, hc⟩
          have HF5 := Lib.hid hf
          have HD5 := Lib.hid (HD4.out.rob hc)
          have HV5 := Lib.hid (Cel.chg HV4.out hc (by rintro (h | h) <;> revert h <;> decide))
          have HB5 := Lib.hid (HB4.out.trans ((hc.below HB4.out.size).mono (Nat.le_refl _)))
          clear hf hc
          obtain ⟨v0, v1, v2, v3, v4⟩ := Cel.at0 HV5.out
          clear qs
          have HOK := Lib.hid (ok_append HOM.out n ((fullL 255#8).drop 1))
          go_wp2_with fail
          have con := same_ok W5 w.heap.size d d2 (append m n ((fullL 255#8).drop 1)).2 HD5.out HF5.out
          refine con.mono ?_
          clear con
          rintro e W9 ⟨rfl, hb⟩
          have HD9 := Lib.hid (HD5.out.below hb)
          have HF9 := Lib.hid (HF5.out.below hb)
          have HV9 := Lib.hid (Cel.below HV5.out hb HV5.out.lt)
          have HB9 := Lib.hid (HB5.out.trans (hb.mono HB5.out.size))
          clear hb
          go_wp2_with fail
          go_roundw
          case rel => exact ⟨k + 1, (append m n ((fullL 255#8).drop 1)).2, by omega, by go_num, HD9.out, HF9.out, HOK.out, HB9.out⟩
          case measure => simp [Go.RowKit.intOf]; omega
        · have t255 : ((bb.toNat : Int) == 255) = false := by
            have h1 : bb.toNat ≠ 255 := fun h => h255 (BitVec.eq_of_toNat_eq h)
            simp
            omega
          have con := append_call W3 w.heap.size d m n (some ⟨W1.heap.size, 0, none⟩) 512 512 (fullL bb) HD3.out HB3.out.size (by omega) (full_bn HC3.out) (fun ad e => by cases e; exact ⟨_, _, rfl⟩) (by unfold maxLen; omega)
          go_wp2_with fail
          refine con.mono ?_
          clear con t255
          rintro e W4 ⟨rfl, hd, hc⟩
          have HD4 := Lib.hid hd
          have HF4 := Lib.hid (HF3.out.dob hc)
          have HV4 := Lib.hid (Cel.chg HV3.out hc (by rintro (h | h) <;> revert h <;> decide))
          have HB4 := Lib.hid (HB3.out.trans ((hc.below HB3.out.size).mono (Nat.le_refl _)))
          have hc4 : Cel W4 W1.heap.size 5 ((fullL bb).map v8) := Cel.chg HC3.out hc (by rintro (h | h) <;> revert h <;> decide)
          have HC4 := Lib.hid hc4
          clear hd hc hc4
          obtain ⟨v0, v1, v2, v3, v4⟩ := Cel.at0 HV4.out
          have qs := toStr (full_bs HC4.out) 512
          go_wp2_with fail
          have con := rappend_ok W4 w.heap.size d2 m n (fullL bb) HF4.out HB4.out.size (by omega) (by rw [fullL_len]; unfold maxLen; omega) HOM.out
          refine con.mono ?_
          clear con
          rintro e W5 ⟨rfl, hf, hc⟩
          have HF5 := Lib.hid hf
          have HD5 := Lib.hid (HD4.out.rob hc)
          have HV5 := Lib.hid (Cel.chg HV4.out hc (by rintro (h | h) <;> revert h <;> decide))
          have HB5 := Lib.hid (HB4.out.trans ((hc.below HB4.out.size).mono (Nat.le_refl _)))
          clear hf hc
          obtain ⟨v0, v1, v2, v3, v4⟩ := Cel.at0 HV5.out
          clear qs
          have HOK := Lib.hid (ok_append HOM.out n (fullL bb))
          go_wp2_with fail
          have con := same_ok W5 w.heap.size d d2 (append m n (fullL bb)).2 HD5.out HF5.out
          refine con.mono ?_
          clear con
          rintro e W9 ⟨rfl, hb⟩
          have HD9 := Lib.hid (HD5.out.below hb)
          have HF9 := Lib.hid (HF5.out.below hb)
          have HV9 := Lib.hid (Cel.below HV5.out hb HV5.out.lt)
          have HB9 := Lib.hid (HB5.out.trans (hb.mono HB5.out.size))
          clear hb
          go_wp2_with fail
          go_roundw
          case rel => exact ⟨k + 1, (append m n (fullL bb)).2, by omega, by go_num, HD9.out, HF9.out, HOK.out, HB9.out⟩
          case measure => simp [Go.RowKit.intOf]; omega
      · have t0 : (what == 0) = false := by simpa using h0
        clear h0
        by_cases h1 : what = 1
        · subst h1
          go_wp2_with fail
          generalize wr.alloc (.cells #[.int .i64 1, .int .i64 n, .int .i64 to, .int .u8 (bb.toNat : Int), .slice kA ks.length kc] 36) = W1 at *
          obtain ⟨v0, v1, v2, v3, v4⟩ := Cel.at0 HV1.out
          have con := sync_call W1 w.heap.size d m n HFT.out.2.1 HD1.out HB1.out.size
          refine con.mono ?_
          clear con
          rintro e W4 ⟨rfl, hd, hc⟩
          have HD4 := Lib.hid hd
          have HF4 := Lib.hid (HF1.out.dob hc)
          have HV4 := Lib.hid (Cel.chg HV1.out hc (by rintro (h | h) <;> revert h <;> decide))
          have HB4 := Lib.hid (HB1.out.trans ((hc.below HB1.out.size).mono (Nat.le_refl _)))
          clear hd hc
          obtain ⟨v0, v1, v2, v3, v4⟩ := Cel.at0 HV4.out
          go_wp2_with fail
          have con := rsync_ok W4 w.heap.size d2 m n HF4.out HB4.out.size HINV.out HOM.out
          refine con.mono ?_
          clear con
          rintro e W5 ⟨rfl, hf, hc⟩
          have HF5 := Lib.hid hf
          have HD5 := Lib.hid (HD4.out.rob hc)
          have HV5 := Lib.hid (Cel.chg HV4.out hc (by rintro (h | h) <;> revert h <;> decide))
          have HB5 := Lib.hid (HB4.out.trans ((hc.below HB4.out.size).mono (Nat.le_refl _)))
          clear hf hc
          obtain ⟨v0, v1, v2, v3, v4⟩ := Cel.at0 HV5.out
          have HOK := Lib.hid (ok_sync HOM.out n)
          go_wp2_with fail
          have con := same_ok W5 w.heap.size d d2 (sync m n).2 HD5.out HF5.out
          refine con.mono ?_
          clear con
          rintro e W9 ⟨rfl, hb⟩
          have HD9 := Lib.hid (HD5.out.below hb)
          have HF9 := Lib.hid (HF5.out.below hb)
          have HV9 := Lib.hid (Cel.below HV5.out hb HV5.out.lt)
          have HB9 := Lib.hid (HB5.out.trans (hb.mono HB5.out.size))
          clear hb
          go_wp2_with fail
          go_roundw
          case rel => exact ⟨k + 1, (sync m n).2, by omega, by go_num, HD9.out, HF9.out, HOK.out, HB9.out⟩
          case measure => simp [Go.RowKit.intOf]; omega
        · have t1 : (what == 1) = false := by simpa using h1
          clear h1
          by_cases h2 : what = 2
          · subst h2
            go_wp2_with fail
            generalize wr.alloc (.cells #[.int .i64 2, .int .i64 n, .int .i64 to, .int .u8 (bb.toNat : Int), .slice kA ks.length kc] 36) = W1 at *
            obtain ⟨v0, v1, v2, v3, v4⟩ := Cel.at0 HV1.out
            have con := remove_call W1 w.heap.size d m n HFT.out.2.1 HD1.out HB1.out.size
            refine con.mono ?_
            clear con
            rintro e W4 ⟨rfl, hd, hc⟩
            have HD4 := Lib.hid hd
            have HF4 := Lib.hid (HF1.out.dob hc)
            have HV4 := Lib.hid (Cel.chg HV1.out hc (by rintro (h | h) <;> revert h <;> decide))
            have HB4 := Lib.hid (HB1.out.trans ((hc.below HB1.out.size).mono (Nat.le_refl _)))
            clear hd hc
            obtain ⟨v0, v1, v2, v3, v4⟩ := Cel.at0 HV4.out
            go_wp2_with fail
            have con := rremove_ok W4 w.heap.size d2 m n HF4.out HB4.out.size HINV.out HOM.out
            refine con.mono ?_
            clear con
            rintro e W5 ⟨rfl, hf, hc⟩
            have HF5 := Lib.hid hf
            have HD5 := Lib.hid (HD4.out.rob hc)
            have HV5 := Lib.hid (Cel.chg HV4.out hc (by rintro (h | h) <;> revert h <;> decide))
            have HB5 := Lib.hid (HB4.out.trans ((hc.below HB4.out.size).mono (Nat.le_refl _)))
            clear hf hc
            obtain ⟨v0, v1, v2, v3, v4⟩ := Cel.at0 HV5.out
            have HOK := Lib.hid (ok_remove HOM.out n)
            go_wp2_with fail
            have con := same_ok W5 w.heap.size d d2 (remove m n).2 HD5.out HF5.out
            refine con.mono ?_
            clear con
            rintro e W9 ⟨rfl, hb⟩
            have HD9 := Lib.hid (HD5.out.below hb)
            have HF9 := Lib.hid (HF5.out.below hb)
            have HV9 := Lib.hid (Cel.below HV5.out hb HV5.out.lt)
            have HB9 := Lib.hid (HB5.out.trans (hb.mono HB5.out.size))
            clear hb
            go_wp2_with fail
            go_roundw
            case rel => exact ⟨k + 1, (remove m n).2, by omega, by go_num, HD9.out, HF9.out, HOK.out, HB9.out⟩
            case measure => simp [Go.RowKit.intOf]; omega
          · have t2 : (what == 2) = false := by simpa using h2
            clear h2
            by_cases h3 : what = 3
            · subst h3
              go_wp2_with fail
              generalize wr.alloc (.cells #[.int .i64 3, .int .i64 n, .int .i64 to, .int .u8 (bb.toNat : Int), .slice kA ks.length kc] 36) = W1 at *
              obtain ⟨v0, v1, v2, v3, v4⟩ := Cel.at0 HV1.out
              have con := rename_call W1 w.heap.size d m n to HFT.out.2.1 HFT.out.2.2.2 HD1.out HB1.out.size
              refine con.mono ?_
              clear con
              rintro e W4 ⟨rfl, hd, hc⟩
              have HD4 := Lib.hid hd
              have HF4 := Lib.hid (HF1.out.dob hc)
              have HV4 := Lib.hid (Cel.chg HV1.out hc (by rintro (h | h) <;> revert h <;> decide))
              have HB4 := Lib.hid (HB1.out.trans ((hc.below HB1.out.size).mono (Nat.le_refl _)))
              clear hd hc
              obtain ⟨v0, v1, v2, v3, v4⟩ := Cel.at0 HV4.out
              go_wp2_with fail
              have con := rrename_ok W4 w.heap.size d2 m n to HF4.out HB4.out.size HINV.out HFT.out.2.2.2 HOM.out
              refine con.mono ?_
              clear con
              rintro e W5 ⟨rfl, hf, hc⟩
              have HF5 := Lib.hid hf
              have HD5 := Lib.hid (HD4.out.rob hc)
              have HV5 := Lib.hid (Cel.chg HV4.out hc (by rintro (h | h) <;> revert h <;> decide))
              have HB5 := Lib.hid (HB4.out.trans ((hc.below HB4.out.size).mono (Nat.le_refl _)))
              clear hf hc
              obtain ⟨v0, v1, v2, v3, v4⟩ := Cel.at0 HV5.out
              have HOK := Lib.hid (ok_rename HOM.out n to)
              go_wp2_with fail
              have con := same_ok W5 w.heap.size d d2 (rename m n to).2 HD5.out HF5.out
              refine con.mono ?_
              clear con
              rintro e W9 ⟨rfl, hb⟩
              have HD9 := Lib.hid (HD5.out.below hb)
              have HF9 := Lib.hid (HF5.out.below hb)
              have HV9 := Lib.hid (Cel.below HV5.out hb HV5.out.lt)
              have HB9 := Lib.hid (HB5.out.trans (hb.mono HB5.out.size))
              clear hb
              go_wp2_with fail
              go_roundw
              case rel => exact ⟨k + 1, (rename m n to).2, by omega, by go_num, HD9.out, HF9.out, HOK.out, HB9.out⟩
              case measure => simp [Go.RowKit.intOf]; omega
            · have t3 : (what == 3) = false := by simpa using h3
              clear h3
              by_cases h4 : what = 4
              · subst h4
                obtain ⟨x, hx⟩ : ∃ x, x = there m n := ⟨_, rfl⟩
                have HX := Lib.hid hx
                by_cases ht : there m n = 0
                · have hoff := there_on ht
                  have hmem := there_here ht
                  go_wp2_with fail
                  generalize wr.alloc (.cells #[.int .i64 4, .int .i64 n, .int .i64 to, .int .u8 (bb.toNat : Int), .slice kA ks.length kc] 36) = W1 at *
                  obtain ⟨v0, v1, v2, v3, v4⟩ := Cel.at0 HV1.out
                  have con := read_ok W1 w.heap.size d m n HFT.out.2.1 HD1.out ht
                  refine con.mono ?_
                  clear con
                  rintro e W4 ⟨v, rfl, _, hb⟩
                  have HD4 := Lib.hid (HD1.out.below hb)
                  have HF4 := Lib.hid (HF1.out.below hb)
                  have HV4 := Lib.hid (Cel.below HV1.out hb HV1.out.lt)
                  have HB4 := Lib.hid (HB1.out.trans (hb.mono HB1.out.size))
                  clear hb
                  obtain ⟨v0, v1, v2, v3, v4⟩ := Cel.at0 HV4.out
                  obtain ⟨rA, rc, rlv, rkv, rleft, hF4⟩ := HF4.out
                  have r1 := hF4.cel.cell 1
                  have r3 := hF4.cel.cell 3
                  rw [hoff] at r3
                  have con := at_ok W4 d2 m.files n rA rc r1 hF4.files hF4.inv.few
                  have eat : atI n m.files = (m.files.idxOf n : Nat) := if_pos hmem
                  rw [eat] at con
                  clear hF4 eat r1 hoff hmem ht hx
                  go_wp2_with fail
                  refine con.mono ?_
                  clear con
                  rintro e W5 ⟨rfl, rfl⟩
                  have HOK := Lib.hid (HOM.out)
                  go_wp2_with fail
                  have con := same_ok W4 w.heap.size d d2 m HD4.out HF4.out
                  refine con.mono ?_
                  clear con
                  rintro e W9 ⟨rfl, hb⟩
                  have HD9 := Lib.hid (HD4.out.below hb)
                  have HF9 := Lib.hid (HF4.out.below hb)
                  have HV9 := Lib.hid (Cel.below HV4.out hb HV4.out.lt)
                  have HB9 := Lib.hid (HB4.out.trans (hb.mono HB4.out.size))
                  clear hb
                  go_wp2_with fail
                  go_roundw
                  case rel => exact ⟨k + 1, m, by omega, by go_num, HD9.out, HF9.out, HOK.out, HB9.out⟩
                  case measure => simp [Go.RowKit.intOf]; omega
                · have hx0 : x ≠ 0 := by rw [hx]; exact ht
                  go_wp2_with fail
                  generalize wr.alloc (.cells #[.int .i64 4, .int .i64 n, .int .i64 to, .int .u8 (bb.toNat : Int), .slice kA ks.length kc] 36) = W1 at *
                  obtain ⟨v0, v1, v2, v3, v4⟩ := Cel.at0 HV1.out
                  have con := read_not W1 w.heap.size d m n HFT.out.2.1 HD1.out ht
                  refine con.mono ?_
                  clear con
                  rintro e W5 ⟨rfl, rfl⟩
                  rw [← hx]
                  obtain ⟨rA, rc, rlv, rkv, rleft, hF4⟩ := HF1.out
                  have r1 := hF4.cel.cell 1
                  have r3 := hF4.cel.cell 3
                  have hab := there_cases ht
                  rw [← hx] at hab
                  clear hx ht hx0
                  rcases hab with ⟨hoff, h8⟩ | ⟨hoff, hmem, h4⟩
                  · rw [hoff] at r3
                    subst h8
                    clear hoff hF4 r1
                    have HOK := Lib.hid (HOM.out)
                    go_wp2_with fail
                    have con := same_ok W1 w.heap.size d d2 m HD1.out HF1.out
                    refine con.mono ?_
                    clear con
                    rintro e W9 ⟨rfl, hb⟩
                    have HD9 := Lib.hid (HD1.out.below hb)
                    have HF9 := Lib.hid (HF1.out.below hb)
                    have HV9 := Lib.hid (Cel.below HV1.out hb HV1.out.lt)
                    have HB9 := Lib.hid (HB1.out.trans (hb.mono HB1.out.size))
                    clear hb
                    go_wp2_with fail
                    go_roundw
                    case rel => exact ⟨k + 1, m, by omega, by go_num, HD9.out, HF9.out, HOK.out, HB9.out⟩
                    case measure => simp [Go.RowKit.intOf]; omega
                  · rw [hoff] at r3
                    subst h4
                    have con := at_ok W1 d2 m.files n rA rc r1 hF4.files hF4.inv.few
                    have eat : atI n m.files = -1 := if_neg hmem
                    rw [eat] at con
                    clear hoff hF4 r1 eat hmem
                    go_wp2_with fail
                    refine con.mono ?_
                    clear con
                    rintro e W5 ⟨rfl, rfl⟩
                    have HOK := Lib.hid (HOM.out)
                    go_wp2_with fail
                    have con := same_ok W1 w.heap.size d d2 m HD1.out HF1.out
                    refine con.mono ?_
                    clear con
                    rintro e W9 ⟨rfl, hb⟩
                    have HD9 := Lib.hid (HD1.out.below hb)
                    have HF9 := Lib.hid (HF1.out.below hb)
                    have HV9 := Lib.hid (Cel.below HV1.out hb HV1.out.lt)
                    have HB9 := Lib.hid (HB1.out.trans (hb.mono HB1.out.size))
                    clear hb
                    go_wp2_with fail
                    go_roundw
                    case rel => exact ⟨k + 1, m, by omega, by go_num, HD9.out, HF9.out, HOK.out, HB9.out⟩
                    case measure => simp [Go.RowKit.intOf]; omega
              · have t4 : (what == 4) = false := by simpa using h4
                clear h4
                by_cases h5 : what = 5
                · subst h5
                  go_wp2_with fail
                  generalize wr.alloc (.cells #[.int .i64 5, .int .i64 n, .int .i64 to, .int .u8 (bb.toNat : Int), .slice kA ks.length kc] 36) = W1 at *
                  obtain ⟨v0, v1, v2, v3, v4⟩ := Cel.at0 HV1.out
                  have HK1 := Lib.hid (HK0.out.below HB1.out)
                  have con := fail_call W1 w.heap.size d m to HFT.out.2.2.2 (.slice kA ks.length kc) ks HD1.out HK1.out HB1.out.size HKL.out
                  refine con.mono ?_
                  clear con
                  rintro e W4 ⟨rfl, hd, hc⟩
                  have HD4 := Lib.hid hd
                  have HF4 := Lib.hid (HF1.out.dob hc)
                  have HV4 := Lib.hid (Cel.chg HV1.out hc (by rintro (h | h) <;> revert h <;> decide))
                  have HB4 := Lib.hid (HB1.out.trans ((hc.below HB1.out.size).mono (Nat.le_refl _)))
                  clear hd hc
                  obtain ⟨v0, v1, v2, v3, v4⟩ := Cel.at0 HV4.out
                  go_wp2_with fail
                  have HK4 := Lib.hid (HK0.out.below HB4.out)
                  have con := rfail_ok W4 w.heap.size d2 m to HFT.out.2.2.2 (.slice kA ks.length kc) ks HF4.out HK4.out
                  refine con.mono ?_
                  clear con
                  rintro e W5 ⟨rfl, hf, hc⟩
                  have HF5 := Lib.hid hf
                  have HD5 := Lib.hid (HD4.out.rob hc)
                  have HV5 := Lib.hid (Cel.chg HV4.out hc (by rintro (h | h) <;> revert h <;> decide))
                  have HB5 := Lib.hid (HB4.out.trans ((hc.below HB4.out.size).mono (Nat.le_refl _)))
                  clear hf hc
                  have HOK := Lib.hid (ok_fail HOM.out to HKL.out)
                  go_wp2_with fail
                  have con := same_ok W5 w.heap.size d d2 (fail m to ks) HD5.out HF5.out
                  refine con.mono ?_
                  clear con
                  rintro e W9 ⟨rfl, hb⟩
                  have HD9 := Lib.hid (HD5.out.below hb)
                  have HF9 := Lib.hid (HF5.out.below hb)
                  have HV9 := Lib.hid (Cel.below HV5.out hb HV5.out.lt)
                  have HB9 := Lib.hid (HB5.out.trans (hb.mono HB5.out.size))
                  clear hb
                  go_wp2_with fail
                  go_roundw
                  case rel => exact ⟨k + 1, (fail m to ks), by omega, by go_num, HD9.out, HF9.out, HOK.out, HB9.out⟩
                  case measure => simp [Go.RowKit.intOf]; omega
                · have t5 : (what == 5) = false := by simpa using h5
                  clear h5
                  by_cases h6 : what = 6
                  · subst h6
                    go_wp2_with fail
                    generalize wr.alloc (.cells #[.int .i64 6, .int .i64 n, .int .i64 to, .int .u8 (bb.toNat : Int), .slice kA ks.length kc] 36) = W1 at *
                    obtain ⟨v0, v1, v2, v3, v4⟩ := Cel.at0 HV1.out
                    have HK1 := Lib.hid (HK0.out.below HB1.out)
                    have con := crash_call W1 w.heap.size d m (.slice kA ks.length kc) ks HD1.out HK1.out HB1.out.size HKL.out
                    refine con.mono ?_
                    clear con
                    rintro e W4 ⟨rfl, hd, hc⟩
                    have HD4 := Lib.hid hd
                    have HF4 := Lib.hid (HF1.out.dob hc)
                    have HV4 := Lib.hid (Cel.chg HV1.out hc (by rintro (h | h) <;> revert h <;> decide))
                    have HB4 := Lib.hid (HB1.out.trans ((hc.below HB1.out.size).mono (Nat.le_refl _)))
                    clear hd hc
                    obtain ⟨v0, v1, v2, v3, v4⟩ := Cel.at0 HV4.out
                    go_wp2_with fail
                    have HK4 := Lib.hid (HK0.out.below HB4.out)
                    have con := rcrash_ok W4 w.heap.size d2 m (.slice kA ks.length kc) ks HF4.out HB4.out.size HK4.out HKL.out
                    refine con.mono ?_
                    clear con
                    rintro e W5 ⟨rfl, hf, hc⟩
                    have HF5 := Lib.hid hf
                    have HD5 := Lib.hid (HD4.out.rob hc)
                    have HV5 := Lib.hid (Cel.chg HV4.out hc (by rintro (h | h) <;> revert h <;> decide))
                    have HB5 := Lib.hid (HB4.out.trans ((hc.below HB4.out.size).mono (Nat.le_refl _)))
                    clear hf hc
                    have HOK := Lib.hid (ok_crash HOM.out ks)
                    go_wp2_with fail
                    have con := same_ok W5 w.heap.size d d2 (crash m ks) HD5.out HF5.out
                    refine con.mono ?_
                    clear con
                    rintro e W9 ⟨rfl, hb⟩
                    have HD9 := Lib.hid (HD5.out.below hb)
                    have HF9 := Lib.hid (HF5.out.below hb)
                    have HV9 := Lib.hid (Cel.below HV5.out hb HV5.out.lt)
                    have HB9 := Lib.hid (HB5.out.trans (hb.mono HB5.out.size))
                    clear hb
                    go_wp2_with fail
                    go_roundw
                    case rel => exact ⟨k + 1, (crash m ks), by omega, by go_num, HD9.out, HF9.out, HOK.out, HB9.out⟩
                    case measure => simp [Go.RowKit.intOf]; omega
                  · have t6 : (what == 6) = false := by simpa using h6
                    clear h6
                    by_cases h7 : what = 7
                    · subst h7
                      go_wp2_with fail
                      generalize wr.alloc (.cells #[.int .i64 7, .int .i64 n, .int .i64 to, .int .u8 (bb.toNat : Int), .slice kA ks.length kc] 36) = W1 at *
                      obtain ⟨v0, v1, v2, v3, v4⟩ := Cel.at0 HV1.out
                      have HK1 := Lib.hid (HK0.out.below HB1.out)
                      have con := up_call W1 w.heap.size d m HD1.out
                      refine con.mono ?_
                      clear con
                      rintro e W4 ⟨rfl, hd, hc⟩
                      have HD4 := Lib.hid hd
                      have HF4 := Lib.hid (HF1.out.dob hc)
                      have HV4 := Lib.hid (Cel.chg HV1.out hc (by rintro (h | h) <;> revert h <;> decide))
                      have HB4 := Lib.hid (HB1.out.trans ((hc.below HB1.out.size).mono (Nat.le_refl _)))
                      clear hd hc
                      obtain ⟨v0, v1, v2, v3, v4⟩ := Cel.at0 HV4.out
                      go_wp2_with fail
                      have HK4 := Lib.hid (HK0.out.below HB4.out)
                      have con := rup_ok W4 w.heap.size d2 m HF4.out
                      refine con.mono ?_
                      clear con
                      rintro e W5 ⟨rfl, hf, hc⟩
                      have HF5 := Lib.hid hf
                      have HD5 := Lib.hid (HD4.out.rob hc)
                      have HV5 := Lib.hid (Cel.chg HV4.out hc (by rintro (h | h) <;> revert h <;> decide))
                      have HB5 := Lib.hid (HB4.out.trans ((hc.below HB4.out.size).mono (Nat.le_refl _)))
                      clear hf hc
                      have HOK := Lib.hid (ok_up HOM.out)
                      go_wp2_with fail
                      have con := same_ok W5 w.heap.size d d2 (up m) HD5.out HF5.out
                      refine con.mono ?_
                      clear con
                      rintro e W9 ⟨rfl, hb⟩
                      have HD9 := Lib.hid (HD5.out.below hb)
                      have HF9 := Lib.hid (HF5.out.below hb)
                      have HV9 := Lib.hid (Cel.below HV5.out hb HV5.out.lt)
                      have HB9 := Lib.hid (HB5.out.trans (hb.mono HB5.out.size))
                      clear hb
                      go_wp2_with fail
                      go_roundw
                      case rel => exact ⟨k + 1, (up m), by omega, by go_num, HD9.out, HF9.out, HOK.out, HB9.out⟩
                      case measure => simp [Go.RowKit.intOf]; omega
                    · have t7 : (what == 7) = false := by simpa using h7
                      clear h7
                      have HOK := Lib.hid (HOM.out)
                      go_wp2_with fail
                      generalize wr.alloc (.cells #[.int .i64 what, .int .i64 n, .int .i64 to, .int .u8 (bb.toNat : Int), .slice kA ks.length kc] 36) = W1 at *
                      obtain ⟨v0, v1, v2, v3, v4⟩ := Cel.at0 HV1.out
                      have con := same_ok W1 w.heap.size d d2 m HD1.out HF1.out
                      refine con.mono ?_
                      clear con
                      rintro e W9 ⟨rfl, hb⟩
                      have HD9 := Lib.hid (HD1.out.below hb)
                      have HF9 := Lib.hid (HF1.out.below hb)
                      have HV9 := Lib.hid (Cel.below HV1.out hb HV1.out.lt)
                      have HB9 := Lib.hid (HB1.out.trans (hb.mono HB1.out.size))
                      clear hb
                      go_wp2_with fail
                      go_roundw
                      case rel => exact ⟨k + 1, m, by omega, by go_num, HD9.out, HF9.out, HOK.out, HB9.out⟩
                      case measure => simp [Go.RowKit.intOf]; omega
    · obtain rfl : k = l := by omega
      have HBW := Lib.hid hbw
      clear hd hf hom hbw hk
      go_wp2_with fail
      refine (knows_ok wr).mono ?_
      rintro e w3 ⟨rfl, hb3⟩
      go_wp2_with fail
      go_ret
      exact ⟨rfl, HBW.out.trans (hb3.mono HBW.out.size)⟩
end Go.Proofs.Ytkoaelpmknaakaa.Disk
