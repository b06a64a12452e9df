/-
  The law SegmentKeeps walked.
-/
import Derived.Test.YtbomgglmplecpaaMSegKnows
import Derived.Test.YtbomgglmplecpaaMDiskOpen
namespace Go.Proofs.Ytbomgglmplecpaa.Segm
open Go.RowKit
open Go.Proofs.Ytbomgglmplecpaa.Frag (Ri Rd used grp)
open Go.Proofs.Ytbomgglmplecpaa.Disk (M Sc Dk Rs Bo Chg Dob rows zeros there)
set_option linter.unusedVariables false
set_option linter.unusedSimpArgs false

theorem sob_bool (cs : Array Value) (fz : Nat × Nat) : ¬ Sob (.cells cs 4 fz) := by rintro (h | h | h) <;> revert h <;> decide

/-- Where the law is, once k records were appended, the first n of them synced. -/
structure Kp (w : World) (d s : Nat) (ep : BitVec 32) (rs : List (List (BitVec 8))) (n k : Nat) (us vs : List (List (BitVec 8))) (wr : World) : Prop where
  disk : Dk wr w.heap.size d (KM 200 2 us vs)
  seg : Sg wr s d ⟨2, ep, (secsAll ep (rs.take k)).length, false⟩
  all : us ++ vs = secsAll ep (rs.take k)
  syn : us = if n ≤ k then secsAll ep (rs.take n) else []
  chg : Chg w.heap.size Sob w wr
  short : ∀ b ∈ rs.take k, b.length ≤ 1200
theorem pieces_take (rs : List (List (BitVec 8))) (k : Nat) (b : List (BitVec 8)) (h : rs[k]? = some b) : rs.take (k + 1) = rs.take k ++ [b] := by
  rw [List.take_add_one, h]; rfl
theorem secs_few (ep : BitVec 32) (rs : List (List (BitVec 8))) (k : Nat) (hk : k ≤ 20) (h : ∀ b ∈ rs.take k, b.length ≤ 1200) : (secsAll ep (rs.take k)).length ≤ 60 := by
  rw [secsAll_len]
  have h1 := pieces_few _ h
  have h2 : (rs.take k).length ≤ k := List.length_take_le _ _
  omega
theorem secs_pos (ep : BitVec 32) (rs : List (List (BitVec 8))) (h : 0 < rs.length) : 0 < (secsAll ep rs).length := by
  rw [secsAll_len]
  cases rs with
  | nil => simp at h
  | cons b rs =>
    have e : pieces (b :: rs) = Frag.pcs 1 b ++ pieces rs := rfl
    rw [e, List.length_append]
    have := Frag.pcs_length_pos 1 b
    omega
/-- What is read at the end. -/
theorem keeps_read (ep : BitVec 32) (rs us vs : List (List (BitVec 8))) (n : Nat) (hn : n ≤ rs.length) (hall : us ++ vs = secsAll ep rs) (hus : us = secsAll ep (rs.take n)) (keep : List Bool) (L : List (List (BitVec 8))) (hL : L = (rows 2 (KZ 200 2 us vs keep).l).map Sc.b) :
    ∃ r, n ≤ r ∧ r ≤ rs.length ∧ scanRecs ep L = rs.take r := by
  obtain ⟨h1, h2⟩ := kz_rows 200 2 us vs keep
  rw [← hL] at h1 h2
  refine read_back ep rs n hn L ?_ ?_
  · rw [h1, ← List.length_append, hall, secsAll, List.length_map]
  · intro i p hp
    have hip : (us ++ vs)[i]? = some (secP p) := by rw [hall, secsAll, List.getElem?_map, hp]; rfl
    rcases h2 i _ hip with h | ⟨h3, h4⟩
    · exact .inl h
    · exact .inr ⟨by rw [hus, secsAll_len] at h3; exact h3, h4⟩
theorem used_le (ep : BitVec 32) (L : List (List (BitVec 8))) : scanUsed ep L ≤ L.length := Nat.le_trans (Frag.used_grp _) (leads_le ep 0 L)
theorem Rd_take {w : World} {B n : Nat} {A : Option Addr} {rs : List (List (BitVec 8))} (h : Rd w B A n rs) {r : Nat} (hr : r ≤ n) : Rd w B A r (rs.take r) := by
  refine ⟨by rw [List.length_take, h.len]; omega, fun i b hi => ?_⟩
  rw [List.getElem?_take] at hi
  split at hi
  · exact h.at_ i b hi
  · cases hi

/-- Read of a disk whose power is on: what the file has, whether it is there or not. -/
theorem read_any (w : World) (B d : Nat) (m : Disk.M) (f : Int) (hf : -9223372036854775808 ≤ f ∧ f < 9223372036854775808) (h : Dk w B d m) (ho : m.off = false) :
    Calls Try.prog 12 #[.pointer (some ⟨d, 0, none⟩), .int .i64 f] w fun r w' => ∃ A c e, r = .returned (.tuple #[.slice A ((rows f m.l).map Sc.b).length c, .int .i64 e]) ∧ Rd w' w'.heap.size A ((rows f m.l).map Sc.b).length ((rows f m.l).map Sc.b) ∧ (∀ b ∈ (rows f m.l).map Sc.b, b.length ≤ maxLen) ∧ Below w.heap.size w w' := by
  have h512 : ∀ b ∈ (rows f m.l).map Sc.b, b.length ≤ maxLen := by
    obtain ⟨b, vs, kv, h⟩ := h
    intro x hx
    obtain ⟨y, hy, rfl⟩ := List.mem_map.1 hx
    rw [h.inv.r512 f y hy]
    decide
  by_cases ht : there m f = 0
  · refine (Disk.read_ok w B d m f hf h ht).mono ?_
    rintro r w' ⟨v, rfl, hr, hb⟩
    obtain ⟨A, c, rfl, _, _⟩ := Rs.form hr
    exact ⟨A, c, 0, rfl, Rs.rd hr, h512, hb⟩
  · have hn : (rows f m.l) = [] := by
      obtain ⟨b, vs, kv, h⟩ := h
      refine h.inv.none_ fun hm => ht ?_
      unfold there
      rw [ho, if_neg (by simp), if_pos hm]
    refine (Disk.read_not w B d m f hf h ht).mono ?_
    rintro r w' ⟨rfl, rfl⟩
    rw [hn]
    exact ⟨none, 0, _, rfl, ⟨rfl, by simp⟩, by simp, Below.refl _ _⟩

set_option maxRecDepth 100000 in
set_option maxHeartbeats 1000000 in
theorem keeps_know (A : Option Addr) (n c : Nat) (sy : BitVec 8) (kA : Option Addr) (kn kc : Nat) (ep : BitVec 32) (w : World) (hn : n ≤ maxLen) (hkn : kn ≤ maxLen) (h : 20 < n ∨ 100 < kn) :
    Calls Try.prog 3 #[.slice A n c, v8 sy, .slice kA kn kc, v32 ep] w fun r w' => r = .returned (.bool true) ∧ Below w.heap.size w w' := by
  unfold maxLen at hn hkn
  by_cases h1 : 20 < n
  · clear h
    go_enter Try.func3, Try.ntmps3
    go_wp2_with fail
    refine (knows _).mono ?_
    rintro r w1 ⟨rfl, hb1⟩
    go_wp2_with fail
    go_ret
    exact ⟨rfl, hb1⟩
  · have h2 : 100 < kn := by omega
    clear h
    go_enter Try.func3, Try.ntmps3
    go_wp2_with fail
    refine (knows _).mono ?_
    rintro r w1 ⟨rfl, hb1⟩
    go_wp2_with fail
    go_ret
    exact ⟨rfl, hb1⟩

set_option maxRecDepth 100000 in
set_option maxHeartbeats 2000000 in
theorem keeps_yes (A : Option Addr) (n c : Nat) (sy : BitVec 8) (kA : Option Addr) (kn kc : Nat) (ep : BitVec 32) (rs : List Frag.Rv) (ks : List Bool) (w : World) (hl : Ri w A n rs) (hk : Bo w w.heap.size (.slice kA kn kc) ks) (hkl : ks.length = kn) (hn : n ≤ 20) (hkn : kn ≤ 100) (hnc : n ≤ c) (hcm : c ≤ maxLen) :
    Calls Try.prog 3 #[.slice A n c, v8 sy, .slice kA kn kc, v32 ep] w fun r w' => r = .returned (.bool true) ∧ Below w.heap.size w w' := by
  unfold maxLen at hcm
  have HL := Lib.hid hl
  have HK := Lib.hid hk
  have HKL := Lib.hid hkl
  clear hl hk hkl
  obtain ⟨qs, hqs⟩ : ∃ qs, qs = rs.map (·.bs) := ⟨_, rfl⟩
  have HQ := Lib.hid hqs
  have hql : qs.length = n := by rw [hqs, List.length_map, HL.out.len]
  have HQL := Lib.hid hql
  clear hqs hql
  obtain ⟨m, hm, hmn⟩ : ∃ m : Nat, (sy.toNat : Int) % ((n : Int) + 1) = (m : Int) ∧ m ≤ n := ⟨sy.toNat % (n + 1), by simp, Nat.le_of_lt_succ (Nat.mod_lt sy.toNat (Nat.succ_pos n))⟩
  have HME := Lib.hid hm
  clear hm
  have dn1 : (((n : Int) + 1) == 0) = false := beq_eq_false_iff_ne.2 (by omega)
  go_enter Try.func3, Try.ntmps3
  go_wp2_with fail
  refine (Disk.new_ok w w.heap.size 200 (Nat.le_refl _) (by omega) (by omega)).mono ?_
  rintro r w1 ⟨d, rfl, hd1, hb1⟩
  have hz1 := hb1.size
  have HD1 := Lib.hid hd1
  have HC1 := Lib.hid (Chg.of_below (B := w.heap.size) (T := Sob) hb1)
  clear hd1 hb1
  go_wp2_with fail
  have con := begin_seg w1 w.heap.size d ⟨200, [], [], false, none⟩ 2 ep HD1.out hz1 (by decide)
  rw [begin_km 200 2 (by decide)] at con
  refine con.mono ?_
  clear con
  rintro r w2 hbd
  obtain ⟨s, hs, rfl, hd2, hg2, hc2⟩ := hbd.1 rfl
  have hsw : w.heap.size ≤ s := by omega
  have hK0 : Kp w d s ep qs m 0 [] [] w2 := ⟨hd2, hg2, rfl, by
    by_cases hm0 : m ≤ 0
    · obtain rfl : m = 0 := by omega
      rfl
    · rw [if_neg hm0], HC1.out.trans (hc2.mono (Nat.le_refl _) dob_sob), by simp⟩
  have HK0 := Lib.hid hK0
  clear hd2 hg2 hc2 hbd hK0 hs hz1
  go_wp2_with fail
  rw [HME.out]
  clear dn1
  go_loopw [14] (fun i wr => ∃ k : Nat, k ≤ n ∧ i = .int .i64 (k : Int) ∧ ∃ us vs, Kp w d s ep qs m k us vs wr) (fun i _ => n - (intOf i).toNat)
  case atStart => exact ⟨0, Nat.zero_le _, rfl, [], [], HK0.out⟩
  case round =>
    obtain ⟨k, hk, rfl, us, vs, hP⟩ := hrel
    have HP := Lib.hid hP
    have hbel : Below w.heap.size w wr := hP.chg.below (Nat.le_refl _)
    have sb := hbel.size
    have HBEL := Lib.hid hbel
    clear hP hbel
    by_cases hlt : k < n
    · obtain ⟨x, hx⟩ : ∃ x, rs[k]? = some x := ⟨_, List.getElem?_eq_getElem (by rw [HL.out.len]; exact hlt)⟩
      obtain ⟨ad, rfl, hadl, hcell, hxb, hxc1, hxc2⟩ := HL.out.at_ k x hx
      have hcr : wr.cell? (ad.add k) = some (.slice x.A x.bs.length x.c) := (HBEL.out.cell (by rw [add_block]; exact hadl)).trans hcell
      have HXB := Lib.hid ((hxb.below HBEL.out).more HBEL.out.size)
      have HC2 := Lib.hid hxc2
      have hxcm : x.bs.length ≤ 9223372036854775807 := by unfold maxLen at hxc2; omega
      have hqk : qs[k]? = some x.bs := by rw [HQ.out, List.getElem?_map, hx]; rfl
      have HQK := Lib.hid hqk
      clear hcell hxb hadl hx hxc2 hqk
      obtain ⟨xbs, xA, xc⟩ := x
      dsimp only at *
      generalize hxl : xbs.length = xn at *
      have HXL := Lib.hid hxl
      clear hxl
      by_cases hlong : 1200 < xn
      · go_wp2_with fail
        refine (knows _).mono ?_
        rintro r w3 ⟨rfl, hb3⟩
        go_wp2_with fail
        go_ret
        exact ⟨rfl, HBEL.out.trans (hb3.mono sb)⟩
      · have htk := pieces_take qs k xbs HQK.out
        have hsh : ∀ b ∈ qs.take (k + 1), b.length ≤ 1200 := by
          intro b hb
          rw [htk] at hb
          rcases List.mem_append.1 hb with hb | hb
          · exact HP.out.short b hb
          · rw [List.mem_singleton.1 hb, HXL.out]; omega
        have hfew := secs_few ep qs (k + 1) (by omega) hsh
        have hfew0 := secs_few ep qs k (by omega) HP.out.short
        obtain ⟨ws, h1, h2⟩ := append_rec (r := 200) (f := 2) (ep := ep) (us := us) (vs := vs) (rs := qs.take k) xbs (by decide) HP.out.all (by rw [HXL.out]; omega) (by rw [← htk]; omega) (by rw [← htk]; omega)
        rw [← htk] at h1 h2
        have con := append_seg wr w.heap.size s d _ _ xA xn xc xbs HP.out.disk HP.out.seg sb hsw (by dsimp only; omega) (by dsimp only; omega) HXB.out hxc1 HC2.out
        rw [h2] at con
        have HCON := Lib.hid con
        have HSH := Lib.hid hsh
        have HALL := Lib.hid h1
        clear con h1 h2 htk hsh
        go_wp2_with fail
        refine HCON.out.mono ?_
        clear HCON
        rintro r w3 ⟨rfl, hd3, hg3, hc3⟩
        have HD3 := Lib.hid hd3
        have HG3 := Lib.hid hg3
        have HC3 := Lib.hid (HP.out.chg.trans hc3)
        clear hd3 hg3 hc3
        by_cases hkm : k + 1 = m
        · have hI : ((k : Int) + 1 == (m : Int)) = true := by rw [beq_iff_eq]; omega
          have hpos := secs_pos ep (qs.take (k + 1)) (by rw [List.length_take, HQL.out]; omega)
          have hlen : (secsAll ep (qs.take (k + 1))).length = us.length + (vs ++ ws).length := by rw [← HALL.out, List.length_append]
          have con := sync_seg w3 w.heap.size s d _ _ HD3.out HG3.out HC3.out.size hsw ⟨by dsimp only; omega, by dsimp only; omega⟩
          rw [sync_rec _ hlen hpos] at con
          have HCON := Lib.hid con
          clear con hpos hlen
          go_wp2_with (go_at_call 9; refine HCON.out.mono ?_; rintro r w4 ⟨rfl, hd4, hg4, hc4⟩)
          go_roundw
          case rel =>
            refine ⟨k + 1, by omega, by go_num, us ++ (vs ++ ws), [], hd4, hg4, by rw [List.append_nil]; exact HALL.out, ?_, HC3.out.trans hc4, HSH.out⟩
            rw [if_pos (by omega), ← hkm]
            exact HALL.out
          case measure => simp [intOf]; omega
        · have hI : ((k : Int) + 1 == (m : Int)) = false := by rw [beq_eq_false_iff_ne]; omega
          go_wp2_with fail
          go_roundw
          case rel =>
            refine ⟨k + 1, by omega, by go_num, us, vs ++ ws, HD3.out, HG3.out, HALL.out, ?_, HC3.out, HSH.out⟩
            rw [HP.out.syn]
            by_cases hmk : m ≤ k
            · rw [if_pos hmk, if_pos (by omega)]
            · rw [if_neg hmk, if_neg (by omega)]
          case measure => simp [intOf]; omega
    · obtain rfl : k = n := by omega
      have htk : qs.take k = qs := List.take_of_length_le (by rw [HQL.out]; exact Nat.le_refl _)
      have hall : us ++ vs = secsAll ep qs := by have := HP.out.all; rwa [htk] at this
      have hus : us = secsAll ep (qs.take m) := by have := HP.out.syn; rwa [if_pos hmn] at this
      have hfew := secs_few ep qs k hn HP.out.short
      rw [htk, ← hall, List.length_append] at hfew
      obtain ⟨L, hLe⟩ : ∃ L, L = (rows 2 (KZ 200 2 us vs ks).l).map Sc.b := ⟨_, rfl⟩
      have hLlen : L.length = us.length + vs.length := by rw [hLe]; exact (kz_rows 200 2 us vs ks).1
      obtain ⟨r, hr1, hr2, hr3⟩ := keeps_read ep qs us vs m (by rw [HQL.out]; exact hmn) hall hus ks L hLe
      have hul := used_le ep L
      have con := Disk.crash_call wr w.heap.size d _ (.slice kA kn kc) ks HP.out.disk (HK.out.chg HP.out.chg sob_bool) sb (by rw [HKL.out]; unfold maxLen; omega)
      have HLE := Lib.hid hLe
      have HR3 := Lib.hid hr3
      have hLm : L.length ≤ 60 := by omega
      rw [HQL.out] at hr2
      clear htk hall hus hfew hLe hr3 hLlen
      go_wp2_with fail
      refine con.mono ?_
      clear con
      rintro e w3 ⟨rfl, hd3, hc3⟩
      have HC3 := Lib.hid (HP.out.chg.trans (hc3.mono (Nat.le_refl _) dob_sob))
      have con := Disk.up_call w3 w.heap.size d _ hd3
      clear hd3 hc3
      go_wp2_with fail
      refine con.mono ?_
      clear con
      rintro e w4 ⟨rfl, hd4, hc4⟩
      have HC4 := Lib.hid (HC3.out.trans (hc4.mono (Nat.le_refl _) dob_sob))
      have con := read_any w4 w.heap.size d (KZ 200 2 us vs ks) 2 ⟨by omega, by omega⟩ hd4 rfl
      rw [← HLE.out] at con
      clear hd4 hc4
      go_wp2_with fail
      refine con.mono ?_
      clear con
      rintro e w5 ⟨A5, c5, x5, rfl, hr5, hm5, hb5⟩
      have con := scan_call A5 L.length c5 ep L w5 hr5 hm5 (by omega)
      have HC5 := Lib.hid (HC4.out.trans (Chg.of_below hb5))
      clear hr5 hm5 hb5
      generalize scanUsed ep L = ul at *
      generalize hll : L.length = ll at *
      go_wp2_with fail
      refine con.mono ?_
      clear con
      rintro e w6 ⟨A6, c6, ms, rfl, hms, ho6, hby6, hb6⟩
      have hml : ms.length = r := by
        have := congrArg List.length hms
        rw [HR3.out, List.length_map, List.length_take, HQL.out] at this
        omega
      have hC6 := HC5.out.trans (Chg.of_below hb6)
      have hB6 : Below w.heap.size w w6 := hC6.below (Nat.le_refl _)
      have h1 := Frag.Rd.of_own ho6 hby6
      rw [hms, HR3.out, hml] at h1
      have h2 := Rd_take ((HL.out.rd.below hB6).more hB6.size) hr2
      rw [← HQ.out] at h2
      have H1 := Lib.hid h1
      have H2 := Lib.hid h2
      have HB6 := Lib.hid hB6
      rw [hml]
      clear hms ho6 hby6 hb6 h1 h2 hB6 hC6 hml
      go_wp2_with fail
      refine (Frag.refSame A6 A r c6 c (qs.take r) w6.heap.size _ H1.out H2.out (Nat.le_refl _) (by omega)).mono ?_
      rintro e w7 ⟨rfl, hb7⟩
      have HB7 := Lib.hid (HB6.out.trans (hb7.mono HB6.out.size))
      clear hb7
      go_wp2_with fail
      refine (knows _).mono ?_
      rintro e w8 ⟨rfl, hb8⟩
      go_wp2_with fail
      go_ret
      exact ⟨rfl, HB7.out.trans (hb8.mono HB7.out.size)⟩

theorem keeps_walk (A : Option Addr) (n c : Nat) (sy : BitVec 8) (kA : Option Addr) (kn kc : Nat) (ep : BitVec 32) (rs : List Frag.Rv) (ks : List Bool) (w : World) (hl : Ri w A n rs) (hk : Bo w w.heap.size (.slice kA kn kc) ks) (hkl : ks.length = kn) (hkm : kn ≤ maxLen) (hnc : n ≤ c) (hc : c ≤ maxLen) :
    Calls Try.prog 3 #[.slice A n c, v8 sy, .slice kA kn kc, v32 ep] w fun r w' => r = .returned (.bool true) ∧ Below w.heap.size w w' := by
  by_cases h : 20 < n ∨ 100 < kn
  · exact keeps_know A n c sy kA kn kc ep w (by omega) hkm h
  · exact keeps_yes A n c sy kA kn kc ep rs ks w hl hk hkl (by omega) (by omega) hnc hc
end Go.Proofs.Ytbomgglmplecpaa.Segm
