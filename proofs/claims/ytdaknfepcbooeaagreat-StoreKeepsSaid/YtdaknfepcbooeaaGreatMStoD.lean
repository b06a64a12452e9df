/-
  What davitlaw07.knows comes to: true.
  Rows of records, as the law holds them; whether two of them are the same.
-/
import Derived.Test.YtdaknfepcbooeaaGreatMStoA
import Derived.Test.YtdaknfepcbooeaaGreatMStoB
import Derived.Test.YtdaknfepcbooeaaGreatMStoLaw
import Derived.Test.YtdaknfepcbooeaaGreatMBaseB
section
namespace Go.Proofs.YtdaknfepcbooeaaGreat.Sto
open Go.RowKit
open Go.Proofs.YtdaknfepcbooeaaGreat.Disk (M Sc Dk Rs Bo Chg Dob rows there up crash lost Ok Inv)
open Go.Proofs.YtdaknfepcbooeaaGreat.Segm (Gm Sg Sob secsAll)
open Go.Proofs.YtdaknfepcbooeaaGreat.Frag (Rd Rv)
set_option linter.unusedVariables false
set_option linter.unusedSimpArgs false

theorem begin_ep {m : M} {s : St} {b : List (BitVec 8)} (h : (beginT m s b).1 = 0) : (beginT m s b).2.2.ep = s.ep + 1#32 := by
  unfold beginT at *
  split
  · next h1 => rw [if_pos h1] at h; exact absurd h (show ¬ (8 : Int) = 0 by decide)
  · next h1 =>
    rw [if_neg h1] at h
    split
    · next h2 => rw [if_pos h2] at h; exact absurd h (show ¬ (3 : Int) = 0 by decide)
    · next h2 =>
      rw [if_neg h2] at h
      split
      · rfl
      · next h3 => rw [if_neg h3] at h; exact absurd h h3
theorem append_ep (m : M) (s : St) (b : List (BitVec 8)) : (appendT m s b).2.2.ep = s.ep := by
  unfold appendT
  split
  · rfl
  · split
    · rfl
    · split <;> rfl
/-- What a store's segment is like. -/
theorem J.seg {p : Bool} {R : Nat} {keep : List Bool} {k : Nat} {m : M} {s : St} {rs : List (List (BitVec 8))} {n : Nat} (h : J p R keep k m s rs n) : ∀ g, s.g = some g → g.ep = s.ep ∧ g.file = fileOf s.ep ∧ g.size ≤ 6 * k := by
  intro g hg
  by_cases he : s.ep = 0#32
  · rw [(h.zero he).1] at hg; cases hg
  · obtain ⟨h1, _, _, vs, h2, h3⟩ := h.pos he
    rw [h1] at hg
    cases hg
    refine ⟨rfl, rfl, ?_⟩
    show (secsAll s.ep rs).length ≤ _
    have h4 := congrArg List.length h2
    have h5 := congrArg List.length h3
    have h6 := Disk.rows_len (fileOf s.ep) m.l
    have h7 := h.on.few
    rw [List.length_append] at h4 h5
    simp only [Segm.ks, List.length_map] at h4
    omega
theorem J.ok_ {p : Bool} {R : Nat} {keep : List Bool} {k : Nat} {m : M} {s : St} {rs : List (List (BitVec 8))} {n : Nat} (h : J p R keep k m s rs n) (hk : keep.length ≤ maxLen) : Ok m := fun a ks e => by rw [h.on.plan a ks e]; exact hk
/-- A byte that is written out. -/
theorem by_lit (w : World) (b : BitVec 8) (fz : Nat × Nat) : By (w.alloc (.cells #[v8 b] 5 fz)) (some ⟨w.heap.size, 0, none⟩) 1 [b] := by
  refine ⟨rfl, fun _ => ⟨_, rfl, ⟨#[v8 b], fz, by show (w.heap.push _)[w.heap.size]? = _; exact Array.getElem?_push_size⟩, fun j hj => ?_⟩⟩
  obtain rfl : j = 0 := by omega
  have h := (Bs.lit w 5 fz #[v8 b] [b] rfl 1 rfl).2 (by decide)
  obtain ⟨ad, e, _, hc⟩ := h
  cases e
  exact hc 0 (by decide)
def m20 : M := ⟨20, [], [], false, none⟩
def s00 : St := ⟨0#32, none, false⟩
theorem open20 : openT m20 = (0, 0#32, []) := by
  unfold openT
  rw [if_neg (by decide), if_pos (by simp [m20])]
theorem kj0 : J true 20 [] 0 m20 s00 [] 0 := J.start true 20 [] m20 rfl (Inv.new 20 (by decide) (by decide)) rfl (by intro k ks h; cases h) rfl (fun _ => rfl)
theorem kj1 : ∃ m1 s1, beginT m20 s00 [97#8] = (0, m1, s1) ∧ J true 20 [] 1 m1 s1 [[97#8]] 1 ∧ s1.ep = 1#32 := by
  rcases begin_goes7 kj0 [97#8] (by decide) (by decide) (by decide) with ⟨_, _, h, _⟩ | ⟨m1, s1, h1, h2⟩
  · cases h
  · refine ⟨m1, s1, h1, h2, ?_⟩
    have h3 := begin_ep (m := m20) (s := s00) (b := [97#8]) (by rw [h1])
    rw [h1] at h3
    exact h3
theorem kj2 {m1 : M} {s1 : St} (h : J true 20 [] 1 m1 s1 [[97#8]] 1) (he : s1.ep = 1#32) : ∃ m2 s2, appendT m1 s1 [98#8] = (0, m2, s2) ∧ J true 20 [] 2 m2 s2 [[97#8], [98#8]] 1 ∧ s2.ep = 1#32 := by
  rcases append_goes7 h [98#8] (by decide) (by decide) (by decide) with ⟨_, _, h, _⟩ | ⟨h, _⟩ | ⟨m1', s1', h1, h2⟩
  · cases h
  · rw [he] at h; exact absurd h (by decide)
  · refine ⟨m1', s1', h1, h2, ?_⟩
    have h3 := append_ep m1 s1 [98#8]
    rw [h1] at h3
    exact h3.trans he
theorem kj3 {m2 : M} {s2 : St} (h : J true 20 [] 2 m2 s2 [[97#8], [98#8]] 1) (he : s2.ep = 1#32) : ∃ m3, syncT m2 s2 = (0, m3, s2) ∧ J true 20 [] 3 m3 s2 [[97#8], [98#8]] 2 := by
  rcases sync_goes7 h (by decide) with ⟨_, h, _⟩ | ⟨h, _⟩ | ⟨m3, h1, h2⟩
  · cases h
  · rw [he] at h; exact absurd h (by decide)
  · exact ⟨m3, h1, h2⟩
theorem kj4 {m3 : M} {s2 : St} (h : J true 20 [] 3 m3 s2 [[97#8], [98#8]] 2) (he : s2.ep = 1#32) : openT (up (crash m3 [])) = (0, 1#32, [[97#8], [98#8]]) ∧ ∀ f, (rows f (up (crash m3 [])).l).length ≤ 200 := by
  obtain ⟨r, h1, h2, h3⟩ := h.jr.read h.on.inv []
  have hc : crash m3 [] = lost m3 [] := by unfold crash; rw [h.on.off]; rfl
  have hr : r = 2 := by simp at h2; omega
  subst hr
  rw [hc, h3, he]
  refine ⟨rfl, fun f => ?_⟩
  have h4 := Disk.rows_len f (up (lost m3 [])).l
  have h5 : (up (lost m3 [])).l.length = m3.l.length := (Disk.passes_bound [] m3.files m3.l).2
  have h6 := h.on.few
  omega

set_option maxRecDepth 100000 in
set_option maxHeartbeats 2000000 in
theorem knows (w : World) : Calls Tryz.prog 6 #[] w fun e w' => e = .returned (.bool true) ∧ Below w.heap.size w w' := by
  have kc := fun (w : World) (C : Array Value) (n c : Nat) => Lib.run_convert_bytes_const (P := Tryz.prog) w 44 5 C n c Tryz.underlying44 Tryz.underlying5
  obtain ⟨m1, s1, e1, j1, p1⟩ := kj1
  obtain ⟨m2, s2, e2, j2, p2⟩ := kj2 j1 p1
  obtain ⟨m3, e3, j3⟩ := kj3 j2 p2
  obtain ⟨e4, r4⟩ := kj4 j3 p2
  have J1 := Lib.hid (⟨e1, j1, p1⟩ : beginT m20 s00 [97#8] = (0, m1, s1) ∧ J true 20 [] 1 m1 s1 [[97#8]] 1 ∧ s1.ep = 1#32)
  have J2 := Lib.hid (⟨e2, j2, p2⟩ : appendT m1 s1 [98#8] = (0, m2, s2) ∧ J true 20 [] 2 m2 s2 [[97#8], [98#8]] 1 ∧ s2.ep = 1#32)
  have J3 := Lib.hid (⟨e3, j3⟩ : syncT m2 s2 = (0, m3, s2) ∧ J true 20 [] 3 m3 s2 [[97#8], [98#8]] 2)
  have J4 := Lib.hid (⟨e4, r4⟩ : openT (up (crash m3 [])) = (0, 1#32, [[97#8], [98#8]]) ∧ ∀ f, (rows f (up (crash m3 [])).l).length ≤ 200)
  clear e1 j1 p1 e2 j2 p2 e3 j3 e4 r4
  go_enter Tryz.func6, Tryz.ntmps6
  go_wp2_with fail
  refine (Disk.new_ok w w.heap.size 20 (Nat.le_refl _) (by omega) (by omega)).mono ?_
  rintro r w1 ⟨d, rfl, hd1, hb1⟩
  have hd1' : Dk w1 w.heap.size d m20 := hd1
  have con := open_call w1 w.heap.size d m20 hd1' (fun f => Nat.zero_le _)
  rw [open20] at con
  have HD1 := Lib.hid hd1'
  have HB1 := Lib.hid hb1
  clear hd1 hb1 hd1'
  go_wp2_with fail
  refine con.mono ?_
  clear con
  rintro r w2 hos
  obtain ⟨q, A2, c2, rs2, hq, rfl, hrs2, hown2, hs2⟩ := hos.2 rfl
  obtain rfl : rs2 = [] := List.map_eq_nil_iff.1 hrs2
  have hB2 : Below w.heap.size w w2 := HB1.out.trans (hown2.low.mono HB1.out.size)
  have hqw : w.heap.size ≤ q := Nat.le_trans HB1.out.size hq
  have HS2 := Lib.hid (show Ss w2 w.heap.size q d s00 from hs2)
  have HD2 := Lib.hid (HD1.out.below hown2.low)
  have HB2 := Lib.hid hB2
  have con := epoch_call w2 w.heap.size q d s00 HS2.out
  replace con : Calls Tryz.prog 29 #[.pointer (some ⟨q, 0, none⟩)] w2 fun e w' => e = .returned (.int .u32 0) ∧ w2 = w' := con
  clear hos hrs2 hown2 hs2 hB2 hq
  simp only [List.length_nil]
  go_wp2_with ((go_at_call 29; refine con.mono ?_; rintro e w' ⟨rfl, rfl⟩))
  have con := append_call (w2.alloc (.cells #[v8 120#8] 5 (1, 2))) w.heap.size q d s00 m20 (some ⟨w2.heap.size, 0, none⟩) 1 1 [120#8] (HD2.out.below (below_at _ _)) (HS2.out.below (below_at _ _)) (Nat.le_trans HB2.out.size (below_at _ _).size) hqw (by_lit _ _ _) (by decide) (by decide) (fun g h => by cases h)
  refine Calls.mono con ?_
  clear con
  rintro r w3 ⟨rfl, hd3, hs3, hc3⟩
  have hC3 : Chg w.heap.size Stb w w3 := ((Chg.of_below HB2.out).trans (Chg.of_below (below_at _ _))).trans hc3
  have HD3 := Lib.hid (show Dk w3 w.heap.size d m20 from hd3)
  have HS3 := Lib.hid (show Ss w3 w.heap.size q d s00 from hs3)
  have HC3 := Lib.hid hC3
  clear hd3 hs3 hc3 hC3 HD2 HS2 HB2
  dsimp only
  have ev3 : (appendT m20 s00 [120#8]).1 = 4 := rfl
  rw [ev3]
  clear ev3
  go_wp2_with fail
  have con := begin_call (w3.alloc (.cells #[v8 97#8] 5 (1, 2))) w.heap.size q d s00 m20 (some ⟨w3.heap.size, 0, none⟩) 1 1 [97#8] (HD3.out.below (below_at _ _)) (HS3.out.below (below_at _ _)) (Nat.le_trans HC3.out.size (below_at _ _).size) hqw (by_lit _ _ _) (by decide) (by decide) (fun k ks h => by cases h) (fun g h => by cases h)
  rw [J1.out.1] at con
  refine Calls.mono con ?_
  clear con
  rintro r w4 ⟨rfl, hd4, hs4, hc4⟩
  have HD4 := Lib.hid (show Dk w4 w.heap.size d m1 from hd4)
  have HS4 := Lib.hid (show Ss w4 w.heap.size q d s1 from hs4)
  have HC4 := Lib.hid ((HC3.out.trans (Chg.of_below (below_at _ _))).trans hc4)
  clear hd4 hs4 hc4 HD3 HS3 HC3
  dsimp only
  go_wp2_with fail
  have con := append_call (w4.alloc (.cells #[v8 98#8] 5 (1, 2))) w.heap.size q d s1 m1 (some ⟨w4.heap.size, 0, none⟩) 1 1 [98#8] (HD4.out.below (below_at _ _)) (HS4.out.below (below_at _ _)) (Nat.le_trans HC4.out.size (below_at _ _).size) hqw (by_lit _ _ _) (by decide) (by decide) (fun g h => by
    obtain ⟨_, h2, h3⟩ := J1.out.2.1.seg g h
    rw [h2]
    exact ⟨(fileOf_fit7 _).2, by omega⟩)
  rw [J2.out.1] at con
  refine Calls.mono con ?_
  clear con
  rintro r w5 ⟨rfl, hd5, hs5, hc5⟩
  have HD5 := Lib.hid (show Dk w5 w.heap.size d m2 from hd5)
  have HS5 := Lib.hid (show Ss w5 w.heap.size q d s2 from hs5)
  have HC5 := Lib.hid ((HC4.out.trans (Chg.of_below (below_at _ _))).trans hc5)
  clear hd5 hs5 hc5 HD4 HS4 HC4
  dsimp only
  go_wp2_with fail
  have con := sync_call w5 w.heap.size q d s2 m2 HD5.out HS5.out HC5.out.size hqw (fun g h => by
    obtain ⟨_, h2, _⟩ := J2.out.2.1.seg g h
    rw [h2]
    exact fileOf_fit7 _)
  rw [J3.out.1] at con
  refine Calls.mono con ?_
  clear con
  rintro r w6 ⟨rfl, hd6, hs6, hc6⟩
  have HD6 := Lib.hid (show Dk w6 w.heap.size d m3 from hd6)
  have HC6 := Lib.hid (HC5.out.trans hc6)
  clear hd6 hs6 hc6 HD5 HS5 HC5
  dsimp only
  go_wp2_with fail
  have con := Disk.crash_call w6 w.heap.size d m3 (.slice none 0 0) [] HD6.out (Bo.nil_ _ _) HC6.out.size (by decide)
  refine con.mono ?_
  clear con
  rintro r w7 ⟨rfl, hd7, hc7⟩
  have HD7 := Lib.hid hd7
  have HC7 := Lib.hid (HC6.out.trans (hc7.mono (Nat.le_refl _) dob_stb))
  clear hd7 hc7 HD6 HC6
  go_wp2_with fail
  refine (Disk.up_call w7 w.heap.size d (crash m3 []) HD7.out).mono ?_
  rintro r w8 ⟨rfl, hd8, hc8⟩
  have con := open_call w8 w.heap.size d (up (crash m3 [])) hd8 J4.out.2
  rw [J4.out.1] at con
  have HC8 := Lib.hid (HC7.out.trans (hc8.mono (Nat.le_refl _) dob_stb))
  clear hd8 hc8 HD7 HC7
  go_wp2_with fail
  refine con.mono ?_
  clear con
  rintro r w9 hos
  obtain ⟨q9, A9, c9, rs, hq9, rfl, hrs, hown, hs9⟩ := hos.2 rfl
  have hrl : rs.length = 2 := by have := congrArg List.length hrs; simpa using this
  obtain ⟨x0, x1, rfl⟩ : ∃ x0 x1, rs = [x0, x1] := by
    match rs, hrl with
    | [x0, x1], _ => exact ⟨x0, x1, rfl⟩
  have hx0 : x0.bs = [97#8] := by
    have h : [x0.bs, x1.bs] = [[97#8], [98#8]] := hrs
    injection h
  have hx1 : x1.bs = [98#8] := by
    have h : [x0.bs, x1.bs] = [[97#8], [98#8]] := hrs
    injection h with _ h
    injection h
  obtain ⟨x0b, x0A, x0c⟩ := x0
  obtain ⟨x1b, x1A, x1c⟩ := x1
  dsimp only at hx0 hx1
  subst hx0 hx1
  obtain ⟨g9, cap9, hv9, hg9, hl9⟩ := hown.own.form (by simp)
  have hA9 : A9 = some ⟨g9, 0, none⟩ := by injection hv9
  subst hA9
  have hc0 : w9.cell? ⟨g9, 0, none⟩ = some (.slice x0A 1 x0c) := by
    have := hown.own.cells (g := g9) rfl 0 _ rfl
    rwa [add_row] at this
  have hc1 : w9.cell? ⟨g9, 1, none⟩ = some (.slice x1A 1 x1c) := by
    have := hown.own.cells (g := g9) rfl 1 _ rfl
    rwa [add_row] at this
  have hst0 : (convert 44 9 (.slice x0A 1 x0c)).run Tryz.prog w9 = .ok (.string ⟨#[97]⟩) w9 := Frag.toStr (hown.by_ ⟨[97#8], x0A, x0c⟩ (by simp)).rd x0c
  have hst1 : (convert 44 9 (.slice x1A 1 x1c)).run Tryz.prog w9 = .ok (.string ⟨#[98]⟩) w9 := Frag.toStr (hown.by_ ⟨[98#8], x1A, x1c⟩ (by simp)).rd x1c
  have HC9 := Lib.hid (HC8.out.trans (Chg.of_below hown.low))
  have hlen2 : ([(⟨[97#8], x0A, x0c⟩ : Rv), ⟨[98#8], x1A, x1c⟩]).length = 2 := rfl
  simp only [hlen2]
  have con2 := begin_nil w9 (.slice none 0 0)
  have con1 := epoch_call w9 w.heap.size q9 d _ hs9
  replace con1 : Calls Tryz.prog 29 #[.pointer (some ⟨q9, 0, none⟩)] w9 fun e w' => e = .returned (.int .u32 1) ∧ w9 = w' := con1
  clear hos hrs hown hv9 hg9 hl9 hrl hlen2 HC8 hs9
  go_wp2_with (first | (go_at_call 29; refine con1.mono ?_; rintro e w' ⟨rfl, rfl⟩) | (go_at_call 11; refine con2.mono ?_; rintro e w' ⟨rfl, rfl⟩))
  go_ret
  exact ⟨rfl, HC9.out.below (Nat.le_refl _)⟩
end Go.Proofs.YtdaknfepcbooeaaGreat.Sto
end

section
namespace Go.Proofs.YtdaknfepcbooeaaGreat.Sto
open Go.RowKit
open Go.Proofs.YtdaknfepcbooeaaGreat.Disk (M Sc Dk Rs Bo Chg Dob rows there up crash lost Ok Inv)
open Go.Proofs.YtdaknfepcbooeaaGreat.Segm (Gm Sg Sob secsAll)
open Go.Proofs.YtdaknfepcbooeaaGreat.Frag (Rd Rv toStr)
set_option linter.unusedVariables false
set_option linter.unusedSimpArgs false

set_option maxRecDepth 100000 in
set_option maxHeartbeats 1000000 in
theorem same_any (A1 A2 : Option Addr) (n m c1 c2 : Nat) (rs qs : List (List (BitVec 8))) (B : Nat) (w : World) (h1 : Rd w B A1 n rs) (h2 : Rd w B A2 m qs) (hB : B ≤ w.heap.size) (hn : n ≤ 4096) (hm : m ≤ 4096) :
    Calls Tryz.prog 23 #[.slice A1 n c1, .slice A2 m c2] w fun r w' => (∃ b, r = .returned (.bool b)) ∧ Below w.heap.size w w' := by
  have H1 := Lib.hid h1
  have H2 := Lib.hid h2
  clear h1 h2
  by_cases hnm : n = m
  · subst hnm
    go_enter Tryz.func23, Tryz.ntmps23
    go_wp2_with fail
    go_loopw [5] (fun i wr => ∃ k : Nat, k ≤ n ∧ i = .int .i64 (k : Int) ∧ Below w.heap.size w wr) (fun i _ => n - (intOf i).toNat)
    case atStart => exact ⟨0, Nat.zero_le _, rfl, Below.refl _ _⟩
    case round =>
      obtain ⟨k, hk, rfl, hb⟩ := hrel
      have hkm : k ≤ 4096 := by omega
      by_cases hlt : k < n
      · obtain ⟨b, hbk⟩ : ∃ b, rs[k]? = some b := ⟨_, List.getElem?_eq_getElem (by rw [H1.out.len]; exact hlt)⟩
        obtain ⟨b', hbk'⟩ : ∃ b, qs[k]? = some b := ⟨_, List.getElem?_eq_getElem (by rw [H2.out.len]; exact hlt)⟩
        obtain ⟨ad1, B1, d1, rfl, l1, k1, s1⟩ := (H1.out.below (hb.mono hB)).at_ k _ hbk
        obtain ⟨ad2, B2, d2, rfl, l2, k2, s2⟩ := (H2.out.below (hb.mono hB)).at_ k _ hbk'
        have q1 := toStr s1.drew d1
        have q2 := toStr s2.drew d2
        have k1' : wr.drew.cell? (ad1.add k) = _ := k1
        have k2' : wr.drew.cell? (ad2.add k) = _ := k2
        clear s1 s2 hbk hbk' l1 l2
        generalize str b = sb at *
        generalize str b' = sb' at *
        generalize b.length = m1 at *
        generalize b'.length = m2 at *
        go_wp2_with fail
        go_region
        all_goals go_wp2_with fail
        · go_ret
          exact ⟨⟨_, rfl⟩, hb.drew⟩
        · exact ⟨⟨k + 1, by omega, by go_num, hb.drew⟩, by simp [intOf]; omega⟩
      · obtain rfl : k = n := by omega
        go_wp2_with fail
        go_ret
        exact ⟨⟨_, rfl⟩, hb⟩
  · have d1 : ((n : Int) == (m : Int)) = false := beq_eq_false_iff_ne.2 (by omega)
    go_enter Tryz.func23, Tryz.ntmps23
    go_wp2_with fail
    go_ret
    exact ⟨⟨_, rfl⟩, Below.refl _ _⟩

/-- A row of records, of the law's own. -/
structure Rw (w0 w : World) (v : Value) (rs : List (List (BitVec 8))) : Prop where
  ex : ∃ (A : Option Addr) (c : Nat) (xs : List Rv), v = .slice A xs.length c ∧ xs.map (·.bs) = rs ∧ w.ownsRow w0.heap.size 44 1 v xs.length (xs.map Rv.val) ∧ ∀ x ∈ xs, By w x.A x.bs.length x.bs
namespace Rw
variable {w0 w w' : World} {v : Value} {rs : List (List (BitVec 8))}
theorem nil_ (w0 w : World) : Rw w0 w (.slice none 0 0) [] := ⟨none, 0, [], rfl, rfl, World.ownsRow_nil _ _ _ _, by simp⟩
theorem chg {B : Nat} {T : Obj → Prop} (h : Rw w0 w v rs) (hc : Chg B T w w') (h1 : ∀ cs fz, ¬ T (.cells cs 44 fz)) (h2 : ∀ cs fz, ¬ T (.cells cs 5 fz)) : Rw w0 w' v rs := by
  obtain ⟨A, c, xs, e1, e2, e3, e4⟩ := h.ex
  exact ⟨A, c, xs, e1, e2, Disk.own_chg e3 hc (fun cur => h1 _ _), fun x hx => (e4 x hx).keep fun k cs fz hk => by rw [hk]; exact hc.block _ _ hk (.inr (h2 _ _))⟩
theorem stb {B : Nat} (h : Rw w0 w v rs) (hc : Chg B Stb w w') : Rw w0 w' v rs := h.chg hc (by rintro cs fz (h | h | h | h) <;> revert h <;> decide) (by rintro cs fz (h | h | h | h) <;> revert h <;> decide)
theorem below (h : Rw w0 w v rs) (hb : Below w.heap.size w w') : Rw w0 w' v rs := h.chg (B := 0) (T := fun _ => False) (Chg.of_below hb) (fun _ _ h => h) (fun _ _ h => h)
theorem len {A : Option Addr} {n c : Nat} (h : Rw w0 w (.slice A n c) rs) : rs.length = n := by
  obtain ⟨A', c', xs, e1, e2, _⟩ := h.ex
  injection e1 with _ e1 _
  rw [← e2, List.length_map, e1]
theorem form (h : Rw w0 w v rs) : ∃ A c, v = .slice A rs.length c ∧ rs.length ≤ c ∧ c ≤ maxLen := by
  obtain ⟨A, c, xs, e1, e2, e3, _⟩ := h.ex
  have hl : xs.length = rs.length := by rw [← e2, List.length_map]
  rcases e3.2 with ⟨e, h0⟩ | ⟨g, cap, cur, e, _, _, h3, h4, _⟩
  · exact ⟨none, 0, by rw [e, ← hl, h0], by omega, Nat.zero_le _⟩
  · rw [hl] at e h3
    exact ⟨_, _, e, h3, h4⟩
theorem cap {A : Option Addr} {n c : Nat} (h : Rw w0 w (.slice A n c) rs) : n ≤ c ∧ c ≤ maxLen := by
  obtain ⟨A', c', h1, h2, h3⟩ := h.form
  have hl := h.len
  injection h1 with e1 e2 e3
  rw [e2, e3]
  exact ⟨h2, h3⟩
theorem rd {A : Option Addr} {n c : Nat} (h : Rw w0 w (.slice A n c) rs) : Rd w w.heap.size A n rs := by
  obtain ⟨A', c', xs, e1, e2, e3, e4⟩ := h.ex
  injection e1 with e0 e1 e5
  subst e0 e1 e5
  rw [← e2]
  exact Frag.Rd.of_own e3 e4
theorem src {A : Option Addr} {n c : Nat} (h : Rw w0 w (.slice A n c) rs) : ∃ xs : List Rv, xs.map (·.bs) = rs ∧ xs.length = n ∧ Src w A n (xs.map Rv.val) ∧ ∀ x ∈ xs, By w x.A x.bs.length x.bs := by
  obtain ⟨A', c', xs, e1, e2, e3, e4⟩ := h.ex
  have hA : A = A' := by injection e1
  have hn : n = xs.length := by injection e1
  have hc : c = c' := by injection e1
  refine ⟨xs, e2, hn.symm, fun hpos => ?_, e4⟩
  rw [hn] at hpos
  obtain ⟨g, cap, hv, hg, hl⟩ := e3.form hpos
  refine ⟨⟨g, 0, none⟩, by injection hv, fun j u hj => ?_⟩
  have h2 := e3.cells (g := g) (by rw [hv]; rfl) j u hj
  exact h2
theorem vals_one (xs : List Rv) : ∀ u ∈ xs.map Rv.val, u.oneCell' = true := by
  intro u hu
  obtain ⟨x, _, rfl⟩ := List.mem_map.1 hu
  rfl
/-- The row behind an append of one record. -/
theorem push {xs : List Rv} {A : Option Addr} {n c g k : Nat} {b : List (BitVec 8)} (h1 : xs.map (·.bs) = rs) (h2 : xs.length = n) (ho : w'.ownsRow w0.heap.size 44 1 (.slice A (n + 1) c) (n + 1) (xs.map Rv.val ++ [.slice (some ⟨g, 0, none⟩) k k]))
    (hx : ∀ x ∈ xs, By w' x.A x.bs.length x.bs) (hb : By w' (some ⟨g, 0, none⟩) k b) : Rw w0 w' (.slice A (n + 1) c) (rs ++ [b]) := by
  have hbl := hb.len
  have hl : (xs ++ [(⟨b, some ⟨g, 0, none⟩, k⟩ : Rv)]).length = n + 1 := by rw [List.length_append, h2]; rfl
  refine ⟨A, c, xs ++ [⟨b, some ⟨g, 0, none⟩, k⟩], by rw [hl], by rw [List.map_append, h1]; rfl, ?_, fun x hx' => ?_⟩
  · rw [hl, List.map_append]
    simp only [List.map_cons, List.map_nil, Rv.val, hbl]
    exact ho
  · rcases List.mem_append.1 hx' with h | h
    · exact hx x h
    · rw [List.mem_singleton.1 h]
      dsimp only
      rw [hbl]
      exact hb
theorem one (w0 w : World) (hw : w0.heap.size ≤ w.heap.size) {A : Option Addr} {n c : Nat} {b : List (BitVec 8)} (hb : By w A n b) : Rw w0 (w.alloc (.cells #[.slice A n c] 44)) (.slice (some ⟨w.heap.size, 0, none⟩) 1 1) [b] := by
  have hbl := hb.len
  refine ⟨some ⟨w.heap.size, 0, none⟩, 1, [⟨b, A, c⟩], rfl, rfl, ?_, fun x hx => ?_⟩
  · have h := World.ownsRow_lit (base := w0.heap.size) (e := 44) (size := 1) w #[.slice A n c] 1 hw (by decide) rfl
    simp only [List.map_cons, List.map_nil, Frag.Rv.val, hbl]
    exact h
  · rw [List.mem_singleton.1 hx]
    dsimp only
    rw [hbl]
    exact hb.below (below_at _ _)
end Rw
def m1000 : M := ⟨1000, [], [], false, none⟩
theorem open1000 : openT ⟨1000, [], [], false, none⟩ = (0, 0#32, []) := by
  unfold openT
  rw [if_neg (by decide), if_pos (by simp)]
theorem start1000 (steps : Int) (ks : List Bool) (hst : steps < 9223372036854775808) : ∃ m, Disk.fail ⟨1000, [], [], false, none⟩ steps ks = m ∧ J false 1000 ks 0 m s00 [] 0 := by
  refine ⟨_, rfl, J.start false 1000 ks _ rfl ((Inv.new 1000 (by decide) (by decide)).fail steps hst ks) rfl (fun k kk h => ?_) rfl (fun h => by cases h)⟩
  unfold Disk.fail at h
  dsimp only at h
  split at h
  · cases h
  · cases h; rfl
theorem src_one (w : World) (t : TypeId) (v : Value) : Src (w.alloc (.cells #[v] t)) (some ⟨w.heap.size, 0, none⟩) 1 [v] := fun _ => ⟨_, rfl, fun q u hu => by
  rw [Addr.add_lit, Nat.zero_add]
  have := (Cel.new w t [v]).cell q
  rw [hu] at this
  exact this⟩
theorem own_ge {W : World} {o : Obj} {v : Value} {q : Nat} (h : v.ownBlock = (Value.slice (some ⟨W.heap.size, 0, none⟩) 0 0).ownBlock ∨ v.ownBlock = some (W.alloc o).heap.size) (hq : v.ownBlock = some q) : W.heap.size ≤ q := by
  rcases h with h | h
  · rw [h] at hq; cases hq; exact Nat.le_refl _
  · rw [h] at hq; cases hq; rw [size_at rfl]; exact Nat.le_succ _
theorem undRec : Tryz.prog.underlying 30 = some (.slice 44) := by kernel_rfl
theorem infoRec : (Tryz.prog.info? 44).map (fun i => (i.zero, i.size, i.bytes)) = some (some (.slice none 0 0), 1, 24) := by kernel_rfl
theorem recsT : ElemRow Tryz.prog 30 44 1 24 := ElemRow.mk' undRec infoRec rfl (by decide)
end Go.Proofs.YtdaknfepcbooeaaGreat.Sto
end
