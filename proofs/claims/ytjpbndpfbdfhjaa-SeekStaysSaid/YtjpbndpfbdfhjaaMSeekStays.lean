/-
  davitlaw10.SeekStays: the walk.
-/
import Derived.Test.YtjpbndpfbdfhjaaMSeekA
import Derived.Test.YtjpbndpfbdfhjaaMSeekLooks
namespace Go.Proofs.Ytjpbndpfbdfhjaa.Seek
open Go.RowKit Go.Proofs.Ytjpbndpfbdfhjaa.Nfa Go.Proofs.Ytjpbndpfbdfhjaa.Ord
open Go.Proofs.Ytjpbndpfbdfhjaa.Reg (Sp Spn sflat)
set_option linter.unusedVariables false
set_option linter.unusedSimpArgs false

theorem run_cutMid {P : Program} (w : World) {t e : TypeId} {size : Nat} (ht : P.underlying t = some (.slice e)) (hs : (P.info? e).map (·.size) = some size) (A : Option Addr) (n c l h : Nat) (q q' : IntKind) (hl : l ≤ h) (hh : h ≤ c) :
    (Instr.sliceAt t (.slice A n c) (some (.int q l)) (some (.int q' h)) none).run P w = .ok (.slice (if c = l then A else A.map (·.add (l * size))) (h - l) (c - l)) w := by
  have he : P.elem t = e := by unfold Program.elem; rw [ht]
  have ht' : P.underlying t = some (.slice (P.elem t)) := by rw [he]; exact ht
  rw [run_sliceAt_slice w t _ _ _ _ ht', run_slice_lh w t A n c ht' q q' l h (by omega) (by omega) (by omega)]
  have hso : (sizeOf (P.elem t)).run P w = .ok size w := by
    rw [he]
    cases hq : P.info? e with
    | none => rw [hq] at hs; cases hs
    | some i => rw [hq] at hs; simp at hs; simp [sizeOf, typeInfo, hq, hs]
  rw [hso]
  simp only [Result.andThen, sliced, Int.toNat_natCast]
theorem bs_cut {w : World} {B m c f t : Nat} {A : Option Addr} {bs : List (BitVec 8)} (h : Bs w B A m bs) (hf : f ≤ t) (ht : t ≤ m) (hc : m ≤ c) : Bs w B (if c = f then A else A.map (·.add (f * 1))) (t - f) (cut bs f t) := by
  have := (Bs.bp (bs_take h ht)).cut (cap := c) hf (by omega)
  rw [Nat.mul_one]
  exact this
theorem bytesS : ByteRow Try.prog 24 5 := ByteRow.mk' Try.underlying24 (by kernel_rfl)

set_option maxRecDepth 100000 in
set_option maxHeartbeats 4000000 in
theorem stays_walk (A : Option Addr) (n c : Nat) (B : Option Addr) (m bc : Nat) (C : Option Addr) (k kc : Nat) (w : World) (ss : List Sv) (h : Sas w w.heap.size A ss) (hl : ss.length = n) (hn : n ≤ maxLen) (bs ms : List (BitVec 8)) (hb : Bs w w.heap.size B m bs) (hcap : m ≤ bc) (hbc : bc ≤ maxLen) (hm : Bs w w.heap.size C k ms) (hk : k ≤ maxLen) :
    Calls Try.prog 5 #[.slice A n c, .slice B m bc, .slice C k kc] w fun e w' => e = .returned (.bool true) ∧ Below w.heap.size w w' := by
  unfold maxLen at hn hbc hk
  by_cases hbig : 4 < n ∨ 60 < m ∨ 60 < k
  · clear h hl hb hm
    go_enter Try.func5, Try.ntmps5
    go_upto_region 1 with fail
    go_cut [27] from 15 to 28 (fun s27 wx => s27 = .bool true ∧ w = wx)
    case first =>
      by_cases h4 : 4 < n
      · go_wp2_with fail
        go_meet
        case rel => exact ⟨by simp <;> omega, rfl⟩
      · by_cases h60 : 60 < m
        · go_wp2_with fail
          go_meet
          case rel => exact ⟨by simp <;> omega, rfl⟩
        · have hk60 : 60 < k := by omega
          go_wp2_with fail
          go_meet
          case rel => exact ⟨by simp <;> omega, rfl⟩
    case rest =>
      obtain ⟨rfl, rfl⟩ := hcut
      go_wp2_with fail
      refine (knows10 _).mono ?_
      rintro e w1 ⟨rfl, hb1⟩
      have HB1 := Lib.hid hb1
      clear hb1
      go_wp2_with fail
      go_ret
      exact ⟨rfl, HB1.out⟩
  have h4 : n ≤ 4 := by omega
  have h60 : m ≤ 60 := by omega
  have hk60 : k ≤ 60 := by omega
  have H := Lib.hid h
  have HL := Lib.hid hl
  have HBS := Lib.hid hb
  have HMS := Lib.hid hm
  have hbl : bs.length = m := hb.1
  have hml : ms.length = k := hm.1
  have HBL := Lib.hid hbl
  have HML := Lib.hid hml
  clear h hl hb hm hbig hbl hml
  go_enter Try.func5, Try.ntmps5
  go_upto_region 1 with fail
  go_cut [27] from 15 to 28 (fun s27 wx => s27 = .bool false ∧ w = wx)
  case first =>
    have z4 : decide ((4 : Int) < (n : Int)) = false := by simp; omega
    have z5 : decide ((60 : Int) < (m : Int)) = false := by simp; omega
    have z6 : decide ((60 : Int) < (k : Int)) = false := by simp; omega
    go_wp2_with fail
    go_meet
    case rel => exact ⟨by simp [z4, z5, z6], rfl⟩
  case rest =>
    obtain ⟨rfl, rfl⟩ := hcut
    have con := parms w w.heap.size A n c ss H.out (Nat.le_refl _) HL.out (by omega)
    go_wp2_with fail
    refine con.mono ?_
    clear con
    intro e w1 hpa
    cases har : armsF 0 (ss.map Sv.s) with
    | error q =>
      obtain ⟨i, bad⟩ := q
      rw [har] at hpa
      obtain ⟨hb1, hbad, rfl⟩ := hpa
      have HB1 := Lib.hid hb1
      have hbi : ¬ ((bad : Int) = 0) := by omega
      clear hb1 har hbad
      go_wp2_with fail
      refine (knows10 _).mono ?_
      rintro e w2 ⟨rfl, hb2⟩
      have HB2 := Lib.hid (HB1.out.trans (hb2.mono HB1.out.size))
      clear hb2
      go_wp2_with fail
      go_ret
      exact ⟨rfl, HB2.out⟩
    | ok ps =>
      rw [har] at hpa
      obtain ⟨hb1, A1, n1, c1, ys, rfl, hn1, hpas, hps⟩ := hpa
      obtain ⟨hyl, hfine⟩ := fine_of har hps
      rw [List.length_map, HL.out] at hyl
      have con := plook w1 A1 n1 c1 ys hpas hn1.symm (by omega) hfine B m bc bs ((HBS.out.below hb1).more hb1.size) (by omega) hcap
      rw [List.take_of_length_le (by rw [HBL.out]; omega), show decide (256 ≤ m) = false by simp; omega, hps] at con
      have HP := Lib.hid hpas
      have HFI := Lib.hid hfine
      have HN1 := Lib.hid hn1
      have HPS := Lib.hid hps
      have HB1 := Lib.hid hb1
      have hn4 : n1 ≤ 4 := by omega
      clear hpas hfine hps hb1 har hyl hn1
      go_wp2_with fail
      refine con.mono ?_
      clear con
      rintro e w2 ⟨hb2, a, f, t, z, rfl, htl⟩
      have HT1 := Lib.hid htl
      obtain ⟨W2, hW2⟩ : ∃ W2, W2 = w2.alloc (.cells #[.int .i64 a, .int .i64 f, .int .i64 t] 41) := ⟨_, rfl⟩
      have hbW : Below w2.heap.size w2 W2 := by rw [hW2]; exact (Below.refl _ _).alloc (Nat.le_refl _) _
      have hcW : Cel W2 w2.heap.size 41 [.int .i64 a, .int .i64 f, .int .i64 t] := by rw [hW2]; exact Cel.new w2 _ _
      have hsW : W2.heap.size = w2.heap.size + 1 := by rw [hW2]; simp
      have HB2 := Lib.hid ((HB1.out.trans (hb2.mono HB1.out.size)).trans (hbW.mono (Nat.le_trans HB1.out.size hb2.size)))
      have HBW := Lib.hid hbW
      have HCW := Lib.hid hcW
      have HP2 := Lib.hid ((HP.out.below hb2).below hbW)
      have HB3 := Lib.hid ((HBS.out.below HB2.out).alloc HB2.out.size (.cells #[] 5))
      have HM3 := Lib.hid ((HMS.out.below HB2.out).alloc HB2.out.size (.cells #[] 5))
      have O0 := Lib.hid (show (W2.alloc (.cells #[] 5)).ownsRow W2.heap.size 5 1 (.slice (some ⟨W2.heap.size, 0, none⟩) 0 0) 0 (([] : List (BitVec 8)).map v8) from World.ownsRow_lit W2 #[] 0 (Nat.le_refl _) (Nat.zero_le _) rfl)
      have hwW : w.heap.size ≤ W2.heap.size := HB2.out.size
      have HWW := Lib.hid hwW
      have tok1 : True := trivial
      have tok2 : True := trivial
      clear hb2 hbW hcW htl HP HB1 hwW
      rw [hsW] at O0
      rw [hW2] at O0 HB3 HM3
      go_wp2_with (first
        | (at_builtin; have _t := tok1; refine wpList_append_bs _ rfl _ _ 24 rfl (w2.heap.size + 1) 5 bytesS (.slice (some ⟨w2.heap.size + 1, 0, none⟩) 0 0) 0 [] rfl O0.out w.heap.size B m bc bs rfl HB3.out m bs (Nat.zero_add _) (List.nil_append _) (by omega) (by simp) ?_; clear tok1 _t; intro A3 c3 w3 o3 g3 _)
        | (at_builtin; have _t := tok2; refine wpList_append_bs _ rfl _ _ 24 rfl (w2.heap.size + 1) 5 bytesS (.slice A3 m c3) m bs rfl o3 w.heap.size C k kc ms rfl (Bs.grown HM3.out g3 (by have := HWW.out; simp; omega) (by intro g hg; simp [Value.ownBlock] at hg; have := HWW.out; omega)) (m + k) (bs ++ ms) rfl rfl (by omega) (by have := g3.size; simp at this; omega) ?_; clear tok2 _t; intro A4 c4 w4 o4 g4 _)
        | fail)
      rw [← hW2] at g3
      have hb3 : Below W2.heap.size W2 w3 := Below.grown ((Below.refl _ _).alloc (Nat.le_refl _) _) g3 (by simp) (by intro g hg; simp [Value.ownBlock] at hg; omega)
      have hb4 : Below W2.heap.size W2 w4 := hb3.grown g4 hb3.size (fun q hq => by have := (o3.lt q hq).1; omega)
      have hcc : m + k ≤ c4 := by
        rcases o4.2 with ⟨hv, h0⟩ | ⟨_, _, _, hv, _, _, hle, _⟩
        · injection hv with _ e2 _; omega
        · injection hv with _ _ e3; omega
      have con := plook w4 A1 n1 c1 ys (HP2.out.below hb4) HN1.out.symm (by omega) HFI.out A4 (m + k) c4 (bs ++ ms) (Bs.of_own o4 rfl) (by omega) hcc
      rw [List.take_of_length_le (by rw [List.length_append, HBL.out, HML.out]; omega), show decide (256 ≤ m + k) = false by simp; omega, HPS.out] at con
      have HB4 := Lib.hid (HB2.out.trans (hb4.mono HB2.out.size))
      have HC4 := Lib.hid (HCW.out.below hb4 HCW.out.lt)
      have HP4 := Lib.hid (HP2.out.below hb4)
      have F0 := hsW
      clear hb3 hb4 o3 o4 g3 g4 hcc O0 HB3 HM3 HBW HCW HP2 hW2 hsW F0 HWW HB2
      obtain ⟨F, hF⟩ : ∃ F, F = w2.heap.size := ⟨_, rfl⟩
      rw [← hF] at HC4 ⊢
      clear hF
      go_wp2_with fail
      refine con.mono ?_
      clear con
      rintro e w5 ⟨hb5, a', f', t', z', rfl, htl2⟩
      obtain ⟨W0, hW0⟩ : ∃ W0, W0 = w5.alloc (.cells #[.int .i64 a', .int .i64 f', .int .i64 t'] 41) := ⟨_, rfl⟩
      have hbW : Below w5.heap.size w5 W0 := by rw [hW0]; exact (Below.refl _ _).alloc (Nat.le_refl _) _
      have hcG : Cel W0 w5.heap.size 41 [.int .i64 a', .int .i64 f', .int .i64 t'] := by rw [hW0]; exact Cel.new w5 _ _
      have hcF : Cel W0 F 41 [.int .i64 a, .int .i64 f, .int .i64 t] := (HC4.out.below hb5 HC4.out.lt).below hbW (Nat.lt_of_lt_of_le HC4.out.lt hb5.size)
      have HB0 := Lib.hid ((HB4.out.trans (hb5.mono HB4.out.size)).trans (hbW.mono (Nat.le_trans HB4.out.size hb5.size)))
      have HP0 := Lib.hid ((HP4.out.below hb5).below hbW)
      obtain ⟨G, hG⟩ : ∃ G, G = w5.heap.size := ⟨_, rfl⟩
      rw [← hG] at hcG
      have f0 := hcF.cell 0
      have f1 := hcF.cell 1
      have f2 := hcF.cell 2
      have g0 := hcG.cell 0
      have g1 := hcG.cell 1
      have g2 := hcG.cell 2
      clear hb5 hbW HB4 HC4 HP4 hcF hcG
      rcases HT1.out with ⟨hno, rfl, rfl, rfl, rfl⟩ | ⟨i, g, e, hbest, rfl, rfl, rfl, rfl⟩
      · rcases htl2 with ⟨_, rfl, rfl, rfl, rfl⟩ | ⟨i', g', e', hb', rfl, rfl, rfl, rfl⟩
        · clear hno HT1
          rw [hW0] at HB0 f0 f1 f2 g0 g1 g2
          rw [hG] at g0 g1 g2
          go_wp2_with fail
          refine (knows10 _).mono ?_
          rintro e w7 ⟨rfl, hb7⟩
          have HB7 := Lib.hid (HB0.out.trans (hb7.mono HB0.out.size))
          clear hb7
          go_wp2_with fail
          go_ret
          exact ⟨rfl, HB7.out⟩
        · have hlate := hb'.late hno
          rw [HBL.out] at hlate
          clear hno HT1 hb'
          rw [hW0] at HB0 f0 f1 f2 g0 g1 g2
          rw [hG] at g0 g1 g2
          go_wp2_with fail
          refine (knows10 _).mono ?_
          rintro e w7 ⟨rfl, hb7⟩
          have HB7 := Lib.hid (HB0.out.trans (hb7.mono HB0.out.size))
          clear hb7
          go_wp2_with fail
          go_ret
          exact ⟨rfl, HB7.out⟩
      · obtain ⟨hge, hem⟩ := hbest.met.le
        rw [HBL.out] at hem
        have hsame : a' = (i : Int) ∧ f' = (g : Int) ∧ t' = (e : Int) ∧ z' = 0 := by
          rcases htl2 with ⟨hno, _⟩ | ⟨i', g', e', hb', rfl, rfl, rfl, rfl⟩
          · exact absurd hno (hbest.more).not_none
          · obtain ⟨q1, q2, q3⟩ := hb'.unique hbest.more
            omega
        obtain ⟨rfl, rfl, rfl, rfl⟩ := hsame
        have him := hbest.met.arm
        rw [← HPS.out, List.length_map, ← HN1.out] at him
        obtain ⟨x, hx⟩ : ∃ x, ys[i]? = some x := ⟨_, List.getElem?_eq_getElem (by rw [← HN1.out]; exact him)⟩
        obtain ⟨ad, rfl, a0⟩ := HP0.out.at_ hx
        have HHIT := Lib.hid (show Hits (x.us.map (·.i)) (cut bs g e) by
          obtain ⟨p, hp, _, _, hh⟩ := hbest.met
          rw [← HPS.out, List.getElem?_map, hx] at hp
          cases hp
          exact hh)
        obtain ⟨hxl, hxf, hxs⟩ := HFI.out x (List.mem_of_getElem? hx)
        replace hxl : x.us.length ≤ 1000 := by omega
        have con := as9 W0.drew x.A x.us.length x.c x.us (Pr9.below' (HP0.out.arms x (List.mem_of_getElem? hx)) (Below.refl _ _).drew) rfl hxl hxs
        obtain ⟨Bc, d, dc, hcut⟩ : ∃ (Bc : Option Addr) (d dc : Nat), (∀ V, (Instr.sliceAt 24 (.slice B m bc) (some (.int .i64 (g : Int))) (some (.int .i64 (e : Int))) none).run Try.prog V = .ok (.slice Bc d dc) V) ∧ (∀ V : World, Bs V w.heap.size B m bs → Bs V w.heap.size Bc d (cut bs g e)) ∧ d ≤ 1000 :=
          ⟨_, _, _, fun V => run_cutMid (size := 1) V Try.underlying24 (by kernel_rfl) B m bc g e .i64 .i64 hge (by omega), fun V hV => bs_cut hV hge hem hcap, by omega⟩
        have HCUT := Lib.hid hcut
        clear hcut
        have F0 := f0
        have F1 := f1
        have F2 := f2
        have G0 := g0
        have G1 := g1
        have G2 := g2
        rw [hW0] at F0 F1 F2 G0 G1 G2
        rw [hG] at G0 G1 G2
        have y1 : decide (n1 ≤ i) = false := by simp; omega
        have y2 : decide ((i : Int) < 0) = false := by simp
        have y3 : decide ((g : Int) < 0) = false := by simp
        have y4 : decide (e < g) = false := by simp; omega
        have y5 : decide (m < e) = false := by simp; omega
        clear hbest htl2 HT1 hx
        go_wp2_with fail
        rw [← hW0, ← hG]
        clear F0 F1 F2 G0 G1 G2 y1 y2 y3 y4 y5 hW0 hG
        have hH : Below W0.heap.size W0 W0.drew := (Below.refl _ _).drew
        refine wp_region_N [25] (Below W0.heap.size W0) (by kernel_rfl) ?_
        refine wpAnyN_take (i := 0) (v := .slice (some ad) n1 c1) [25] (by kernel_rfl) rfl (by kernel_rfl) (by kernel_rfl) (by kernel_rfl) (fun _ _ _ h => h) (Or.inl ⟨by rfl, ?_⟩) hH ?_
        · intro V hV; go_simp
        try simp only [Act.put, List.setIfInBounds_toArray, List.set_cons_zero, List.set_cons_succ, List.getElem_toArray, List.getElem_cons_succ, List.getElem_cons_zero]
        refine wpAnyN_take (i := 1) (v := .pointer (some ⟨F, 0, none⟩)) [25] (by kernel_rfl) rfl (by kernel_rfl) (by kernel_rfl) (by kernel_rfl) (fun _ _ _ h => h) (Or.inl ⟨by rfl, ?_⟩) hH ?_
        · intro V hV; go_simp
        try simp only [Act.put, List.setIfInBounds_toArray, List.set_cons_zero, List.set_cons_succ, List.getElem_toArray, List.getElem_cons_succ, List.getElem_cons_zero]
        refine wpAnyN_take (i := 2) (v := .int .i64 (i : Int)) [25] (by kernel_rfl) rfl (by kernel_rfl) (by kernel_rfl) (by kernel_rfl) (fun _ _ _ h => h) (Or.inl ⟨by rfl, ?_⟩) hH ?_
        · intro V hV; have z0 := (hV.cell (cell_lt f0)).trans f0; go_simp
        try simp only [Act.put, List.setIfInBounds_toArray, List.set_cons_zero, List.set_cons_succ, List.getElem_toArray, List.getElem_cons_succ, List.getElem_cons_zero]
        refine wpAnyN_take (i := 3) (v := .pointer (some (ad.add i))) [25] (by kernel_rfl) rfl (by kernel_rfl) (by kernel_rfl) (by kernel_rfl) (fun _ _ _ h => h) (Or.inl ⟨by rfl, ?_⟩) hH ?_
        · intro V hV; go_simp
        try simp only [Act.put, List.setIfInBounds_toArray, List.set_cons_zero, List.set_cons_succ, List.getElem_toArray, List.getElem_cons_succ, List.getElem_cons_zero]
        refine wpAnyN_take (i := 4) (v := .slice x.A x.us.length x.c) [25] (by kernel_rfl) rfl (by kernel_rfl) (by kernel_rfl) (by kernel_rfl) (fun _ _ _ h => h) (Or.inl ⟨by rfl, ?_⟩) hH ?_
        · intro V hV; have z0 := (hV.cell (cell_lt a0)).trans a0; go_simp
        try simp only [Act.put, List.setIfInBounds_toArray, List.set_cons_zero, List.set_cons_succ, List.getElem_toArray, List.getElem_cons_succ, List.getElem_cons_zero]
        refine wpAnyN_take (i := 6) (v := .slice B m bc) [25] (by kernel_rfl) rfl (by kernel_rfl) (by kernel_rfl) (by kernel_rfl) (fun _ _ _ h => h) (Or.inl ⟨by rfl, ?_⟩) hH ?_
        · intro V hV; go_simp
        try simp only [Act.put, List.setIfInBounds_toArray, List.set_cons_zero, List.set_cons_succ, List.getElem_toArray, List.getElem_cons_succ, List.getElem_cons_zero]
        refine wpAnyN_take (i := 7) (v := .pointer (some ⟨F, 1, none⟩)) [25] (by kernel_rfl) rfl (by kernel_rfl) (by kernel_rfl) (by kernel_rfl) (fun _ _ _ h => h) (Or.inl ⟨by rfl, ?_⟩) hH ?_
        · intro V hV; go_simp
        try simp only [Act.put, List.setIfInBounds_toArray, List.set_cons_zero, List.set_cons_succ, List.getElem_toArray, List.getElem_cons_succ, List.getElem_cons_zero]
        refine wpAnyN_take (i := 8) (v := .int .i64 (g : Int)) [25] (by kernel_rfl) rfl (by kernel_rfl) (by kernel_rfl) (by kernel_rfl) (fun _ _ _ h => h) (Or.inl ⟨by rfl, ?_⟩) hH ?_
        · intro V hV; have z0 := (hV.cell (cell_lt f1)).trans f1; go_simp
        try simp only [Act.put, List.setIfInBounds_toArray, List.set_cons_zero, List.set_cons_succ, List.getElem_toArray, List.getElem_cons_succ, List.getElem_cons_zero]
        refine wpAnyN_take (i := 9) (v := .pointer (some ⟨F, 2, none⟩)) [25] (by kernel_rfl) rfl (by kernel_rfl) (by kernel_rfl) (by kernel_rfl) (fun _ _ _ h => h) (Or.inl ⟨by rfl, ?_⟩) hH ?_
        · intro V hV; go_simp
        try simp only [Act.put, List.setIfInBounds_toArray, List.set_cons_zero, List.set_cons_succ, List.getElem_toArray, List.getElem_cons_succ, List.getElem_cons_zero]
        refine wpAnyN_take (i := 10) (v := .int .i64 (e : Int)) [25] (by kernel_rfl) rfl (by kernel_rfl) (by kernel_rfl) (by kernel_rfl) (fun _ _ _ h => h) (Or.inl ⟨by rfl, ?_⟩) hH ?_
        · intro V hV; have z0 := (hV.cell (cell_lt f2)).trans f2; go_simp
        try simp only [Act.put, List.setIfInBounds_toArray, List.set_cons_zero, List.set_cons_succ, List.getElem_toArray, List.getElem_cons_succ, List.getElem_cons_zero]
        refine wpAnyN_take (i := 11) (v := .slice Bc d dc) [25] (by kernel_rfl) rfl (by kernel_rfl) (by kernel_rfl) (by kernel_rfl) (fun _ _ _ h => h) (yieldsIf_slice (by rfl) 24 (.tmp 108) (some (.tmp 110)) (some (.tmp 112)) none rfl _ ?_) hH ?_
        · intro V; exact HCUT.out.1 V
        try simp only [Act.put, List.setIfInBounds_toArray, List.set_cons_zero, List.set_cons_succ, List.getElem_toArray, List.getElem_cons_succ, List.getElem_cons_zero]
        refine wpAnyN_one (i := 5) (by kernel_rfl) rfl (fun K hK => ?_)
        go_simp
        refine con.mono ?_
        rintro e5 w5 ⟨A5, c5, vs5, rfl, hri, hvi, hb5⟩
        go_wp2_with fail
        have hS5 : Below W0.heap.size W0 w5 := hH.trans (hb5.mono hH.size)
        have con := matches_ (pc := c5) hri.rr hri.len hxl (fun u hu => by obtain ⟨v, hv, q⟩ := List.mem_map.1 (show u.i ∈ x.us.map (·.i) by rw [← hvi]; exact List.mem_map_of_mem hu); rw [← q]; exact hxf v hv) (fun u hu => by obtain ⟨v, hv, q⟩ := List.mem_map.1 (show u.i ∈ x.us.map (·.i) by rw [← hvi]; exact List.mem_map_of_mem hu); rw [← q]; exact hxs v hv) Bc d dc (cut bs g e) ((HCUT.out.2.1 _ (HBS.out.below (HB0.out.trans (hS5.mono HB0.out.size)))).more (Nat.le_trans HB0.out.size hS5.size)) HCUT.out.2.2
        refine hK.out _ _ (.inr hS5) ?_
        clear hK K
        try simp only [Act.put, List.setIfInBounds_toArray, List.set_cons_zero, List.set_cons_succ, List.getElem_toArray, List.getElem_cons_succ, List.getElem_cons_zero]
        refine wpAnyN_one (i := 12) (by kernel_rfl) rfl (fun K hK => ?_)
        go_simp
        refine con.mono ?_
        rintro e6 w6 ⟨b6, rfl, hb6, hbb⟩
        go_wp2_with fail
        have hS6 : Below W0.heap.size W0 w6 := hS5.trans (hbb.mono hS5.size)
        obtain rfl : b6 = true := hb6.2 (by rw [hvi]; exact HHIT.out)
        have p0 := (hS6.cell (cell_lt f0)).trans f0
        have p1 := (hS6.cell (cell_lt f1)).trans f1
        have p2 := (hS6.cell (cell_lt f2)).trans f2
        have q0 := (hS6.cell (cell_lt g0)).trans g0
        have q1 := (hS6.cell (cell_lt g1)).trans g1
        have q2 := (hS6.cell (cell_lt g2)).trans g2
        refine hK.out _ _ (.inr hS6) ?_
        clear hK K
        try simp only [Act.put, List.setIfInBounds_toArray, List.set_cons_zero, List.set_cons_succ, List.getElem_toArray, List.getElem_cons_succ, List.getElem_cons_zero]
        refine wpAnyN_one (i := 13) (by kernel_rfl) rfl (fun K hK => ?_)
        go_simp
        refine hK.out _ _ (.inr hS6) ?_
        clear hK K
        try simp only [Act.put, List.setIfInBounds_toArray, List.set_cons_zero, List.set_cons_succ, List.getElem_toArray, List.getElem_cons_succ, List.getElem_cons_zero]
        refine wpAnyN_one (i := 14) (by kernel_rfl) rfl (fun K hK => ?_)
        go_simp
        refine hK.out _ _ (.inr hS6) ?_
        clear hK K
        try simp only [Act.put, List.setIfInBounds_toArray, List.set_cons_zero, List.set_cons_succ, List.getElem_toArray, List.getElem_cons_succ, List.getElem_cons_zero]
        refine wpAnyN_one (i := 15) (by kernel_rfl) rfl (fun K hK => ?_)
        go_simp
        refine hK.out _ _ (.inr hS6) ?_
        clear hK K
        try simp only [Act.put, List.setIfInBounds_toArray, List.set_cons_zero, List.set_cons_succ, List.getElem_toArray, List.getElem_cons_succ, List.getElem_cons_zero]
        refine wpAnyN_one (i := 16) (by kernel_rfl) rfl (fun K hK => ?_)
        go_simp
        refine hK.out _ _ (.inr hS6) ?_
        clear hK K
        try simp only [Act.put, List.setIfInBounds_toArray, List.set_cons_zero, List.set_cons_succ, List.getElem_toArray, List.getElem_cons_succ, List.getElem_cons_zero]
        refine wpAnyN_one (i := 17) (by kernel_rfl) rfl (fun K hK => ?_)
        go_simp
        refine hK.out _ _ (.inr hS6) ?_
        clear hK K
        try simp only [Act.put, List.setIfInBounds_toArray, List.set_cons_zero, List.set_cons_succ, List.getElem_toArray, List.getElem_cons_succ, List.getElem_cons_zero]
        refine wpAnyN_take (i := 18) (v := .agg #[.int .i64 (i : Int), .int .i64 (g : Int), .int .i64 (e : Int)]) [25] (by kernel_rfl) rfl (by kernel_rfl) (by kernel_rfl) (by kernel_rfl) (fun _ _ _ h => h) (Or.inl ⟨by rfl, ?_⟩) hS6 ?_
        · intro V hV; have z0 := (hV.cell (cell_lt g0)).trans g0; have z1 := (hV.cell (cell_lt g1)).trans g1; have z2 := (hV.cell (cell_lt g2)).trans g2; go_simp
        try simp only [Act.put, List.setIfInBounds_toArray, List.set_cons_zero, List.set_cons_succ, List.getElem_toArray, List.getElem_cons_succ, List.getElem_cons_zero]
        refine wpAnyN_one (i := 19) (by kernel_rfl) rfl (fun K hK => ?_)
        go_simp
        refine hK.out _ _ (.inr hS6) ?_
        clear hK K
        try simp only [Act.put, List.setIfInBounds_toArray, List.set_cons_zero, List.set_cons_succ, List.getElem_toArray, List.getElem_cons_succ, List.getElem_cons_zero]
        refine wpAnyN_one (i := 20) (by kernel_rfl) rfl (fun K hK => ?_)
        go_simp
        refine hK.out _ _ (.inr hS6) ?_
        clear hK K
        try simp only [Act.put, List.setIfInBounds_toArray, List.set_cons_zero, List.set_cons_succ, List.getElem_toArray, List.getElem_cons_succ, List.getElem_cons_zero]
        refine wpAnyN_one (i := 21) (by kernel_rfl) rfl (fun K hK => ?_)
        go_simp
        refine hK.out _ _ (.inr hS6) ?_
        clear hK K
        try simp only [Act.put, List.setIfInBounds_toArray, List.set_cons_zero, List.set_cons_succ, List.getElem_toArray, List.getElem_cons_succ, List.getElem_cons_zero]
        refine wpAnyN_one (i := 22) (by kernel_rfl) rfl (fun K hK => ?_)
        go_simp
        refine hK.out _ _ (.inr hS6) ?_
        clear hK K
        try simp only [Act.put, List.setIfInBounds_toArray, List.set_cons_zero, List.set_cons_succ, List.getElem_toArray, List.getElem_cons_succ, List.getElem_cons_zero]
        refine wpAnyN_one (i := 23) (by kernel_rfl) rfl (fun K hK => ?_)
        go_simp
        refine (knows10 _).mono ?_
        rintro e7 w7 ⟨rfl, hb7⟩
        go_wp2_with fail
        have hS7 : Below W0.heap.size W0 w7 := hS6.trans (hb7.mono hS6.size)
        refine hK.out _ _ (.inr hS7) ?_
        clear hK K
        try simp only [Act.put, List.setIfInBounds_toArray, List.set_cons_zero, List.set_cons_succ, List.getElem_toArray, List.getElem_cons_succ, List.getElem_cons_zero]
        refine wpAnyN_one (i := 24) (by kernel_rfl) rfl (fun K hK => ?_)
        go_simp
        refine hK.out _ _ (.inr hS7) ?_
        clear hK K
        try simp only [Act.put, List.setIfInBounds_toArray, List.set_cons_zero, List.set_cons_succ, List.getElem_toArray, List.getElem_cons_succ, List.getElem_cons_zero]
        refine wpAnyN_one (i := 25) (by kernel_rfl) rfl (fun K hK => ?_)
        go_simp
        refine hK.out _ _ (.inl (by decide)) ?_
        clear hK K
        try simp only [Act.put, List.setIfInBounds_toArray, List.set_cons_zero, List.set_cons_succ, List.getElem_toArray, List.getElem_cons_succ, List.getElem_cons_zero]
        refine wpAnyN_done (by kernel_rfl) ?_ _
        go_wp2_with fail
        go_ret
        exact ⟨rfl, HB0.out.trans (hS7.mono HB0.out.size)⟩
end Go.Proofs.Ytjpbndpfbdfhjaa.Seek
