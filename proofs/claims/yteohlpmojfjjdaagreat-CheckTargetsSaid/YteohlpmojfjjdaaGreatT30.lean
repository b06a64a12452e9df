/-
Layer 14: the walk of CheckTargets: what the program compiles is as P14.2 says.
-/
import Derived.Test.YteohlpmojfjjdaaGreatT0
import Derived.Test.YteohlpmojfjjdaaGreatT1
import Derived.Test.YteohlpmojfjjdaaGreatT2
import Derived.Test.YteohlpmojfjjdaaGreatT3
import Derived.Test.YteohlpmojfjjdaaGreatT7
import Derived.Test.YteohlpmojfjjdaaGreatT8
import Derived.Test.YteohlpmojfjjdaaGreatT9
import Derived.Test.YteohlpmojfjjdaaGreatT22
import Derived.Test.YteohlpmojfjjdaaGreatT26
import Derived.Test.YteohlpmojfjjdaaGreatT29
import Derived.BigQuiet
set_option linter.unusedVariables false
set_option linter.unusedSimpArgs false
set_option maxRecDepth 100000
set_option maxHeartbeats 8000000
namespace Go.Proofs.YteohlpmojfjjdaaGreat.Chk
open Go.RowKit
open Lex (Tx Cr cr_ry)
open Vars (scell)
theorem tag_ways {s : GStep} (h : 0 ≤ s.tag ∧ s.tag ≤ 2 ∧ (s.sends = true → s.tag ≠ 0) ∧ (s.sends = false → s.tag = 0) ∧ (s.tag = 1 → s.try_ = 0) ∧ 1 ≤ s.time ∧ s.time ≤ 100 ∧ 0 ≤ s.try_ ∧ s.try_ ≤ 5) :
  (s.sends = false ∧ (s.tag == 0) = true ∧ (s.tag == 1) = false) ∨ (s.sends = true ∧ (s.tag == 0) = false ∧ (s.tag == 1) = true ∧ (s.try_ == 0) = true ∧ (s.try_ != 0) = false) ∨ (s.sends = true ∧ (s.tag == 0) = false ∧ (s.tag == 1) = false) := by
 obtain ⟨h1, h2, h3, h4, h5, h6⟩ := h
 cases hs : s.sends with
 | false =>
  have := h4 hs
  exact .inl ⟨rfl, by rw [this]; rfl, by rw [this]; rfl⟩
 | true =>
  have h0 := h3 hs
  by_cases e : s.tag = 1
  ·exact .inr (.inl ⟨rfl, by rw [e]; rfl, by rw [e]; rfl, by rw [h5 e]; rfl, by rw [h5 e]; rfl⟩)
  ·exact .inr (.inr ⟨rfl, by simp [h0], by simp [e]⟩)
theorem targets_walk (most : Int) (A : Option Addr) (n c : Nat) (vs : List Gs) (w : World) (hG : Gbk w w.heap.size A vs) (hl : vs.length = n) (hn : n ≤ maxLen) (hf : ∀ v ∈ vs, v.g.send.length ≤ v.c4 ∧ FitS v.g) :
  Calls Tryz.prog 5 #[.agg #[.int .i64 most, .slice A n c]] w fun e w' => e = .returned (.bool true) ∧ Below w.heap.size w w' := by
 obtain ⟨T, hT⟩ : ∃ T, T = w.heap.size := ⟨_, rfl⟩
 rw [← hT] at hG
 have hTw : T ≤ w.heap.size := by omega
 obtain ⟨w1, hw1⟩ : ∃ w1, w1 = w.alloc (.cells #[.int .i64 most, .slice A n c] 24) := ⟨_, rfl⟩
 have hb1 : Below w.heap.size w w1 := by rw [hw1]; exact (Below.refl _ _).alloc (Nat.le_refl _) _
 have hc1 : Cel w1 w.heap.size 24 [.int .i64 most, .slice A n c] := by rw [hw1]; exact Cel.new w _ _
 have con := few14 w1 T A n c vs (hG.below hTw hb1) (Nat.le_trans hTw hb1.size) hl hn (fun v hv => (hf v hv).2) most
 have k0 := hc1.cell 0
 have k1 := hc1.cell 1
 rw [hw1] at con k0 k1
 have HG := Lib.hid hG
 have HB1 := Lib.hid hb1
 have HC1 := Lib.hid hc1
 have HL := Lib.hid hl
 have HF := Lib.hid (fun v hv => (hf v hv).1)
 clear hG hb1 hc1 hl hf hT
 go_enter Tryz.func5, Tryz.ntmps5
 go_wp2_with fail
 rw [← hw1] at con ⊢
 refine con.mono ?_
 clear con hw1 k0 k1
 rintro e w2 ⟨b, rfl, hb2, hfew⟩
 have HB2 := Lib.hid (HB1.out.trans (hb2.mono HB1.out.size))
 have HC2 := Lib.hid (Cel.below HC1.out hb2 HC1.out.lt)
 have HFEW := Lib.hid hfew
 clear hb2 HC1 hfew
 cases b with
 | false =>
  have con := knows14 w2
  go_wp2_with fail
  refine con.mono ?_
  clear con
  rintro e w3 ⟨rfl, hb3⟩
  have HB3 := Lib.hid (HB2.out.trans (hb3.mono HB2.out.size))
  clear hb3
  go_wp2_with fail
  go_ret
  exact ⟨rfl, HB3.out⟩
 | true =>
  obtain ⟨hn35, hfs⟩ := HFEW.out rfl
  have hg2 := HG.out.below hTw HB2.out
  have hz : ∀ v ∈ vs, Szs v ∧ Pzs v := fun v hv => szs_few (HF.out v hv) (hg2.arms v hv).2 (hfs v hv)
  have hsum : sumA vs ≤ 50000 := by
   have := sumA_le (k := 10) (vs := vs) fun v hv => (hfs v hv).2.2.2.1
   rw [HL.out] at this; omega
  obtain ⟨bk, hbk⟩ : ∃ bk : GBook, bk = ⟨most, vs.map (·.g)⟩ := ⟨_, rfl⟩
  have con := pcompile_ w2 T bk A n c vs hg2 (Nat.le_trans hTw HB2.out.size) HL.out (by omega) hsum (fun v hv => (hz v hv).1) (fun v hv => (hz v hv).2) most (by rw [hbk]) (by rw [hbk])
  have HFS := Lib.hid hfs
  have HST := Lib.hid (show bk.steps = vs.map (·.g) by rw [hbk])
  have k0 := HC2.out.cell 0
  have k1 := HC2.out.cell 1
  change _ = some (Value.int .i64 most) at k0
  change _ = some (Value.slice A n c) at k1
  clear hg2 hz hfs hsum hbk HFEW
  go_wp2_with fail
  refine con.mono ?_
  clear con k0 k1
  intro e w3 h3
  obtain ⟨hb3, h3⟩ := h3
  have HB3 := Lib.hid (HB2.out.trans (hb3.mono HB2.out.size))
  cases hr : compile bk with
  | error q =>
   obtain ⟨z, p⟩ := q
   rw [hr] at h3
   obtain ⟨hz, rfl⟩ := h3
   have hzd : (z == 0) = false := by simpa using hz
   obtain ⟨W3, hW3⟩ : ∃ W3, W3 = w3.alloc (.cells #[.slice none 0 0, .slice none 0 0, .int .i64 0] 30) := ⟨_, rfl⟩
   have hb33 : Below w3.heap.size w3 W3 := by rw [hW3]; exact (Below.refl _ _).alloc (Nat.le_refl _) _
   have con := knows14 W3
   have HB33 := Lib.hid (HB3.out.trans (hb33.mono HB3.out.size))
   rw [hW3] at con
   clear hz hr hb3 hb33
   go_wp2_with fail
   rw [← hW3] at con ⊢
   refine con.mono ?_
   clear con hW3
   rintro e w4 ⟨rfl, hb4⟩
   have HB4 := Lib.hid (HB33.out.trans (hb4.mono HB33.out.size))
   clear hb4
   go_wp2_with fail
   go_ret
   exact ⟨rfl, HB4.out⟩
  | ok cb =>
   rw [hr] at h3
   obtain ⟨A3, c3, V3, d3, us, rfl, hk3, hu3, hn3⟩ := h3
   have hck : (check bk).1 = 0 ∧ cb = ⟨bk.steps.map (cStep bk), varsOf bk, bk.most⟩ := by
    unfold compile at hr
    split at hr
    ·cases hr
    ·rename_i h0
     injection hr with hr
     exact ⟨by simpa using h0, hr.symm⟩
   obtain ⟨hck, hcb⟩ := hck
   have hv8 := vars_few hck
   have hcs : cb.steps.length = n := by rw [hcb]; show (bk.steps.map (cStep bk)).length = _; rw [List.length_map, HST.out, List.length_map]; exact HL.out
   have hcv : cb.vars.length ≤ 8 := by rw [hcb]; exact hv8
   have hne : 1 ≤ n := by
    have := (check_ok hck).1
    rw [HST.out] at this
    have h0 : vs ≠ [] := fun e => this (by rw [e]; rfl)
    have := List.length_pos_iff.2 h0
    rw [HL.out] at this; omega
   rw [hcs]
   obtain ⟨vl, hvl⟩ : ∃ q, q = cb.vars.length := ⟨_, rfl⟩
   obtain ⟨bm, hbm⟩ : ∃ q, q = cb.most := ⟨_, rfl⟩
   have hvl2 : vl = (varsOf bk).length := by rw [hvl, hcb]
   rw [← hvl, ← hbm]
   rw [← hvl] at hcv
   have hus : us.map (·.s) = bk.steps.map (cStep bk) := by rw [hu3, hcb]
   obtain ⟨W5, hW5⟩ : ∃ W5, W5 = w3.alloc (.cells #[.slice A3 n c3, .slice V3 vl d3, .int .i64 bm] 30) := ⟨_, rfl⟩
   have hb5 : Below w3.heap.size w3 W5 := by rw [hW5]; exact (Below.refl _ _).alloc (Nat.le_refl _) _
   have hx5 : Cel W5 w3.heap.size 30 [.slice A3 n c3, .slice V3 vl d3, .int .i64 bm] := by rw [hW5]; exact Cel.new w3 _ _
   have HX5 := Lib.hid hx5
   have HB5 := Lib.hid (HB3.out.trans (hb5.mono HB3.out.size))
   have HK5 := Lib.hid (hk3.cgk.below (Nat.le_trans hTw HB3.out.size) hb5)
   have HC5 := Lib.hid (Cel.below (Cel.below HC2.out hb3 HC2.out.lt) hb5 (Cel.below HC2.out hb3 HC2.out.lt).lt)
   have HUS := Lib.hid hus
   have HCK := Lib.hid hck
   have HVL := Lib.hid hvl2
   have HUL := Lib.hid (show us.length = n by have := congrArg List.length hus; rw [List.length_map, List.length_map, HST.out, List.length_map, HL.out] at this; exact this)
   have hT5 : T ≤ W5.heap.size := Nat.le_trans hTw HB5.out.size
   clear hr hb3 hk3 hu3 hn3 hck hcb hv8 hcs hvl hbm hvl2 hus hb5 hx5 HC2 HB2 HB3
   go_wp2_with fail
   rw [← hW5]
   clear hW5
   go_loopw [6] (fun v6 wr => ∃ (i : Nat), i ≤ n ∧ v6 = .int .i64 (i : Int) ∧ Below W5.heap.size W5 wr) (fun v6 _ => n - (intOf v6).toNat)
   case atStart => exact ⟨0, Nat.zero_le _, rfl, Below.refl _ _⟩
   case round =>
    obtain ⟨i, hi, rfl, hb⟩ := hrel
    obtain ⟨W0, hW0⟩ : ∃ W0, W0 = wr := ⟨_, rfl⟩
    rw [← hW0] at hb ⊢
    clear hW0
    have HB0 := Lib.hid hb
    have hx0 := Cel.below HX5.out hb HX5.out.lt
    have x0 := hx0.cell 0
    change _ = some (Value.slice A3 n c3) at x0
    rcases Nat.lt_or_ge i n with hlt | hge
    ·obtain ⟨v, hv⟩ : ∃ v, vs[i]? = some v := ⟨_, List.getElem?_eq_getElem (by rw [HL.out]; exact hlt)⟩
     obtain ⟨u, hu⟩ : ∃ u, us[i]? = some u := ⟨_, List.getElem?_eq_getElem (by rw [HUL.out]; exact hlt)⟩
     have hbs : bk.steps[i]? = some v.g := by rw [HST.out, List.getElem?_map, hv]; rfl
     have hus : u.s = cStep bk v.g := by
      have h1 : (us.map (·.s))[i]? = some u.s := by rw [List.getElem?_map, hu]; rfl
      rw [HUS.out, List.getElem?_map, hbs] at h1
      exact (Option.some.inj h1).symm
     obtain ⟨⟨p1, p2⟩, p3, p4⟩ := plain14 HCK.out hbs
     have hbl : (bk.steps.length : Int) = (n : Int) := by rw [HST.out, List.length_map, HL.out]
     rw [hbl] at p2
     have hk0 := HK5.out.below hT5 hb
     obtain ⟨ad, rfl, s0, s1, s2, s3, s4, s5, s6⟩ := hk0.step hu
     rw [hus] at s0 s1 s2 s3 s4 s5 s6
     have hbw0 : Below w.heap.size w W0 := HB5.out.trans (hb.mono HB5.out.size)
     have hg0 := HG.out.below hTw hbw0
     obtain ⟨bd, hA, hcell⟩ := hg0.cell hv
     have q3 := hcell 3 _ rfl
     rw [← add_at9 bd (i * 9) 3 (by decide)] at q3
     change _ = some (Value.bool v.g.sends) at q3
     have hc0 := Cel.below HC5.out hb HC5.out.lt
     have b1 := hc0.cell 1
     change _ = some (Value.slice A n c) at b1
     rw [hA] at b1
     have e1 : decide ((target bk v.g.els).1 < -3) = false := decide_eq_false (by omega)
     have e2 : decide ((n : Int) ≤ (target bk v.g.els).1) = false := decide_eq_false (by omega)
     have e3 : decide (v.g.tag < 0) = false := decide_eq_false (by omega)
     have e4 : decide (2 < v.g.tag) = false := decide_eq_false (by omega)
     have e5 : decide (v.g.time < 1) = false := decide_eq_false (by omega)
     have hways := tag_ways p3
     have HP4 := Lib.hid p4
     have HU := Lib.hid hu
     have HUM := Lib.hid hus
     change W0.cell? (ad.add (i * 7)) = some (.string (str v.g.name)) at s0
     change _ = some (Value.int .i64 v.g.tag) at s1
     change _ = some (Value.slice u.A2 v.g.send.length u.k2) at s2
     change _ = some (Value.slice u.A3 (v.g.arms.map (cArm bk)).length u.k3) at s3
     change _ = some (Value.int .i64 v.g.time) at s4
     change _ = some (Value.int .i64 v.g.try_) at s5
     change _ = some (Value.int .i64 (target bk v.g.els).1) at s6
     rw [List.length_map] at s3
     obtain ⟨m, hm⟩ : ∃ m, m = v.g.arms.length := ⟨_, rfl⟩
     rw [← hm] at s3
     have hm10 : m ≤ 10 := by rw [hm]; exact (HFS.out v (List.mem_of_getElem? hv)).2.2.2.1
     have HM := Lib.hid hm
     have lad := cell_lt s0
     have lbd : (bd.add (i * 9)).block < W0.heap.size := by have := cell_lt (p := ⟨(bd.add (i * 9)).block, (bd.add (i * 9)).off + 3, none⟩) q3; exact this
     have lx := hx0.lt
     have lb := hc0.lt
     obtain ⟨te, hte⟩ : ∃ q, q = (target bk v.g.els).1 := ⟨_, rfl⟩
     rw [← hte] at s6 e1 e2
     obtain ⟨W1, hW1⟩ : ∃ W1, W1 = W0.alloc (.cells #[.string (str v.g.name), .int .i64 v.g.tag, .slice u.A2 v.g.send.length u.k2, .slice u.A3 m u.k3, .int .i64 v.g.time, .int .i64 v.g.try_, .int .i64 te] 49) := ⟨_, rfl⟩
     have hb1 : Below W0.heap.size W0 W1 := by rw [hW1]; exact (Below.refl _ _).alloc (Nat.le_refl _) _
     have hs1 : Cel W1 W0.heap.size 49 [.string (str v.g.name), .int .i64 v.g.tag, .slice u.A2 v.g.send.length u.k2, .slice u.A3 m u.k3, .int .i64 v.g.time, .int .i64 v.g.try_, .int .i64 te] := by rw [hW1]; exact Cel.new W0 _ _
     have HS1 := Lib.hid hs1
     have HB1 := Lib.hid hb1
     clear hb hx0 hv hu hbs hus p1 p2 p3 p4 hbl hk0 hbw0 hg0 hcell hc0 hm hte hb1 hs1 hA
     rcases hways with ⟨hs, t0, t1⟩ | ⟨hs, t0, t1, t2, t3⟩ | ⟨hs, t0, t1⟩
     all_goals
      rw [hs] at q3
      clear hs
      go_wp2_with fail
      go_quiet (fail)
      go_wp2_with fail
      obtain ⟨V1, hV1⟩ : ∃ V1, V1 = (W0.alloc (.cells #[.string (str v.g.name), .int .i64 v.g.tag, .slice u.A2 v.g.send.length u.k2, .slice u.A3 m u.k3, .int .i64 v.g.time, .int .i64 v.g.try_, .int .i64 te] 49)).drewN nq := ⟨_, rfl⟩
      rw [← hV1]
      rw [← hW1] at hV1
      have HV1 := Lib.hid (show Below W0.heap.size W0 V1 by rw [hV1]; exact Lex.lbelow_drew HB1.out nq)
      have HS2 := Lib.hid (show Cel V1 W0.heap.size 49 [.string (str v.g.name), .int .i64 v.g.tag, .slice u.A2 v.g.send.length u.k2, .slice u.A3 m u.k3, .int .i64 v.g.time, .int .i64 v.g.try_, .int .i64 te] by rw [hV1]; exact Cel.below HS1.out (Lex.lbelow_drew (Below.refl _ _) nq) HS1.out.lt)
      clear hV1 hW1 HB1 HS1 t0 t1 q3 s0 s1 s2 s3 s4 s5 s6 e1 e2 e3 e4 e5 b1 x0 lad lbd lx lb
      go_loopw [8] (fun v8 wr => ∃ (j : Nat), j ≤ m ∧ v8 = .int .i64 (j : Int) ∧ Below V1.heap.size V1 wr) (fun v8 _ => m - (intOf v8).toNat)
      case atStart => exact ⟨0, Nat.zero_le _, rfl, Below.refl _ _⟩
      case round =>
       obtain ⟨j, hj, rfl, hb⟩ := hrel
       obtain ⟨W2, hW2⟩ : ∃ W2, W2 = wr := ⟨_, rfl⟩
       rw [← hW2] at hb ⊢
       clear hW2
       have HB2 := Lib.hid hb
       have hs2 := Cel.below HS2.out hb HS2.out.lt
       have y3 := hs2.cell 3
       change _ = some (Value.slice u.A3 m u.k3) at y3
       have h05 : Below W5.heap.size W5 W2 := HB0.out.trans ((HV1.out.trans (hb.mono HV1.out.size)).mono HB0.out.size)
       have hx2 := Cel.below HX5.out h05 HX5.out.lt
       have x0 := hx2.cell 0
       have x1 := hx2.cell 1
       change _ = some (Value.slice (some ad) n c3) at x0
       change _ = some (Value.slice V3 vl d3) at x1
       rcases Nat.lt_or_ge j m with hlj | hgj
       ·obtain ⟨a, ha⟩ : ∃ a, v.g.arms[j]? = some a := ⟨_, List.getElem?_eq_getElem (by rw [← HM.out]; exact hlj)⟩
        have hk2 := HK5.out.below hT5 h05
        have hcm := (hk2.arms u (List.mem_of_getElem? HU.out)).2
        obtain ⟨ca, hca⟩ : ∃ ca, u.cas[j]? = some ca := ⟨_, List.getElem?_eq_getElem (by
         have h1 := congrArg List.length hcm
         rw [HUM.out] at h1
         have h2 : (cStep bk v.g).arms.length = v.g.arms.length := by show (v.g.arms.map (cArm bk)).length = _; rw [List.length_map]
         rw [List.length_map, h2, ← HM.out] at h1
         rw [h1]; exact hlj)⟩
        have hcc : ca.c = cArm bk a := by
         have h1 : (u.cas.map (·.c))[j]? = some ca.c := by rw [List.getElem?_map, hca]; rfl
         rw [hcm, HUM.out] at h1
         have h2 : (v.g.arms.map (cArm bk))[j]? = some ca.c := h1
         rw [List.getElem?_map, ha] at h2
         exact (Option.some.inj h2).symm
        obtain ⟨bd2, h5, d0, d1, d2⟩ := hk2.arm (List.mem_of_getElem? HU.out) hca
        rw [hcc] at d1 d2
        change _ = some (Value.int .i64 (atOf (varsOf bk) a.as_)) at d1
        change _ = some (Value.int .i64 (target bk a.go).1) at d2
        rw [h5] at y3
        obtain ⟨⟨p1, p2⟩, p3, p4⟩ := HP4.out a (List.mem_of_getElem? ha)
        have hbl : (bk.steps.length : Int) = (n : Int) := by rw [HST.out, List.length_map, HL.out]
        rw [hbl] at p2
        rw [← HVL.out] at p4
        have e1 : decide ((target bk a.go).1 < -3) = false := decide_eq_false (by omega)
        have e2 : decide ((n : Int) ≤ (target bk a.go).1) = false := decide_eq_false (by omega)
        have e3 : decide (atOf (varsOf bk) a.as_ < -1) = false := decide_eq_false (by omega)
        have e4 : decide ((vl : Int) ≤ atOf (varsOf bk) a.as_) = false := decide_eq_false (by omega)
        clear hb hs2 h05 hx2 ha hk2 hcm hca hcc h5 d0 p1 p2 p3 p4 hbl
        go_wp2_with fail
        go_quiet (fail)
        go_wp2_with fail
        exact ⟨⟨j + 1, hlj, by rw [show ((j + 1 : Nat) : Int) = (j : Int) + 1 by omega], Lex.lbelow_drew HB2.out nq⟩, by simp [intOf]; omega⟩
       ·obtain rfl : j = m := by omega
        clear hb hs2 h05 hx2
        go_wp2_with fail
        exact ⟨⟨i + 1, hlt, by rw [show ((i + 1 : Nat) : Int) = (i : Int) + 1 by omega], HB0.out.trans ((HV1.out.trans (HB2.out.mono HV1.out.size)).mono HB0.out.size)⟩, by simp [intOf]; omega⟩
    ·obtain rfl : i = n := by omega
     have x1 := hx0.cell 1
     change _ = some (Value.slice V3 vl d3) at x1
     have e1 : decide ((1 : Int) ≤ (i : Int)) = true := decide_eq_true (by omega)
     have e2 : decide ((vl : Int) ≤ 8) = true := decide_eq_true (by omega)
     have con := knows14 W0
     have HBW := Lib.hid (HB5.out.trans (hb.mono HB5.out.size))
     clear hb hx0
     go_wp2_with fail
     refine con.mono ?_
     clear con
     rintro e w7 ⟨rfl, hb7⟩
     have HB7 := Lib.hid (HBW.out.trans (hb7.mono HBW.out.size))
     clear hb7
     go_wp2_with fail
     go_ret
     exact ⟨rfl, HB7.out⟩
end Go.Proofs.YteohlpmojfjjdaaGreat.Chk
