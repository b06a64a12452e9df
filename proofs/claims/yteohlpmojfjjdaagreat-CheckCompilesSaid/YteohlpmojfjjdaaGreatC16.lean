/-
Texts: ChkCheck ChkOut OrdersTwo ChkCompW
-/
import Derived.Test.YteohlpmojfjjdaaGreatC0
import Derived.Test.YteohlpmojfjjdaaGreatC1
import Derived.Test.YteohlpmojfjjdaaGreatC2
import Derived.Test.YteohlpmojfjjdaaGreatC3
import Derived.Test.YteohlpmojfjjdaaGreatC5
import Derived.Test.YteohlpmojfjjdaaGreatC7
import Derived.Test.YteohlpmojfjjdaaGreatC8
import Derived.Test.YteohlpmojfjjdaaGreatC9
import Derived.Test.YteohlpmojfjjdaaGreatC15
set_option linter.unusedVariables false
set_option linter.unusedSimpArgs false
set_option maxRecDepth 100000
set_option maxHeartbeats 4000000
section
namespace Go.Proofs.YteohlpmojfjjdaaGreat.Chk
open Go.RowKit Go.Proofs.YteohlpmojfjjdaaGreat.Ord
open Lex (Tx Cr cr_ry lbelow_drew)
theorem armsBad_hit {b : GBook} {k : Nat} {a : GArm} {l : List GArm} (h : armBad b k a ≠ 0) : armsBad b k (a :: l) = (armBad b k a, a.at_) := by unfold armsBad; rw [if_pos h]
theorem armsBad_miss {b : GBook} {k : Nat} {a : GArm} {l : List GArm} (h : armBad b k a = 0) : armsBad b k (a :: l) = armsBad b (k + 1) l := by
 conv => lhs; unfold armsBad
 rw [if_neg (by simp [h])]
theorem stepsBad_hit {b : GBook} {i : Nat} {s : GStep} {l : List GStep} (h : stepBad b i s ≠ 0) : stepsBad b i (s :: l) = (stepBad b i s, s.at_) := by unfold stepsBad; rw [if_pos h]
theorem stepsBad_arm {b : GBook} {i : Nat} {s : GStep} {l : List GStep} (h : stepBad b i s = 0) (h2 : (armsBad b 0 s.arms).1 ≠ 0) : stepsBad b i (s :: l) = armsBad b 0 s.arms := by
 unfold stepsBad; rw [if_neg (by simp [h]), if_pos h2]
theorem stepsBad_miss {b : GBook} {i : Nat} {s : GStep} {l : List GStep} (h : stepBad b i s = 0) (h2 : (armsBad b 0 s.arms).1 = 0) : stepsBad b i (s :: l) = stepsBad b (i + 1) l := by
 conv => lhs; unfold stepsBad
 rw [if_neg (by simp [h]), if_neg (by simp [h2])]
def CkSays (w : World) (r : Int × Int) (e : Ending) (w' : World) : Prop := e = .returned (.tuple #[.int .i64 r.1, .int .i64 r.2]) ∧ Below w.heap.size w w'
theorem check_ (w : World) (T : Nat) (A : Option Addr) (n c : Nat) (vs : List Gs) (h : Gbk w T A vs) (hT : T ≤ w.heap.size) (hl : vs.length = n) (hn : n ≤ 50000) (hs : sumA vs ≤ 50000) (most : Int) (hcap : ∀ v ∈ vs, v.g.send.length ≤ v.c4 ∧ v.g.send.length ≤ 100000 ∧ v.g.arms.length ≤ 50000) :
  Calls Tryz.prog 17 #[.agg #[.int .i64 most, .slice A n c]] w (CkSays w (check ⟨most, vs.map (·.g)⟩)) := by
 obtain ⟨w1, hw1⟩ : ∃ w1, w1 = w.alloc (.cells #[.int .i64 most, .slice A n c] 38) := ⟨_, rfl⟩
 have hb1 : Below w.heap.size w w1 := by rw [hw1]; exact (Below.refl _ _).alloc (Nat.le_refl _) _
 have hcb : Cel w1 w.heap.size 38 [.int .i64 most, .slice A n c] := by rw [hw1]; exact Cel.new w _ _
 have H := Lib.hid (h.below hT hb1)
 have HCB := Lib.hid hcb
 have HB := Lib.hid hb1
 have HL := Lib.hid hl
 have HCAP := Lib.hid hcap
 have hT1 : T ≤ w1.heap.size := Nat.le_trans hT hb1.size
 obtain ⟨E, hE⟩ : ∃ E, E = check ⟨most, vs.map (·.g)⟩ := ⟨_, rfl⟩
 rw [← hE]
 have HE := Lib.hid hE
 have b0 := hcb.cell 0
 have b1 := hcb.cell 1
 rw [hw1] at b0 b1
 clear h hb1 hcb hcap hE
 by_cases h0 : n = 0
 ·have HE2 := Lib.hid (show E = (4, 0) by
   have hv : vs = [] := List.eq_nil_of_length_eq_zero (by rw [HL.out]; exact h0)
   rw [HE.out, hv]; rfl)
  subst h0
  go_enter Tryz.func17, Tryz.ntmps17
  go_wp2_with fail
  rw [← hw1]
  go_ret2
  rw [HE2.out]
  exact ⟨rfl, HB.out⟩
 have hnz : ((n : Int) == 0) = false := by simp; omega
 have hvn : vs ≠ [] := fun e => h0 (by rw [← HL.out, e]; rfl)
 by_cases hm1 : most < 1
 ·have hd1 : decide (most < 1) = true := decide_eq_true hm1
  have HE2 := Lib.hid (show E = (1, 0) by rw [HE.out]; unfold check; rw [if_neg (by simpa using hvn), if_pos (.inl hm1)])
  clear hvn h0
  go_enter Tryz.func17, Tryz.ntmps17
  go_wp2_with fail
  rw [← hw1]
  go_ret2
  rw [HE2.out]
  exact ⟨rfl, HB.out⟩
 have hd1 : decide (most < 1) = false := decide_eq_false hm1
 have hm1n : 1 ≤ most := by omega
 by_cases hm2 : 1000 < most
 ·have hd2 : decide (1000 < most) = true := decide_eq_true hm2
  have HE2 := Lib.hid (show E = (1, 0) by rw [HE.out]; unfold check; rw [if_neg (by simpa using hvn), if_pos (.inr hm2)])
  clear hvn h0
  go_enter Tryz.func17, Tryz.ntmps17
  go_wp2_with fail
  rw [← hw1]
  go_ret2
  rw [HE2.out]
  exact ⟨rfl, HB.out⟩
 have hd2 : decide (1000 < most) = false := decide_eq_false hm2
 have hm2n : most ≤ 1000 := by omega
 have HE2 := Lib.hid (show E = stepsBad ⟨most, vs.map (·.g)⟩ 0 (vs.map (·.g)) by rw [HE.out]; unfold check; rw [if_neg (by simpa using hvn), if_neg (fun hh => hh.elim hm1 hm2)])
 clear hvn h0 HE
 go_enter Tryz.func17, Tryz.ntmps17
 go_wp2_with fail
 rw [← hw1]
 clear hw1 b0 b1
 go_loopw [4] (fun v4 wr => ∃ i : Nat, i ≤ n ∧ v4 = .int .i64 (i : Int) ∧ Below w1.heap.size w1 wr ∧ Hid (E = stepsBad ⟨most, vs.map (·.g)⟩ i ((vs.map (·.g)).drop i))) (fun v4 _ => n - (intOf v4).toNat)
 case atStart => exact ⟨0, Nat.zero_le _, rfl, Below.refl _ _, Lib.hid (by rw [List.drop_zero]; exact HE2.out)⟩
 case round =>
  clear HE2
  obtain ⟨i, hi, rfl, hb, HK⟩ := hrel
  obtain ⟨W0, hW0⟩ : ∃ W0, W0 = wr := ⟨_, rfl⟩
  rw [← hW0] at hb ⊢
  clear hW0
  have HB0 := Lib.hid hb
  have HC0 := Lib.hid (HCB.out.below hb HCB.out.lt)
  have H0 := Lib.hid (H.out.below hT1 hb)
  have hT0 : T ≤ W0.heap.size := Nat.le_trans hT1 hb.size
  have b0 := HC0.out.cell 0
  have b1 := HC0.out.cell 1
  change _ = some (Value.int .i64 most) at b0
  change _ = some (Value.slice A n c) at b1
  clear hb
  rcases Nat.lt_or_ge i n with hlt | hge
  ·obtain ⟨x, hx⟩ : ∃ x, vs[i]? = some x := ⟨_, List.getElem?_eq_getElem (by rw [HL.out]; exact hlt)⟩
   obtain ⟨hc1, hc2, hc3⟩ := HCAP.out x (List.mem_of_getElem? hx)
   have con := step14 W0 T A n c vs H0.out hT0 HL.out hn hs most i x hx hc1 hc2
   obtain ⟨z, hz⟩ : ∃ z, z = stepBad ⟨most, vs.map (·.g)⟩ i x.g := ⟨_, rfl⟩
   rw [← hz] at con
   have HZ := Lib.hid hz
   have HX := Lib.hid hx
   have HD := Lib.hid (show (vs.map (·.g)).drop i = x.g :: (vs.map (·.g)).drop (i + 1) from drop_at' (by rw [List.getElem?_map, hx]; rfl))
   clear hx hz hc1 hc2
   go_wp2_with fail
   refine con.mono ?_
   clear con b0 b1
   rintro e w3 ⟨rfl, hb3⟩
   have HB3 := Lib.hid (HB0.out.trans (hb3.mono HB0.out.size))
   have H3 := Lib.hid (H0.out.below hT0 hb3)
   have HC3 := Lib.hid (HC0.out.below hb3 HC0.out.lt)
   obtain ⟨ad, rfl, hcell⟩ := H3.out.cell HX.out
   have b0 := HC3.out.cell 0
   have b1 := HC3.out.cell 1
   change _ = some (Value.int .i64 most) at b0
   change _ = some (Value.slice (some ad) n c) at b1
   have k0 := hcell 0 _ rfl
   rw [Nat.add_zero] at k0
   have k5 := hcell 5 _ rfl
   rw [← add_at9 ad (i * 9) 5 (by decide)] at k5
   clear hb3 hcell
   by_cases hzz : z = 0
   case neg =>
    have HE3 := Lib.hid (show E = (z, x.g.at_) by rw [HK.out, HD.out, stepsBad_hit (by rw [← HZ.out]; exact hzz), ← HZ.out])
    have hzb : (z == 0) = false := by simpa using hzz
    clear HK
    go_wp2_with fail
    go_quiet (fail)
    go_wp2_with fail
    go_ret2
    rw [HE3.out]
    exact ⟨rfl, HB.out.trans ((lbelow_drew HB3.out nq).mono HB.out.size)⟩
   subst hzz
   obtain ⟨m, hm⟩ : ∃ m, m = x.g.arms.length := ⟨_, rfl⟩
   rw [← hm] at k5 hc3
   have HM := Lib.hid hm
   have hax : x.avs.length = m := by rw [hm, ← (H3.out.arms x (List.mem_of_getElem? HX.out)).2]; simp
   have HAX := Lib.hid hax
   have HAG := Lib.hid (H3.out.arms x (List.mem_of_getElem? HX.out)).2
   clear hm hax
   go_wp2_with fail
   go_loopw [6] (fun v6 wr => ∃ j : Nat, j ≤ m ∧ v6 = .int .i64 (j : Int) ∧ Below w3.heap.size w3 wr ∧ Hid (armsBad ⟨most, vs.map (·.g)⟩ 0 x.g.arms = armsBad ⟨most, vs.map (·.g)⟩ j (x.g.arms.drop j))) (fun v6 _ => m - (intOf v6).toNat)
   case atStart => exact ⟨0, Nat.zero_le _, rfl, Below.refl _ _, Lib.hid (by rw [List.drop_zero])⟩
   case round =>
    obtain ⟨j, hj, rfl, hb, HK2⟩ := hrel
    obtain ⟨W4, hW4⟩ : ∃ W4, W4 = wr := ⟨_, rfl⟩
    rw [← hW4] at hb ⊢
    clear hW4
    have hT3 : T ≤ w3.heap.size := Nat.le_trans hT1 HB3.out.size
    have HB4 := Lib.hid (HB3.out.trans (hb.mono HB3.out.size))
    have H4 := Lib.hid (H3.out.below hT3 hb)
    have HC4 := Lib.hid (HC3.out.below hb HC3.out.lt)
    have HBW := Lib.hid hb
    replace b0 := (hb.cell (cell_lt b0)).trans b0
    replace b1 := (hb.cell (cell_lt b1)).trans b1
    replace k5 := (hb.cell (cell_lt k5)).trans k5
    have hT4 : T ≤ W4.heap.size := Nat.le_trans hT3 hb.size
    clear hb k0
    rcases Nat.lt_or_ge j m with hlj | hgj
    ·obtain ⟨a, ha⟩ : ∃ a, x.avs[j]? = some a := ⟨_, List.getElem?_eq_getElem (by rw [HAX.out]; exact hlj)⟩
     obtain ⟨ad5, h5, hac⟩ := H4.out.acell HX.out ha
     have q0 := hac 0 _ rfl
     have q1 := hac 1 _ rfl
     have q2 := hac 2 _ rfl
     have q3 := hac 3 _ rfl
     rw [Nat.add_zero] at q0
     rw [← add_at9 ad5 (j * 4) 1 (by decide)] at q1
     rw [← add_at9 ad5 (j * 4) 2 (by decide)] at q2
     rw [← add_at9 ad5 (j * 4) 3 (by decide)] at q3
     rw [h5] at k5
     have HDJ := Lib.hid (show x.g.arms.drop j = a.g :: x.g.arms.drop (j + 1) by
      rw [← HAG.out]
      exact drop_at' (by rw [List.getElem?_map, ha]; rfl))
     have htx := H4.out.pats x (List.mem_of_getElem? HX.out) a (List.mem_of_getElem? ha)
     have con := arm14 W4.drew T (some ad) n c vs (H4.out.below hT4 (Below.refl _ _).drew) hT4 HL.out hn hs most a.g a.A a.c (htx.below hT4 (Below.refl _ _).drew) j
     obtain ⟨u, hu⟩ : ∃ u, u = armBad ⟨most, vs.map (·.g)⟩ j a.g := ⟨_, rfl⟩
     rw [← hu] at con
     have HU := Lib.hid hu
     clear hac ha htx hu
     go_wp2_with fail
     refine wp_region_N [] (Below W4.heap.size W4) (by kernel_rfl) ?_
     have hH : Below W4.heap.size W4 W4.drew := (Below.refl _ _).drew
     refine tk_ 0 (.agg #[.int .i64 most, .slice (some ad) n c]) [] rfl hH ?_ ?_
     ·intro V hV; have zb0 := (hV.cell (cell_lt b0)).trans b0; have zb1 := (hV.cell (cell_lt b1)).trans b1; go_simp
     try simp only [Act.put, lay_]
     refine tk_ 1 (.pointer (some ⟨w.heap.size, 1, none⟩)) [] rfl hH ?_ ?_
     ·intro V hV; go_simp
     try simp only [Act.put, lay_]
     refine tk_ 2 (.slice (some ad) n c) [] rfl hH ?_ ?_
     ·intro V hV; have zb1 := (hV.cell (cell_lt b1)).trans b1; go_simp
     try simp only [Act.put, lay_]
     refine tk_ 3 (.int .i64 (i : Int)) [] rfl hH ?_ ?_
     ·intro V hV; go_simp
     try simp only [Act.put, lay_]
     refine tk_ 4 (.pointer (some (ad.add (i * 9)))) [] rfl hH ?_ ?_
     ·intro V hV; go_simp
     try simp only [Act.put, lay_]
     refine tk_ 5 (.pointer (some ⟨(ad.add (i * 9)).block, (ad.add (i * 9)).off + 5, none⟩)) [] rfl hH ?_ ?_
     ·intro V hV; go_simp
     try simp only [Act.put, lay_]
     refine tk_ 6 (.slice (some ad5) m x.c5) [] rfl hH ?_ ?_
     ·intro V hV; have zk5 := (hV.cell (cell_lt k5)).trans k5; go_simp
     try simp only [Act.put, lay_]
     refine tk_ 7 (.int .i64 (j : Int)) [] rfl hH ?_ ?_
     ·intro V hV; go_simp
     try simp only [Act.put, lay_]
     refine tk_ 8 (.pointer (some (ad5.add (j * 4)))) [] rfl hH ?_ ?_
     ·intro V hV; go_simp
     try simp only [Act.put, lay_]
     refine tk_ 9 (.agg #[.int .i64 a.g.at_, .slice a.A a.g.pat.length a.c, .string (str a.g.as_), .string (str a.g.go)]) [] rfl hH ?_ ?_
     ·intro V hV; have zq0 := (hV.cell (cell_lt q0)).trans q0; have zq1 := (hV.cell (cell_lt q1)).trans q1; have zq2 := (hV.cell (cell_lt q2)).trans q2; have zq3 := (hV.cell (cell_lt q3)).trans q3; go_simp
     try simp only [Act.put, lay_]
     refine tk_ 10 (.int .i64 (j : Int)) [] rfl hH ?_ ?_
     ·intro V hV; go_simp
     try simp only [Act.put, lay_]
     refine wpAnyN_one (i := 11) (by kernel_rfl) rfl (fun K hK => ?_)
     go_simp
     refine con.mono ?_
     rintro e w6 ⟨rfl, hb6⟩
     go_wp2_with fail
     have hH6 : Below W4.heap.size W4 w6 := hH.trans hb6
     refine hK.out _ _ (.inr hH6) ?_
     clear hK K con hH
     try simp only [Act.put, lay_]
     refine wpAnyN_one (i := 12) (by kernel_rfl) rfl (fun K hK => ?_)
     go_simp
     refine hK.out _ _ (.inr hH6) ?_
     clear hK K
     try simp only [Act.put, lay_]
     refine wpAnyN_done (by kernel_rfl) ?_ _
     have HB6 := Lib.hid (HB4.out.trans (hH6.mono HB4.out.size))
     have HBW6 := Lib.hid (HBW.out.trans (hH6.mono HBW.out.size))
     replace b0 := (hH6.cell (cell_lt b0)).trans b0
     replace b1 := (hH6.cell (cell_lt b1)).trans b1
     replace k5 := (hH6.cell (cell_lt k5)).trans k5
     replace q0 := (hH6.cell (cell_lt q0)).trans q0
     clear hb6 hH6 q1 q2 q3
     by_cases huz : u = 0
     case neg =>
      have HE3 := Lib.hid (show E = (u, a.g.at_) by
       have e1 : armsBad ⟨most, vs.map (·.g)⟩ 0 x.g.arms = (u, a.g.at_) := by rw [HK2.out, HDJ.out, armsBad_hit (by rw [← HU.out]; exact huz), ← HU.out]
       rw [HK.out, HD.out, stepsBad_arm HZ.out.symm (by rw [e1]; exact huz), e1])
      have hub : (u == 0) = false := by simpa using huz
      clear HK HK2 huz
      go_wp2_with fail
      go_quiet (fail)
      go_wp2_with fail
      go_ret2
      rw [HE3.out]
      exact ⟨rfl, HB.out.trans ((lbelow_drew HB6.out nq).mono HB.out.size)⟩
     subst huz
     have HK3 := Lib.hid (show armsBad ⟨most, vs.map (·.g)⟩ 0 x.g.arms = armsBad ⟨most, vs.map (·.g)⟩ (j + 1) (x.g.arms.drop (j + 1)) by rw [HK2.out, HDJ.out, armsBad_miss HU.out.symm])
     clear HK2
     go_wp2_with fail
     exact ⟨⟨j + 1, by omega, by rw [show ((j + 1 : Nat) : Int) = (j : Int) + 1 by omega], HBW6.out, HK3⟩, by simp [intOf]; omega⟩
    ·obtain rfl : j = m := by omega
     have HK3 := Lib.hid (show E = stepsBad ⟨most, vs.map (·.g)⟩ (i + 1) ((vs.map (·.g)).drop (i + 1)) by
      have e1 : armsBad ⟨most, vs.map (·.g)⟩ 0 x.g.arms = (0, 0) := by rw [HK2.out, List.drop_eq_nil_of_le (by rw [← HM.out]; exact Nat.le_refl _)]; rfl
      rw [HK.out, HD.out, stepsBad_miss HZ.out.symm (by rw [e1])])
     clear HK HK2
     go_wp2_with fail
     exact ⟨⟨i + 1, by omega, by rw [show ((i + 1 : Nat) : Int) = (i : Int) + 1 by omega], HB4.out, HK3⟩, by simp [intOf]; omega⟩
  ·obtain rfl : i = n := by omega
   have HE3 := Lib.hid (show E = (0, 0) by rw [HK.out, List.drop_eq_nil_of_le (by rw [List.length_map, HL.out]; exact Nat.le_refl _)]; rfl)
   clear HK
   go_wp2_with fail
   go_ret2
   rw [HE3.out]
   exact ⟨rfl, HB.out.trans (HB0.out.mono HB.out.size)⟩
end Go.Proofs.YteohlpmojfjjdaaGreat.Chk
end
section
namespace Go.Proofs.YteohlpmojfjjdaaGreat.Chk
open Go.RowKit
open Lex (Tx Cr cr_ry)
open Book (Tx.frm)
open Vars (scell)
structure Ca where
 c : CArm
 A : Option Addr
 k : Nat
def Ca.cells (v : Ca) : List Value := [.slice v.A v.c.pat.length v.k, .int .i64 v.c.var, .int .i64 v.c.to]
def caflat (vs : List Ca) : List Value := vs.flatMap Ca.cells
structure Cs where
 s : CStep
 A2 : Option Addr
 k2 : Nat
 A3 : Option Addr
 k3 : Nat
 cas : List Ca
def Cs.cells (v : Cs) : List Value := [.string (str v.s.name), .int .i64 v.s.tag, .slice v.A2 v.s.send.length v.k2, .slice v.A3 v.s.arms.length v.k3, .int .i64 v.s.time, .int .i64 v.s.try_, .int .i64 v.s.els]
def csflat (vs : List Cs) : List Value := vs.flatMap Cs.cells
theorem caflat_app (us vs : List Ca) : caflat (us ++ vs) = caflat us ++ caflat vs := by simp [caflat]
theorem csflat_app (us vs : List Cs) : csflat (us ++ vs) = csflat us ++ csflat vs := by simp [csflat]
theorem infoCa : (Tryz.prog.info? 54).map (fun i => (i.zero, i.size, i.bytes)) = some (some (.agg #[.slice none 0 0, .int .i64 0, .int .i64 0]), 3, 40) := by kernel_rfl
theorem rowCa : ElemRow Tryz.prog 47 54 3 40 := ElemRow.mk' Tryz.underlying47 infoCa rfl (by decide)
theorem infoCs : (Tryz.prog.info? 49).map (fun i => (i.zero, i.size, i.bytes)) = some (some (.agg #[.string ⟨#[]⟩, .int .i64 0, .slice none 0 0, .slice none 0 0, .int .i64 0, .int .i64 0, .int .i64 0]), 7, 96) := by kernel_rfl
theorem rowCs : ElemRow Tryz.prog 27 49 7 96 := ElemRow.mk' Tryz.underlying27 infoCs rfl (by decide)
def CParts (w : World) (T : Nat) (v : Cs) : Prop := Tx w T v.A2 v.s.send ∧ Ry 54 w v.A3 (caflat v.cas) ∧ v.cas.map (·.c) = v.s.arms ∧ ∀ u ∈ v.cas, Tx w T u.A u.c.pat
theorem CParts.below {w w' : World} {T : Nat} {v : Cs} (h : CParts w T v) (hT : T ≤ w.heap.size) (hb : Below w.heap.size w w') : CParts w' T v :=
 ⟨h.1.below hT hb, h.2.1.below hb, h.2.2.1, fun u hu => (h.2.2.2 u hu).below hT hb⟩
theorem CParts.frm {w w' : World} {T : Nat} {v : Cs} {l : List Nat} (h : CParts w T v) (hf : Frm l w w') (hl : ∀ k ∈ l, T ≤ k ∧ (∀ cs fz, w.heap[k]? ≠ some (Obj.cells cs 5 fz)) ∧ ∀ cs fz, w.heap[k]? ≠ some (Obj.cells cs 54 fz)) : CParts w' T v :=
 ⟨Tx.frm h.1 hf fun k hk => ⟨(hl k hk).1, (hl k hk).2.1⟩, h.2.1.frm hf fun k hk => (hl k hk).2.2, h.2.2.1, fun u hu => Tx.frm (h.2.2.2 u hu) hf fun k hk => ⟨(hl k hk).1, (hl k hk).2.1⟩⟩
structure Cbk (w : World) (T : Nat) (A : Option Addr) (vs : List Cs) : Prop where
 ry : Ry 49 w A (csflat vs)
 parts : ∀ v ∈ vs, CParts w T v
def CmSays (w : World) (T : Nat) (r : Except (Int × Int) CBook) (e : Ending) (w' : World) : Prop := Below w.heap.size w w' ∧ match r with
 | .error (bad, p) => bad ≠ 0 ∧ e = .returned (.tuple #[.agg #[.slice none 0 0, .slice none 0 0, .int .i64 0], .int .i64 p, .int .i64 bad])
 | .ok b => ∃ A k A1 k1 vs, e = .returned (.tuple #[.agg #[.slice A b.steps.length k, .slice A1 b.vars.length k1, .int .i64 b.most], .int .i64 0, .int .i64 0]) ∧ Cbk w' T A vs ∧ vs.map (·.s) = b.steps ∧ Ry 9 w' A1 (b.vars.map scell)
end Go.Proofs.YteohlpmojfjjdaaGreat.Chk
end
section
namespace Go.Proofs.YteohlpmojfjjdaaGreat.Ord
open Go.RowKit
section
variable {P : Program} {ops : Array Oper} {Q : Exit → Act → World → Prop} {md : Region.Mode} {S : World → Prop} {N : List Nat}
theorem wpAnyN_two {i j : Nat} {oi oj : Oper} {fuel : Nat} {listed : Array Bool} {a : Act} {w : World} (hr : Region.ready md ops listed = [i, j]) (hi : ops[i]? = some oi) (hj : ops[j]? = some oj)
  (h1 : ∀ K' : Act → World → Prop, Shut (∀ a w, (i ∈ N ∨ S w) → wpAnyN P md ops Q S N fuel (listed.setIfInBounds i true) a w → K' a w) → if Region.wanted oi (yielded ops a.tmps) = true then Oper.wp P oi a w K' Q else K' (a.put oi.dst undef) w)
  (h2 : ∀ K' : Act → World → Prop, Shut (∀ a w, (j ∈ N ∨ S w) → wpAnyN P md ops Q S N fuel (listed.setIfInBounds j true) a w → K' a w) → if Region.wanted oj (yielded ops a.tmps) = true then Oper.wp P oj a w K' Q else K' (a.put oj.dst undef) w) :
  wpAnyN P md ops Q S N (fuel + 1) listed a w :=
 ⟨fun h0 => (by rw [hr] at h0; cases h0), fun k hk => by
  rw [hr] at hk
  simp only [List.mem_cons, List.not_mem_nil, or_false] at hk
  rcases hk with rfl | rfl
  ·exact wpOp_step hi (fun K' hK => h1 K' (fun a w hS hW => hK a w ⟨fun hn => hS.resolve_left hn, hW⟩))
  ·exact wpOp_step hj (fun K' hK => h2 K' (fun a w hS hW => hK a w ⟨fun hn => hS.resolve_left hn, hW⟩))⟩
end
end Go.Proofs.YteohlpmojfjjdaaGreat.Ord
end
section
namespace Go.Proofs.YteohlpmojfjjdaaGreat.Chk
open Go.RowKit
open Lex (Tx Cr cr_ry)
open Vars (scell)
open Book (Tx.frm)
structure Co (w W : World) (g T : Nat) (bm : Int) (A : Option Addr) (n c : Nat) (ns : List (List B)) (Av : Option Addr) (cv : Nat) (As : Option Addr) (cs : Nat) (out : List Cs) : Prop where
 bc : Cel W w.heap.size 38 [.int .i64 bm, .slice A n c]
 rc : Cel W (w.heap.size + 1) 30 [.slice none 0 0, .slice none 0 0, .int .i64 0]
 oc : Cel W g 30 [.slice As out.length cs, .slice Av ns.length cv, .int .i64 bm]
 gg : w.heap.size + 1 < g
 bel : Below w.heap.size w W
 own : W.ownsRow w.heap.size 49 7 (.slice As out.length cs) out.length (csflat out)
 parts : ∀ v ∈ out, CParts W T v
 nms : Ry 9 W Av (ns.map scell)
section
variable {w W W' : World} {g T : Nat} {bm : Int} {A : Option Addr} {n c : Nat} {ns : List (List B)} {Av : Option Addr} {cv : Nat} {As : Option Addr} {cs : Nat} {out : List Cs}
theorem Co.below (h : Co w W g T bm A n c ns Av cv As cs out) (hT : T ≤ w.heap.size) (hb : Below W.heap.size W W') : Co w W' g T bm A n c ns Av cv As cs out :=
 ⟨(hb.block _ h.bc.lt).trans h.bc, (hb.block _ h.rc.lt).trans h.rc, (hb.block _ h.oc.lt).trans h.oc, h.gg, h.bel.trans (hb.mono h.bel.size), own_frm (l := []) h.own (Frm.of_below hb) (by simp), fun v hv => (h.parts v hv).below (Nat.le_trans hT h.bel.size) hb, h.nms.below hb⟩
theorem Co.step {A' : Option Addr} {c' : Nat} {v : Cs} (h : Co w W g T bm A n c ns Av cv As cs out) (hT : T ≤ w.heap.size) (hv : CParts W T v) (hg : W.grownBy W' (Value.slice As out.length cs).ownBlock) (ho : W'.ownsRow w.heap.size 49 7 (.slice A' (out.length + 1) c') (out.length + 1) (csflat out ++ v.cells)) :
  Cel W' g 30 [.slice As out.length cs, .slice Av ns.length cv, .int .i64 bm] ∧ Co w (W'.setCell ⟨g, 0, none⟩ (.slice A' (out.length + 1) c')) g T bm A n c ns Av cv A' c' (out ++ [v]) := by
 have hf1 : Frm (Value.slice As out.length cs).ownBlock.toList W W' := (Frm.refl _ _).grown hg (fun k e _ => by rw [e]; simp)
 have hf2 : Frm [g] W' (W'.setCell ⟨g, 0, none⟩ (.slice A' (out.length + 1) c')) := (Frm.refl _ W').set (by simp) _
 have hb : Cel W' w.heap.size 38 [.int .i64 bm, .slice A n c] := Cel.grown h.bc hg (own_ty_ne h.own h.bc (by decide))
 have hr : Cel W' (w.heap.size + 1) 30 [.slice none 0 0, .slice none 0 0, .int .i64 0] := Cel.grown h.rc hg (own_ty_ne h.own h.rc (by decide))
 have hc : Cel W' g 30 [.slice As out.length cs, .slice Av ns.length cv, .int .i64 bm] := Cel.grown h.oc hg (own_ty_ne h.own h.oc (by decide))
 have hb1 : Below w.heap.size w W' := h.bel.trans (hf1.below h.bel.size fun k hk => own_ge h.own k (by simpa using hk))
 have hlen : (out ++ [v]).length = out.length + 1 := by simp
 have hl1 : ∀ k ∈ (Value.slice As out.length cs).ownBlock.toList, T ≤ k ∧ (∀ cs fz, W.heap[k]? ≠ some (Obj.cells cs 5 fz)) ∧ ∀ cs fz, W.heap[k]? ≠ some (Obj.cells cs 54 fz) := by
  intro k hk
  have e : (Value.slice As out.length cs).ownBlock = some k := by simpa using hk
  exact ⟨Nat.le_trans hT (own_ge h.own k e), fun cs fz => own_not_ty h.own (by decide) k cs fz e, fun cs fz => own_not_ty h.own (by decide) k cs fz e⟩
 have hl2 : ∀ k ∈ [g], T ≤ k ∧ (∀ cs fz, W'.heap[k]? ≠ some (Obj.cells cs 5 fz)) ∧ ∀ cs fz, W'.heap[k]? ≠ some (Obj.cells cs 54 fz) := by
  intro k hk
  rw [List.mem_singleton.1 hk]
  exact ⟨by have := h.gg; omega, Cel.not_ty hc (by decide), Cel.not_ty hc (by decide)⟩
 refine ⟨hc, (hf2.block _ hb.lt (by have := h.gg; simp; omega)).trans hb, (hf2.block _ hr.lt (by have := h.gg; simp; omega)).trans hr, ?_, h.gg, hb1.trans (hf2.below hb1.size (by intro q hq; have := h.gg; rw [List.mem_singleton.1 hq]; omega)), ?_, fun u hu => ?_, ?_⟩
 ·have := hc.set 0 (.slice A' (out.length + 1) c')
  rw [hlen]
  exact this
 ·rw [hlen, csflat_app]
  exact own_frm (show W'.ownsRow w.heap.size 49 7 (.slice A' (out.length + 1) c') (out.length + 1) (csflat out ++ csflat [v]) by rw [show csflat [v] = v.cells by simp [csflat]]; exact ho) hf2 fun k hk => by rw [List.mem_singleton.1 hk]; exact own_ty_ne ho hc (by decide)
 ·rcases List.mem_append.1 hu with hu | hu
  ·exact ((h.parts u hu).frm hf1 hl1).frm hf2 hl2
  ·rw [List.mem_singleton.1 hu]; exact (hv.frm hf1 hl1).frm hf2 hl2
 ·refine (h.nms.grown hg fun k o fz e => own_not_ty h.own (by decide) k o fz e).frm hf2 fun k hk => ?_
  rw [List.mem_singleton.1 hk]; exact Cel.not_ty hc (by decide)
end
def xcells (v : Gs) (els : Int) (A3 : Option Addr) (m k3 : Nat) : List Value := [.string (str v.g.name), .int .i64 v.g.tag, .slice v.A4 v.g.send.length v.c4, .slice A3 m k3, .int .i64 v.g.time, .int .i64 v.g.try_, .int .i64 els]
structure Ci (W0 W : World) (T : Nat) (v : Gs) (els : Int) (A3 : Option Addr) (k3 : Nat) (cas : List Ca) : Prop where
 sc : Cel W W0.heap.size 67 v.cells
 xc : Cel W (W0.heap.size + 1) 49 (xcells v els A3 cas.length k3)
 bel : Below W0.heap.size W0 W
 own : W.ownsRow W0.heap.size 54 3 (.slice A3 cas.length k3) cas.length (caflat cas)
 tx : ∀ u ∈ cas, Tx W T u.A u.c.pat
section
variable {W0 W W' : World} {T : Nat} {v : Gs} {els : Int} {A3 : Option Addr} {k3 : Nat} {cas : List Ca}
theorem Ci.below (h : Ci W0 W T v els A3 k3 cas) (hT : T ≤ W0.heap.size) (hb : Below W.heap.size W W') : Ci W0 W' T v els A3 k3 cas :=
 ⟨(hb.block _ h.sc.lt).trans h.sc, (hb.block _ h.xc.lt).trans h.xc, h.bel.trans (hb.mono h.bel.size), own_frm (l := []) h.own (Frm.of_below hb) (by simp), fun u hu => (h.tx u hu).below (Nat.le_trans hT h.bel.size) hb⟩
theorem Ci.arm {A' : Option Addr} {c' : Nat} {a : Ca} (h : Ci W0 W T v els A3 k3 cas) (hT : T ≤ W0.heap.size) (ha : Tx W T a.A a.c.pat) (hg : W.grownBy W' (Value.slice A3 cas.length k3).ownBlock) (ho : W'.ownsRow W0.heap.size 54 3 (.slice A' (cas.length + 1) c') (cas.length + 1) (caflat cas ++ a.cells)) :
  Cel W' (W0.heap.size + 1) 49 (xcells v els A3 cas.length k3) ∧ Ci W0 (W'.setCell ⟨W0.heap.size + 1, 3, none⟩ (.slice A' (cas.length + 1) c')) T v els A' c' (cas ++ [a]) := by
 have hf1 : Frm (Value.slice A3 cas.length k3).ownBlock.toList W W' := (Frm.refl _ _).grown hg (fun k e _ => by rw [e]; simp)
 have hf2 : Frm [W0.heap.size + 1] W' (W'.setCell ⟨W0.heap.size + 1, 3, none⟩ (.slice A' (cas.length + 1) c')) := (Frm.refl _ W').set (by simp) _
 have hs : Cel W' W0.heap.size 67 v.cells := Cel.grown h.sc hg (own_ty_ne h.own h.sc (by decide))
 have hx : Cel W' (W0.heap.size + 1) 49 (xcells v els A3 cas.length k3) := Cel.grown h.xc hg (own_ty_ne h.own h.xc (by decide))
 have hb1 : Below W0.heap.size W0 W' := h.bel.trans (hf1.below h.bel.size fun k hk => own_ge h.own k (by simpa using hk))
 have hlen : (cas ++ [a]).length = cas.length + 1 := by simp
 have hl1 : ∀ k ∈ (Value.slice A3 cas.length k3).ownBlock.toList, T ≤ k ∧ ∀ cs fz, W.heap[k]? ≠ some (Obj.cells cs 5 fz) := by
  intro k hk
  have e : (Value.slice A3 cas.length k3).ownBlock = some k := by simpa using hk
  exact ⟨Nat.le_trans hT (own_ge h.own k e), fun cs fz => own_not_ty h.own (by decide) k cs fz e⟩
 have hl2 : ∀ k ∈ [W0.heap.size + 1], T ≤ k ∧ ∀ cs fz, W'.heap[k]? ≠ some (Obj.cells cs 5 fz) := by
  intro k hk
  rw [List.mem_singleton.1 hk]
  exact ⟨by omega, Cel.not_ty hx (by decide)⟩
 refine ⟨hx, (hf2.block _ hs.lt (by simp)).trans hs, ?_, hb1.trans (hf2.below hb1.size (by intro q hq; rw [List.mem_singleton.1 hq]; omega)), ?_, fun u hu => ?_⟩
 ·have := hx.set 3 (.slice A' (cas.length + 1) c')
  rw [hlen]
  exact this
 ·rw [hlen, caflat_app]
  exact own_frm (show W'.ownsRow W0.heap.size 54 3 (.slice A' (cas.length + 1) c') (cas.length + 1) (caflat cas ++ caflat [a]) by rw [show caflat [a] = a.cells by simp [caflat]]; exact ho) hf2 fun k hk => by rw [List.mem_singleton.1 hk]; exact own_ty_ne ho hx (by decide)
 ·rcases List.mem_append.1 hu with hu | hu
  ·exact Tx.frm (Tx.frm (h.tx u hu) hf1 hl1) hf2 hl2
  ·rw [List.mem_singleton.1 hu]; exact Tx.frm (Tx.frm ha hf1 hl1) hf2 hl2
end
end Go.Proofs.YteohlpmojfjjdaaGreat.Chk
end
