/-
The program's check (layer 14): the first fault of a book.
-/
import Derived.Test.YteohlpmojfjjdaaGreatT1
import Derived.Test.YteohlpmojfjjdaaGreatT2
import Derived.Test.YteohlpmojfjjdaaGreatT7
import Derived.Test.YteohlpmojfjjdaaGreatT8
import Derived.Test.YteohlpmojfjjdaaGreatT15
import Derived.Test.YteohlpmojfjjdaaGreatT21
set_option linter.unusedVariables false
set_option linter.unusedSimpArgs false
set_option maxRecDepth 100000
set_option maxHeartbeats 4000000
namespace Go.Proofs.YteohlpmojfjjdaaGreat.Chk
open Go.RowKit
open Lex (Tx Cr cr_ry)
open Vars (scell Ons names)
def Szs (v : Gs) : Prop := v.g.name.length ≤ 100000 ∧ v.g.els.length ≤ 100000 ∧ v.g.send.length ≤ 100000 ∧ v.g.send.length ≤ v.c4 ∧ v.g.arms.length ≤ 50000 ∧ ∀ a ∈ v.avs, a.g.as_.length ≤ 100000 ∧ a.g.go.length ≤ 100000
section
variable {w : World} {q g i T : Nat} {b : GBook} {v : Gs} {a : Ga}
theorem rowS_ans (hx : BxS w q g i v) (hn : Nn w g b.steps (varsOf b)) (hs : Szs v) (ht : Tx w T v.A4 v.g.send) (hT : T ≤ w.heap.size) : ∀ p ∈ (asksS q).zip (rowS b i v.g), Ans w p.1 p.2 := by
 obtain ⟨s1, s2, s3, s4, s5, s6⟩ := hs
 intro p hp
 simp only [asksS, rowS, List.zip_cons_cons, List.zip_nil_right, List.mem_cons, List.not_mem_nil, or_false] at hp
 rcases hp with rfl | rfl | rfl | rfl | rfl | rfl | rfl | rfl | rfl
 ·exact ansS1 hx
 ·exact ansS2 hx hn s1
 ·exact ansS3 hx
 ·exact ansS4 hx
 ·exact ansS5 hx
 ·exact ansS6 hx
 ·exact ansS7 hx
 ·exact ansS8 hx hn ht hT s3 s4
 ·exact ansS9 hx hn s2
theorem rowA_ans (hx : BxA w q g i a) (hn : Nn w g b.steps (varsOf b)) (hs : a.g.as_.length ≤ 100000 ∧ a.g.go.length ≤ 100000) (hv : varF (varsOf b) a.g.as_ = atOf (varsOf b) a.g.as_) (ht : Tx w T a.A a.g.pat) (hT : T ≤ w.heap.size) : ∀ p ∈ (asksA q).zip (rowA b i a.g), Ans w p.1 p.2 := by
 intro p hp
 simp only [asksA, rowA, List.zip_cons_cons, List.zip_nil_right, List.mem_cons, List.not_mem_nil, or_false] at hp
 rcases hp with rfl | rfl | rfl | rfl
 ·exact ansA1 hx
 ·exact ansA2 hx ht hT
 ·rw [← hv]; exact ansA3 hx hn hs.1
 ·exact ansA4 hx hn hs.2
end
theorem rowB_ans {w : World} {q n c : Nat} {m : Int} {A : Option Addr} {b : GBook} (hx : Cel w q 24 [.int .i64 m, .slice A n c]) (hm : b.most = m) (hl : b.steps.length = n) : ∀ p ∈ (asksB q).zip (rowB b), Ans w p.1 p.2 := by
 intro p hp
 simp only [asksB, rowB, List.zip_cons_cons, List.zip_nil_right, List.mem_cons, List.not_mem_nil, or_false] at hp
 rw [hm, hl] at hp
 rcases hp with rfl | rfl
 ·exact ansB1 hx
 ·exact ansB2 hx
theorem zip_v {l : List Ask} {es : List Int} (h : l.length = es.length) : ((l.zip es).map fun p => p.1.v) = l.map Ask.v ∧ (l.zip es).map (·.2) = es := by
 have h1 : (l.zip es).map Prod.fst = l := List.map_fst_zip (by omega)
 have h2 : (l.zip es).map Prod.snd = es := List.map_snd_zip (by omega)
 refine ⟨?_, h2⟩
 conv => rhs; rw [← h1]
 rw [List.map_map]
 rfl
theorem row_first {w0 w : World} {l : List Ask} {es : List Int} {k : Nat} (hc : Cel w k 114 (l.map Ask.v)) (hl : l.length = es.length) (hn : l.length ≤ 100) (ha : ∀ p ∈ l.zip es, Ans w p.1 p.2) :
  Calls Tryz.prog 26 #[.slice (some ⟨k, 0, none⟩) l.length l.length] w fun e w' => e = .returned (.int .i64 (firstE es)) ∧ Below w.heap.size w w' := by
 have := first_ w (l.zip es) ha (rb := k) (n := l.length) (c := l.length) (by rw [(zip_v hl).1]; exact hc) (by rw [List.length_zip]; omega) hn
 rw [(zip_v hl).2] at this
 exact this
def FfSays (w : World) (r : Int × Int) (e : Ending) (w' : World) : Prop := e = .returned (.tuple #[.int .i64 r.2, .int .i64 r.1]) ∧ Below w.heap.size w w'
theorem firstFault_ (w : World) (T g : Nat) (A : Option Addr) (n c : Nat) (vs : List Gs) (most : Int) (h : Gbk w T A vs) (hT : T ≤ w.heap.size) (hl : vs.length = n) (hn : n ≤ 50000) (hs : ∀ v ∈ vs, Szs v) (b : GBook) (hbm : b.most = most) (hbs : b.steps = vs.map (·.g)) (hN : Nn w g b.steps (varsOf b)) :
  Calls Tryz.prog 15 #[pa g, .agg #[.int .i64 most, .slice A n c]] w (FfSays w (check b)) := by
 obtain ⟨w1, hw1⟩ : ∃ w1, w1 = w.alloc (.cells #[.int .i64 most, .slice A n c] 24) := ⟨_, rfl⟩
 have hb1 : Below w.heap.size w w1 := by rw [hw1]; exact (Below.refl _ _).alloc (Nat.le_refl _) _
 have hcb : Cel w1 w.heap.size 24 [.int .i64 most, .slice A n c] := by rw [hw1]; exact Cel.new w _ _
 have H := Lib.hid h
 have HCB := Lib.hid hcb
 have HB := Lib.hid hb1
 have HL := Lib.hid hl
 have HS := Lib.hid hs
 have HN := Lib.hid hN
 have HM := Lib.hid hbm
 have HST := Lib.hid hbs
 have hbl : b.steps.length = n := by rw [hbs, List.length_map]; exact hl
 have HBL := Lib.hid hbl
 obtain ⟨R, hR⟩ : ∃ R, R = check b := ⟨_, rfl⟩
 rw [← hR]
 have HRB := Lib.hid (hR.trans (row_book b))
 have con := ofBookV w1 most A n c
 have b0 := hcb.cell 0
 have b1 := hcb.cell 1
 rw [hw1] at b0 b1 con
 clear h hb1 hcb hl hs hN hbm hbs hbl hR
 go_enter Tryz.func15, Tryz.ntmps15
 go_wp2_with fail
 rw [← hw1] at con ⊢
 refine con.mono ?_
 clear con
 rintro e w2 ⟨rfl, hb2, hc2, hx2⟩
 have HCBW := Lib.hid (Cel.below HCB.out hb2 HCB.out.lt)
 have con := row_first (w0 := w1) (es := rowB b) hc2 rfl (by show (2 : Nat) ≤ 100; decide) (rowB_ans hx2 HM.out HBL.out)
 have HB2 := Lib.hid (HB.out.trans (hb2.mono HB.out.size))
 clear hc2 b0 b1 hw1 hb2
 have HX2 := Lib.hid hx2
 clear hx2
 obtain ⟨E0, hE0⟩ : ∃ E0, E0 = firstE (rowB b) := ⟨_, rfl⟩
 rw [← hE0] at con
 have HR := Lib.hid (show R = if E0 ≠ 0 then (E0, 0) else stepsBad b 0 b.steps by rw [hE0]; exact HRB.out)
 clear hE0
 go_wp2_with fail
 refine con.mono ?_
 clear con
 rintro e w3 ⟨rfl, hb3⟩
 have HB3 := Lib.hid (HB2.out.trans (hb3.mono HB2.out.size))
 have HCB3 := Lib.hid (show Cel w3 w.heap.size 24 [.int .i64 most, .slice A n c] from (Cel.below HCBW.out hb3 HCBW.out.lt))
 clear hb3
 by_cases hz0 : E0 = 0
 rotate_left
 ·have d : (E0 == 0) = false := by simp [hz0]
  have HR2 := Lib.hid (show R = (E0, 0) by rw [HR.out, if_pos hz0])
  clear hz0
  go_wp2_with fail
  go_ret2
  rw [HR2.out]
  exact ⟨rfl, HB3.out⟩
 subst hz0
 have HR2 := Lib.hid (show R = stepsBad b 0 b.steps by rw [HR.out, if_neg (by simp)])
 have b1 := HCB3.out.cell 1
 change _ = some (Value.slice A n c) at b1
 clear HR
 go_wp2_with fail
 go_loopw [22] (fun v22 wr => ∃ (i : Nat), i ≤ n ∧ v22 = .int .i64 (i : Int) ∧ Below w.heap.size w wr ∧ Hid (R = stepsBad b i (b.steps.drop i))) (fun v22 _ => n - (intOf v22).toNat)
 case atStart => exact ⟨0, Nat.zero_le _, rfl, HB3.out, Lib.hid (by rw [List.drop_zero]; exact HR2.out)⟩
 case round =>
  obtain ⟨i, hi, rfl, hb, HK⟩ := hrel
  obtain ⟨W0, hW0⟩ : ∃ W0, W0 = wr := ⟨_, rfl⟩
  rw [← hW0] at hb ⊢
  clear hW0 b1
  have HB0 := Lib.hid hb
  clear hb
  rcases Nat.lt_or_ge i n with hlt | hge
  ·obtain ⟨x, hx⟩ : ∃ x, vs[i]? = some x := ⟨_, List.getElem?_eq_getElem (by rw [HL.out]; exact hlt)⟩
   have hxm := List.mem_of_getElem? hx
   have hG0 := H.out.below hT HB0.out
   obtain ⟨ad, rfl, hcell⟩ := hG0.cell hx
   have k0 := hcell 0 _ rfl
   have k1 := hcell 1 _ rfl
   have k2 := hcell 2 _ rfl
   have k3 := hcell 3 _ rfl
   have k4 := hcell 4 _ rfl
   have k5 := hcell 5 _ rfl
   have k6 := hcell 6 _ rfl
   have k7 := hcell 7 _ rfl
   have k8 := hcell 8 _ rfl
   rw [Nat.add_zero] at k0
   rw [← add_at9 ad (i * 9) _ (by decide)] at k1 k2 k3 k4 k5 k6 k7 k8
   have HXS := Lib.hid (HS.out x hxm)
   have HTX := Lib.hid (hG0.send x hxm)
   have HGX := Lib.hid hG0
   have hbx : b.steps[i]? = some x.g := by rw [HST.out, List.getElem?_map, hx]; rfl
   have HBX := Lib.hid hbx
   have HX := Lib.hid hx
   have HRW := Lib.hid (row_step hbx)
   have HD := Lib.hid (show R = stepsBad b i (x.g :: b.steps.drop (i + 1)) by rw [HK.out, drop_at' hbx])
   obtain ⟨W4, hW4⟩ : ∃ W4, W4 = W0.alloc (.cells #[.int .i64 x.g.at_, .string (str x.g.name), .int .i64 x.g.tag, .bool x.g.sends, .slice x.A4 x.g.send.length x.c4, .slice x.A5 x.g.arms.length x.c5, .int .i64 x.g.time, .int .i64 x.g.try_, .string (str x.g.els)] 52) := ⟨_, rfl⟩
   have hb4 : Below W0.heap.size W0 W4 := by rw [hW4]; exact (Below.refl _ _).alloc (Nat.le_refl _) _
   have hc4 : Cel W4 W0.heap.size 52 x.cells := by rw [hW4]; exact Cel.new W0 _ x.cells
   have HB4 := Lib.hid (HB0.out.trans (hb4.mono HB0.out.size))
   have HC4 := Lib.hid hc4
   have HB04 := Lib.hid hb4
   have con := ofStepV W4 g i x.g.at_ x.g.tag x.g.time x.g.try_ x.g.sends (str x.g.name) (str x.g.els) x.A4 x.A5 x.g.send.length x.c4 x.g.arms.length x.c5
   have HW4 := Lib.hid hW4
   clear hx hxm hG0 hcell hbx HK hb4 hc4
   rw [hW4] at con
   go_wp2_with fail
   rw [← HW4.out] at con ⊢
   clear HW4 hW4 k0 k1 k2 k3 k4 k5 k6 k7 k8
   refine con.mono ?_
   clear con
   rintro e w5 ⟨rfl, hb5, hc5, hx5⟩
   have hw5 : Below w.heap.size w w5 := HB4.out.trans (hb5.mono HB4.out.size)
   have con := row_first (w0 := w5) (es := rowS b i x.g) hc5 rfl (by show (9 : Nat) ≤ 100; decide) (rowS_ans (T := T) (v := x) ⟨hx5.1, hx5.2.1, hx5.2.2⟩ (HN.out.below hw5) HXS.out ((HTX.out.below (Nat.le_trans hT HB0.out.size) (HB04.out.trans (hb5.mono HB04.out.size)))) (Nat.le_trans hT hw5.size))
   rw [HRW.out] at con
   have HB5 := Lib.hid hw5
   have HC5 := Lib.hid (Cel.below HC4.out hb5 HC4.out.lt)
   obtain ⟨E1, hE1⟩ : ∃ E1, E1 = stepBad b i x.g := ⟨_, rfl⟩
   rw [← hE1] at con
   have HE1 := Lib.hid hE1
   clear hE1 hb5 hc5 hx5 hw5 HRW
   go_wp2_with fail
   refine con.mono ?_
   clear con
   rintro e w6 ⟨rfl, hb6⟩
   have HB6 := Lib.hid (HB5.out.trans (hb6.mono HB5.out.size))
   have HC6 := Lib.hid (Cel.below HC5.out hb6 HC5.out.lt)
   clear hb6
   by_cases hz1 : E1 = 0
   rotate_left
   ·have d : (E1 == 0) = false := by simp [hz1]
    have HR2 := Lib.hid (show R = (E1, x.g.at_) by rw [HD.out, stepsBad_hit (by rw [← HE1.out]; exact hz1), ← HE1.out])
    have k0 := HC6.out.cell 0
    change _ = some (Value.int .i64 x.g.at_) at k0
    clear hz1
    go_wp2_with fail
    go_ret2
    rw [HR2.out]
    exact ⟨rfl, HB6.out⟩
   subst hz1
   have HST1 := Lib.hid (show R = if (armsBad b 0 x.g.arms).1 ≠ 0 then armsBad b 0 x.g.arms else stepsBad b (i + 1) (b.steps.drop (i + 1)) by
    rw [HD.out]
    by_cases ha : (armsBad b 0 x.g.arms).1 = 0
    ·rw [stepsBad_miss HE1.out.symm ha, if_neg (by simp [ha])]
    ·rw [stepsBad_arm HE1.out.symm ha, if_pos ha])
   have k5 := HC6.out.cell 5
   change _ = some (Value.slice x.A5 x.g.arms.length x.c5) at k5
   obtain ⟨m, hm⟩ : ∃ m, m = x.g.arms.length := ⟨_, rfl⟩
   rw [← hm] at k5
   have hm5 : m ≤ 50000 := by rw [hm]; exact HXS.out.2.2.2.2.1
   have ham : x.avs.length = m := by rw [hm, ← (HGX.out.arms x (List.mem_of_getElem? HX.out)).2]; simp
   have HAM := Lib.hid ham
   have HAG := Lib.hid (HGX.out.arms x (List.mem_of_getElem? HX.out)).2
   clear HE1 HD hm ham
   go_wp2_with fail
   go_loopw [40] (fun v40 wr => ∃ (j : Nat), j ≤ m ∧ v40 = .int .i64 (j : Int) ∧ Below w.heap.size w wr ∧ Hid (armsBad b 0 x.g.arms = armsBad b j (x.g.arms.drop j))) (fun v40 _ => m - (intOf v40).toNat)
   case atStart => exact ⟨0, Nat.zero_le _, rfl, HB6.out, Lib.hid (by rw [List.drop_zero])⟩
   case round =>
    obtain ⟨j, hj, rfl, hb, HK2⟩ := hrel
    obtain ⟨W1, hW1⟩ : ∃ W1, W1 = wr := ⟨_, rfl⟩
    rw [← hW1] at hb ⊢
    clear hW1 k5
    have HB7 := Lib.hid hb
    clear hb
    rcases Nat.lt_or_ge j m with hlj | hgj
    ·obtain ⟨a, ha⟩ : ∃ a, x.avs[j]? = some a := ⟨_, List.getElem?_eq_getElem (by rw [HAM.out]; exact hlj)⟩
     have hG1 := H.out.below hT HB7.out
     obtain ⟨ad5, h5, hac⟩ := hG1.acell HX.out ha
     have k0 := hac 0 _ rfl
     have k1 := hac 1 _ rfl
     have k2 := hac 2 _ rfl
     have k3 := hac 3 _ rfl
     rw [Nat.add_zero] at k0
     rw [← add_at9 ad5 (j * 4) _ (by decide)] at k1 k2 k3
     have haj : x.g.arms[j]? = some a.g := by rw [← HAG.out, List.getElem?_map, ha]; rfl
     have HDJ := Lib.hid (show armsBad b 0 x.g.arms = armsBad b j (a.g :: x.g.arms.drop (j + 1)) by rw [HK2.out, drop_at' haj])
     have HSZ := Lib.hid (HXS.out.2.2.2.2.2 a (List.mem_of_getElem? ha))
     have HTA := Lib.hid (hG1.pats x (List.mem_of_getElem? HX.out) a (List.mem_of_getElem? ha))
     have HVE := Lib.hid (var_eq (List.mem_of_getElem? HBX.out) (List.mem_of_getElem? haj))
     obtain ⟨W4, hW4⟩ : ∃ W4, W4 = W1.alloc (.cells #[.int .i64 a.g.at_, .slice a.A a.g.pat.length a.c, .string (str a.g.as_), .string (str a.g.go)] 56) := ⟨_, rfl⟩
     have hb4 : Below W1.heap.size W1 W4 := by rw [hW4]; exact (Below.refl _ _).alloc (Nat.le_refl _) _
     have hc4 : Cel W4 W1.heap.size 56 a.cells := by rw [hW4]; exact Cel.new W1 _ a.cells
     have HB8 := Lib.hid (HB7.out.trans (hb4.mono HB7.out.size))
     have HC8 := Lib.hid hc4
     have HB08 := Lib.hid hb4
     have con := ofArmV W4 g j a.g.at_ (str a.g.as_) (str a.g.go) a.A a.g.pat.length a.c
     have HW4 := Lib.hid hW4
     rw [h5]
     clear ha hG1 hac haj HK2 hb4 hc4 h5
     rw [hW4] at con
     go_wp2_with fail
     rw [← HW4.out] at con ⊢
     clear HW4 hW4 k0 k1 k2 k3
     refine con.mono ?_
     clear con
     rintro e w9 ⟨rfl, hb9, hc9, hx9⟩
     have hw9 : Below w.heap.size w w9 := HB8.out.trans (hb9.mono HB8.out.size)
     have con := row_first (w0 := w9) (es := rowA b j a.g) hc9 rfl (by show (4 : Nat) ≤ 100; decide) (rowA_ans (T := T) (a := a) ⟨hx9.1, hx9.2.1, hx9.2.2⟩ (HN.out.below hw9) HSZ.out HVE.out (HTA.out.below (Nat.le_trans hT HB7.out.size) (HB08.out.trans (hb9.mono HB08.out.size))) (Nat.le_trans hT hw9.size))
     rw [row_arm] at con
     have HB9 := Lib.hid hw9
     have HC9 := Lib.hid (Cel.below HC8.out hb9 HC8.out.lt)
     obtain ⟨E2, hE2⟩ : ∃ E2, E2 = armBad b j a.g := ⟨_, rfl⟩
     rw [← hE2] at con
     have HE2 := Lib.hid hE2
     clear hE2 hb9 hc9 hx9 hw9
     go_wp2_with fail
     refine con.mono ?_
     clear con
     rintro e w10 ⟨rfl, hb10⟩
     have HB10 := Lib.hid (HB9.out.trans (hb10.mono HB9.out.size))
     have HC10 := Lib.hid (Cel.below HC9.out hb10 HC9.out.lt)
     clear hb10
     by_cases hz2 : E2 = 0
     rotate_left
     ·have d : (E2 == 0) = false := by simp [hz2]
      have HAB := Lib.hid (show armsBad b 0 x.g.arms = (E2, a.g.at_) by rw [HDJ.out, armsBad_hit (by rw [← HE2.out]; exact hz2), ← HE2.out])
      have HR2 := Lib.hid (show R = (E2, a.g.at_) by rw [HST1.out, HAB.out, if_pos hz2])
      have k0 := HC10.out.cell 0
      change _ = some (Value.int .i64 a.g.at_) at k0
      clear hz2
      go_wp2_with fail
      go_ret2
      rw [HR2.out]
      exact ⟨rfl, HB10.out⟩
     subst hz2
     have HK3 := Lib.hid (show armsBad b 0 x.g.arms = armsBad b (j + 1) (x.g.arms.drop (j + 1)) by rw [HDJ.out, armsBad_miss HE2.out.symm])
     go_wp2_with fail
     exact ⟨⟨j + 1, hlj, by rw [show ((j + 1 : Nat) : Int) = (j : Int) + 1 by omega], HB10.out, HK3⟩, by simp [intOf]; omega⟩
    ·obtain rfl : j = m := by omega
     have HAB := Lib.hid (show armsBad b 0 x.g.arms = (0, 0) by
      rw [HK2.out, List.drop_eq_nil_of_le (by rw [← HAM.out, ← HAG.out, List.length_map]; exact Nat.le_refl _)]; rfl)
     have HK3 := Lib.hid (show R = stepsBad b (i + 1) (b.steps.drop (i + 1)) by rw [HST1.out, HAB.out, if_neg (by simp)])
     go_wp2_with fail
     exact ⟨⟨i + 1, hlt, by rw [show ((i + 1 : Nat) : Int) = (i : Int) + 1 by omega], HB7.out, HK3⟩, by simp [intOf]; omega⟩
  ·obtain rfl : i = n := by omega
   have HR3 := Lib.hid (show R = (0, 0) by rw [HK.out, List.drop_eq_nil_of_le (by rw [HBL.out]; exact Nat.le_refl _)]; rfl)
   go_wp2_with fail
   go_ret2
   rw [HR3.out]
   exact ⟨rfl, HB0.out⟩
end Go.Proofs.YteohlpmojfjjdaaGreat.Chk
