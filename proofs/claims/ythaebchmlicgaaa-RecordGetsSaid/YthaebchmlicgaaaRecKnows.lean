/-
  Layer 15: what davitlaw15.knows comes to: true.
-/
import Derived.Test.YthaebchmlicgaaaRecPget
import Derived.Test.YthaebchmlicgaaaRecAs
import Derived.Test.YthaebchmlicgaaaRecSame
namespace Go.Proofs.Ythaebchmlicgaaa.Rec
open Go.RowKit
open Go.Proofs.Ythaebchmlicgaaa.Lex (Tx Owb rowB)
open Go.Proofs.Ythaebchmlicgaaa.Pack (Own toStr)
set_option linter.unusedVariables false
set_option linter.unusedSimpArgs false

theorem Rok.up {w : World} {v : Rv} (h : Rok w 0 v) (K : Nat) : Rok w K v := by
  have tx : ∀ {A : Option Addr} {t : List B}, Tx w 0 A t → Tx w K A t := fun h => h.imp (fun q => q.more (Nat.zero_le _)) id
  exact ⟨h.eq, ⟨h.vs.cr, fun v hv => ⟨tx (h.vs.tx v hv).1, (h.vs.tx v hv).2⟩⟩, h.vl, tx h.val, h.ml⟩
theorem put_form {w w' : World} {r : Rc} {e : Ending} (h : PputSays w r e w') : ∃ A n c z, e = .returned (.tuple #[.slice A n c, .int .i64 z]) ∧ Below w.heap.size w w' ∧ (may r = false → n = 0 ∧ z = 1) ∧ (may r = true → n = (put r).length ∧ z = 0 ∧ Owb w' w.heap.size A n c (put r)) := by
  obtain ⟨h1, h2, h3⟩ := h
  cases hm : may r with
  | false => exact ⟨none, 0, 0, 1, h2 hm, h1, fun _ => ⟨rfl, rfl⟩, fun e => by cases e⟩
  | true =>
    obtain ⟨A, c, rfl, ho⟩ := h3 hm
    exact ⟨A, _, c, 0, rfl, h1, fun e => (by cases e), fun _ => ⟨rfl, rfl, ho⟩⟩
def kr : Rc := { rc0 with kind := 2, visit := 1, step := 2 }
theorem kr_may : may kr = true := by decide
theorem kr_put : put kr = [2#8, 0#8, 1#8, 2#8, 0#8] := by decide
theorem kr_str : str [2#8, 0#8, 1#8, 2#8, 0#8] = ⟨#[2, 0, 1, 2, 0]⟩ := by decide
theorem get_nil : get [] = none := by decide
set_option maxRecDepth 100000 in
set_option maxHeartbeats 1000000 in
theorem knows15 (w : World) : Calls Try.prog 6 #[] w fun e w' => e = .returned (.bool true) ∧ Below w.heap.size w w' := by
  have con := pput_ w 0 ⟨kr, none, 0, [], none, 0⟩ (rok_nil rfl rfl) trow_nil (Nat.zero_le _)
  unfold Rv.cells at con
  go_enter Try.func6, Try.ntmps6
  go_wp2_with fail
  refine con.mono ?_
  clear con
  rintro e w1 ⟨hb1, _, h⟩
  obtain ⟨A, c, rfl, ho⟩ := h kr_may
  rw [kr_put] at ho ⊢
  have hgp := get_put kr_may
  rw [kr_put] at hgp
  have con := pget_ w1 A 5 c _ (Bs.of_own ho rfl) (by decide)
  have HO := Lib.hid ho
  have HB := Lib.hid hb1
  clear ho hb1 h
  go_wp2_with fail
  refine con.mono ?_
  clear con
  rintro e w2 ⟨hb2, h2⟩
  rw [hgp] at h2
  obtain ⟨v1, hv1, rfl, _, _⟩ := h2
  have HB2 := Lib.hid (HB.out.trans (hb2.mono HB.out.size))
  have HBS := Lib.hid ((Bs.of_own HO.out rfl : Bs w1 w1.heap.size A 5 [2#8, 0#8, 1#8, 2#8, 0#8]).below hb2)
  have HSZ := Lib.hid hb2.size
  clear hb2 hgp HO HB
  obtain ⟨r, AL, cL, vs, AV, cV⟩ := v1
  subst hv1
  obtain ⟨W3, hW3⟩ : ∃ W, W = w2.alloc (.cells (Rv.mk kr AL cL vs AV cV).cells.toArray 27) := ⟨_, rfl⟩
  have hb3 : Below w2.heap.size w2 W3 := by rw [hW3]; exact (Below.refl _ _).alloc (Nat.le_refl _) _
  have hc3 : Cel W3 w2.heap.size 27 (Rv.mk kr AL cL vs AV cV).cells := by rw [hW3]; exact Cel.new w2 _ _
  have HB3 := Lib.hid (HB2.out.trans (hb3.mono HB2.out.size))
  have HBS3 := Lib.hid (HBS.out.below (hb3.mono HSZ.out))
  have HSZ3 := Lib.hid (Nat.le_trans HSZ.out hb3.size)
  have HC3 := Lib.hid hc3
  have con := pget_ W3 none 0 0 [] Bs.nil_ (by decide)
  clear hb3 hc3 HB2 HBS HSZ
  unfold Rv.cells at hW3 ⊢
  go_upto_region 3 with fail
  rw [← hW3]
  clear hW3
  go_wp2_with fail
  refine con.mono ?_
  clear con
  rintro e w4 ⟨hb4, h4⟩
  rw [get_nil] at h4
  dsimp only at h4
  subst h4
  have HB4 := Lib.hid (HB3.out.trans (hb4.mono HB3.out.size))
  have HC4 := Lib.hid (HC3.out.below hb4 HC3.out.lt)
  have HBS4 := Lib.hid (HBS3.out.below (hb4.mono HSZ3.out))
  have HSZ4 := Lib.hid (Nat.le_trans HSZ3.out hb4.size)
  clear hb4 HB3 HC3 HBS3 HSZ3
  obtain ⟨W5, hW5⟩ : ∃ W, W = w4.alloc (.cells zeros.toArray 27) := ⟨_, rfl⟩
  have hb5 : Below w4.heap.size w4 W5 := by rw [hW5]; exact (Below.refl _ _).alloc (Nat.le_refl _) _
  have HB5 := Lib.hid (HB4.out.trans (hb5.mono HB4.out.size))
  have HC5 := Lib.hid (HC4.out.below hb5 HC4.out.lt)
  have q := toStr (HBS4.out.below (hb5.mono HSZ4.out)).bp c
  rw [kr_str] at q
  clear hb5 HB4 HC4 HBS4 HSZ4
  unfold zeros at hW5 ⊢
  go_upto_region 4 with fail
  rw [← hW5]
  clear hW5
  have c7 : W5.cell? ⟨w2.heap.size, 7, none⟩ = some (.int .i64 2) := HC5.out.cell 7
  go_wp2_with fail
  go_ret
  exact ⟨rfl, HB5.out⟩
end Go.Proofs.Ythaebchmlicgaaa.Rec
