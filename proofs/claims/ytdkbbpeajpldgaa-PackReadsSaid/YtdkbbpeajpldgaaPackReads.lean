/-
  The walk of davitlaw02.PackReads: it answers true, whatever comes in.
-/
import Derived.Test.YtdkbbpeajpldgaaPackKnows
import Derived.Deep.RegionHeld3
import Derived.Deep.DeepCutAuto
namespace Go.Proofs.Ytdkbbpeajpldgaa.Pack
open Go.RowKit
set_option linter.unusedVariables false

/-- Both readers, side by side: the program's at g (its cursor at d), the document's at m; what was there is as it was. -/
def Inv (w : World) (d g m : Nat) (st : St) (wr : World) : Prop := Rd wr w.heap.size d g st ∧ Rm wr (· < w.heap.size) m st ∧ g < m ∧ Below w.heap.size w wr

theorem Inv.drew {w wr : World} {d g m : Nat} {st : St} (h : Inv w d g m st wr) : Inv w d g m st wr.drew := by
  obtain ⟨h1, h2, h3, h4⟩ := h
  have hf : Frm [] wr wr.drew := (Frm.refl _ _).drew
  exact ⟨h1.frm hf (by simp), h2.frm hf (by simp) (by simp), h3, h4.drew⟩
theorem Inv.mid {w wr w1 : World} {d g m : Nat} {st st' : St} (h : Inv w d g m st wr) (ha : After wr w.heap.size d g st' w1) : Rm w1 (· < w.heap.size) m st := by
  obtain ⟨⟨h1, h2, _⟩, h3, h4, _⟩ := h
  exact h3.frm ha.2 (by simp; omega) (by intro k hk; simp; omega)
theorem Inv.out {w wr w1 w2 : World} {d g m : Nat} {st st' : St} (h : Inv w d g m st wr) (ha : After wr w.heap.size d g st' w1) (hm : Rm w2 (· < w.heap.size) m st') (hf : Frm [m] w1 w2) : Inv w d g m st' w2 := by
  obtain ⟨⟨h1, h2, _⟩, h3, h4, h5⟩ := h
  have s1 := h5.size
  have s2 := ha.2.size
  refine ⟨ha.1.frm hf (by simp; omega), hm, h4, ?_⟩
  exact (h5.trans (ha.2.below s1 (by simp; omega))).trans (hf.below (by omega) (by simp; omega))

set_option maxRecDepth 100000 in
set_option maxHeartbeats 1000000 in
theorem reads_walk (A : Option Addr) (n c : Nat) (bs : List (BitVec 8)) (A2 : Option Addr) (n2 c2 : Nat) (zs : List Int) (w : World) (h : Bs w w.heap.size A n bs) (hn : n ≤ c) (hm : c ≤ maxLen)
    (h2 : Vp w (· < w.heap.size) A2 n2 (zs.map (Value.int .i64))) (hm2 : n2 ≤ maxLen) :
    Calls Try.prog 4 #[.slice A n c, .slice A2 n2 c2] w fun e w' => e = .returned (.bool true) ∧ Below w.heap.size w w' := by
  have H := Lib.hid h
  have H2 := Lib.hid h2
  clear h h2
  by_cases k1 : 2000 < n
  · have d1 : decide ((2000 : Int) < (n : Int)) = true := by simp; omega
    clear hm hn hm2
    go_enter Try.func4, Try.ntmps4
    go_wp2_with fail
    refine (knows _).mono ?_
    rintro e w1 ⟨rfl, hb⟩
    go_wp2_with fail
    go_ret
    exact ⟨rfl, hb⟩
  · have d1 : decide ((2000 : Int) < (n : Int)) = false := by simp; omega
    by_cases k2 : 60 < n2
    · have d2 : decide ((60 : Int) < (n2 : Int)) = true := by simp; omega
      clear hm hn hm2
      go_enter Try.func4, Try.ntmps4
      go_wp2_with fail
      refine (knows _).mono ?_
      rintro e w1 ⟨rfl, hb⟩
      go_wp2_with fail
      go_ret
      exact ⟨rfl, hb⟩
    · have d2 : decide ((60 : Int) < (n2 : Int)) = false := by simp; omega
      have HM := Lib.hid hm
      clear hm hm2
      go_enter Try.func4, Try.ntmps4
      go_wp2_with fail
      refine (read _ A n c bs _ H.out (Nat.le_refl _) (by omega)).mono ?_
      rintro e w1 ⟨d, g, rfl, hr, hs, hb⟩
      have s1 := hb.size
      have hgm : g < w1.heap.size := by omega
      have hinv : Inv w d g w1.heap.size (some bs) (w1.alloc (.cells #[.slice A n c, .bool false] 36)) := by
        refine ⟨hr.frm (l := []) ((Frm.refl _ _).alloc _) (by simp), ⟨A, n, c, Cel.new w1 _ [.slice A n c, .bool false], ?_, hn, HM.out⟩, hgm, hb.alloc s1 _⟩
        intro r hr'; injection hr' with hr'; subst hr'
        exact (H.out.bp.below hb (fun _ hk => hk)).keep fun k hk hl => Below.heap_alloc _ _ _ hl
      have I0 := Lib.hid hinv
      clear hr hs hinv
      go_wp2_with fail
      go_loopw [7] (fun i wr => ∃ k : Nat, k ≤ n2 ∧ i = .int .i64 (k : Int) ∧ ∃ st, Inv w d g w1.heap.size st wr) (fun i _ => n2 - (intOf i).toNat)
      case atStart => exact ⟨0, Nat.zero_le _, rfl, _, I0.out⟩
      case round =>
        obtain ⟨k, hk, rfl, st, hi⟩ := hrel
        have HI := Lib.hid hi
        clear hi
        by_cases hlt : k < n2
        · obtain ⟨ad, u, rfl, hadb, hu, hcell⟩ := (H2.out.below HI.out.2.2.2 (fun _ hk => hk)).at_ hlt
          rw [List.getElem?_map] at hu
          obtain ⟨z, hz, rfl⟩ := Option.map_eq_some_iff.1 hu
          have HZ := Lib.hid hz
          clear hu hz
          by_cases hz0 : z = 0
          · subst hz0
            go_upto_region 9 with (fail)
            go_cut [39] (fun s39 wx => s39 = .bool false ∧ Inv w d g w1.heap.size (rtext st).2 wx)
            case first =>
              have HID := Lib.hid HI.out.drew
              go_region_with (first
                | (go_at_call 12; refine (rText _ d g st _ HID.out.1).mono ?_; rintro e x1 ⟨X1, y1, rfl, ho1, ha1⟩; have q1 := toStr (Own.bp ho1) y1; have O1 := Lib.hid ho1; have HA := Lib.hid ha1; clear ho1 ha1)
                | (go_at_call 13; refine (mText _ _ st _ (HID.out.mid HA.out) (by omega) (by intro k hk; have := HI.out.2.2.2.size; have := HA.out.2.size; simp at this; omega)).mono ?_; rintro e x2 ⟨X2, y2, rfl, ho2, hm2, hf2⟩; have q2 := toStr (Own.bp ho2) y2; have q3 := toStr (Own.bp (Own.frm O1.out hf2 (by have := HI.out.2.1.lt; simp; omega))) y1; have HO := Lib.hid (HID.out.out HA.out hm2 hf2); clear ho2 hm2 hf2))
              all_goals (go_wp2_with fail; go_meet; exact ⟨rfl, HO.out⟩)
            case rest =>
              obtain ⟨rfl, hi2⟩ := hcut
              have HI2 := Lib.hid hi2
              clear hi2
              go_wp2_with fail
              refine (rEnd _ d g _ _ HI2.out.1).mono ?_
              rintro e w' ⟨rfl, rfl⟩
              go_wp2_with fail
              refine (mEnd _ _ _ _ HI2.out.2.1).mono ?_
              rintro e w' ⟨rfl, rfl⟩
              go_wp2_with fail
              go_roundw
              case rel => exact ⟨k + 1, by omega, by go_num, _, HI2.out⟩
              case measure => simp [intOf]; omega
          · have hz1 : (z == 0) = false := by simpa using hz0
            go_upto_region 11 with (fail)
            go_cut [52] (fun s52 wx => s52 = .bool false ∧ Inv w d g w1.heap.size (rnum z st).2 wx)
            case first =>
              have HID := Lib.hid HI.out.drew
              have hcd : wr.drew.cell? (ad.add k) = some (.int .i64 z) := hcell
              go_region_held3 (fun w' => w'.cell? (ad.add k) = some (.int .i64 z)) (first | exact hcd | exact c1 | exact c2)
                (first
                | (go_at_call 14; refine (rNumber _ d g z st _ HID.out.1).mono ?_; rintro e x1 ⟨rfl, ha1⟩; have c1 : x1.cell? (ad.add k) = some (.int .i64 z) := (World.cell?_of_block (ha1.2.block _ (by rw [add_block]; have := HI.out.2.2.2.size; simp; omega) (by rw [add_block]; have := HI.out.1.1; have := HI.out.1.2.1; simp; omega))).trans hcd; have HA := Lib.hid ha1; clear ha1)
                | (go_at_call 15; refine (mNumber _ _ z st _ (HID.out.mid HA.out) (by omega)).mono ?_; rintro e x2 ⟨rfl, hm2, hf2⟩; have c2 : x2.cell? (ad.add k) = some (.int .i64 z) := (World.cell?_of_block (hf2.block _ (by rw [add_block]; have := HI.out.2.2.2.size; have := HA.out.2.size; simp at this; omega) (by rw [add_block]; have := HI.out.1.1; have := HI.out.1.2.1; have := HI.out.2.2.1; simp; omega))).trans c1; have HO := Lib.hid (HID.out.out HA.out hm2 hf2); clear hm2 hf2))
              all_goals (go_wp2_with fail; go_meet; exact ⟨rfl, HO.out⟩)
            case rest =>
              obtain ⟨rfl, hi2⟩ := hcut
              have HI2 := Lib.hid hi2
              clear hi2
              go_wp2_with fail
              refine (rEnd _ d g _ _ HI2.out.1).mono ?_
              rintro e w' ⟨rfl, rfl⟩
              go_wp2_with fail
              refine (mEnd _ _ _ _ HI2.out.2.1).mono ?_
              rintro e w' ⟨rfl, rfl⟩
              go_wp2_with fail
              go_roundw
              case rel => exact ⟨k + 1, by omega, by go_num, _, HI2.out⟩
              case measure => simp [intOf]; omega
        · have hke : k = n2 := by omega
          go_wp2_with fail
          refine (rEnd _ d g _ _ HI.out.1).mono ?_
          rintro e w' ⟨rfl, rfl⟩
          go_wp2_with fail
          refine (mEnd _ _ _ _ HI.out.2.1).mono ?_
          rintro e w' ⟨rfl, rfl⟩
          go_wp2_with fail
          refine (knows _).mono ?_
          rintro e w5 ⟨rfl, hb5⟩
          go_wp2_with fail
          go_ret
          exact ⟨rfl, HI.out.2.2.2.trans (hb5.mono HI.out.2.2.2.size)⟩
end Go.Proofs.Ytdkbbpeajpldgaa.Pack
