/-
  The walk of davitlaw03.SectorBursts: it answers true, whatever comes in.
-/
import Derived.Test.YtickagagbdfncaaSectorKnows
import Derived.Test.YtickagagbdfncaaCrcFlip
import Derived.BigRegion
namespace Go.Proofs.Ytickagagbdfncaa.Sector
open Go.RowKit Go.Proofs.Ytickagagbdfncaa.Pack Go.Proofs.Ytickagagbdfncaa.Crc
set_option linter.unusedVariables false
set_option linter.unusedSimpArgs false

set_option maxRecDepth 100000 in
set_option maxHeartbeats 1000000 in
theorem bursts_not (p : Pt) (A : Option Addr) (n c : Nat) (at_ : BitVec 16) (t : BitVec 32) (w : World) (hm : mayB p.flags n = false) :
    Calls Try.prog 5 #[partV p.epoch p.seq p.flags A n c, .int .u16 (at_.toNat : Int), v32 t] w fun r w' => r = .returned (.bool true) ∧ Below w.heap.size w w' := by
  have HM := Lib.hid hm
  clear hm
  go_enter Try.func5, Try.ntmps5
  go_wp2_with fail
  refine (as_walk p.epoch p.seq p.flags A n c _).mono ?_
  rintro r w1 ⟨rfl, hb1⟩
  have h1 : Below w.heap.size w w1 := ((Below.refl _ _).alloc (Nat.le_refl _) _).trans (hb1.mono (by simp))
  clear hb1
  go_wp2_with fail
  refine (may_no _ _ _ _ _ _ _ HM.out).mono ?_
  rintro r w2 ⟨rfl, hb2⟩
  have h2 := h1.trans (hb2.mono h1.size)
  clear h1 hb2
  go_wp2_with fail
  refine (knows _).mono ?_
  rintro r w3 ⟨rfl, hb3⟩
  go_wp2_with fail
  go_ret
  exact ⟨rfl, h2.trans (hb3.mono h2.size)⟩

set_option maxRecDepth 100000 in
set_option maxHeartbeats 1000000 in
theorem bursts_zero (p : Pt) (A : Option Addr) (n c : Nat) (at_ : BitVec 16) (w : World) (hm : mayB p.flags n = true) :
    Calls Try.prog 5 #[partV p.epoch p.seq p.flags A n c, .int .u16 (at_.toNat : Int), .int .u32 0] w fun r w' => r = .returned (.bool true) ∧ Below w.heap.size w w' := by
  have HM := Lib.hid hm
  clear hm
  go_enter Try.func5, Try.ntmps5
  go_wp2_with fail
  refine (as_walk p.epoch p.seq p.flags A n c _).mono ?_
  rintro r w1 ⟨rfl, hb1⟩
  have h1 : Below w.heap.size w w1 := ((Below.refl _ _).alloc (Nat.le_refl _) _).trans (hb1.mono (by simp))
  clear hb1
  go_wp2_with fail
  refine (may_yes _ _ _ _ _ _ _ HM.out).mono ?_
  rintro r w2 ⟨rfl, hb2⟩
  have h2 := h1.trans (hb2.mono h1.size)
  clear h1 hb2
  go_wp2_with fail
  refine (knows _).mono ?_
  rintro r w3 ⟨rfl, hb3⟩
  go_wp2_with fail
  go_ret
  exact ⟨rfl, h2.trans (hb3.mono h2.size)⟩

/-- What is turned is no part's. -/
theorem get_flip (p : Pt) (hm : p.may = true) (t : BitVec 32) (ht : t ≠ 0#32) (f q s k : Nat) (hf : f + 32 ≤ 4096) (hq : q = f / 8) (hs : s = f % 8) (D : BitVec 64) (hD : t.setWidth 64 <<< s = D) (hk : k = 5 ∨ 512 ≤ q + k) : get (flip (sec p) q D k) = none := by
  have hl := sec_length hm
  refine get_turned p hm _ t f (by rw [flip_len, hl]) hf ht fun i hi => ?_
  rw [← hD]
  exact flip_bits (sec p) t f q s k hq hs (by rw [hl]; exact hk) i (by omega)

set_option maxRecDepth 100000 in
set_option maxHeartbeats 2000000 in
theorem bursts_yes (p : Pt) (A : Option Addr) (n c : Nat) (at_ : BitVec 16) (t : BitVec 32) (w : World) (h : Lo w A n p.body) (hm : p.may = true) (ht : t ≠ 0#32) :
    Calls Try.prog 5 #[partV p.epoch p.seq p.flags A n c, .int .u16 (at_.toNat : Int), v32 t] w fun r w' => r = .returned (.bool true) ∧ Below w.heap.size w w' := by
  have d3 : ((t.toNat : Int) == 0) = false := by
    rw [beq_eq_false_iff_ne]
    intro h0
    exact ht (BitVec.eq_of_toNat_eq (by simpa using h0))
  have hmb : mayB p.flags n = true := by rw [← h.len]; exact hm
  have H := Lib.hid h
  have HM := Lib.hid hm
  have HMB := Lib.hid hmb
  have HT := Lib.hid ht
  clear h hm hmb ht
  have C0 := Lib.hid (Cel.new w 25 [v32 p.epoch, v32 p.seq, .int .i64 p.flags, .slice A n c])
  have L0 := Lib.hid (Lo.alloc (.cells #[v32 p.epoch, v32 p.seq, .int .i64 p.flags, .slice A n c] 25) H.out)
  obtain ⟨f, hf, hf2⟩ : ∃ f : Nat, (at_.toNat : Int) % (4065 : Int) = (f : Int) ∧ f + 32 ≤ 4096 := ⟨at_.toNat % 4065, by omega, by omega⟩
  obtain ⟨q, hq, hq2⟩ : ∃ q : Nat, (f : Int) / (8 : Int) = (q : Int) ∧ q = f / 8 := ⟨f / 8, by omega, rfl⟩
  obtain ⟨s, hs, hs2⟩ : ∃ s : Nat, (f : Int) % (8 : Int) = (s : Int) ∧ s = f % 8 := ⟨f % 8, by omega, rfl⟩
  have hs3 : s < 8 := by omega
  have hqb : q ≤ 511 := by omega
  have HQ := Lib.hid hq2
  have HS := Lib.hid hs2
  have HF2 := Lib.hid hf2
  clear hq2 hs2 hf2
  go_enter Try.func5, Try.ntmps5
  go_wp2_with fail
  refine (as_walk p.epoch p.seq p.flags A n c _).mono ?_
  rintro r w1 ⟨rfl, hb1⟩
  go_wp2_with fail
  refine (may_yes _ _ _ _ _ _ _ HMB.out).mono ?_
  rintro r w2 ⟨rfl, hb2⟩
  have F2 := Lib.hid (From.call hb2 (From.call hb1 (From.self (w.alloc (.cells #[v32 p.epoch, v32 p.seq, .int .i64 p.flags, .slice A n c] 25)))))
  have hc := Cel.below C0.out F2.out C0.out.lt
  have k0 := hc.cell 0
  have k1 := hc.cell 1
  have k2 := hc.cell 2
  have k3 := hc.cell 3
  have L2 := Lib.hid (Lo.call F2.out L0.out)
  have HB2 := Lib.hid (((Below.refl w.heap.size w).alloc (Nat.le_refl _) (.cells #[v32 p.epoch, v32 p.seq, .int .i64 p.flags, .slice A n c] 25)).trans (Below.mono F2.out (by simp)))
  clear hc hb1 hb2 F2 L0 C0
  go_wp2_with fail
  refine (put_yes p w2.heap.size A n c _ L2.out (Nat.le_refl _) HM.out).mono ?_
  rintro r w3 ⟨g, rfl, hg3, hc3, hb3⟩
  have C3 := Lib.hid hc3
  have HB3 := Lib.hid (HB2.out.trans (hb3.mono HB2.out.size))
  have hgw : w.heap.size ≤ g := Nat.le_trans HB2.out.size hg3
  clear hc3 hb3 hg3 k0 k1 k2 k3
  go_wp2_with fail
  rw [hf, shl_D t s hs3]
  generalize hD : t.setWidth 64 <<< s = D
  have HD := Lib.hid hD
  clear hD hf
  go_loopw [11] (fun i wr => ∃ k : Nat, k ≤ 5 ∧ i = .int .i64 (k : Int) ∧ Cel wr g 45 ((flip (sec p) q D k).map v8) ∧ Below w.heap.size w wr) (fun i _ => 5 - (intOf i).toNat)
  case atStart => exact ⟨0, Nat.zero_le _, rfl, by rw [flip_zero]; exact C3.out, HB3.out⟩
  case round =>
    obtain ⟨k, hk, rfl, hcr, hbr⟩ := hrel
    have HCR := Lib.hid hcr
    have HBR := Lib.hid hbr
    clear hcr hbr
    have hfl : (flip (sec p) q D k).length = 512 := by rw [flip_len, sec_length HM.out]
    have HFL := Lib.hid hfl
    clear hfl
    by_cases hk5 : k < 5
    · have e5 : decide ((k : Int) < 5) = true := by simp; omega
      by_cases hpk : q + k < 512
      · have epk : decide ((q : Int) + (k : Int) < 512) = true := by simp; omega
        have hcell : wr.cell? ⟨g, q + k, none⟩ = some (v8 ((flip (sec p) q D k).getD (q + k) 0#8)) := by
          rw [HCR.out.cell, List.getElem?_map, List.getElem?_eq_getElem (by rw [HFL.out]; exact hpk), List.getD_eq_getElem?_getD, List.getElem?_eq_getElem (by rw [HFL.out]; exact hpk)]; rfl
        have hfr : wr.frozen? ⟨g, q + k, none⟩ = false := HCR.out.free (q + k)
        generalize hX : (flip (sec p) q D k).getD (q + k) 0#8 = X at hcell
        have HX := Lib.hid hX
        clear hX
        go_wp2_with fail
        go_region
        all_goals go_wp2_with fail
        all_goals go_roundw
        case rel =>
          refine ⟨k + 1, by omega, by go_num, ?_, (HBR.out.setCell hgw _).drew⟩
          rw [xor_D, flip_succ _ _ _ _ (by rw [sec_length HM.out]; exact hpk), HX.out, List.map_set]
          exact HCR.out.set (q + k) _
        case measure => simp [intOf]; omega
      · have epk : decide ((q : Int) + (k : Int) < 512) = false := by simp; omega
        go_wp2_with fail
        refine (get_not wr.heap.size _ 512 512 (flip (sec p) q D k) _ (Cel.bs HCR.out HCR.out.lt (by rw [flip_len, sec_length HM.out]; exact Nat.le_refl _) (List.take_of_length_le (by rw [flip_len, sec_length HM.out]; exact Nat.le_refl _))) (Nat.le_refl _) (by decide) (get_flip p HM.out t HT.out f q s k HF2.out HQ.out HS.out D HD.out (.inr (by omega)))).mono ?_
        rintro r w5 ⟨rfl, hb5⟩
        have h5 := Lib.hid (HBR.out.trans (hb5.mono HBR.out.size))
        have hp5 := Cel.new w5 25 [.int .u32 0, .int .u32 0, .int .i64 0, .slice none 0 0]
        have k0 := hp5.cell 0
        have k1 := hp5.cell 1
        have k2 := hp5.cell 2
        have k3 := hp5.cell 3
        have h6 := Lib.hid (h5.out.alloc h5.out.size (.cells #[.int .u32 0, .int .u32 0, .int .i64 0, .slice none 0 0] 25))
        clear hp5 hb5
        go_wp2_with fail
        refine (as_walk 0#32 0#32 0 none 0 0 _).mono ?_
        rintro r w6 ⟨rfl, hb6⟩
        go_wp2_with fail
        refine (same_yes 0#32 0#32 0 none none 0 0 0 0 [] _ Bs.nil_ Bs.nil_).mono ?_
        rintro r w7 ⟨rfl, hb7⟩
        go_wp2_with fail
        refine (knows _).mono ?_
        rintro r w8 ⟨rfl, hb8⟩
        go_wp2_with fail
        go_ret
        have h7 := h6.out.trans (hb6.mono h6.out.size)
        have h8 := h7.trans (hb7.mono h7.size)
        exact ⟨rfl, h8.trans (hb8.mono h8.size)⟩
    · have e5 : decide ((k : Int) < 5) = false := by simp; omega
      go_wp2_with fail
      refine (get_not wr.heap.size _ 512 512 (flip (sec p) q D k) _ (Cel.bs HCR.out HCR.out.lt (by rw [flip_len, sec_length HM.out]; exact Nat.le_refl _) (List.take_of_length_le (by rw [flip_len, sec_length HM.out]; exact Nat.le_refl _))) (Nat.le_refl _) (by decide) (get_flip p HM.out t HT.out f q s k HF2.out HQ.out HS.out D HD.out (.inl (by omega)))).mono ?_
      rintro r w5 ⟨rfl, hb5⟩
      have h5 := Lib.hid (HBR.out.trans (hb5.mono HBR.out.size))
      have hp5 := Cel.new w5 25 [.int .u32 0, .int .u32 0, .int .i64 0, .slice none 0 0]
      have k0 := hp5.cell 0
      have k1 := hp5.cell 1
      have k2 := hp5.cell 2
      have k3 := hp5.cell 3
      have h6 := Lib.hid (h5.out.alloc h5.out.size (.cells #[.int .u32 0, .int .u32 0, .int .i64 0, .slice none 0 0] 25))
      clear hp5 hb5
      go_wp2_with fail
      refine (as_walk 0#32 0#32 0 none 0 0 _).mono ?_
      rintro r w6 ⟨rfl, hb6⟩
      go_wp2_with fail
      refine (same_yes 0#32 0#32 0 none none 0 0 0 0 [] _ Bs.nil_ Bs.nil_).mono ?_
      rintro r w7 ⟨rfl, hb7⟩
      go_wp2_with fail
      refine (knows _).mono ?_
      rintro r w8 ⟨rfl, hb8⟩
      go_wp2_with fail
      go_ret
      have h7 := h6.out.trans (hb6.mono h6.out.size)
      have h8 := h7.trans (hb7.mono h7.size)
      exact ⟨rfl, h8.trans (hb8.mono h8.size)⟩

theorem bursts_walk (p : Pt) (A : Option Addr) (n c : Nat) (at_ : BitVec 16) (t : BitVec 32) (w : World) (h : Lo w A n p.body) :
    Calls Try.prog 5 #[partV p.epoch p.seq p.flags A n c, .int .u16 (at_.toNat : Int), v32 t] w fun r w' => r = .returned (.bool true) ∧ Below w.heap.size w w' := by
  cases hm : p.may
  · exact bursts_not p A n c at_ t w (by rw [← h.len]; exact hm)
  · by_cases ht : t = 0#32
    · subst ht
      exact bursts_zero p A n c at_ w (by rw [← h.len]; exact hm)
    · exact bursts_yes p A n c at_ t w h hm ht
end Go.Proofs.Ytickagagbdfncaa.Sector
