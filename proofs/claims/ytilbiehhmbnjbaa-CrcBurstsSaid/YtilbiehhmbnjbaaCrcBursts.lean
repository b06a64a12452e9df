/-
  The walk of davitlaw01.CrcBursts: it answers true, whatever comes in.
-/
import Derived.Test.YtilbiehhmbnjbaaCrcWalks
import Derived.Test.YtilbiehhmbnjbaaAppend
import Derived.BigRegion
namespace Go.Proofs.Ytilbiehhmbnjbaa.Crc
open Go.RowKit
set_option linter.unusedVariables false

theorem bytesT' : ByteRow Try.prog 23 5 := ByteRow.mk' Try.underlying23 (by kernel_rfl)

/-- The bytes with k bytes of D, from place p on, turned over. -/
def flip (bs : List (BitVec 8)) (p : Nat) (D : BitVec 64) (k : Nat) : List (BitVec 8) :=
  bs.mapIdx fun j x => if p ≤ j ∧ j < p + k then x ^^^ (D >>> (8 * (j - p))).setWidth 8 else x
theorem flip_len (bs : List (BitVec 8)) (p : Nat) (D : BitVec 64) (k : Nat) : (flip bs p D k).length = bs.length := by simp [flip]
theorem flip_zero (bs : List (BitVec 8)) (p : Nat) (D : BitVec 64) : flip bs p D 0 = bs := by
  apply List.ext_getElem
  · simp [flip]
  · intro j h1 h2
    simp only [flip, List.getElem_mapIdx]
    rw [if_neg (by omega)]
theorem flip_getD (bs : List (BitVec 8)) (p : Nat) (D : BitVec 64) (k j : Nat) (hj : j < bs.length) :
    (flip bs p D k).getD j 0#8 = if p ≤ j ∧ j < p + k then bs.getD j 0#8 ^^^ (D >>> (8 * (j - p))).setWidth 8 else bs.getD j 0#8 := by
  rw [List.getD_eq_getElem?_getD, List.getD_eq_getElem?_getD, List.getElem?_eq_getElem (by rw [flip_len]; exact hj), List.getElem?_eq_getElem hj]
  simp [flip, List.getElem_mapIdx]
theorem flip_succ (bs : List (BitVec 8)) (p : Nat) (D : BitVec 64) (k : Nat) (h : p + k < bs.length) :
    flip bs p D (k + 1) = (flip bs p D k).set (p + k) ((flip bs p D k).getD (p + k) 0#8 ^^^ (D >>> (8 * k)).setWidth 8) := by
  rw [flip_getD _ _ _ _ _ h, if_neg (by omega)]
  apply List.ext_getElem
  · simp [flip]
  · intro j h1 h2
    rw [List.getElem_set]
    split
    · next e =>
      subst e
      simp only [flip, List.getElem_mapIdx]
      rw [if_pos (by omega), show p + k - p = k from by omega, List.getD_eq_getElem?_getD, List.getElem?_eq_getElem h]
      rfl
    · next e =>
      simp only [flip, List.getElem_mapIdx]
      by_cases hc : p ≤ j ∧ j < p + k
      · rw [if_pos hc, if_pos (by omega)]
      · rw [if_neg hc, if_neg (by omega)]
theorem flip_bits (bs : List (BitVec 8)) (t : BitVec 32) (f p s k : Nat) (hp : p = f / 8) (hs : s = f % 8) (hk : k = 5 ∨ bs.length ≤ p + k) (i : Nat) (hi : i < 8 * bs.length) :
    bitAt (flip bs p (t.setWidth 64 <<< s) k) i = (bitAt bs i ^^ (decide (f ≤ i) && t.getLsbD (i - f))) := by
  unfold bitAt
  rw [flip_getD _ _ _ _ _ (by omega)]
  by_cases hc : p ≤ i / 8 ∧ i / 8 < p + k
  · rw [if_pos hc, BitVec.getLsbD_xor]
    congr 1
    rw [BitVec.getLsbD_setWidth, BitVec.getLsbD_ushiftRight, BitVec.getLsbD_shiftLeft, BitVec.getLsbD_setWidth]
    have h8 : i % 8 < 8 := Nat.mod_lt _ (by decide)
    by_cases hfi : f ≤ i
    · by_cases h40 : 8 * (i / 8 - p) + i % 8 < 64
      · have h1 : ¬ 8 * (i / 8 - p) + i % 8 < s := by omega
        have e : 8 * (i / 8 - p) + i % 8 - s = i - f := by omega
        have h3 : i - f < 64 := by omega
        simp [h8, hfi, h40, h1, e, h3]
      · have h2 : 32 ≤ i - f := by omega
        simp [h40, BitVec.getLsbD_of_ge t _ h2]
    · have h1 : 8 * (i / 8 - p) + i % 8 < s := by omega
      simp [hfi, h1]
  · rw [if_neg hc]
    by_cases hfi : f ≤ i
    · have h2 : 32 ≤ i - f := by omega
      simp [BitVec.getLsbD_of_ge t _ h2]
    · simp [hfi]
theorem shl_D (t : BitVec 32) (s : Nat) (hs : s < 8) : IntKind.u64.wrap ((t.toNat : Int) * 2 ^ s) = ((t.setWidth 64 <<< s).toNat : Int) := by
  have ht := t.isLt
  have h2 : t.toNat * 2 ^ s < 2 ^ 64 := Nat.lt_of_lt_of_le (Nat.mul_lt_mul_of_lt_of_le ht (Nat.pow_le_pow_right (by decide) (Nat.le_of_lt_succ hs)) (by decide)) (by decide)
  rw [BitVec.toNat_shiftLeft, BitVec.toNat_setWidth, Nat.mod_eq_of_lt (Nat.lt_trans ht (by decide)), Nat.shiftLeft_eq, Nat.mod_eq_of_lt h2]
  have e : (t.toNat : Int) * 2 ^ s = ((t.toNat * 2 ^ s : Nat) : Int) := by simp
  rw [e]
  generalize t.toNat * 2 ^ s = y at h2
  simp [IntKind.wrap, IntKind.bits, IntKind.signed]
  omega

theorem xor_D (X : BitVec 8) (D : BitVec 64) (k : Nat) : bits .xor .u8 (X.toNat : Int) ((D.toNat : Int) / 2 ^ (8 * k) % 256) = ((X ^^^ (D >>> (8 * k)).setWidth 8).toNat : Int) := by
  have e : (D.toNat : Int) / 2 ^ (8 * k) % 256 = (((D >>> (8 * k)).setWidth 8).toNat : Int) := by
    rw [BitVec.toNat_setWidth, BitVec.toNat_ushiftRight, Nat.shiftRight_eq_div_pow]
    simp
  rw [e, u8_xor_nat _ _ X.isLt (BitVec.isLt _), BitVec.toNat_xor]

set_option maxRecDepth 100000 in
set_option maxHeartbeats 400000 in
theorem bursts_walk (A : Option Addr) (n c : Nat) (bs : List (BitVec 8)) (at_ : BitVec 16) (t : BitVec 32) (w : World) (h : Bs w w.heap.size A n bs) (hm : n ≤ maxLen) :
    Calls Try.prog 4 #[.slice A n c, .int .u16 (at_.toNat : Int), v32 t] w fun e w' => e = .returned (.bool true) ∧ Below w.heap.size w w' := by
  have H := Lib.hid h
  clear h
  by_cases k1 : n < 5
  · have d1 : decide ((n : Int) < 5) = true := by simp; omega
    go_enter Try.func4, Try.ntmps4
    go_wp2_with fail
    refine (knows _).mono ?_
    rintro e w1 ⟨rfl, hb⟩
    go_wp2_with fail
    go_ret
    exact ⟨rfl, hb⟩
  · have d1 : decide ((n : Int) < 5) = false := by simp; omega
    by_cases k2 : 600 < n
    · have d2 : decide ((600 : Int) < (n : Int)) = true := by simp; omega
      go_enter Try.func4, Try.ntmps4
      go_wp2_with fail
      refine (knows _).mono ?_
      rintro e w1 ⟨rfl, hb⟩
      go_wp2_with fail
      go_ret
      exact ⟨rfl, hb⟩
    · have d2 : decide ((600 : Int) < (n : Int)) = false := by simp; omega
      by_cases k3 : t = 0#32
      · have d3 : ((t.toNat : Int) == 0) = true := by subst k3; rfl
        have K3 := Lib.hid k3
        clear k3
        go_enter Try.func4, Try.ntmps4
        go_wp2_with fail
        refine (knows _).mono ?_
        rintro e w1 ⟨rfl, hb⟩
        go_wp2_with fail
        go_ret
        exact ⟨rfl, hb⟩
      · have d3 : ((t.toNat : Int) == 0) = false := by
          rw [beq_eq_false_iff_ne]
          intro h0
          exact k3 (BitVec.eq_of_toNat_eq (by simpa using h0))
        have K3 := Lib.hid k3
        clear k3
        have o0 : (w.alloc (.cells #[] 5)).ownsRow w.heap.size 5 1 (.slice (some ⟨w.heap.size, 0, none⟩) 0 0) 0 (([] : List (BitVec 8)).map v8) :=
          World.ownsRow_lit w #[] 0 (Nat.le_refl _) (Nat.zero_le _) rfl
        have O0 := Lib.hid o0
        clear o0
        obtain ⟨f, hf, hf2⟩ : ∃ f : Nat, (at_.toNat : Int) % (8 * (n : Int) - 31) = (f : Int) ∧ f + 32 ≤ 8 * n := by
          have e : (at_.toNat : Int) % (8 * (n : Int) - 31) = ((at_.toNat % (8 * n - 31) : Nat) : Int) := by
            rw [Int.natCast_emod]; congr 1; omega
          exact ⟨_, e, by have := Nat.mod_lt at_.toNat (show 0 < 8 * n - 31 by omega); omega⟩
        obtain ⟨p, hp, hp2⟩ : ∃ p : Nat, (f : Int) / (8 : Int) = (p : Int) ∧ p = f / 8 := ⟨f / 8, by omega, rfl⟩
        obtain ⟨s, hs, hs2⟩ : ∃ s : Nat, (f : Int) % (8 : Int) = (s : Int) ∧ s = f % 8 := ⟨f % 8, by omega, rfl⟩
        have hs3 : s < 8 := by omega
        have HP := Lib.hid hp2
        have HS := Lib.hid hs2
        clear hp2 hs2
        go_enter Try.func4, Try.ntmps4
        go_wp2_with (first
          | (at_builtin; refine wpList_append_bs _ rfl _ _ 23 rfl w.heap.size 5 bytesT' (.slice (some ⟨w.heap.size, 0, none⟩) 0 0) 0 [] rfl O0.out w.heap.size A n c bs rfl (H.out.alloc (Nat.le_refl _) _) n bs (Nat.zero_add _) (List.nil_append _) (by omega) (by simp) ?_; intro A3 c3 w3 o3 g3 _)
          | fail)
        have hb3 : Below w.heap.size w w3 := Below.grown ((Below.refl _ _).alloc (Nat.le_refl _) _) g3 (by simp) (by intro g hg; simp [Value.ownBlock] at hg; omega)
        obtain ⟨g, cap, hv, hg, hglt⟩ := o3.form (by omega)
        obtain ⟨rfl, rfl⟩ : A3 = some ⟨g, 0, none⟩ ∧ c3 = cap := by injection hv with h1 h2 h3; exact ⟨h1, h3⟩
        have O3 := Lib.hid o3
        clear o3 g3 hv hf
        rw [shl_D t s hs3]
        generalize hD : t.setWidth 64 <<< s = D
        have HD := Lib.hid hD
        clear hD
        go_loopw [10] (fun i wr => ∃ k : Nat, k ≤ 5 ∧ i = .int .i64 k ∧ wr.ownsRow w.heap.size 5 1 (.slice (some ⟨g, 0, none⟩) n c3) n ((flip bs p D k).map v8) ∧ Below w.heap.size w wr) (fun i _ => 5 - (intOf i).toNat)
        case atStart => exact ⟨0, Nat.zero_le _, rfl, by rw [flip_zero]; exact O3.out, hb3⟩
        case round =>
          obtain ⟨k, hk, rfl, hown, hb⟩ := hrel
          have HO := Lib.hid hown
          by_cases hk5 : k < 5
          · have e5 : decide ((k : Int) < 5) = true := by simp; omega
            by_cases hpk : p + k < n
            · have epk : decide (p + k < n) = true := by simpa using hpk
              have hl : (flip bs p D k).length = n := by rw [flip_len]; exact H.out.len
              have hcell : wr.cell? ⟨g, p + k, none⟩ = some (v8 ((flip bs p D k).getD (p + k) 0#8)) := by
                rw [hown.cellAt (p + k) (by omega), List.getElem?_map, List.getElem?_eq_getElem (by omega), List.getD_eq_getElem?_getD, List.getElem?_eq_getElem (by omega)]; rfl
              have hfr : wr.frozen? ⟨g, p + k, none⟩ = false := hown.frozenAt (p + k)
              clear hown hl
              generalize hX : (flip bs p D k).getD (p + k) 0#8 = X at hcell
              have HX := Lib.hid hX
              clear hX
              go_wp2_with fail
              go_region
              all_goals go_wp2_with fail
              all_goals go_roundw
              case rel =>
                refine ⟨k + 1, by omega, by go_num, ?_, (hb.setCell hg _).drew⟩
                rw [xor_D, flip_succ _ _ _ _ (by rw [H.out.len]; exact hpk), HX.out, List.map_set]
                exact (HO.out.stored (p + k) _).1
              case measure => simp [intOf]; omega
            · have epk : decide (p + k < n) = false := by simpa using hpk
              clear hown
              go_wp2_with fail
              refine (sum_any _ _ n c3 (flip bs p D k) _ (Bs.of_own HO.out rfl) (Nat.le_refl _) hm).mono ?_
              rintro e w5 ⟨rfl, hb5⟩
              have s5 := hb5.size
              have sr := hb.size
              have hb5' := hb.trans (hb5.mono sr)
              go_wp2_with fail
              refine (sum_any _ A n c bs _ (H.out.below hb5') (by omega) hm).mono ?_
              rintro e w6 ⟨rfl, hb6⟩
              have s6 := hb6.size
              have hne : (((sum (flip bs p D k)).toNat : Int) != ((sum bs).toNat : Int)) = true := by
                rw [bne_iff_ne]
                intro he
                refine sum_burst (flip bs p D k) bs t f (flip_len _ _ _ _) (by rw [H.out.len]; omega) K3.out (fun i hi => ?_) (BitVec.eq_of_toNat_eq (by omega))
                rw [← HD.out]
                exact flip_bits bs t f p s k HP.out HS.out (.inr (by rw [H.out.len]; omega)) i hi
              go_wp2_with fail
              refine (knows _).mono ?_
              rintro e w7 ⟨rfl, hb7⟩
              go_wp2_with fail
              go_ret
              exact ⟨rfl, (hb5'.trans (hb6.mono (by omega))).trans (hb7.mono (by omega))⟩
          · have e5 : decide ((k : Int) < 5) = false := by simp; omega
            clear hown
            go_wp2_with fail
            refine (sum_any _ _ n c3 (flip bs p D k) _ (Bs.of_own HO.out rfl) (Nat.le_refl _) hm).mono ?_
            rintro e w5 ⟨rfl, hb5⟩
            have s5 := hb5.size
            have sr := hb.size
            have hb5' := hb.trans (hb5.mono sr)
            go_wp2_with fail
            refine (sum_any _ A n c bs _ (H.out.below hb5') (by omega) hm).mono ?_
            rintro e w6 ⟨rfl, hb6⟩
            have s6 := hb6.size
            have hne : (((sum (flip bs p D k)).toNat : Int) != ((sum bs).toNat : Int)) = true := by
              rw [bne_iff_ne]
              intro he
              refine sum_burst (flip bs p D k) bs t f (flip_len _ _ _ _) (by rw [H.out.len]; omega) K3.out (fun i hi => ?_) (BitVec.eq_of_toNat_eq (by omega))
              rw [← HD.out]
              exact flip_bits bs t f p s k HP.out HS.out (.inl (by omega)) i hi
            go_wp2_with fail
            refine (knows _).mono ?_
            rintro e w7 ⟨rfl, hb7⟩
            go_wp2_with fail
            go_ret
            exact ⟨rfl, (hb5'.trans (hb6.mono (by omega))).trans (hb7.mono (by omega))⟩
end Go.Proofs.Ytilbiehhmbnjbaa.Crc
