/-
  What frag.leading comes to.
-/
import Derived.Test.YtmchpakefddinaaFragSmall
namespace Go.Proofs.Ytmchpakefddinaa.Frag
open Go.RowKit
set_option linter.unusedVariables false

set_option maxRecDepth 100000 in
set_option maxHeartbeats 2000000 in
theorem leading (A : Option Addr) (n c : Nat) (xs : List Pv) (w : World) (B : Nat) (h : Pr w B A n xs) (hB : B ≤ w.heap.size) (hc : n ≤ c) (hm : n ≤ 4096) (hf : ∀ x ∈ xs, fits x.p.flags) :
    Calls Try.prog 18 #[.slice A n c] w fun r w' => r = .returned (.int .i64 ((lead true (xs.map (·.p)) : Nat) : Int)) ∧ Below w.heap.size w w' := by
  have H := Lib.hid h
  have HF := Lib.hid hf
  have HL := Lib.hid (leadAt_zero (xs.map (·.p)))
  generalize lead true (xs.map (·.p)) = L at *
  clear h hf
  go_enter Try.func18, Try.ntmps18
  go_wp2_with fail
  go_loopw [7] (fun i wr => ∃ k : Nat, k ≤ n ∧ i = .int .i64 (k : Int) ∧ Below w.heap.size w wr ∧ Hid (leadAt k (xs.map (·.p)) = L)) (fun i _ => n - (intOf i).toNat)
  case atStart => exact ⟨0, Nat.zero_le _, rfl, Below.refl _ _, HL⟩
  case round =>
    obtain ⟨k, hk, rfl, hb, HK⟩ := hrel
    have sb := hb.size
    have hkm : k ≤ 4096 := by omega
    by_cases hlt : k < n
    · obtain ⟨ad, x, rfl, hx, hxb, hl, c0, c1, c2, c3⟩ := (H.out.below (hb.mono hB)).at_ hlt
      have hfx := HF.out x (List.mem_of_getElem? hx)
      have hpx : (xs.map (·.p))[k]? = some x.p := by rw [List.getElem?_map, hx]; rfl
      obtain ⟨⟨e, s, f, bs⟩, xA, xc⟩ := x
      dsimp only at *
      have HFX := Lib.hid hfx
      have HPX := Lib.hid hpx
      have HB := Lib.hid hb
      clear hfx hpx hx hxb hb hl
      go_wp2_with fail
      refine (isFirst e s f xA bs.length xc _ HFX.out).mono ?_
      rintro r w1 ⟨rfl, hb1⟩
      simp only [World.size_alloc] at hb1
      have hb1' : Below w.heap.size w w1 := (HB.out.alloc sb _).trans (hb1.mono (by omega))
      have hcv := (Cel.new wr 35 [v32 e, v32 s, .int .i64 f, .slice xA bs.length xc]).below hb1 (Nat.lt_succ_self _)
      have k0 := hcv.cell 0
      have k1 := hcv.cell 1
      have k2 := hcv.cell 2
      have k3 := hcv.cell 3
      have HB1 := Lib.hid hb1'
      have s1 := hb1'.size
      clear hb1 hb1' hcv c0 c1 c2 c3
      generalize hone : one f = o1 at *
      by_cases hk0 : k = 0
      · have dk : ((k : Int) == 0) = true := by subst hk0; rfl
        have HK0 := Lib.hid hk0
        clear hk0
        cases o1 with
        | false =>
          have HQ := Lib.hid (show ¬ one f = (k == 0) from by rw [hone, HK0.out]; decide)
          clear hone
          go_wp2_with fail
          go_ret
          exact ⟨by rw [← HK.out, leadAt_no HPX.out HQ.out]; rfl, HB1.out⟩
        | true =>
          have HQ := Lib.hid (show one f = (k == 0) from by rw [hone, HK0.out]; rfl)
          clear hone
          go_wp2_with fail
          refine (isLast e s f xA bs.length xc _ HFX.out).mono ?_
          rintro r w2 ⟨rfl, hb2⟩
          have HB2 := Lib.hid (HB1.out.trans (hb2.mono s1))
          clear hb2 k0 k1 k2 k3
          generalize htwo : two f = o2 at *
          have HT := Lib.hid htwo
          clear htwo
          cases o2 with
          | true =>
            go_wp2_with fail
            go_ret
            exact ⟨by rw [← HK.out, leadAt_last HPX.out HQ.out HT.out]; rfl, HB2.out⟩
          | false =>
            go_wp2_with fail
            go_roundw
            case rel => exact ⟨k + 1, by omega, by go_num, HB2.out, Lib.hid ((leadAt_on HPX.out HQ.out HT.out).symm.trans HK.out)⟩
            case measure => simp [intOf]; omega
      · have dk : ((k : Int) == 0) = false := by simp; omega
        have HK0 := Lib.hid hk0
        clear hk0
        cases o1 with
        | true =>
          have HQ := Lib.hid (show ¬ one f = (k == 0) from by rw [hone]; have := HK0.out; simp; omega)
          clear hone
          go_wp2_with fail
          go_ret
          exact ⟨by rw [← HK.out, leadAt_no HPX.out HQ.out]; rfl, HB1.out⟩
        | false =>
          have HQ := Lib.hid (show one f = (k == 0) from by rw [hone]; have := HK0.out; symm; simpa using this)
          clear hone
          go_wp2_with fail
          refine (isLast e s f xA bs.length xc _ HFX.out).mono ?_
          rintro r w2 ⟨rfl, hb2⟩
          have HB2 := Lib.hid (HB1.out.trans (hb2.mono s1))
          clear hb2 k0 k1 k2 k3
          generalize htwo : two f = o2 at *
          have HT := Lib.hid htwo
          clear htwo
          cases o2 with
          | true =>
            go_wp2_with fail
            go_ret
            exact ⟨by rw [← HK.out, leadAt_last HPX.out HQ.out HT.out]; rfl, HB2.out⟩
          | false =>
            go_wp2_with fail
            go_roundw
            case rel => exact ⟨k + 1, by omega, by go_num, HB2.out, Lib.hid ((leadAt_on HPX.out HQ.out HT.out).symm.trans HK.out)⟩
            case measure => simp [intOf]; omega
    · obtain rfl : k = n := by omega
      have HE := Lib.hid (show leadAt k (xs.map (·.p)) = 0 from by
        have := leadAt_end (xs.map (·.p))
        rwa [List.length_map, H.out.len] at this)
      go_wp2_with fail
      go_ret
      exact ⟨by rw [← HK.out, HE.out]; rfl, hb⟩

end Go.Proofs.Ytmchpakefddinaa.Frag
