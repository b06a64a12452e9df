/-
  What davitlaw04.FragCuts comes to: true.
-/
import Derived.Test.YtmchpakefddinaaFragKnows
namespace Go.Proofs.Ytmchpakefddinaa.Frag
open Go.RowKit
set_option linter.unusedVariables false
set_option linter.unusedSimpArgs false

set_option maxRecDepth 100000 in
set_option maxHeartbeats 1000000 in
theorem cuts_know (A : Option Addr) (n c : Nat) (ep sq : BitVec 32) (w : World) (hm : n ≤ maxLen) (hn : (3000 < n ∧ n ≤ 9860) ∨ 10000 < n) :
    Calls Try.prog 3 #[.slice A n c, v32 ep, v32 sq] w fun e w' => e = .returned (.bool true) ∧ Below w.heap.size w w' := by
  unfold maxLen at hm
  rcases hn with ⟨h1, h2⟩ | h1
  · go_enter Try.func3, Try.ntmps3
    go_wp2_with fail
    refine (knows _).mono ?_
    rintro r w1 ⟨rfl, hb1⟩
    go_wp2_with fail
    go_ret
    exact ⟨rfl, hb1⟩
  · have h2 : ¬ n ≤ 9860 := by omega
    go_enter Try.func3, Try.ntmps3
    go_wp2_with fail
    refine (knows _).mono ?_
    rintro r w1 ⟨rfl, hb1⟩
    go_wp2_with fail
    go_ret
    exact ⟨rfl, hb1⟩

set_option maxRecDepth 100000 in
set_option maxHeartbeats 1000000 in
theorem cuts_full (A : Option Addr) (n c : Nat) (ep sq : BitVec 32) (w : World) (h1 : 9860 < n) (h2 : n ≤ 10000) :
    Calls Try.prog 3 #[.slice A n c, v32 ep, v32 sq] w fun e w' => e = .returned (.bool true) ∧ Below w.heap.size w w' := by
  have h3 : ¬ n ≤ 9860 := by omega
  go_enter Try.func3, Try.ntmps3
  go_wp2_with fail
  refine (cut_long A n c ep sq _ h1 (by unfold maxLen; omega)).mono ?_
  rintro r w1 ⟨rfl, hb1⟩
  go_wp2_with fail
  refine (knows _).mono ?_
  rintro r w2 ⟨rfl, hb2⟩
  go_wp2_with fail
  go_ret
  exact ⟨rfl, hb1.trans (hb2.mono hb1.size)⟩

theorem Pr.more {w : World} {B B' n : Nat} {A : Option Addr} {xs : List Pv} (h : Pr w B A n xs) (hB : B ≤ B') : Pr w B' A n xs :=
  ⟨h.len, fun hn => by
    obtain ⟨ad, e, hl, hc⟩ := h.cells hn
    exact ⟨ad, e, by omega, hc⟩, fun x hx => (h.bodies x hx).more hB⟩
theorem four {W V : World} {a b c d : Value} {ad : Addr} {k : Nat} (hV : From W V) (hl : ad.block < W.heap.size)
    (h : W.cell? (ad.add k) = some a ∧ W.cell? ⟨(ad.add k).block, (ad.add k).off + 1, none⟩ = some b ∧ W.cell? ⟨(ad.add k).block, (ad.add k).off + 2, none⟩ = some c ∧ W.cell? ⟨(ad.add k).block, (ad.add k).off + 3, none⟩ = some d) :
    V.cell? (ad.add k) = some a ∧ V.cell? ⟨(ad.add k).block, (ad.add k).off + 1, none⟩ = some b ∧ V.cell? ⟨(ad.add k).block, (ad.add k).off + 2, none⟩ = some c ∧ V.cell? ⟨(ad.add k).block, (ad.add k).off + 3, none⟩ = some d := by
  have hk : (ad.add k).block < W.heap.size := by rw [add_block]; exact hl
  exact ⟨(Below.cell hV hk).trans h.1, (Below.cell hV (p := ⟨(ad.add k).block, (ad.add k).off + 1, none⟩) hk).trans h.2.1, (Below.cell hV (p := ⟨(ad.add k).block, (ad.add k).off + 2, none⟩) hk).trans h.2.2.1, (Below.cell hV (p := ⟨(ad.add k).block, (ad.add k).off + 3, none⟩) hk).trans h.2.2.2⟩

set_option maxRecDepth 100000 in
set_option maxHeartbeats 2000000 in
theorem cuts_short (A : Option Addr) (n c : Nat) (ep sq : BitVec 32) (bs : List (BitVec 8)) (w : World) (hbs : Bs w w.heap.size A n bs) (hnc : n ≤ c) (hc : c ≤ maxLen) (hn : n ≤ 3000) :
    Calls Try.prog 3 #[.slice A n c, v32 ep, v32 sq] w fun e w' => e = .returned (.bool true) ∧ Below w.heap.size w w' := by
  have HB := Lib.hid hbs
  clear hbs
  have HC := Lib.hid hc
  clear hc
  go_enter Try.func3, Try.ntmps3
  go_wp2_with fail
  refine (cut_calls A n c ep sq bs _ HB.out (by omega) hnc HC.out).mono ?_
  rintro r w1 ⟨A1, m1, c1, xs, rfl, hxs, hm1, ho1, hby1, hb1⟩
  have hP1 := Pr.of_own ho1 (by rw [hm1, ← hxs, List.length_map]) (fun y hy => (hby1 y hy).rd)
  have HP1 := Lib.hid hP1
  have HX := Lib.hid hxs
  have HB1 := Lib.hid hb1
  have s1 := hb1.size
  have hmb : m1 ≤ 8 := by
    have := cut_length_le ep sq bs
    rw [HB.out.len, ← hm1] at this
    omega
  have HM1 := Lib.hid hm1
  clear ho1 hby1 hP1 hxs hb1 hm1
  go_wp2_with fail
  refine (refCut n A n c ep sq true bs w.heap.size _ (Nat.le_refl _) (HB.out.below HB1.out) s1 hnc HC.out (by omega)).mono ?_
  rintro r w2 ⟨A2, m2, c2, ys, rfl, hys, hm2, ho2, hbb, hb2⟩
  have s2 := hb2.size
  have hys' : ys.map (·.p) = xs.map (·.p) := by rw [hys, HX.out]; rfl
  have hml : m2 = m1 := by
    have := congrArg List.length hys'
    rw [List.length_map, List.length_map] at this
    rw [hm2, this, HP1.out.len]
  subst hml
  have hP2 := Pr.of_own ho2 hm2.symm (fun y hy => (hbb y hy).more (by omega))
  have HP2 := Lib.hid hP2
  have HYS := Lib.hid hys'
  have HB2 := Lib.hid hb2
  clear ho2 hbb hP2 hys hys' hb2 hm2
  go_wp2_with fail
  go_loopw [10] (fun i wr => ∃ k : Nat, k ≤ m2 ∧ i = .int .i64 (k : Int) ∧ Below w2.heap.size w2 wr) (fun i _ => m2 - (intOf i).toNat)
  case atStart => exact ⟨0, Nat.zero_le _, rfl, Below.refl _ _⟩
  case round =>
    obtain ⟨k, hk, rfl, hb⟩ := hrel
    have sb := hb.size
    by_cases hlt : k < m2
    · have hQ1 : Pr wr wr.heap.size A1 m2 xs := ((HP1.out.below HB2.out).more s2).below hb |>.more sb
      have hQ2 : Pr wr wr.heap.size A2 m2 ys := (HP2.out.below hb).more sb
      obtain ⟨ad1, x, rfl, hx, hxb, hl1, a0, a1, a2, a3⟩ := hQ1.at_ hlt
      obtain ⟨ad2, y, rfl, hy, hyb, hl2, e0, e1, e2, e3⟩ := hQ2.at_ hlt
      have hxy : y.p = x.p := by
        have h1 : (ys.map (·.p))[k]? = some y.p := by rw [List.getElem?_map, hy]; rfl
        have h2 : (xs.map (·.p))[k]? = some x.p := by rw [List.getElem?_map, hx]; rfl
        rw [HYS.out, h2] at h1
        injection h1 with h1
        exact h1.symm
      obtain ⟨yp, yA, yc⟩ := y
      obtain ⟨⟨xe, xs_, xf, xbs⟩, xA, xc⟩ := x
      dsimp only at hxy
      subst hxy
      dsimp only at *
      have HXB := Lib.hid hxb
      have HYB := Lib.hid hyb
      have c0 := Lib.hid (And.intro hl1 (And.intro a0 (And.intro a1 (And.intro a2 a3))))
      have d0 := Lib.hid (And.intro hl2 (And.intro e0 (And.intro e1 (And.intro e2 e3))))
      clear hQ1 hQ2 hx hy hxb hyb hl1 hl2 a0 a1 a2 a3 e0 e1 e2 e3
      have HB3 := Lib.hid hb
      clear hb
      generalize hxn : xbs.length = xn at *
      go_wp2_with fail
      refine wp_region_held_drew (S := From wr) (by kernel_rfl) (From.self _).drew (fun hH => ?_)
      refine wpAnyH_take (i := 0) (v := .slice (some ad1) m2 c1) rfl (by kernel_rfl) (by kernel_rfl) (by kernel_rfl) (fun _ _ _ h => h) (Or.inl ⟨by rfl, ?_⟩) hH ?_
      · intro V hV; go_simp
      try simp only [Act.put, List.setIfInBounds_toArray, List.set_cons_zero, List.set_cons_succ, List.getElem_toArray, List.getElem_cons_succ, List.getElem_cons_zero]
      refine wpAnyH_take (i := 1) (v := .int .i64 (k : Int)) rfl (by kernel_rfl) (by kernel_rfl) (by kernel_rfl) (fun _ _ _ h => h) (Or.inl ⟨by rfl, ?_⟩) hH ?_
      · intro V hV; go_simp
      try simp only [Act.put, List.setIfInBounds_toArray, List.set_cons_zero, List.set_cons_succ, List.getElem_toArray, List.getElem_cons_succ, List.getElem_cons_zero]
      refine wpAnyH_take (i := 2) (v := .pointer (some (ad1.add (k * 4)))) rfl (by kernel_rfl) (by kernel_rfl) (by kernel_rfl) (fun _ _ _ h => h) (Or.inl ⟨by rfl, ?_⟩) hH ?_
      · intro V hV; go_simp
      try simp only [Act.put, List.setIfInBounds_toArray, List.set_cons_zero, List.set_cons_succ, List.getElem_toArray, List.getElem_cons_succ, List.getElem_cons_zero]
      refine wpAnyH_take (i := 3) (v := .agg #[v32 xe, v32 xs_, .int .i64 xf, .slice xA xn xc]) rfl (by kernel_rfl) (by kernel_rfl) (by kernel_rfl) (fun _ _ _ h => h) (Or.inl ⟨by rfl, ?_⟩) hH ?_
      · intro V hV; have b0 := four hV c0.out.1 c0.out.2; obtain ⟨b0, b1, b2, b3⟩ := b0; go_simp
      try simp only [Act.put, List.setIfInBounds_toArray, List.set_cons_zero, List.set_cons_succ, List.getElem_toArray, List.getElem_cons_succ, List.getElem_cons_zero]
      refine wpAnyH_take (i := 5) (v := .slice (some ad2) m2 c2) rfl (by kernel_rfl) (by kernel_rfl) (by kernel_rfl) (fun _ _ _ h => h) (Or.inl ⟨by rfl, ?_⟩) hH ?_
      · intro V hV; go_simp
      try simp only [Act.put, List.setIfInBounds_toArray, List.set_cons_zero, List.set_cons_succ, List.getElem_toArray, List.getElem_cons_succ, List.getElem_cons_zero]
      refine wpAnyH_take (i := 6) (v := .int .i64 (k : Int)) rfl (by kernel_rfl) (by kernel_rfl) (by kernel_rfl) (fun _ _ _ h => h) (Or.inl ⟨by rfl, ?_⟩) hH ?_
      · intro V hV; go_simp
      try simp only [Act.put, List.setIfInBounds_toArray, List.set_cons_zero, List.set_cons_succ, List.getElem_toArray, List.getElem_cons_succ, List.getElem_cons_zero]
      refine wpAnyH_take (i := 7) (v := .pointer (some (ad2.add (k * 4)))) rfl (by kernel_rfl) (by kernel_rfl) (by kernel_rfl) (fun _ _ _ h => h) (Or.inl ⟨by rfl, ?_⟩) hH ?_
      · intro V hV; go_simp
      try simp only [Act.put, List.setIfInBounds_toArray, List.set_cons_zero, List.set_cons_succ, List.getElem_toArray, List.getElem_cons_succ, List.getElem_cons_zero]
      refine wpAnyH_take (i := 8) (v := .agg #[v32 xe, v32 xs_, .int .i64 xf, .slice yA xn yc]) rfl (by kernel_rfl) (by kernel_rfl) (by kernel_rfl) (fun _ _ _ h => h) (Or.inl ⟨by rfl, ?_⟩) hH ?_
      · intro V hV; have b0 := four hV d0.out.1 d0.out.2; obtain ⟨b0, b1, b2, b3⟩ := b0; go_simp
      try simp only [Act.put, List.setIfInBounds_toArray, List.set_cons_zero, List.set_cons_succ, List.getElem_toArray, List.getElem_cons_succ, List.getElem_cons_zero]
      refine wpAnyH_ready (rs := [4]) (by kernel_rfl) (by simp) (AllReadyH.cons rfl (fun K hK => ?_) AllReadyH.nil)
      go_simp
      refine (as_ xe xs_ xf xA xn xc _).mono ?_
      rintro r w4 ⟨rfl, hb4⟩
      go_wp2_with fail
      refine hK.out _ _ (hH.call hb4) (fun hH4 => ?_)
      clear hK K
      try simp only [Act.put, List.setIfInBounds_toArray, List.set_cons_zero, List.set_cons_succ, List.getElem_toArray, List.getElem_cons_succ, List.getElem_cons_zero]
      refine wpAnyH_ready (rs := [9]) (by kernel_rfl) (by simp) (AllReadyH.cons rfl (fun K hK => ?_) AllReadyH.nil)
      go_simp
      refine (same xe xs_ xf xA yA xn xc yc xbs wr.heap.size _ (HXB.out.below hH4) (HYB.out.below hH4) hH4.size).mono ?_
      rintro r w5 ⟨rfl, hb5⟩
      go_wp2_with fail
      refine hK.out _ _ (hH4.call hb5) (fun hH5 => ?_)
      clear hK K
      try simp only [Act.put, List.setIfInBounds_toArray, List.set_cons_zero, List.set_cons_succ, List.getElem_toArray, List.getElem_cons_succ, List.getElem_cons_zero]
      refine wpAnyH_ready (rs := [10]) (by kernel_rfl) (by simp) (AllReadyH.cons rfl (fun K hK => ?_) AllReadyH.nil)
      go_simp
      refine hK.out _ _ hH5 (fun hH6 => ?_)
      clear hK K
      try simp only [Act.put, List.setIfInBounds_toArray, List.set_cons_zero, List.set_cons_succ, List.getElem_toArray, List.getElem_cons_succ, List.getElem_cons_zero]
      refine wpAnyH_done (by kernel_rfl) ?_ _
      go_wp2_with fail
      exact ⟨⟨k + 1, by omega, by go_num, HB3.out.trans (Below.mono hH6 sb)⟩, by simp [intOf]; omega⟩
    · obtain rfl : k = m2 := by omega
      have HB3 := Lib.hid (HB1.out.trans ((HB2.out.trans (hb.mono s2)).mono s1))
      have s3 : w.heap.size ≤ wr.heap.size := by omega
      clear hb
      go_wp2_with fail
      refine (knows _).mono ?_
      rintro r w3 ⟨rfl, hb3⟩
      go_wp2_with fail
      go_ret
      exact ⟨rfl, HB3.out.trans (hb3.mono s3)⟩
theorem cuts_walk (A : Option Addr) (n c : Nat) (ep sq : BitVec 32) (bs : List (BitVec 8)) (w : World) (hbs : Bs w w.heap.size A n bs) (hnc : n ≤ c) (hc : c ≤ maxLen) :
    Calls Try.prog 3 #[.slice A n c, v32 ep, v32 sq] w fun e w' => e = .returned (.bool true) ∧ Below w.heap.size w w' := by
  by_cases h1 : (3000 < n ∧ n ≤ 9860) ∨ 10000 < n
  · exact cuts_know A n c ep sq w (Nat.le_trans hnc hc) h1
  · by_cases h2 : 9860 < n
    · exact cuts_full A n c ep sq w h2 (by omega)
    · exact cuts_short A n c ep sq bs w hbs hnc hc (by omega)
end Go.Proofs.Ytmchpakefddinaa.Frag
