/-
  What davitlaw04.knows comes to: true.
-/
import Derived.Test.YtmchpakefddinaaFragCut
import Derived.Test.YtmchpakefddinaaFragRefCut
namespace Go.Proofs.Ytmchpakefddinaa.Frag
open Go.RowKit
set_option linter.unusedVariables false
set_option linter.unusedSimpArgs false

theorem Pr.of_own {w : World} {base n c e : Nat} {A : Option Addr} {xs : List Pv} (h : w.ownsRow base e 4 (.slice A n c) n (flat xs)) (hn : xs.length = n) (hb : ∀ x ∈ xs, Bs w w.heap.size x.A x.p.body.length x.p.body) : Pr w w.heap.size A n xs := by
  refine ⟨hn, fun h0 => ?_, hb⟩
  obtain ⟨g, cap, hv, hbg, hlt⟩ := h.form h0
  have hA : A = some ⟨g, 0, none⟩ := by injection hv
  subst hA
  exact ⟨_, rfl, hlt, h.cells (g := g) rfl⟩
theorem own_cap {w : World} {base n c e size : Nat} {A : Option Addr} {us : List Value} (h : w.ownsRow base e size (.slice A n c) n us) : n ≤ c ∧ c ≤ maxLen := by
  rcases h.2 with ⟨hv, _⟩ | ⟨g, cap, cur, hv, _, _, h1, h2, _⟩
  · injection hv with h1 h2 h3
    subst h2 h3
    exact ⟨Nat.le_refl _, Nat.zero_le _⟩
  · injection hv with _ _ h3
    subst h3
    exact ⟨h1, h2⟩
theorem cut_none : cut 1#32 2#32 [] = [⟨1#32, 2#32, 3, []⟩] := by rw [cut, pcs_last (by decide)]; rfl
theorem grp_none1 : grp [(⟨1#32, 2#32, 3, []⟩ : Pt)] = [[⟨1#32, 2#32, 3, []⟩]] := by
  have h : lead true [(⟨1#32, 2#32, 3, []⟩ : Pt)] = 1 := by rfl
  rw [grp_more (by rw [h]; decide), h]
  rw [grp_none (by rfl)]
  rfl

set_option maxRecDepth 100000 in
set_option maxHeartbeats 1000000 in
theorem knows (w : World) : Calls Try.prog 5 #[] w fun e w' => e = .returned (.bool true) ∧ Below w.heap.size w w' := by
  go_enter Try.func5, Try.ntmps5
  go_wp2_with fail
  refine (cut_calls none 0 0 1#32 2#32 [] _ Bs.nil_ (by decide) (by decide) (by decide)).mono ?_
  rintro r w1 ⟨A1, m1, c1, xs, rfl, hxs, hm1, ho1, hby1, hb1⟩
  rw [cut_none] at hxs hm1
  subst hm1
  obtain ⟨x, rfl⟩ : ∃ x, xs = [x] := List.length_eq_one_iff.1 (by have := congrArg List.length hxs; simpa using this)
  have hxp : x.p = ⟨1#32, 2#32, 3, []⟩ := by simpa using hxs
  obtain ⟨g1, cap1, hv1, hg1, hl1⟩ := ho1.form (by decide)
  have hA1 : A1 = some ⟨g1, 0, none⟩ := by injection hv1
  subst hA1
  have hcap := own_cap ho1
  have hc1 := hcap.1
  have hc2 := hcap.2
  have hPr := Pr.of_own ho1 rfl (fun y hy => (hby1 y hy).rd)
  have HP := Lib.hid hPr
  have HO := Lib.hid ho1
  have HB1 := Lib.hid hb1
  have HX := Lib.hid hxp
  have s1 := hb1.size
  clear hby1 hb1 ho1 hPr hxs hxp hcap hv1
  simp only [List.length_singleton] at *
  go_wp2_with fail
  refine (join_calls _ 1 c1 [x] _ HP.out (by decide) hc1 hc2 (by intro y hy; rw [List.mem_singleton.1 hy, HX.out]; exact ⟨by decide, by decide⟩) (by rw [List.map_singleton, HX.out, grp_none1]; intro g hg; rw [List.mem_singleton.1 hg]; decide)).mono ?_
  rintro r w2 ⟨A2, m2, c2, rs, rfl, hrs, rfl, ho2, hby2, hb2⟩
  rw [List.map_singleton, HX.out, grp_none1] at hrs
  have hrl : rs.length = 1 := by have := congrArg List.length hrs; simpa using this
  have hu : used (grp (List.map (fun x => x.p) [x])) = 1 := by rw [List.map_singleton, HX.out, grp_none1]; rfl
  rw [hrl, hu]
  have q2 : w2.cell? ⟨g1, 2, none⟩ = some (.int .i64 3) := by
    have := HO.out.cells (g := g1) rfl 2 _ rfl
    rw [add_row, HX.out] at this
    exact (hb2.cell (p := ⟨g1, 2, none⟩) hl1).trans this
  have q1 : w2.cell? ⟨g1, 1, none⟩ = some (.int .u32 2) := by
    have := HO.out.cells (g := g1) rfl 1 _ rfl
    rw [add_row, HX.out] at this
    exact (hb2.cell (p := ⟨g1, 1, none⟩) hl1).trans this
  have HB2 := Lib.hid hb2
  clear ho2 hby2 hb2 hrs hu
  unfold maxLen at hc2
  go_wp2_with fail
  go_ret
  exact ⟨rfl, HB1.out.trans (HB2.out.mono s1)⟩
end Go.Proofs.Ytmchpakefddinaa.Frag
