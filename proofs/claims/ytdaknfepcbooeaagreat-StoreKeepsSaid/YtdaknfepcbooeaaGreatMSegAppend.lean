/-
  The program's segment: Append.
-/
import Derived.Test.YtdaknfepcbooeaaGreatMSegA
namespace Go.Proofs.YtdaknfepcbooeaaGreat.Segm
open Go.RowKit
open Go.Proofs.YtdaknfepcbooeaaGreat.Frag (cut Pv flat Pr own_base own_below)
open Go.Proofs.YtdaknfepcbooeaaGreat.Disk (M Dk Chg Dob Bn Did append sync remove there own_chg)
open Go.Proofs.YtdaknfepcbooeaaGreat.Sector (partV)
open Go.Proofs.YtdaknfepcbooeaaGreat.Ord
set_option linter.unusedVariables false
set_option linter.unusedSimpArgs false

def From (w0 W : World) : Prop := Below w0.heap.size w0 W
theorem From.self (w0 : World) : From w0 w0 := Below.refl _ _
theorem From.drew {w0 W : World} (h : From w0 W) : From w0 W.drew := Below.drew h
theorem From.call {w0 W W' : World} (h2 : Below W.heap.size W W') (h : From w0 W) : From w0 W' := Below.trans h (h2.mono h.size)

theorem conv32 (z : Nat) (zb : BitVec 32) (h : zb = BitVec.ofNat 32 z) (V : World) : (convert 3 56 (.int .i64 (z : Int))).run Tryz.prog V = .ok (.int .u32 (zb.toNat : Int)) V := by
  have e : IntKind.u32.wrap (z : Int) = (zb.toNat : Int) := by
    rw [h, BitVec.toNat_ofNat]
    simp [IntKind.wrap, IntKind.bits, IntKind.signed]
  have hk : Tryz.prog.intKind 56 = .u32 := by kernel_rfl
  have h2 := run_convert_int (P := Tryz.prog) V 3 56 .i64 z (by kernel_rfl) (by rw [hk]; kernel_rfl)
  rw [hk, e] at h2
  exact h2

theorem append_broken (w : World) (B s d : Nat) (m : M) (g : Gm) (A : Option Addr) (n c : Nat) (bs : List (BitVec 8)) (hd : Dk w B d m) (hg : Sg w s d g) (hbr : g.broken = true) :
    Calls Tryz.prog 43 #[.pointer (some ⟨s, 0, none⟩), .slice A n c] w (SDidE w B s d (appendS m g bs)) := by
  have con := isBroken_call w s d g hg
  rw [hbr] at con
  have hw : appendS m g bs = (8, m, g) := by unfold appendS; rw [hbr]; rfl
  rw [hw]
  have HD := Lib.hid hd
  have HG := Lib.hid hg
  clear hd hg hbr hw
  go_enter Tryz.func43, Tryz.ntmps43
  go_wp2_with ((go_at_call 81; refine con.mono ?_; rintro e w' ⟨rfl, rfl⟩))
  go_ret
  exact ⟨rfl, HD.out, HG.out, Chg.refl _ _ _⟩

set_option maxRecDepth 100000 in
set_option maxHeartbeats 400000 in
theorem append_long (w : World) (B s d : Nat) (m : M) (gf : Int) (ge : BitVec 32) (z : Nat) (A : Option Addr) (n c : Nat) (bs : List (BitVec 8)) (hd : Dk w B d m) (hg : Sg w s d ⟨gf, ge, z, false⟩) (hz : z < 9000000000000000000) (hn : n ≤ maxLen) (hl : 9860 < n) (hb : bs.length = n) :
    Calls Tryz.prog 43 #[.pointer (some ⟨s, 0, none⟩), .slice A n c] w (SDidE w B s d (appendS m ⟨gf, ge, z, false⟩ bs)) := by
  have con := isBroken_call w s d _ hg
  dsimp only at con
  have hw : appendS m ⟨gf, ge, z, false⟩ bs = (3, m, ⟨gf, ge, z, false⟩) := by unfold appendS; rw [if_neg (by simp), if_pos (by rw [hb]; exact hl)]
  rw [hw]
  have HD := Lib.hid hd
  have HG := Lib.hid hg
  have hsl : s < w.heap.size := Cel.lt hg
  obtain ⟨zb, hzb⟩ : ∃ zb, zb = BitVec.ofNat 32 z := ⟨_, rfl⟩
  have HCV := Lib.hid (conv32 z zb hzb)
  have HZB := Lib.hid hzb
  clear hzb
  have hcl : ∀ V, From w V → V.cell? ⟨s, 3, none⟩ = some (v32 ge) ∧ V.cell? ⟨s, 4, none⟩ = some (.int .i64 (z : Int)) := fun V hV => by
    have h := HG.out.below hV
    exact ⟨h.cell 3, h.cell 4⟩
  clear hd hg hw
  go_enter Tryz.func43, Tryz.ntmps43
  go_wp2_with ((go_at_call 81; refine con.mono ?_; rintro e w' ⟨rfl, rfl⟩))
  clear con
  refine wp_region_N [] (From w) (by kernel_rfl) ?_
  have hH : From w w.drew := (From.self _).drew
  refine wpAnyN_take (i := 0) (v := .slice A n c) [] (by kernel_rfl) rfl (by kernel_rfl) (by kernel_rfl) (by kernel_rfl) (fun _ _ _ h => h) (Or.inl ⟨by rfl, ?_⟩) hH ?_
  · intro V hV; go_simp
  try simp only [Act.put, List.setIfInBounds_toArray, List.set_cons_zero, List.set_cons_succ, List.getElem_toArray, List.getElem_cons_succ, List.getElem_cons_zero]
  refine wpAnyN_take (i := 1) (v := .pointer (some ⟨s, 0, none⟩)) [] (by kernel_rfl) rfl (by kernel_rfl) (by kernel_rfl) (by kernel_rfl) (fun _ _ _ h => h) (Or.inl ⟨by rfl, ?_⟩) hH ?_
  · intro V hV; go_simp
  try simp only [Act.put, List.setIfInBounds_toArray, List.set_cons_zero, List.set_cons_succ, List.getElem_toArray, List.getElem_cons_succ, List.getElem_cons_zero]
  refine wpAnyN_take (i := 2) (v := .pointer (some ⟨s, 0, none⟩)) [] (by kernel_rfl) rfl (by kernel_rfl) (by kernel_rfl) (by kernel_rfl) (fun _ _ _ h => h) (Or.inl ⟨by rfl, ?_⟩) hH ?_
  · intro V hV; go_simp
  try simp only [Act.put, List.setIfInBounds_toArray, List.set_cons_zero, List.set_cons_succ, List.getElem_toArray, List.getElem_cons_succ, List.getElem_cons_zero]
  refine wpAnyN_take (i := 3) (v := .pointer (some ⟨s, 3, none⟩)) [] (by kernel_rfl) rfl (by kernel_rfl) (by kernel_rfl) (by kernel_rfl) (fun _ _ _ h => h) (Or.inl ⟨by rfl, ?_⟩) hH ?_
  · intro V hV; go_simp
  try simp only [Act.put, List.setIfInBounds_toArray, List.set_cons_zero, List.set_cons_succ, List.getElem_toArray, List.getElem_cons_succ, List.getElem_cons_zero]
  refine wpAnyN_take (i := 4) (v := v32 ge) [] (by kernel_rfl) rfl (by kernel_rfl) (by kernel_rfl) (by kernel_rfl) (fun _ _ _ h => h) (Or.inl ⟨by rfl, ?_⟩) hH ?_
  · intro V hV; obtain ⟨k3, k4⟩ := hcl V hV; go_simp
  try simp only [Act.put, List.setIfInBounds_toArray, List.set_cons_zero, List.set_cons_succ, List.getElem_toArray, List.getElem_cons_succ, List.getElem_cons_zero]
  refine wpAnyN_take (i := 5) (v := .pointer (some ⟨s, 0, none⟩)) [] (by kernel_rfl) rfl (by kernel_rfl) (by kernel_rfl) (by kernel_rfl) (fun _ _ _ h => h) (Or.inl ⟨by rfl, ?_⟩) hH ?_
  · intro V hV; go_simp
  try simp only [Act.put, List.setIfInBounds_toArray, List.set_cons_zero, List.set_cons_succ, List.getElem_toArray, List.getElem_cons_succ, List.getElem_cons_zero]
  refine wpAnyN_take (i := 6) (v := .pointer (some ⟨s, 0, none⟩)) [] (by kernel_rfl) rfl (by kernel_rfl) (by kernel_rfl) (by kernel_rfl) (fun _ _ _ h => h) (Or.inl ⟨by rfl, ?_⟩) hH ?_
  · intro V hV; go_simp
  try simp only [Act.put, List.setIfInBounds_toArray, List.set_cons_zero, List.set_cons_succ, List.getElem_toArray, List.getElem_cons_succ, List.getElem_cons_zero]
  refine wpAnyN_take (i := 7) (v := .pointer (some ⟨s, 4, none⟩)) [] (by kernel_rfl) rfl (by kernel_rfl) (by kernel_rfl) (by kernel_rfl) (fun _ _ _ h => h) (Or.inl ⟨by rfl, ?_⟩) hH ?_
  · intro V hV; go_simp
  try simp only [Act.put, List.setIfInBounds_toArray, List.set_cons_zero, List.set_cons_succ, List.getElem_toArray, List.getElem_cons_succ, List.getElem_cons_zero]
  refine wpAnyN_take (i := 8) (v := .int .i64 (z : Int)) [] (by kernel_rfl) rfl (by kernel_rfl) (by kernel_rfl) (by kernel_rfl) (fun _ _ _ h => h) (Or.inl ⟨by rfl, ?_⟩) hH ?_
  · intro V hV; obtain ⟨k3, k4⟩ := hcl V hV; go_simp
  try simp only [Act.put, List.setIfInBounds_toArray, List.set_cons_zero, List.set_cons_succ, List.getElem_toArray, List.getElem_cons_succ, List.getElem_cons_zero]
  refine wpAnyN_take (i := 9) (v := .int .u32 (zb.toNat : Int)) [] (by kernel_rfl) rfl (by kernel_rfl) (by kernel_rfl) (by kernel_rfl) (fun _ _ _ h => h) (Or.inl ⟨by rfl, ?_⟩) hH ?_
  · intro V hV; have kv := HCV.out V; go_simp
  try simp only [Act.put, List.setIfInBounds_toArray, List.set_cons_zero, List.set_cons_succ, List.getElem_toArray, List.getElem_cons_succ, List.getElem_cons_zero]
  refine wpAnyN_one (i := 10) (by kernel_rfl) rfl (fun K hK => ?_)
  go_simp
  refine (Frag.cut_long A n c ge zb w.drew hl hn).mono ?_
  rintro r w1 ⟨rfl, hb1⟩
  have hH1 : From w w1 := hH.call hb1
  go_wp2_with fail
  refine hK.out _ _ (.inr hH1) ?_
  clear hK K hH
  have hH := hH1
  clear hH1 hcl
  try simp only [Act.put, List.setIfInBounds_toArray, List.set_cons_zero, List.set_cons_succ, List.getElem_toArray, List.getElem_cons_succ, List.getElem_cons_zero]
  refine wpAnyN_take (i := 11) (v := .tuple #[.slice none 0 0, .int .i64 3]) [] (by kernel_rfl) rfl (by kernel_rfl) (by kernel_rfl) (by kernel_rfl) (fun _ _ _ h => h) (Or.inl ⟨by rfl, ?_⟩) hH ?_
  · intro V hV; go_simp
  try simp only [Act.put, List.setIfInBounds_toArray, List.set_cons_zero, List.set_cons_succ, List.getElem_toArray, List.getElem_cons_succ, List.getElem_cons_zero]
  refine wpAnyN_take (i := 12) (v := .slice none 0 0) [] (by kernel_rfl) rfl (by kernel_rfl) (by kernel_rfl) (by kernel_rfl) (fun _ _ _ h => h) (Or.inl ⟨by rfl, ?_⟩) hH ?_
  · intro V hV; go_simp
  try simp only [Act.put, List.setIfInBounds_toArray, List.set_cons_zero, List.set_cons_succ, List.getElem_toArray, List.getElem_cons_succ, List.getElem_cons_zero]
  refine wpAnyN_take (i := 13) (v := .int .i64 3) [] (by kernel_rfl) rfl (by kernel_rfl) (by kernel_rfl) (by kernel_rfl) (fun _ _ _ h => h) (Or.inl ⟨by rfl, ?_⟩) hH ?_
  · intro V hV; go_simp
  try simp only [Act.put, List.setIfInBounds_toArray, List.set_cons_zero, List.set_cons_succ, List.getElem_toArray, List.getElem_cons_succ, List.getElem_cons_zero]
  refine wpAnyN_one (i := 14) (by kernel_rfl) rfl (fun K hK => ?_)
  go_simp
  refine hK.out _ _ (.inr hH) ?_
  clear hK K
  try simp only [Act.put, List.setIfInBounds_toArray, List.set_cons_zero, List.set_cons_succ, List.getElem_toArray, List.getElem_cons_succ, List.getElem_cons_zero]
  refine wpAnyN_one (i := 15) (by kernel_rfl) rfl (fun K hK => ?_)
  go_simp
  refine hK.out _ _ (.inr hH) ?_
  clear hK K
  try simp only [Act.put, List.setIfInBounds_toArray, List.set_cons_zero, List.set_cons_succ, List.getElem_toArray, List.getElem_cons_succ, List.getElem_cons_zero]
  refine wpAnyN_done (by kernel_rfl) ?_ _
  simp only [Exit.then]
  go_wp2_with fail
  go_ret
  exact ⟨rfl, HD.out.below hH, HG.out.below hH, Chg.of_below hH⟩

/-- The parts of a record, in a row of the call's own. -/
structure Ps (w0 w : World) (A : Option Addr) (c : Nat) (xs : List Pv) : Prop where
  own : w.ownsRow w0.heap.size 121 4 (.slice A xs.length c) xs.length (flat xs)
  by_ : ∀ x ∈ xs, By w x.A x.p.body.length x.p.body
theorem Ps.chg {ep : BitVec 32} {B : Nat} {w0 w w' : World} {A : Option Addr} {c : Nat} {xs : List Pv} (h : Ps w0 w A c xs) (hc : Chg B (SobE ep) w w') : Ps w0 w' A c xs :=
  ⟨own_chg h.own hc (by rintro cur (h | h | ⟨h, -⟩) <;> revert h <;> decide), fun x hx => (h.by_ x hx).keep fun k cs fz hk => by
    rw [hk]
    exact hc.block _ _ hk (.inr (by rintro (h | h | ⟨h, -⟩) <;> revert h <;> decide))⟩
theorem Ps.pr {w0 w : World} {A : Option Addr} {c : Nat} {xs : List Pv} (h : Ps w0 w A c xs) : Pr w w.heap.size A xs.length xs := Frag.Pr.of_own h.own rfl fun x hx => (h.by_ x hx).rd

set_option maxRecDepth 100000 in
set_option maxHeartbeats 1000000 in
theorem append_goes (w : World) (B s d : Nat) (m : M) (gf : Int) (ge : BitVec 32) (z : Nat) (A : Option Addr) (n c : Nat) (bs : List (BitVec 8)) (hd : Dk w B d m) (hg : Sg w s d ⟨gf, ge, z, false⟩) (hB : B ≤ w.heap.size) (hs : B ≤ s) (hf : gf < 9223372036854775808) (hz : z < 8000000000000000000)
    (hb : Bs w w.heap.size A n bs) (hl : n ≤ 9860) (hnc : n ≤ c) (hc : c ≤ maxLen) :
    Calls Tryz.prog 43 #[.pointer (some ⟨s, 0, none⟩), .slice A n c] w (SDidE w B s d (appendS m ⟨gf, ge, z, false⟩ bs)) := by
  have con := isBroken_call w s d _ hg
  dsimp only at con
  have hw : appendS m ⟨gf, ge, z, false⟩ bs = wrs ((cut ge (BitVec.ofNat 32 z) bs).map secP) m ⟨gf, ge, z, false⟩ := by unfold appendS; rw [if_neg (by simp), if_neg (by rw [hb.len]; omega)]; rfl
  rw [hw]
  have HD := Lib.hid hd
  have HG := Lib.hid hg
  have HBS := Lib.hid hb
  have hsl : s < w.heap.size := Cel.lt hg
  obtain ⟨zb, hzb⟩ : ∃ zb, zb = BitVec.ofNat 32 z := ⟨_, rfl⟩
  have HCV := Lib.hid (conv32 z zb hzb)
  rw [← hzb]
  have HC := Lib.hid hc
  have hcl : ∀ V, From w V → V.cell? ⟨s, 3, none⟩ = some (v32 ge) ∧ V.cell? ⟨s, 4, none⟩ = some (.int .i64 (z : Int)) := fun V hV => by
    have h := HG.out.below hV
    exact ⟨h.cell 3, h.cell 4⟩
  have HMAY := Lib.hid (cut_may ge zb bs)
  clear hd hg hw hb hc hzb
  go_enter Tryz.func43, Tryz.ntmps43
  go_wp2_with ((go_at_call 81; refine con.mono ?_; rintro e w' ⟨rfl, rfl⟩))
  clear con
  refine wp_region_N [] (From w) (by kernel_rfl) ?_
  have hH : From w w.drew := (From.self _).drew
  refine wpAnyN_take (i := 0) (v := .slice A n c) [] (by kernel_rfl) rfl (by kernel_rfl) (by kernel_rfl) (by kernel_rfl) (fun _ _ _ h => h) (Or.inl ⟨by rfl, ?_⟩) hH ?_
  · intro V hV; go_simp
  try simp only [Act.put, List.setIfInBounds_toArray, List.set_cons_zero, List.set_cons_succ, List.getElem_toArray, List.getElem_cons_succ, List.getElem_cons_zero]
  refine wpAnyN_take (i := 1) (v := .pointer (some ⟨s, 0, none⟩)) [] (by kernel_rfl) rfl (by kernel_rfl) (by kernel_rfl) (by kernel_rfl) (fun _ _ _ h => h) (Or.inl ⟨by rfl, ?_⟩) hH ?_
  · intro V hV; go_simp
  try simp only [Act.put, List.setIfInBounds_toArray, List.set_cons_zero, List.set_cons_succ, List.getElem_toArray, List.getElem_cons_succ, List.getElem_cons_zero]
  refine wpAnyN_take (i := 2) (v := .pointer (some ⟨s, 0, none⟩)) [] (by kernel_rfl) rfl (by kernel_rfl) (by kernel_rfl) (by kernel_rfl) (fun _ _ _ h => h) (Or.inl ⟨by rfl, ?_⟩) hH ?_
  · intro V hV; go_simp
  try simp only [Act.put, List.setIfInBounds_toArray, List.set_cons_zero, List.set_cons_succ, List.getElem_toArray, List.getElem_cons_succ, List.getElem_cons_zero]
  refine wpAnyN_take (i := 3) (v := .pointer (some ⟨s, 3, none⟩)) [] (by kernel_rfl) rfl (by kernel_rfl) (by kernel_rfl) (by kernel_rfl) (fun _ _ _ h => h) (Or.inl ⟨by rfl, ?_⟩) hH ?_
  · intro V hV; go_simp
  try simp only [Act.put, List.setIfInBounds_toArray, List.set_cons_zero, List.set_cons_succ, List.getElem_toArray, List.getElem_cons_succ, List.getElem_cons_zero]
  refine wpAnyN_take (i := 4) (v := v32 ge) [] (by kernel_rfl) rfl (by kernel_rfl) (by kernel_rfl) (by kernel_rfl) (fun _ _ _ h => h) (Or.inl ⟨by rfl, ?_⟩) hH ?_
  · intro V hV; obtain ⟨k3, k4⟩ := hcl V hV; go_simp
  try simp only [Act.put, List.setIfInBounds_toArray, List.set_cons_zero, List.set_cons_succ, List.getElem_toArray, List.getElem_cons_succ, List.getElem_cons_zero]
  refine wpAnyN_take (i := 5) (v := .pointer (some ⟨s, 0, none⟩)) [] (by kernel_rfl) rfl (by kernel_rfl) (by kernel_rfl) (by kernel_rfl) (fun _ _ _ h => h) (Or.inl ⟨by rfl, ?_⟩) hH ?_
  · intro V hV; go_simp
  try simp only [Act.put, List.setIfInBounds_toArray, List.set_cons_zero, List.set_cons_succ, List.getElem_toArray, List.getElem_cons_succ, List.getElem_cons_zero]
  refine wpAnyN_take (i := 6) (v := .pointer (some ⟨s, 0, none⟩)) [] (by kernel_rfl) rfl (by kernel_rfl) (by kernel_rfl) (by kernel_rfl) (fun _ _ _ h => h) (Or.inl ⟨by rfl, ?_⟩) hH ?_
  · intro V hV; go_simp
  try simp only [Act.put, List.setIfInBounds_toArray, List.set_cons_zero, List.set_cons_succ, List.getElem_toArray, List.getElem_cons_succ, List.getElem_cons_zero]
  refine wpAnyN_take (i := 7) (v := .pointer (some ⟨s, 4, none⟩)) [] (by kernel_rfl) rfl (by kernel_rfl) (by kernel_rfl) (by kernel_rfl) (fun _ _ _ h => h) (Or.inl ⟨by rfl, ?_⟩) hH ?_
  · intro V hV; go_simp
  try simp only [Act.put, List.setIfInBounds_toArray, List.set_cons_zero, List.set_cons_succ, List.getElem_toArray, List.getElem_cons_succ, List.getElem_cons_zero]
  refine wpAnyN_take (i := 8) (v := .int .i64 (z : Int)) [] (by kernel_rfl) rfl (by kernel_rfl) (by kernel_rfl) (by kernel_rfl) (fun _ _ _ h => h) (Or.inl ⟨by rfl, ?_⟩) hH ?_
  · intro V hV; obtain ⟨k3, k4⟩ := hcl V hV; go_simp
  try simp only [Act.put, List.setIfInBounds_toArray, List.set_cons_zero, List.set_cons_succ, List.getElem_toArray, List.getElem_cons_succ, List.getElem_cons_zero]
  refine wpAnyN_take (i := 9) (v := .int .u32 (zb.toNat : Int)) [] (by kernel_rfl) rfl (by kernel_rfl) (by kernel_rfl) (by kernel_rfl) (fun _ _ _ h => h) (Or.inl ⟨by rfl, ?_⟩) hH ?_
  · intro V hV; have kv := HCV.out V; go_simp
  try simp only [Act.put, List.setIfInBounds_toArray, List.set_cons_zero, List.set_cons_succ, List.getElem_toArray, List.getElem_cons_succ, List.getElem_cons_zero]
  refine wpAnyN_one (i := 10) (by kernel_rfl) rfl (fun K hK => ?_)
  go_simp
  refine (Frag.cut_calls A n c ge zb bs w.drew (HBS.out.below (Below.refl _ _).drew) hl hnc HC.out).mono ?_
  rintro r w1 ⟨A1, m1, cx, xs, rfl, hxs, hm1, ho1, hby1, hb1⟩
  have hxl : xs.length = m1 := by rw [hm1, ← hxs, List.length_map]
  subst hxl
  have hpos : 0 < xs.length := by rw [hm1]; exact Frag.cut_length_pos _ _ _
  have hfew : xs.length ≤ 21 := by
    have := Frag.cut_length_le ge zb bs
    rw [HBS.out.len, ← hm1] at this
    omega
  obtain ⟨g1, cap1, hv1, hg1, hl1⟩ := ho1.form hpos
  have hA1 : ∃ ad, A1 = some ad := ⟨⟨g1, 0, none⟩, by injection hv1⟩
  obtain ⟨ad, rfl⟩ := hA1
  have hH1 : From w w1 := hH.call hb1
  have HPS := Lib.hid (⟨ho1, hby1⟩ : Ps w.drew w1 (some ad) cx xs)
  have HXS := Lib.hid hxs
  clear ho1 hby1 hv1 hm1 hxs hg1 hl1 hb1
  go_wp2_with fail
  refine hK.out _ _ (.inr hH1) ?_
  clear hK K hH
  have hH := hH1
  clear hH1 hcl
  try simp only [Act.put, List.setIfInBounds_toArray, List.set_cons_zero, List.set_cons_succ, List.getElem_toArray, List.getElem_cons_succ, List.getElem_cons_zero]
  refine wpAnyN_take (i := 11) (v := .tuple #[.slice (some ad) xs.length cx, .int .i64 0]) [] (by kernel_rfl) rfl (by kernel_rfl) (by kernel_rfl) (by kernel_rfl) (fun _ _ _ h => h) (Or.inl ⟨by rfl, ?_⟩) hH ?_
  · intro V hV; go_simp
  try simp only [Act.put, List.setIfInBounds_toArray, List.set_cons_zero, List.set_cons_succ, List.getElem_toArray, List.getElem_cons_succ, List.getElem_cons_zero]
  refine wpAnyN_take (i := 12) (v := .slice (some ad) xs.length cx) [] (by kernel_rfl) rfl (by kernel_rfl) (by kernel_rfl) (by kernel_rfl) (fun _ _ _ h => h) (Or.inl ⟨by rfl, ?_⟩) hH ?_
  · intro V hV; go_simp
  try simp only [Act.put, List.setIfInBounds_toArray, List.set_cons_zero, List.set_cons_succ, List.getElem_toArray, List.getElem_cons_succ, List.getElem_cons_zero]
  refine wpAnyN_take (i := 13) (v := .int .i64 0) [] (by kernel_rfl) rfl (by kernel_rfl) (by kernel_rfl) (by kernel_rfl) (fun _ _ _ h => h) (Or.inl ⟨by rfl, ?_⟩) hH ?_
  · intro V hV; go_simp
  try simp only [Act.put, List.setIfInBounds_toArray, List.set_cons_zero, List.set_cons_succ, List.getElem_toArray, List.getElem_cons_succ, List.getElem_cons_zero]
  refine wpAnyN_one (i := 14) (by kernel_rfl) rfl (fun K hK => ?_)
  go_simp
  refine hK.out _ _ (.inr hH) ?_
  clear hK K
  try simp only [Act.put, List.setIfInBounds_toArray, List.set_cons_zero, List.set_cons_succ, List.getElem_toArray, List.getElem_cons_succ, List.getElem_cons_zero]
  refine wpAnyN_one (i := 15) (by kernel_rfl) rfl (fun K hK => ?_)
  go_simp
  refine hK.out _ _ (.inr hH) ?_
  clear hK K
  try simp only [Act.put, List.setIfInBounds_toArray, List.set_cons_zero, List.set_cons_succ, List.getElem_toArray, List.getElem_cons_succ, List.getElem_cons_zero]
  refine wpAnyN_done (by kernel_rfl) ?_ _
  simp only [Exit.then]
  go_wp2_with fail
  have HW1 := Lib.hid hH
  clear hH
  go_loopw [31] (fun i wr => ∃ k : Nat, k ≤ xs.length ∧ i = .int .i64 (k : Int) ∧ ∃ m2, Dk wr B d m2 ∧ Sg wr s d ⟨gf, ge, z + k, false⟩ ∧ Chg B (SobE ge) w1 wr ∧ wrs ((cut ge zb bs).map secP) m ⟨gf, ge, z, false⟩ = wrs (((cut ge zb bs).map secP).drop k) m2 ⟨gf, ge, z + k, false⟩) (fun i _ => xs.length - (intOf i).toNat)
  case atStart => exact ⟨0, Nat.zero_le _, rfl, m, HD.out.below HW1.out, HG.out.below HW1.out, Chg.refl _ _ _, rfl⟩
  case round =>
    obtain ⟨k, hk, rfl, m2, hd2, hg2, hc2, hw2⟩ := hrel
    have HD2 := Lib.hid hd2
    have HG2 := Lib.hid hg2
    have HC2 := Lib.hid hc2
    have HWR := Lib.hid hw2
    clear hd2 hg2 hc2 hw2
    by_cases hlt : k < xs.length
    · have hsz1 : w.heap.size ≤ w1.heap.size := HW1.out.size
      have hsz2 : w1.heap.size ≤ wr.heap.size := HC2.out.size
      obtain ⟨ad', x, hA', hx, hxb, hadl, e0, e1, e2, e3⟩ := (HPS.out.chg HC2.out).pr.at_ hlt
      cases hA'
      have HX := Lib.hid hx
      have HXB := Lib.hid hxb
      have hdr : ((cut ge zb bs).map secP).drop k = secP x.p :: ((cut ge zb bs).map secP).drop (k + 1) := by
        rw [← HXS.out, List.map_map]
        have hl' : k < (xs.map (secP ∘ fun x => x.p)).length := by rw [List.length_map]; exact hlt
        rw [List.drop_eq_getElem_cons hl', List.getElem_map]
        rw [List.getElem?_eq_getElem hlt] at hx
        injection hx with hx
        rw [hx]
        rfl
      have HDR := Lib.hid hdr
      have HM := Lib.hid (HMAY.out x.p (by rw [← HXS.out]; exact List.mem_map_of_mem (List.mem_of_getElem? hx)))
      clear hx hxb hadl hdr
      obtain ⟨⟨pe, ps, pf, pb⟩, xA, xc⟩ := x
      dsimp only at e0 e1 e2 e3
      go_wp2_with fail
      have hbW : Below wr.heap.size wr (wr.alloc (.cells #[v32 pe, v32 ps, .int .i64 pf, .slice xA pb.length xc] 121)) := (Below.refl _ _).alloc (Nat.le_refl _) _
      have con := write_call (wr.alloc (.cells #[v32 pe, v32 ps, .int .i64 pf, .slice xA pb.length xc] 121)) B s d m2 gf ge (z + k) ⟨pe, ps, pf, pb⟩ xA pb.length xc (HD2.out.below hbW) (HG2.out.below hbW) (by have := hbW.size; omega) hs hf (by omega) HM.out ((HXB.out.below hbW).more hbW.size)
      have HBW := Lib.hid hbW
      clear hbW e0 e1 e2 e3
      obtain ⟨e, he⟩ : ∃ e, (append m2 gf (secP ⟨pe, ps, pf, pb⟩)).1 = e := ⟨_, rfl⟩
      by_cases he0 : e = 0
      · subst he0
        rw [wr1_ok he] at con
        refine con.mono ?_
        clear con
        rintro r w3 ⟨rfl, hd3, hg3, hc3⟩
        have HD3 := Lib.hid hd3
        have HG3 := Lib.hid hg3
        have HC3 := Lib.hid hc3
        have HE := Lib.hid he
        clear hd3 hg3 hc3 he
        go_wp2_with fail
        go_roundw
        case rel =>
          refine ⟨k + 1, by omega, by go_num, _, HD3.out, HG3.out, HC2.out.trans ((Chg.of_below HBW.out).trans HC3.out), ?_⟩
          rw [HWR.out, HDR.out, wrs_on HE.out]
          rfl
        case measure => simp [intOf]; omega
      · have d0 : (e == 0) = false := beq_eq_false_iff_ne.2 he0
        rw [wr1_bad (by rw [he]; exact he0), he] at con
        refine con.mono ?_
        clear con
        rintro r w3 ⟨rfl, hd3, hg3, hc3⟩
        have HD3 := Lib.hid hd3
        have HG3 := Lib.hid hg3
        have HC3 := Lib.hid hc3
        have HE := Lib.hid he
        clear hd3 hg3 hc3 he
        dsimp only
        go_wp2_with fail
        go_ret
        rw [HWR.out, HDR.out, wrs_bad (by rw [HE.out]; exact he0), HE.out]
        exact ⟨rfl, HD3.out, HG3.out, (Chg.of_below HW1.out).trans (HC2.out.trans ((Chg.of_below HBW.out).trans HC3.out))⟩
    · obtain rfl : k = xs.length := by omega
      go_wp2_with fail
      go_ret
      rw [HWR.out, List.drop_of_length_le (by rw [← HXS.out, List.length_map, List.length_map]; exact Nat.le_refl _), wrs_nil]
      exact ⟨rfl, HD2.out, HG2.out, (Chg.of_below HW1.out).trans HC2.out⟩

/-- The program's Append. -/
theorem append_segE (w : World) (B s d : Nat) (m : M) (g : Gm) (A : Option Addr) (n c : Nat) (bs : List (BitVec 8)) (hd : Dk w B d m) (hg : Sg w s d g) (hB : B ≤ w.heap.size) (hs : B ≤ s) (hf : g.file < 9223372036854775808) (hz : g.size < 8000000000000000000)
    (hb : Bs w w.heap.size A n bs) (hnc : n ≤ c) (hc : c ≤ maxLen) :
    Calls Tryz.prog 43 #[.pointer (some ⟨s, 0, none⟩), .slice A n c] w (SDidE w B s d (appendS m g bs)) := by
  cases hbr : g.broken
  · obtain ⟨gf, ge, z, br⟩ := g
    dsimp only at hbr
    subst hbr
    by_cases hl : 9860 < n
    · exact append_long w B s d m gf ge z A n c bs hd hg (by dsimp only at hz; omega) (by omega) hl hb.len
    · exact append_goes w B s d m gf ge z A n c bs hd hg hB hs hf hz hb (by omega) hnc hc
  · exact append_broken w B s d m g A n c bs hd hg hbr
theorem append_seg (w : World) (B s d : Nat) (m : M) (g : Gm) (A : Option Addr) (n c : Nat) (bs : List (BitVec 8)) (hd : Dk w B d m) (hg : Sg w s d g) (hB : B ≤ w.heap.size) (hs : B ≤ s) (hf : g.file < 9223372036854775808) (hz : g.size < 8000000000000000000)
    (hb : Bs w w.heap.size A n bs) (hnc : n ≤ c) (hc : c ≤ maxLen) :
    Calls Tryz.prog 43 #[.pointer (some ⟨s, 0, none⟩), .slice A n c] w (SDid w B s d (appendS m g bs)) :=
  (append_segE w B s d m g A n c bs hd hg hB hs hf hz hb hnc hc).mono fun _ _ h => h.old
end Go.Proofs.YtdaknfepcbooeaaGreat.Segm
