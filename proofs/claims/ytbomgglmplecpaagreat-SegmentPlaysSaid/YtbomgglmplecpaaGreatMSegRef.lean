/-
  The document's segment: one contract a function.
-/
import Derived.Test.YtbomgglmplecpaaGreatMFragRefCut
import Derived.Test.YtbomgglmplecpaaGreatMSegAppend
import Derived.Test.YtbomgglmplecpaaGreatMSectorRef
import Derived.Test.YtbomgglmplecpaaGreatMDiskRefApp
import Derived.Test.YtbomgglmplecpaaGreatMDiskRefRename
import Derived.Test.YtbomgglmplecpaaGreatMDiskPlan
namespace Go.Proofs.YtbomgglmplecpaaGreat.Segm
open Go.RowKit
open Go.Proofs.YtbomgglmplecpaaGreat.Frag (cut Pv flat Pr own_base own_below CutSays)
open Go.Proofs.YtbomgglmplecpaaGreat.Disk (M Dk Fk Chg Dob Rob RDid append sync remove there own_chg Ok Inv)
open Go.Proofs.YtbomgglmplecpaaGreat.Sector (partV)
open Go.Proofs.YtbomgglmplecpaaGreat.Ord
set_option linter.unusedVariables false
set_option linter.unusedSimpArgs false

/-- Blocks that the document's disk, or its segment, writes. -/
def Tob : Obj → Prop
  | .cells _ t _ => t = 53
  | _ => False
def Qob : Obj → Prop
  | .cells _ t _ => t = 35 ∨ t = 83 ∨ t = 53
  | _ => False
theorem rob_qob : ∀ o, Rob o → Qob o := by
  intro o h
  cases o with
  | cells _ t _ => exact h.imp id .inl
  | _ => exact h
theorem tob_qob : ∀ o, Tob o → Qob o := by
  intro o h
  cases o with
  | cells _ t _ => exact .inr (.inr h)
  | _ => exact h.elim
/-- The document's segment in block t is g, on the disk in block d. -/
def Rg (w : World) (t d : Nat) (g : Gm) : Prop :=
  Cel w t 53 [.pointer (some ⟨d, 0, none⟩), .int .i64 g.file, v32 g.ep, .int .i64 (g.size : Int), .bool g.broken]
theorem Rg.chg {B : Nat} {T : Obj → Prop} {w w' : World} {t d : Nat} {g : Gm} (h : Rg w t d g) (hc : Chg B T w w') (hT : ∀ cs fz, ¬ T (.cells cs 53 fz)) : Rg w' t d g := Disk.Cel.chg h hc (hT _ _)
theorem Rg.rob {B : Nat} {w w' : World} {t d : Nat} {g : Gm} (h : Rg w t d g) (hc : Chg B Rob w w') : Rg w' t d g := h.chg hc (by rintro cs fz (h | h) <;> revert h <;> decide)
theorem Rg.below {w w' : World} {t d : Nat} {g : Gm} (h : Rg w t d g) (hb : Below w.heap.size w w') : Rg w' t d g := h.chg (B := 0) (T := fun _ => False) (Chg.of_below hb) (fun _ _ h => h)
theorem Fk_tob {B d : Nat} {m : M} {w w' : World} (h : Fk w B d m) (hc : Chg B Tob w w') : Fk w' B d m := by
  obtain ⟨A, c, lv, kv, left, h⟩ := h
  exact ⟨A, c, lv, kv, left, h.chg hc (by rintro cs t fz (rfl | rfl | rfl | rfl) h <;> (simp only [Tob] at h; revert h; decide))⟩
/-- The answer of the document's segment, and what its disk and it are then. -/
def RSDid (w : World) (B t d : Nat) (x : Int × M × Gm) (r : Ending) (w' : World) : Prop := r = .returned (.int .i64 x.1) ∧ Fk w' B d x.2.1 ∧ Rg w' t d x.2.2 ∧ Chg B Qob w w'
theorem headT : Frag.headF true = 1 := rfl

set_option maxRecDepth 100000 in
theorem rappend_broken (w : World) (B t d : Nat) (m : M) (g : Gm) (A : Option Addr) (n c : Nat) (bs : List (BitVec 8)) (hd : Fk w B d m) (hg : Rg w t d g) (hbr : g.broken = true) :
    Calls Tryz.prog 11 #[.pointer (some ⟨t, 0, none⟩), .slice A n c] w (RSDid w B t d (appendS m g bs)) := by
  have hw : appendS m g bs = (8, m, g) := by unfold appendS; rw [hbr]; rfl
  rw [hw]
  have k4 : w.cell? ⟨t, 4, none⟩ = some (.bool true) := by have := hg.cell 4; rw [hbr] at this; exact this
  have HD := Lib.hid hd
  have HG := Lib.hid hg
  clear hd hg hbr hw
  go_enter Tryz.func11, Tryz.ntmps11
  go_wp2_with fail
  go_ret
  exact ⟨rfl, HD.out, HG.out, Chg.refl _ _ _⟩
set_option maxRecDepth 100000 in
theorem rappend_long (w : World) (B t d : Nat) (m : M) (g : Gm) (A : Option Addr) (n c : Nat) (bs : List (BitVec 8)) (hd : Fk w B d m) (hg : Rg w t d g) (hbr : g.broken = false) (hn : n ≤ maxLen) (hl : 9860 < n) (hb : bs.length = n) :
    Calls Tryz.prog 11 #[.pointer (some ⟨t, 0, none⟩), .slice A n c] w (RSDid w B t d (appendS m g bs)) := by
  have hw : appendS m g bs = (3, m, g) := by unfold appendS; rw [hbr, if_neg (by simp), if_pos (by rw [hb]; exact hl)]
  rw [hw]
  have k4 : w.cell? ⟨t, 4, none⟩ = some (.bool false) := by have := hg.cell 4; rw [hbr] at this; exact this
  have HD := Lib.hid hd
  have HG := Lib.hid hg
  unfold maxLen at hn
  clear hd hg hbr hw
  go_enter Tryz.func11, Tryz.ntmps11
  go_wp2_with fail
  go_ret
  exact ⟨rfl, HD.out, HG.out, Chg.refl _ _ _⟩

/-- The document's parts of a record, in a row of the call's own; their bodies lie below block B, or in a block of bytes. -/
structure Qs (w0 w : World) (A : Option Addr) (c : Nat) (xs : List Pv) : Prop where
  own : w.ownsRow w0.heap.size 79 4 (.slice A xs.length c) xs.length (flat xs)
  by_ : ∀ x ∈ xs, By w x.A x.p.body.length x.p.body
theorem Qs.chg {B : Nat} {w0 w w' : World} {A : Option Addr} {c : Nat} {xs : List Pv} (h : Qs w0 w A c xs) (hc : Chg B Qob w w') : Qs w0 w' A c xs :=
  ⟨own_chg h.own hc (by rintro cur (h | h | h) <;> revert h <;> decide), fun x hx => (h.by_ x hx).keep fun k cs fz hk => by
    rw [hk]
    exact hc.block _ _ hk (.inr (by rintro (h | h | h) <;> revert h <;> decide))⟩
theorem Qs.pr {w0 w : World} {A : Option Addr} {c : Nat} {xs : List Pv} (h : Qs w0 w A c xs) : Pr w w.heap.size A xs.length xs := Frag.Pr.of_own h.own rfl fun x hx => (h.by_ x hx).rd
theorem by_of {w w' : World} {A : Option Addr} {n : Nat} {bs : List (BitVec 8)} (h : Bp w' (fun k => ∃ cs fz, w.heap[k]? = some (Obj.cells cs 5 fz)) A n bs) (hb : Below w.heap.size w w') : By w' A n bs :=
  ⟨h.1, fun hn => by
    obtain ⟨ad, e, ⟨cs, fz, hk⟩, hc⟩ := h.2 hn
    exact ⟨ad, e, ⟨cs, fz, (hb.block _ (Array.getElem?_eq_some_iff.1 hk).1).trans hk⟩, hc⟩⟩
theorem kept {w V : World} (hb : Below w.heap.size w V) {a : Addr} {x : Value} (h : w.cell? a = some x) : V.cell? a = some x := (hb.cell (World.block_lt_of_cell? w a h)).trans h
theorem conv32' (z : Nat) (zb : BitVec 32) (h : zb = BitVec.ofNat 32 z) (V : World) : (convert 3 22 (.int .i64 (z : Int))).run Tryz.prog V = .ok (.int .u32 (zb.toNat : Int)) V := conv32 z zb h V

set_option maxRecDepth 100000 in
set_option maxHeartbeats 1000000 in
theorem rappend_goes (w : World) (B t d2 : Nat) (m : M) (gf : Int) (ge : BitVec 32) (z : Nat) (A : Option Addr) (n c : Nat) (bs : List (BitVec 8)) (hd : Fk w B d2 m) (hg : Rg w t d2 ⟨gf, ge, z, false⟩) (hB : B ≤ w.heap.size) (ht : B ≤ t) (hf : gf < 9223372036854775808) (hz : z < 8000000000000000000)
    (hb : By w A n bs) (hl : n ≤ 9860) (hnc : n ≤ c) (hc : c ≤ maxLen) (hok : Ok m) :
    Calls Tryz.prog 11 #[.pointer (some ⟨t, 0, none⟩), .slice A n c] w (RSDid w B t d2 (appendS m ⟨gf, ge, z, false⟩ bs)) := by
  have hw : appendS m ⟨gf, ge, z, false⟩ bs = wrs ((cut ge (BitVec.ofNat 32 z) bs).map secP) m ⟨gf, ge, z, false⟩ := by unfold appendS; rw [if_neg (by simp), if_neg (by rw [hb.len]; omega)]; rfl
  rw [hw]
  have k4 : w.cell? ⟨t, 4, none⟩ = some (.bool false) := hg.cell 4
  have HD := Lib.hid hd
  have HG := Lib.hid hg
  have HBS := Lib.hid hb
  have HOK := Lib.hid hok
  have htl : t < w.heap.size := Cel.lt hg
  obtain ⟨zb, hzb⟩ : ∃ zb, zb = BitVec.ofNat 32 z := ⟨_, rfl⟩
  have HCV := Lib.hid (conv32' z zb hzb)
  rw [← hzb]
  have HC := Lib.hid hc
  have hcl : ∀ V, From w V → V.cell? ⟨t, 0, none⟩ = some (.pointer (some ⟨d2, 0, none⟩)) ∧ V.cell? ⟨t, 1, none⟩ = some (.int .i64 gf) ∧ V.cell? ⟨t, 2, none⟩ = some (v32 ge) ∧ V.cell? ⟨t, 3, none⟩ = some (.int .i64 (z : Int)) := fun V hV => by
    have h := HG.out.below hV
    exact ⟨h.cell 0, h.cell 1, h.cell 2, h.cell 3⟩
  have HMAY := Lib.hid (cut_may ge zb bs)
  have hcm : n ≤ 9223372036854775807 := by omega
  clear hd hg hw hb hc hzb hok
  go_enter Tryz.func11, Tryz.ntmps11
  go_wp2_with fail
  clear k4
  refine wp_region_N [] (From w) (by kernel_rfl) ?_
  have hH : From w w.drew := (From.self _).drew
  refine wpAnyN_take (i := 0) (v := .slice A n c) [] (by kernel_rfl) rfl (by kernel_rfl) (by kernel_rfl) (by kernel_rfl) (fun _ _ _ h => h) (Or.inl ⟨by rfl, ?_⟩) hH ?_
  · intro V hV; go_simp
  try simp only [Act.put, List.setIfInBounds_toArray, List.set_cons_zero, List.set_cons_succ, List.getElem_toArray, List.getElem_cons_succ, List.getElem_cons_zero]
  refine wpAnyN_take (i := 1) (v := .pointer (some ⟨t, 0, none⟩)) [] (by kernel_rfl) rfl (by kernel_rfl) (by kernel_rfl) (by kernel_rfl) (fun _ _ _ h => h) (Or.inl ⟨by rfl, ?_⟩) hH ?_
  · intro V hV; go_simp
  try simp only [Act.put, List.setIfInBounds_toArray, List.set_cons_zero, List.set_cons_succ, List.getElem_toArray, List.getElem_cons_succ, List.getElem_cons_zero]
  refine wpAnyN_take (i := 2) (v := .pointer (some ⟨t, 0, none⟩)) [] (by kernel_rfl) rfl (by kernel_rfl) (by kernel_rfl) (by kernel_rfl) (fun _ _ _ h => h) (Or.inl ⟨by rfl, ?_⟩) hH ?_
  · intro V hV; go_simp
  try simp only [Act.put, List.setIfInBounds_toArray, List.set_cons_zero, List.set_cons_succ, List.getElem_toArray, List.getElem_cons_succ, List.getElem_cons_zero]
  refine wpAnyN_take (i := 3) (v := .pointer (some ⟨t, 2, none⟩)) [] (by kernel_rfl) rfl (by kernel_rfl) (by kernel_rfl) (by kernel_rfl) (fun _ _ _ h => h) (Or.inl ⟨by rfl, ?_⟩) hH ?_
  · intro V hV; go_simp
  try simp only [Act.put, List.setIfInBounds_toArray, List.set_cons_zero, List.set_cons_succ, List.getElem_toArray, List.getElem_cons_succ, List.getElem_cons_zero]
  refine wpAnyN_take (i := 4) (v := v32 ge) [] (by kernel_rfl) rfl (by kernel_rfl) (by kernel_rfl) (by kernel_rfl) (fun _ _ _ h => h) (Or.inl ⟨by rfl, ?_⟩) hH ?_
  · intro V hV; obtain ⟨k0, k1, k2, k3⟩ := hcl V hV; go_simp
  try simp only [Act.put, List.setIfInBounds_toArray, List.set_cons_zero, List.set_cons_succ, List.getElem_toArray, List.getElem_cons_succ, List.getElem_cons_zero]
  refine wpAnyN_take (i := 5) (v := .pointer (some ⟨t, 0, none⟩)) [] (by kernel_rfl) rfl (by kernel_rfl) (by kernel_rfl) (by kernel_rfl) (fun _ _ _ h => h) (Or.inl ⟨by rfl, ?_⟩) hH ?_
  · intro V hV; go_simp
  try simp only [Act.put, List.setIfInBounds_toArray, List.set_cons_zero, List.set_cons_succ, List.getElem_toArray, List.getElem_cons_succ, List.getElem_cons_zero]
  refine wpAnyN_take (i := 6) (v := .pointer (some ⟨t, 0, none⟩)) [] (by kernel_rfl) rfl (by kernel_rfl) (by kernel_rfl) (by kernel_rfl) (fun _ _ _ h => h) (Or.inl ⟨by rfl, ?_⟩) hH ?_
  · intro V hV; go_simp
  try simp only [Act.put, List.setIfInBounds_toArray, List.set_cons_zero, List.set_cons_succ, List.getElem_toArray, List.getElem_cons_succ, List.getElem_cons_zero]
  refine wpAnyN_take (i := 7) (v := .pointer (some ⟨t, 3, none⟩)) [] (by kernel_rfl) rfl (by kernel_rfl) (by kernel_rfl) (by kernel_rfl) (fun _ _ _ h => h) (Or.inl ⟨by rfl, ?_⟩) hH ?_
  · intro V hV; go_simp
  try simp only [Act.put, List.setIfInBounds_toArray, List.set_cons_zero, List.set_cons_succ, List.getElem_toArray, List.getElem_cons_succ, List.getElem_cons_zero]
  refine wpAnyN_take (i := 8) (v := .int .i64 (z : Int)) [] (by kernel_rfl) rfl (by kernel_rfl) (by kernel_rfl) (by kernel_rfl) (fun _ _ _ h => h) (Or.inl ⟨by rfl, ?_⟩) hH ?_
  · intro V hV; obtain ⟨k0, k1, k2, k3⟩ := hcl V hV; go_simp
  try simp only [Act.put, List.setIfInBounds_toArray, List.set_cons_zero, List.set_cons_succ, List.getElem_toArray, List.getElem_cons_succ, List.getElem_cons_zero]
  refine wpAnyN_take (i := 9) (v := .int .u32 (zb.toNat : Int)) [] (by kernel_rfl) rfl (by kernel_rfl) (by kernel_rfl) (by kernel_rfl) (fun _ _ _ h => h) (Or.inl ⟨by rfl, ?_⟩) hH ?_
  · intro V hV; have kv := HCV.out V; go_simp
  try simp only [Act.put, List.setIfInBounds_toArray, List.set_cons_zero, List.set_cons_succ, List.getElem_toArray, List.getElem_cons_succ, List.getElem_cons_zero]
  refine wpAnyN_one (i := 10) (by kernel_rfl) rfl (fun K hK => ?_)
  go_simp
  have hpl : ∀ k, (∃ cs fz, w.drew.heap[k]? = some (Obj.cells cs 5 fz)) → k < w.drew.heap.size := fun k ⟨cs, fz, hk⟩ => (Array.getElem?_eq_some_iff.1 hk).1
  refine (Frag.refCutP n A n c ge zb true bs (fun k => ∃ cs fz, w.drew.heap[k]? = some (Obj.cells cs 5 fz)) w.drew (Nat.le_refl _) HBS.out.drew hpl hnc HC.out hl).mono ?_
  rintro r w1 ⟨A1, m1, c1, ys, rfl, hys, rfl, ho1, hby1, hb1⟩
  rw [headT] at hys
  have hpos : 0 < ys.length := by
    have := congrArg List.length hys
    rw [List.length_map, Frag.parts_length] at this
    have := Frag.pcs_length_pos 1 bs
    omega
  have hfew : ys.length ≤ 21 := by
    have h1 := congrArg List.length hys
    rw [List.length_map, Frag.parts_length] at h1
    have h2 := Frag.pcs_length_le 1 bs
    rw [HBS.out.len] at h2
    omega
  obtain ⟨g1, cap1, hv1, hg1, hl1⟩ := ho1.form hpos
  obtain ⟨ad, rfl⟩ : ∃ ad, A1 = some ad := ⟨⟨g1, 0, none⟩, by injection hv1⟩
  have hH1 : From w w1 := hH.call hb1
  have HPS := Lib.hid (⟨ho1, fun x hx => by_of (hby1 x hx) hb1⟩ : Qs w.drew w1 (some ad) c1 ys)
  have HYS := Lib.hid (show ys.map (·.p) = cut ge zb bs from hys)
  clear ho1 hby1 hv1 hys hg1 hl1 hb1 hpl
  go_wp2_with fail
  refine hK.out _ _ (.inr hH1) ?_
  clear hK K hH
  have hH := hH1
  clear hH1 hcl
  try simp only [Act.put, List.setIfInBounds_toArray, List.set_cons_zero, List.set_cons_succ, List.getElem_toArray, List.getElem_cons_succ, List.getElem_cons_zero]
  refine wpAnyN_one (i := 11) (by kernel_rfl) rfl (fun K hK => ?_)
  go_simp
  refine hK.out _ _ (.inr hH) ?_
  clear hK K
  try simp only [Act.put, List.setIfInBounds_toArray, List.set_cons_zero, List.set_cons_succ, List.getElem_toArray, List.getElem_cons_succ, List.getElem_cons_zero]
  refine wpAnyN_done (by kernel_rfl) ?_ _
  simp only [Exit.then]
  go_wp2_with fail
  have HW1 := Lib.hid hH
  clear hH
  go_loopw [6] (fun i wr => ∃ k : Nat, k ≤ ys.length ∧ i = .int .i64 (k : Int) ∧ ∃ m2, Fk wr B d2 m2 ∧ Rg wr t d2 ⟨gf, ge, z + k, false⟩ ∧ Ok m2 ∧ Chg B Qob w1 wr ∧ wrs ((cut ge zb bs).map secP) m ⟨gf, ge, z, false⟩ = wrs (((cut ge zb bs).map secP).drop k) m2 ⟨gf, ge, z + k, false⟩) (fun i _ => ys.length - (intOf i).toNat)
  case atStart => exact ⟨0, Nat.zero_le _, rfl, m, HD.out.below HW1.out, HG.out.below HW1.out, HOK.out, Chg.refl _ _ _, rfl⟩
  case round =>
    obtain ⟨k, hk, rfl, m2, hd2, hg2, hok2, hc2, hw2⟩ := hrel
    have HD2 := Lib.hid hd2
    have HG2 := Lib.hid hg2
    have HC2 := Lib.hid hc2
    have HWR := Lib.hid hw2
    have HOK2 := Lib.hid hok2
    clear hd2 hg2 hc2 hw2 hok2
    by_cases hlt : k < ys.length
    · have hsz1 : w.heap.size ≤ w1.heap.size := HW1.out.size
      have hsz2 : w1.heap.size ≤ wr.heap.size := HC2.out.size
      have HPR := Lib.hid (HPS.out.chg HC2.out).pr
      obtain ⟨ad', x, hA', hx, hxb, hadl, e0, e1, e2, e3⟩ := HPR.out.at_ hlt
      cases hA'
      have HX := Lib.hid hx
      have HXB := Lib.hid hxb
      have hdr : ((cut ge zb bs).map secP).drop k = secP x.p :: ((cut ge zb bs).map secP).drop (k + 1) := by
        rw [← HYS.out, List.map_map]
        have hl' : k < (ys.map (secP ∘ fun x => x.p)).length := by rw [List.length_map]; exact hlt
        rw [List.drop_eq_getElem_cons hl', List.getElem_map]
        rw [List.getElem?_eq_getElem hlt] at hx
        injection hx with hx
        rw [hx]
        rfl
      have HDR := Lib.hid hdr
      have HM := Lib.hid (HMAY.out x.p (by rw [← HYS.out]; exact List.mem_map_of_mem (List.mem_of_getElem? hx)))
      clear hx hxb hdr
      obtain ⟨⟨pe, ps, pf, pb⟩, xA, xc⟩ := x
      dsimp only at e0 e1 e2 e3
      have hel : ∀ V, From wr V → V.cell? (ad.add (k * 4)) = some (v32 pe) ∧ V.cell? ⟨(ad.add (k * 4)).block, (ad.add (k * 4)).off + 1, none⟩ = some (v32 ps) ∧ V.cell? ⟨(ad.add (k * 4)).block, (ad.add (k * 4)).off + 2, none⟩ = some (.int .i64 pf) ∧ V.cell? ⟨(ad.add (k * 4)).block, (ad.add (k * 4)).off + 3, none⟩ = some (.slice xA pb.length xc) := fun V hV =>
        ⟨kept hV e0, kept hV e1, kept hV e2, kept hV e3⟩
      have hcl : ∀ V, From wr V → V.cell? ⟨t, 0, none⟩ = some (.pointer (some ⟨d2, 0, none⟩)) ∧ V.cell? ⟨t, 1, none⟩ = some (.int .i64 gf) ∧ V.cell? ⟨t, 2, none⟩ = some (v32 ge) ∧ V.cell? ⟨t, 3, none⟩ = some (.int .i64 ((z + k : Nat) : Int)) := fun V hV => by
        have h := HG2.out.below hV
        exact ⟨h.cell 0, h.cell 1, h.cell 2, h.cell 3⟩
      clear e0 e1 e2 e3 hadl
      go_wp2_with fail
      refine wp_region_N [14, 15] (From wr) (by kernel_rfl) ?_
      have hH : From wr wr.drew := (From.self _).drew
      refine wpAnyN_take (i := 0) (v := .pointer (some ⟨t, 0, none⟩)) [1, 2, 3, 14, 15] (by kernel_rfl) rfl (by kernel_rfl) (by kernel_rfl) (by kernel_rfl) (fun _ _ _ h => h) (Or.inl ⟨by rfl, ?_⟩) hH ?_
      · intro V hV; go_simp
      try simp only [Act.put, List.setIfInBounds_toArray, List.set_cons_zero, List.set_cons_succ, List.getElem_toArray, List.getElem_cons_succ, List.getElem_cons_zero]
      refine wpAnyN_take (i := 1) (v := .pointer (some ⟨t, 0, none⟩)) [2, 3, 14, 15] (by kernel_rfl) rfl (by kernel_rfl) (by kernel_rfl) (by kernel_rfl) (fun _ _ _ h => h) (Or.inl ⟨by rfl, ?_⟩) hH ?_
      · intro V hV; go_simp
      try simp only [Act.put, List.setIfInBounds_toArray, List.set_cons_zero, List.set_cons_succ, List.getElem_toArray, List.getElem_cons_succ, List.getElem_cons_zero]
      refine wpAnyN_take (i := 2) (v := .pointer (some ⟨t, 0, none⟩)) [3, 14, 15] (by kernel_rfl) rfl (by kernel_rfl) (by kernel_rfl) (by kernel_rfl) (fun _ _ _ h => h) (Or.inl ⟨by rfl, ?_⟩) hH ?_
      · intro V hV; go_simp
      try simp only [Act.put, List.setIfInBounds_toArray, List.set_cons_zero, List.set_cons_succ, List.getElem_toArray, List.getElem_cons_succ, List.getElem_cons_zero]
      refine wpAnyN_take (i := 3) (v := .pointer (some ⟨d2, 0, none⟩)) [14, 15] (by kernel_rfl) rfl (by kernel_rfl) (by kernel_rfl) (by kernel_rfl) (fun _ _ _ h => h) (Or.inl ⟨by rfl, ?_⟩) hH ?_
      · intro V hV; obtain ⟨k0, k1, k2, k3⟩ := hcl V hV; go_simp
      try simp only [Act.put, List.setIfInBounds_toArray, List.set_cons_zero, List.set_cons_succ, List.getElem_toArray, List.getElem_cons_succ, List.getElem_cons_zero]
      refine wpAnyN_take (i := 4) (v := .pointer (some ⟨t, 0, none⟩)) [5, 6, 7, 14, 15] (by kernel_rfl) rfl (by kernel_rfl) (by kernel_rfl) (by kernel_rfl) (fun _ _ _ h => h) (Or.inl ⟨by rfl, ?_⟩) hH ?_
      · intro V hV; go_simp
      try simp only [Act.put, List.setIfInBounds_toArray, List.set_cons_zero, List.set_cons_succ, List.getElem_toArray, List.getElem_cons_succ, List.getElem_cons_zero]
      refine wpAnyN_take (i := 5) (v := .pointer (some ⟨t, 0, none⟩)) [6, 7, 14, 15] (by kernel_rfl) rfl (by kernel_rfl) (by kernel_rfl) (by kernel_rfl) (fun _ _ _ h => h) (Or.inl ⟨by rfl, ?_⟩) hH ?_
      · intro V hV; go_simp
      try simp only [Act.put, List.setIfInBounds_toArray, List.set_cons_zero, List.set_cons_succ, List.getElem_toArray, List.getElem_cons_succ, List.getElem_cons_zero]
      refine wpAnyN_take (i := 6) (v := .pointer (some ⟨t, 1, none⟩)) [7, 14, 15] (by kernel_rfl) rfl (by kernel_rfl) (by kernel_rfl) (by kernel_rfl) (fun _ _ _ h => h) (Or.inl ⟨by rfl, ?_⟩) hH ?_
      · intro V hV; go_simp
      try simp only [Act.put, List.setIfInBounds_toArray, List.set_cons_zero, List.set_cons_succ, List.getElem_toArray, List.getElem_cons_succ, List.getElem_cons_zero]
      refine wpAnyN_take (i := 7) (v := .int .i64 gf) [14, 15] (by kernel_rfl) rfl (by kernel_rfl) (by kernel_rfl) (by kernel_rfl) (fun _ _ _ h => h) (Or.inl ⟨by rfl, ?_⟩) hH ?_
      · intro V hV; obtain ⟨k0, k1, k2, k3⟩ := hcl V hV; go_simp
      try simp only [Act.put, List.setIfInBounds_toArray, List.set_cons_zero, List.set_cons_succ, List.getElem_toArray, List.getElem_cons_succ, List.getElem_cons_zero]
      refine wpAnyN_take (i := 8) (v := .slice (some ad) ys.length c1) [10, 11, 12, 13, 14, 15] (by kernel_rfl) rfl (by kernel_rfl) (by kernel_rfl) (by kernel_rfl) (fun _ _ _ h => h) (Or.inl ⟨by rfl, ?_⟩) hH ?_
      · intro V hV; go_simp
      try simp only [Act.put, List.setIfInBounds_toArray, List.set_cons_zero, List.set_cons_succ, List.getElem_toArray, List.getElem_cons_succ, List.getElem_cons_zero]
      refine wpAnyN_take (i := 9) (v := .int .i64 (k : Int)) [10, 11, 12, 13, 14, 15] (by kernel_rfl) rfl (by kernel_rfl) (by kernel_rfl) (by kernel_rfl) (fun _ _ _ h => h) (Or.inl ⟨by rfl, ?_⟩) hH ?_
      · intro V hV; go_simp
      try simp only [Act.put, List.setIfInBounds_toArray, List.set_cons_zero, List.set_cons_succ, List.getElem_toArray, List.getElem_cons_succ, List.getElem_cons_zero]
      refine wpAnyN_take (i := 10) (v := .pointer (some (ad.add (k * 4)))) [11, 12, 13, 14, 15] (by kernel_rfl) rfl (by kernel_rfl) (by kernel_rfl) (by kernel_rfl) (fun _ _ _ h => h) (Or.inl ⟨by rfl, ?_⟩) hH ?_
      · intro V hV; go_simp
      try simp only [Act.put, List.setIfInBounds_toArray, List.set_cons_zero, List.set_cons_succ, List.getElem_toArray, List.getElem_cons_succ, List.getElem_cons_zero]
      refine wpAnyN_take (i := 11) (v := .agg #[v32 pe, v32 ps, .int .i64 pf, .slice xA pb.length xc]) [12, 13, 14, 15] (by kernel_rfl) rfl (by kernel_rfl) (by kernel_rfl) (by kernel_rfl) (fun _ _ _ h => h) (Or.inl ⟨by rfl, ?_⟩) hH ?_
      · intro V hV; obtain ⟨e0, e1, e2, e3⟩ := hel V hV; go_simp
      try simp only [Act.put, List.setIfInBounds_toArray, List.set_cons_zero, List.set_cons_succ, List.getElem_toArray, List.getElem_cons_succ, List.getElem_cons_zero]
      refine wpAnyN_one (i := 12) (by kernel_rfl) rfl (fun K hK => ?_)
      go_simp
      have con := Sector.refPut ⟨pe, ps, pf, pb⟩ wr.heap.size xA pb.length xc wr.drew HXB.out (Nat.le_refl _) HM.out
      refine con.mono ?_
      clear con
      rintro r w3 ⟨A3, c3, rfl, ho3, hb3⟩
      have hH3 : From wr w3 := hH.call hb3
      have qs := Disk.toStr (Pack.Own.low ho3) c3
      have HO3 := Lib.hid ho3
      clear ho3 hb3
      go_wp2_with fail
      refine hK.out _ _ (.inr hH3) ?_
      clear hK K hH
      have hH := hH3
      clear hH3 hel
      try simp only [Act.put, List.setIfInBounds_toArray, List.set_cons_zero, List.set_cons_succ, List.getElem_toArray, List.getElem_cons_succ, List.getElem_cons_zero]
      refine wpAnyN_one (i := 13) (by kernel_rfl) rfl (fun K hK => ?_)
      go_simp
      refine hK.out _ _ (.inr hH) ?_
      clear hK K qs
      try simp only [Act.put, List.setIfInBounds_toArray, List.set_cons_zero, List.set_cons_succ, List.getElem_toArray, List.getElem_cons_succ, List.getElem_cons_zero]
      obtain ⟨e, he⟩ : ∃ e, (append m2 gf (secP ⟨pe, ps, pf, pb⟩)).1 = e := ⟨_, rfl⟩
      obtain ⟨m3, hm3⟩ : ∃ m3, (append m2 gf (secP ⟨pe, ps, pf, pb⟩)).2 = m3 := ⟨_, rfl⟩
      have con := Disk.rappend_ok w3 B d2 m2 gf (secP ⟨pe, ps, pf, pb⟩) (HD2.out.below hH) (by have := hH.size; omega) hf (by rw [secP_len HM.out]; unfold maxLen; omega) HOK2.out
      rw [he, hm3] at con
      have HE := Lib.hid he
      have HM3 := Lib.hid hm3
      have HK3 := Lib.hid (show Ok m3 by rw [← hm3]; exact Disk.ok_append HOK2.out _ _)
      clear he hm3
      refine wpAnyN_one (i := 14) (by kernel_rfl) rfl (fun K hK => ?_)
      go_simp
      refine con.mono ?_
      clear con
      rintro r w4 ⟨rfl, hd4, hc4⟩
      have HD4 := Lib.hid hd4
      have HG4 := Lib.hid ((HG2.out.below hH).rob hc4)
      have HC4 := Lib.hid (HC2.out.trans ((Chg.of_below hH).trans (hc4.mono (Nat.le_refl _) rob_qob)))
      clear hd4 hc4 hcl hH
      go_wp2_with fail
      refine hK.out _ _ (.inl (by decide)) ?_
      clear hK K
      try simp only [Act.put, List.setIfInBounds_toArray, List.set_cons_zero, List.set_cons_succ, List.getElem_toArray, List.getElem_cons_succ, List.getElem_cons_zero]
      refine wpAnyN_one (i := 15) (by kernel_rfl) rfl (fun K hK => ?_)
      go_simp
      refine hK.out _ _ (.inl (by decide)) ?_
      clear hK K
      try simp only [Act.put, List.setIfInBounds_toArray, List.set_cons_zero, List.set_cons_succ, List.getElem_toArray, List.getElem_cons_succ, List.getElem_cons_zero]
      refine wpAnyN_done (by kernel_rfl) ?_ _
      have k3 : w4.cell? ⟨t, 3, none⟩ = some (.int .i64 ((z + k : Nat) : Int)) := HG4.out.cell 3
      have f3 := HG4.out.free 3
      have k4 : w4.cell? ⟨t, 4, none⟩ = some (.bool false) := HG4.out.cell 4
      have f4 := HG4.out.free 4
      simp only [Exit.then]
      by_cases he0 : e = 0
      · subst he0
        go_wp2_with fail
        have h5 : Chg B Tob w4 (w4.setCell ⟨t, 3, none⟩ (.int .i64 (((z + k : Nat) : Int) + 1))) := (Chg.refl B Tob w4).set (p := ⟨t, 3, none⟩) _ (.inr ⟨ht, _, (show w4.heap[t]? = _ from HG4.out), rfl⟩)
        have hg5 : Rg (w4.setCell ⟨t, 3, none⟩ (.int .i64 (((z + k : Nat) : Int) + 1))) t d2 ⟨gf, ge, z + (k + 1), false⟩ := HG4.out.set 3 _
        go_roundw
        case rel =>
          refine ⟨k + 1, by omega, by go_num, m3, Fk_tob HD4.out ?_, ?_, HK3.out, HC4.out.trans (Chg.mono ?_ (Nat.le_refl _) tob_qob), ?_⟩
          · simpa using h5
          · simpa using hg5
          · simpa using h5
          · rw [HWR.out, HDR.out, wrs_on HE.out, HM3.out]
            rfl
        case measure => simp [intOf]; omega
      · have d0 : (e == 0) = false := beq_eq_false_iff_ne.2 he0
        go_wp2_with fail
        have h5 : Chg B Tob w4 (w4.setCell ⟨t, 4, none⟩ (.bool true)) := (Chg.refl B Tob w4).set (p := ⟨t, 4, none⟩) _ (.inr ⟨ht, _, (show w4.heap[t]? = _ from HG4.out), rfl⟩)
        have hg5 : Rg (w4.setCell ⟨t, 4, none⟩ (.bool true)) t d2 ⟨gf, ge, z + k, true⟩ := HG4.out.set 4 _
        go_ret
        rw [HWR.out, HDR.out, wrs_bad (by rw [HE.out]; exact he0), HE.out, HM3.out]
        exact ⟨rfl, Fk_tob HD4.out h5, hg5, (Chg.of_below HW1.out).trans (HC4.out.trans (h5.mono (Nat.le_refl _) tob_qob))⟩
    · obtain rfl : k = ys.length := by omega
      go_wp2_with fail
      go_ret
      rw [HWR.out, List.drop_of_length_le (by rw [← HYS.out, List.length_map, List.length_map]; exact Nat.le_refl _), wrs_nil]
      exact ⟨rfl, HD2.out, HG2.out, (Chg.of_below HW1.out).trans HC2.out⟩

/-- The document's Append. -/
theorem rappend_seg (w : World) (B t d2 : Nat) (m : M) (g : Gm) (A : Option Addr) (n c : Nat) (bs : List (BitVec 8)) (hd : Fk w B d2 m) (hg : Rg w t d2 g) (hB : B ≤ w.heap.size) (ht : B ≤ t) (hf : g.file < 9223372036854775808) (hz : g.size < 8000000000000000000)
    (hb : By w A n bs) (hnc : n ≤ c) (hc : c ≤ maxLen) (hok : Ok m) :
    Calls Tryz.prog 11 #[.pointer (some ⟨t, 0, none⟩), .slice A n c] w (RSDid w B t d2 (appendS m g bs)) := by
  cases hbr : g.broken
  · by_cases hl : 9860 < n
    · exact rappend_long w B t d2 m g A n c bs hd hg hbr (by omega) hl hb.len
    · obtain ⟨gf, ge, z, br⟩ := g
      dsimp only at hbr
      subst hbr
      exact rappend_goes w B t d2 m gf ge z A n c bs hd hg hB ht hf hz hb (by omega) hnc hc hok
  · exact rappend_broken w B t d2 m g A n c bs hd hg hbr

/-- The document's Sync. -/
theorem rsync_broken (w : World) (B t d : Nat) (m : M) (g : Gm) (hd : Fk w B d m) (hg : Rg w t d g) (hbr : g.broken = true) :
    Calls Tryz.prog 13 #[.pointer (some ⟨t, 0, none⟩)] w (RSDid w B t d (syncS m g)) := by
  have hw : syncS m g = (8, m, g) := by unfold syncS; rw [hbr]; rfl
  rw [hw]
  have k4 : w.cell? ⟨t, 4, none⟩ = some (.bool true) := by have := hg.cell 4; rw [hbr] at this; exact this
  have HD := Lib.hid hd
  have HG := Lib.hid hg
  clear hd hg hbr hw
  go_enter Tryz.func13, Tryz.ntmps13
  go_wp2_with fail
  go_ret
  exact ⟨rfl, HD.out, HG.out, Chg.refl _ _ _⟩
theorem rsync_none (w : World) (B t d : Nat) (m : M) (g : Gm) (hd : Fk w B d m) (hg : Rg w t d g) (hbr : g.broken = false) (hz : g.size = 0) :
    Calls Tryz.prog 13 #[.pointer (some ⟨t, 0, none⟩)] w (RSDid w B t d (syncS m g)) := by
  have hw : syncS m g = (0, m, g) := by unfold syncS; rw [hbr, if_neg (by simp), if_pos hz]
  rw [hw]
  have k4 : w.cell? ⟨t, 4, none⟩ = some (.bool false) := by have := hg.cell 4; rw [hbr] at this; exact this
  have k3 : w.cell? ⟨t, 3, none⟩ = some (.int .i64 0) := by have := hg.cell 3; rw [hz] at this; exact this
  have HD := Lib.hid hd
  have HG := Lib.hid hg
  clear hd hg hbr hw hz
  go_enter Tryz.func13, Tryz.ntmps13
  go_wp2_with fail
  go_ret
  exact ⟨rfl, HD.out, HG.out, Chg.refl _ _ _⟩
set_option maxRecDepth 100000 in
set_option maxHeartbeats 1000000 in
theorem rsync_goes (w : World) (B t d2 : Nat) (m : M) (gf : Int) (ge : BitVec 32) (z : Nat) (hd : Fk w B d2 m) (hg : Rg w t d2 ⟨gf, ge, z, false⟩) (hB : B ≤ w.heap.size) (ht : B ≤ t) (hf : -9223372036854775808 ≤ gf ∧ gf < 9223372036854775808) (hz : 0 < z) (hok : Ok m) (hi : Inv m) :
    Calls Tryz.prog 13 #[.pointer (some ⟨t, 0, none⟩)] w (RSDid w B t d2 (syncS m ⟨gf, ge, z, false⟩)) := by
  have hw : syncS m ⟨gf, ge, z, false⟩ = ((sync m gf).1, (sync m gf).2, ⟨gf, ge, z, !decide ((sync m gf).1 = 0)⟩) := by unfold syncS; rw [if_neg (by simp), if_neg (by dsimp only; omega)]
  rw [hw]
  have k3 : w.cell? ⟨t, 3, none⟩ = some (.int .i64 (z : Int)) := hg.cell 3
  have k4 : w.cell? ⟨t, 4, none⟩ = some (.bool false) := hg.cell 4
  have d4 : ((z : Int) == 0) = false := beq_eq_false_iff_ne.2 (by omega)
  have HD := Lib.hid hd
  have HG := Lib.hid hg
  have hcl : ∀ V, From w V → V.cell? ⟨t, 0, none⟩ = some (.pointer (some ⟨d2, 0, none⟩)) ∧ V.cell? ⟨t, 1, none⟩ = some (.int .i64 gf) ∧ V.cell? ⟨t, 2, none⟩ = some (v32 ge) ∧ V.cell? ⟨t, 3, none⟩ = some (.int .i64 (z : Int)) := fun V hV => by
    have h := HG.out.below hV
    exact ⟨h.cell 0, h.cell 1, h.cell 2, h.cell 3⟩
  clear hd hg hw
  go_enter Tryz.func13, Tryz.ntmps13
  go_wp2_with fail
  clear k3 k4 d4
  refine wp_region_N [8, 9] (From w) (by kernel_rfl) ?_
  have hH : From w w.drew := (From.self _).drew
  refine wpAnyN_take (i := 0) (v := .pointer (some ⟨t, 0, none⟩)) [1, 2, 3, 8, 9] (by kernel_rfl) rfl (by kernel_rfl) (by kernel_rfl) (by kernel_rfl) (fun _ _ _ h => h) (Or.inl ⟨by rfl, ?_⟩) hH ?_
  · intro V hV; go_simp
  try simp only [Act.put, List.setIfInBounds_toArray, List.set_cons_zero, List.set_cons_succ, List.getElem_toArray, List.getElem_cons_succ, List.getElem_cons_zero]
  refine wpAnyN_take (i := 1) (v := .pointer (some ⟨t, 0, none⟩)) [2, 3, 8, 9] (by kernel_rfl) rfl (by kernel_rfl) (by kernel_rfl) (by kernel_rfl) (fun _ _ _ h => h) (Or.inl ⟨by rfl, ?_⟩) hH ?_
  · intro V hV; go_simp
  try simp only [Act.put, List.setIfInBounds_toArray, List.set_cons_zero, List.set_cons_succ, List.getElem_toArray, List.getElem_cons_succ, List.getElem_cons_zero]
  refine wpAnyN_take (i := 2) (v := .pointer (some ⟨t, 0, none⟩)) [3, 8, 9] (by kernel_rfl) rfl (by kernel_rfl) (by kernel_rfl) (by kernel_rfl) (fun _ _ _ h => h) (Or.inl ⟨by rfl, ?_⟩) hH ?_
  · intro V hV; go_simp
  try simp only [Act.put, List.setIfInBounds_toArray, List.set_cons_zero, List.set_cons_succ, List.getElem_toArray, List.getElem_cons_succ, List.getElem_cons_zero]
  refine wpAnyN_take (i := 3) (v := .pointer (some ⟨d2, 0, none⟩)) [8, 9] (by kernel_rfl) rfl (by kernel_rfl) (by kernel_rfl) (by kernel_rfl) (fun _ _ _ h => h) (Or.inl ⟨by rfl, ?_⟩) hH ?_
  · intro V hV; obtain ⟨k0, k1, k2, k3⟩ := hcl V hV; go_simp
  try simp only [Act.put, List.setIfInBounds_toArray, List.set_cons_zero, List.set_cons_succ, List.getElem_toArray, List.getElem_cons_succ, List.getElem_cons_zero]
  refine wpAnyN_take (i := 4) (v := .pointer (some ⟨t, 0, none⟩)) [5, 6, 7, 8, 9] (by kernel_rfl) rfl (by kernel_rfl) (by kernel_rfl) (by kernel_rfl) (fun _ _ _ h => h) (Or.inl ⟨by rfl, ?_⟩) hH ?_
  · intro V hV; go_simp
  try simp only [Act.put, List.setIfInBounds_toArray, List.set_cons_zero, List.set_cons_succ, List.getElem_toArray, List.getElem_cons_succ, List.getElem_cons_zero]
  refine wpAnyN_take (i := 5) (v := .pointer (some ⟨t, 0, none⟩)) [6, 7, 8, 9] (by kernel_rfl) rfl (by kernel_rfl) (by kernel_rfl) (by kernel_rfl) (fun _ _ _ h => h) (Or.inl ⟨by rfl, ?_⟩) hH ?_
  · intro V hV; go_simp
  try simp only [Act.put, List.setIfInBounds_toArray, List.set_cons_zero, List.set_cons_succ, List.getElem_toArray, List.getElem_cons_succ, List.getElem_cons_zero]
  refine wpAnyN_take (i := 6) (v := .pointer (some ⟨t, 1, none⟩)) [7, 8, 9] (by kernel_rfl) rfl (by kernel_rfl) (by kernel_rfl) (by kernel_rfl) (fun _ _ _ h => h) (Or.inl ⟨by rfl, ?_⟩) hH ?_
  · intro V hV; go_simp
  try simp only [Act.put, List.setIfInBounds_toArray, List.set_cons_zero, List.set_cons_succ, List.getElem_toArray, List.getElem_cons_succ, List.getElem_cons_zero]
  refine wpAnyN_take (i := 7) (v := .int .i64 gf) [8, 9] (by kernel_rfl) rfl (by kernel_rfl) (by kernel_rfl) (by kernel_rfl) (fun _ _ _ h => h) (Or.inl ⟨by rfl, ?_⟩) hH ?_
  · intro V hV; obtain ⟨k0, k1, k2, k3⟩ := hcl V hV; go_simp
  try simp only [Act.put, List.setIfInBounds_toArray, List.set_cons_zero, List.set_cons_succ, List.getElem_toArray, List.getElem_cons_succ, List.getElem_cons_zero]
  obtain ⟨e, he⟩ : ∃ e, (sync m gf).1 = e := ⟨_, rfl⟩
  obtain ⟨m3, hm3⟩ : ∃ m3, (sync m gf).2 = m3 := ⟨_, rfl⟩
  have con := Disk.rsync_ok w.drew B d2 m gf (HD.out.below (Below.refl _ _).drew) (by simp; exact hB) hi hok
  rw [he, hm3] at con
  have HRW := Lib.hid (show ((sync m gf).1, (sync m gf).2, (⟨gf, ge, z, !decide ((sync m gf).1 = 0)⟩ : Gm)) = (e, m3, ⟨gf, ge, z, !decide (e = 0)⟩) from by rw [he, hm3])
  clear he hm3
  refine wpAnyN_one (i := 8) (by kernel_rfl) rfl (fun K hK => ?_)
  go_simp
  refine con.mono ?_
  clear con
  rintro r w2 ⟨rfl, hd2, hc2⟩
  have HD2 := Lib.hid hd2
  have HG2 := Lib.hid ((HG.out.below (Below.refl _ _).drew).rob hc2)
  have HC2 := Lib.hid ((Chg.of_below (Below.refl w.heap.size w).drew).trans (hc2.mono (Nat.le_refl _) rob_qob))
  clear hd2 hc2 hcl hH
  go_wp2_with fail
  refine hK.out _ _ (.inl (by decide)) ?_
  clear hK K
  try simp only [Act.put, List.setIfInBounds_toArray, List.set_cons_zero, List.set_cons_succ, List.getElem_toArray, List.getElem_cons_succ, List.getElem_cons_zero]
  refine wpAnyN_one (i := 9) (by kernel_rfl) rfl (fun K hK => ?_)
  go_simp
  refine hK.out _ _ (.inl (by decide)) ?_
  clear hK K
  try simp only [Act.put, List.setIfInBounds_toArray, List.set_cons_zero, List.set_cons_succ, List.getElem_toArray, List.getElem_cons_succ, List.getElem_cons_zero]
  refine wpAnyN_done (by kernel_rfl) ?_ _
  have k4 : w2.cell? ⟨t, 4, none⟩ = some (.bool false) := HG2.out.cell 4
  have f4 := HG2.out.free 4
  simp only [Exit.then]
  have h5 : ∀ x, Chg B Tob w2 (w2.setCell ⟨t, 4, none⟩ (.bool x)) := fun x => (Chg.refl B Tob w2).set (p := ⟨t, 4, none⟩) _ (.inr ⟨ht, _, (show w2.heap[t]? = _ from HG2.out), rfl⟩)
  have hg5 : ∀ x, Rg (w2.setCell ⟨t, 4, none⟩ (.bool x)) t d2 ⟨gf, ge, z, x⟩ := fun x => HG2.out.set 4 _
  have H5 := Lib.hid h5
  have HG5 := Lib.hid hg5
  clear h5 hg5
  by_cases he0 : e = 0
  · subst he0
    go_wp2_with fail
    go_ret
    rw [HRW.out]
    exact ⟨rfl, Fk_tob HD2.out (H5.out false), HG5.out false, HC2.out.trans ((H5.out false).mono (Nat.le_refl _) tob_qob)⟩
  · have d0 : (e == 0) = false := beq_eq_false_iff_ne.2 he0
    have d1 : (e != 0) = true := by simp [he0]
    go_wp2_with fail
    trace_state
    go_ret
    rw [HRW.out, decide_eq_false he0]
    exact ⟨rfl, Fk_tob HD2.out (H5.out true), HG5.out true, HC2.out.trans ((H5.out true).mono (Nat.le_refl _) tob_qob)⟩
theorem rsync_seg (w : World) (B t d2 : Nat) (m : M) (g : Gm) (hd : Fk w B d2 m) (hg : Rg w t d2 g) (hB : B ≤ w.heap.size) (ht : B ≤ t) (hf : -9223372036854775808 ≤ g.file ∧ g.file < 9223372036854775808) (hok : Ok m) (hi : Inv m) :
    Calls Tryz.prog 13 #[.pointer (some ⟨t, 0, none⟩)] w (RSDid w B t d2 (syncS m g)) := by
  cases hb : g.broken
  · by_cases hz : g.size = 0
    · exact rsync_none w B t d2 m g hd hg hb hz
    · obtain ⟨gf, ge, z, br⟩ := g
      dsimp only at hb
      subst hb
      exact rsync_goes w B t d2 m gf ge z hd hg hB ht hf (by dsimp only at hz; omega) hok hi
  · exact rsync_broken w B t d2 m g hd hg hb
end Go.Proofs.YtbomgglmplecpaaGreat.Segm
