/-
  The document's segment: one contract a function.
  The document's store: its state; Append, Sync, Size, File.
-/
import Derived.Test.YtdaknfepcbooeaaGreatMStoA
import Derived.Test.YtdaknfepcbooeaaGreatMFragC
import Derived.Test.YtdaknfepcbooeaaGreatMSegA
import Derived.Test.YtdaknfepcbooeaaGreatMSegC
import Derived.Test.YtdaknfepcbooeaaGreatMSectorRef
import Derived.Test.YtdaknfepcbooeaaGreatMDiskE
section
namespace Go.Proofs.YtdaknfepcbooeaaGreat.Segm
open Go.RowKit
open Go.Proofs.YtdaknfepcbooeaaGreat.Frag (cut Pv flat Pr own_base own_below CutSays)
open Go.Proofs.YtdaknfepcbooeaaGreat.Disk (M Dk Fk Chg Dob Rob RDid append sync remove there own_chg Ok Inv)
open Go.Proofs.YtdaknfepcbooeaaGreat.Sector (partV)
open Go.Proofs.YtdaknfepcbooeaaGreat.Ord
set_option linter.unusedVariables false
set_option linter.unusedSimpArgs false

/-- Blocks that the document's disk, or its segment, writes. -/
def Tob : Obj → Prop
  | .cells _ t _ => t = 96
  | _ => False
def Qob : Obj → Prop
  | .cells _ t _ => t = 38 ∨ t = 85 ∨ t = 96
  | _ => False
/-- The same, of a segment of the epoch. -/
def TobE (ep : BitVec 32) : Obj → Prop
  | .cells cs t _ => t = 96 ∧ cs[2]? = some (v32 ep)
  | _ => False
def QobE (ep : BitVec 32) : Obj → Prop
  | .cells cs t _ => t = 38 ∨ t = 85 ∨ (t = 96 ∧ cs[2]? = some (v32 ep))
  | _ => False
theorem rob_qobE {ep : BitVec 32} : ∀ o, Rob o → QobE ep o := by
  intro o h
  cases o with
  | cells _ t _ => exact h.imp id .inl
  | _ => exact h
theorem tobE_qobE {ep : BitVec 32} : ∀ o, TobE ep o → QobE ep o := by
  intro o h
  cases o with
  | cells _ t _ => exact .inr (.inr h)
  | _ => exact h.elim
theorem qobE_qob {ep : BitVec 32} : ∀ o, QobE ep o → Qob o := by
  intro o h
  cases o with
  | cells _ t _ => exact h.imp id (·.imp id (·.1))
  | _ => exact h
theorem rob_qob : ∀ o, Rob o → Qob o := by
  intro o h
  cases o with
  | cells _ t _ => exact h.imp id .inl
  | _ => exact h
theorem tob_qob : ∀ o, Tob o → Qob o := by
  intro o h
  cases o with
  | cells _ t _ => exact .inr (.inr h)
  | _ => exact h.elim
/-- The document's segment in block t is g, on the disk in block d. -/
def Rg (w : World) (t d : Nat) (g : Gm) : Prop :=
  Cel w t 96 [.pointer (some ⟨d, 0, none⟩), .int .i64 g.file, v32 g.ep, .int .i64 (g.size : Int), .bool g.broken]
theorem Rg.chg {B : Nat} {T : Obj → Prop} {w w' : World} {t d : Nat} {g : Gm} (h : Rg w t d g) (hc : Chg B T w w') (hT : ∀ cs fz, ¬ T (.cells cs 96 fz)) : Rg w' t d g := Disk.Cel.chg h hc (hT _ _)
theorem Rg.rob {B : Nat} {w w' : World} {t d : Nat} {g : Gm} (h : Rg w t d g) (hc : Chg B Rob w w') : Rg w' t d g := h.chg hc (by rintro cs fz (h | h) <;> revert h <;> decide)
theorem Rg.below {w w' : World} {t d : Nat} {g : Gm} (h : Rg w t d g) (hb : Below w.heap.size w w') : Rg w' t d g := h.chg (B := 0) (T := fun _ => False) (Chg.of_below hb) (fun _ _ h => h)
theorem Fk_tob {ep : BitVec 32} {B d : Nat} {m : M} {w w' : World} (h : Fk w B d m) (hc : Chg B (TobE ep) w w') : Fk w' B d m := by
  obtain ⟨A, c, lv, kv, left, h⟩ := h
  exact ⟨A, c, lv, kv, left, h.chg hc (by rintro cs t fz (rfl | rfl | rfl | rfl) h <;> (have h := h.1; revert h; decide))⟩
/-- The answer of the document's segment, and what its disk and it are then. -/
def RSDid (w : World) (B t d : Nat) (x : Int × M × Gm) (r : Ending) (w' : World) : Prop := r = .returned (.int .i64 x.1) ∧ Fk w' B d x.2.1 ∧ Rg w' t d x.2.2 ∧ Chg B Qob w w'
/-- The same, told also that no segment of another epoch was written. -/
def RSDidE (w : World) (B t d : Nat) (x : Int × M × Gm) (r : Ending) (w' : World) : Prop := r = .returned (.int .i64 x.1) ∧ Fk w' B d x.2.1 ∧ Rg w' t d x.2.2 ∧ Chg B (QobE x.2.2.ep) w w'
theorem RSDidE.old {w : World} {B t d : Nat} {x : Int × M × Gm} {r : Ending} {w' : World} (h : RSDidE w B t d x r w') : RSDid w B t d x r w' := ⟨h.1, h.2.1, h.2.2.1, h.2.2.2.mono (Nat.le_refl _) qobE_qob⟩
theorem headT : Frag.headF true = 1 := rfl

set_option maxRecDepth 100000 in
theorem rappend_broken (w : World) (B t d : Nat) (m : M) (g : Gm) (A : Option Addr) (n c : Nat) (bs : List (BitVec 8)) (hd : Fk w B d m) (hg : Rg w t d g) (hbr : g.broken = true) :
    Calls Tryz.prog 44 #[.pointer (some ⟨t, 0, none⟩), .slice A n c] w (RSDidE w B t d (appendS m g bs)) := by
  have hw : appendS m g bs = (8, m, g) := by unfold appendS; rw [hbr]; rfl
  rw [hw]
  have k4 : w.cell? ⟨t, 4, none⟩ = some (.bool true) := by have := hg.cell 4; rw [hbr] at this; exact this
  have HD := Lib.hid hd
  have HG := Lib.hid hg
  clear hd hg hbr hw
  go_enter Tryz.func44, Tryz.ntmps44
  go_wp2_with fail
  go_ret
  exact ⟨rfl, HD.out, HG.out, Chg.refl _ _ _⟩
set_option maxRecDepth 100000 in
theorem rappend_long (w : World) (B t d : Nat) (m : M) (g : Gm) (A : Option Addr) (n c : Nat) (bs : List (BitVec 8)) (hd : Fk w B d m) (hg : Rg w t d g) (hbr : g.broken = false) (hn : n ≤ maxLen) (hl : 9860 < n) (hb : bs.length = n) :
    Calls Tryz.prog 44 #[.pointer (some ⟨t, 0, none⟩), .slice A n c] w (RSDidE w B t d (appendS m g bs)) := by
  have hw : appendS m g bs = (3, m, g) := by unfold appendS; rw [hbr, if_neg (by simp), if_pos (by rw [hb]; exact hl)]
  rw [hw]
  have k4 : w.cell? ⟨t, 4, none⟩ = some (.bool false) := by have := hg.cell 4; rw [hbr] at this; exact this
  have HD := Lib.hid hd
  have HG := Lib.hid hg
  unfold maxLen at hn
  clear hd hg hbr hw
  go_enter Tryz.func44, Tryz.ntmps44
  go_wp2_with fail
  go_ret
  exact ⟨rfl, HD.out, HG.out, Chg.refl _ _ _⟩

/-- The document's parts of a record, in a row of the call's own; their bodies lie below block B, or in a block of bytes. -/
structure Qs (w0 w : World) (A : Option Addr) (c : Nat) (xs : List Pv) : Prop where
  own : w.ownsRow w0.heap.size 100 4 (.slice A xs.length c) xs.length (flat xs)
  by_ : ∀ x ∈ xs, By w x.A x.p.body.length x.p.body
theorem Qs.chg {ep : BitVec 32} {B : Nat} {w0 w w' : World} {A : Option Addr} {c : Nat} {xs : List Pv} (h : Qs w0 w A c xs) (hc : Chg B (QobE ep) w w') : Qs w0 w' A c xs :=
  ⟨own_chg h.own hc (by rintro cur (h | h | ⟨h, -⟩) <;> revert h <;> decide), fun x hx => (h.by_ x hx).keep fun k cs fz hk => by
    rw [hk]
    exact hc.block _ _ hk (.inr (by rintro (h | h | ⟨h, -⟩) <;> revert h <;> decide))⟩
theorem Qs.pr {w0 w : World} {A : Option Addr} {c : Nat} {xs : List Pv} (h : Qs w0 w A c xs) : Pr w w.heap.size A xs.length xs := Frag.Pr.of_own h.own rfl fun x hx => (h.by_ x hx).rd
theorem by_of {w w' : World} {A : Option Addr} {n : Nat} {bs : List (BitVec 8)} (h : Bp w' (fun k => ∃ cs fz, w.heap[k]? = some (Obj.cells cs 5 fz)) A n bs) (hb : Below w.heap.size w w') : By w' A n bs :=
  ⟨h.1, fun hn => by
    obtain ⟨ad, e, ⟨cs, fz, hk⟩, hc⟩ := h.2 hn
    exact ⟨ad, e, ⟨cs, fz, (hb.block _ (Array.getElem?_eq_some_iff.1 hk).1).trans hk⟩, hc⟩⟩
theorem conv32' (z : Nat) (zb : BitVec 32) (h : zb = BitVec.ofNat 32 z) (V : World) : (convert 3 56 (.int .i64 (z : Int))).run Tryz.prog V = .ok (.int .u32 (zb.toNat : Int)) V := conv32 z zb h V

set_option maxRecDepth 100000 in
set_option maxHeartbeats 1000000 in
theorem rappend_goes (w : World) (B t d2 : Nat) (m : M) (gf : Int) (ge : BitVec 32) (z : Nat) (A : Option Addr) (n c : Nat) (bs : List (BitVec 8)) (hd : Fk w B d2 m) (hg : Rg w t d2 ⟨gf, ge, z, false⟩) (hB : B ≤ w.heap.size) (ht : B ≤ t) (hf : gf < 9223372036854775808) (hz : z < 8000000000000000000)
    (hb : By w A n bs) (hl : n ≤ 9860) (hnc : n ≤ c) (hc : c ≤ maxLen) (hok : Ok m) :
    Calls Tryz.prog 44 #[.pointer (some ⟨t, 0, none⟩), .slice A n c] w (RSDidE w B t d2 (appendS m ⟨gf, ge, z, false⟩ bs)) := by
  have hw : appendS m ⟨gf, ge, z, false⟩ bs = wrs ((cut ge (BitVec.ofNat 32 z) bs).map secP) m ⟨gf, ge, z, false⟩ := by unfold appendS; rw [if_neg (by simp), if_neg (by rw [hb.len]; omega)]; rfl
  rw [hw]
  have k4 : w.cell? ⟨t, 4, none⟩ = some (.bool false) := hg.cell 4
  have HD := Lib.hid hd
  have HG := Lib.hid hg
  have HBS := Lib.hid hb
  have HOK := Lib.hid hok
  have htl : t < w.heap.size := Cel.lt hg
  obtain ⟨zb, hzb⟩ : ∃ zb, zb = BitVec.ofNat 32 z := ⟨_, rfl⟩
  have HCV := Lib.hid (conv32' z zb hzb)
  rw [← hzb]
  have HC := Lib.hid hc
  have hcl : ∀ V, From w V → V.cell? ⟨t, 0, none⟩ = some (.pointer (some ⟨d2, 0, none⟩)) ∧ V.cell? ⟨t, 1, none⟩ = some (.int .i64 gf) ∧ V.cell? ⟨t, 2, none⟩ = some (v32 ge) ∧ V.cell? ⟨t, 3, none⟩ = some (.int .i64 (z : Int)) := fun V hV => by
    have h := HG.out.below hV
    exact ⟨h.cell 0, h.cell 1, h.cell 2, h.cell 3⟩
  have HMAY := Lib.hid (cut_may ge zb bs)
  have hcm : n ≤ 9223372036854775807 := by omega
  clear hd hg hw hb hc hzb hok
  go_enter Tryz.func44, Tryz.ntmps44
  go_wp2_with fail
  clear k4
  refine wp_region_N [] (From w) (by kernel_rfl) ?_
  have hH : From w w.drew := (From.self _).drew
  refine wpAnyN_take (i := 0) (v := .slice A n c) [] (by kernel_rfl) rfl (by kernel_rfl) (by kernel_rfl) (by kernel_rfl) (fun _ _ _ h => h) (Or.inl ⟨by rfl, ?_⟩) hH ?_
  · intro V hV; go_simp
  try simp only [Act.put, List.setIfInBounds_toArray, List.set_cons_zero, List.set_cons_succ, List.getElem_toArray, List.getElem_cons_succ, List.getElem_cons_zero]
  refine wpAnyN_take (i := 1) (v := .pointer (some ⟨t, 0, none⟩)) [] (by kernel_rfl) rfl (by kernel_rfl) (by kernel_rfl) (by kernel_rfl) (fun _ _ _ h => h) (Or.inl ⟨by rfl, ?_⟩) hH ?_
  · intro V hV; go_simp
  try simp only [Act.put, List.setIfInBounds_toArray, List.set_cons_zero, List.set_cons_succ, List.getElem_toArray, List.getElem_cons_succ, List.getElem_cons_zero]
  refine wpAnyN_take (i := 2) (v := .pointer (some ⟨t, 0, none⟩)) [] (by kernel_rfl) rfl (by kernel_rfl) (by kernel_rfl) (by kernel_rfl) (fun _ _ _ h => h) (Or.inl ⟨by rfl, ?_⟩) hH ?_
  · intro V hV; go_simp
  try simp only [Act.put, List.setIfInBounds_toArray, List.set_cons_zero, List.set_cons_succ, List.getElem_toArray, List.getElem_cons_succ, List.getElem_cons_zero]
  refine wpAnyN_take (i := 3) (v := .pointer (some ⟨t, 2, none⟩)) [] (by kernel_rfl) rfl (by kernel_rfl) (by kernel_rfl) (by kernel_rfl) (fun _ _ _ h => h) (Or.inl ⟨by rfl, ?_⟩) hH ?_
  · intro V hV; go_simp
  try simp only [Act.put, List.setIfInBounds_toArray, List.set_cons_zero, List.set_cons_succ, List.getElem_toArray, List.getElem_cons_succ, List.getElem_cons_zero]
  refine wpAnyN_take (i := 4) (v := v32 ge) [] (by kernel_rfl) rfl (by kernel_rfl) (by kernel_rfl) (by kernel_rfl) (fun _ _ _ h => h) (Or.inl ⟨by rfl, ?_⟩) hH ?_
  · intro V hV; obtain ⟨k0, k1, k2, k3⟩ := hcl V hV; go_simp
  try simp only [Act.put, List.setIfInBounds_toArray, List.set_cons_zero, List.set_cons_succ, List.getElem_toArray, List.getElem_cons_succ, List.getElem_cons_zero]
  refine wpAnyN_take (i := 5) (v := .pointer (some ⟨t, 0, none⟩)) [] (by kernel_rfl) rfl (by kernel_rfl) (by kernel_rfl) (by kernel_rfl) (fun _ _ _ h => h) (Or.inl ⟨by rfl, ?_⟩) hH ?_
  · intro V hV; go_simp
  try simp only [Act.put, List.setIfInBounds_toArray, List.set_cons_zero, List.set_cons_succ, List.getElem_toArray, List.getElem_cons_succ, List.getElem_cons_zero]
  refine wpAnyN_take (i := 6) (v := .pointer (some ⟨t, 0, none⟩)) [] (by kernel_rfl) rfl (by kernel_rfl) (by kernel_rfl) (by kernel_rfl) (fun _ _ _ h => h) (Or.inl ⟨by rfl, ?_⟩) hH ?_
  · intro V hV; go_simp
  try simp only [Act.put, List.setIfInBounds_toArray, List.set_cons_zero, List.set_cons_succ, List.getElem_toArray, List.getElem_cons_succ, List.getElem_cons_zero]
  refine wpAnyN_take (i := 7) (v := .pointer (some ⟨t, 3, none⟩)) [] (by kernel_rfl) rfl (by kernel_rfl) (by kernel_rfl) (by kernel_rfl) (fun _ _ _ h => h) (Or.inl ⟨by rfl, ?_⟩) hH ?_
  · intro V hV; go_simp
  try simp only [Act.put, List.setIfInBounds_toArray, List.set_cons_zero, List.set_cons_succ, List.getElem_toArray, List.getElem_cons_succ, List.getElem_cons_zero]
  refine wpAnyN_take (i := 8) (v := .int .i64 (z : Int)) [] (by kernel_rfl) rfl (by kernel_rfl) (by kernel_rfl) (by kernel_rfl) (fun _ _ _ h => h) (Or.inl ⟨by rfl, ?_⟩) hH ?_
  · intro V hV; obtain ⟨k0, k1, k2, k3⟩ := hcl V hV; go_simp
  try simp only [Act.put, List.setIfInBounds_toArray, List.set_cons_zero, List.set_cons_succ, List.getElem_toArray, List.getElem_cons_succ, List.getElem_cons_zero]
  refine wpAnyN_take (i := 9) (v := .int .u32 (zb.toNat : Int)) [] (by kernel_rfl) rfl (by kernel_rfl) (by kernel_rfl) (by kernel_rfl) (fun _ _ _ h => h) (Or.inl ⟨by rfl, ?_⟩) hH ?_
  · intro V hV; have kv := HCV.out V; go_simp
  try simp only [Act.put, List.setIfInBounds_toArray, List.set_cons_zero, List.set_cons_succ, List.getElem_toArray, List.getElem_cons_succ, List.getElem_cons_zero]
  refine wpAnyN_one (i := 10) (by kernel_rfl) rfl (fun K hK => ?_)
  go_simp
  have hpl : ∀ k, (∃ cs fz, w.drew.heap[k]? = some (Obj.cells cs 5 fz)) → k < w.drew.heap.size := fun k ⟨cs, fz, hk⟩ => (Array.getElem?_eq_some_iff.1 hk).1
  refine (Frag.refCutP n A n c ge zb true bs (fun k => ∃ cs fz, w.drew.heap[k]? = some (Obj.cells cs 5 fz)) w.drew (Nat.le_refl _) HBS.out.drew hpl hnc HC.out hl).mono ?_
  rintro r w1 ⟨A1, m1, c1, ys, rfl, hys, rfl, ho1, hby1, hb1⟩
  rw [headT] at hys
  have hpos : 0 < ys.length := by
    have := congrArg List.length hys
    rw [List.length_map, Frag.parts_length] at this
    have := Frag.pcs_length_pos 1 bs
    omega
  have hfew : ys.length ≤ 21 := by
    have h1 := congrArg List.length hys
    rw [List.length_map, Frag.parts_length] at h1
    have h2 := Frag.pcs_length_le 1 bs
    rw [HBS.out.len] at h2
    omega
  obtain ⟨g1, cap1, hv1, hg1, hl1⟩ := ho1.form hpos
  obtain ⟨ad, rfl⟩ : ∃ ad, A1 = some ad := ⟨⟨g1, 0, none⟩, by injection hv1⟩
  have hH1 : From w w1 := hH.call hb1
  have HPS := Lib.hid (⟨ho1, fun x hx => by_of (hby1 x hx) hb1⟩ : Qs w.drew w1 (some ad) c1 ys)
  have HYS := Lib.hid (show ys.map (·.p) = cut ge zb bs from hys)
  clear ho1 hby1 hv1 hys hg1 hl1 hb1 hpl
  go_wp2_with fail
  refine hK.out _ _ (.inr hH1) ?_
  clear hK K hH
  have hH := hH1
  clear hH1 hcl
  try simp only [Act.put, List.setIfInBounds_toArray, List.set_cons_zero, List.set_cons_succ, List.getElem_toArray, List.getElem_cons_succ, List.getElem_cons_zero]
  refine wpAnyN_one (i := 11) (by kernel_rfl) rfl (fun K hK => ?_)
  go_simp
  refine hK.out _ _ (.inr hH) ?_
  clear hK K
  try simp only [Act.put, List.setIfInBounds_toArray, List.set_cons_zero, List.set_cons_succ, List.getElem_toArray, List.getElem_cons_succ, List.getElem_cons_zero]
  refine wpAnyN_done (by kernel_rfl) ?_ _
  simp only [Exit.then]
  go_wp2_with fail
  have HW1 := Lib.hid hH
  clear hH
  go_loopw [6] (fun i wr => ∃ k : Nat, k ≤ ys.length ∧ i = .int .i64 (k : Int) ∧ ∃ m2, Fk wr B d2 m2 ∧ Rg wr t d2 ⟨gf, ge, z + k, false⟩ ∧ Ok m2 ∧ Chg B (QobE ge) w1 wr ∧ wrs ((cut ge zb bs).map secP) m ⟨gf, ge, z, false⟩ = wrs (((cut ge zb bs).map secP).drop k) m2 ⟨gf, ge, z + k, false⟩) (fun i _ => ys.length - (intOf i).toNat)
  case atStart => exact ⟨0, Nat.zero_le _, rfl, m, HD.out.below HW1.out, HG.out.below HW1.out, HOK.out, Chg.refl _ _ _, rfl⟩
  case round =>
    obtain ⟨k, hk, rfl, m2, hd2, hg2, hok2, hc2, hw2⟩ := hrel
    have HD2 := Lib.hid hd2
    have HG2 := Lib.hid hg2
    have HC2 := Lib.hid hc2
    have HWR := Lib.hid hw2
    have HOK2 := Lib.hid hok2
    clear hd2 hg2 hc2 hw2 hok2
    by_cases hlt : k < ys.length
    · have hsz1 : w.heap.size ≤ w1.heap.size := HW1.out.size
      have hsz2 : w1.heap.size ≤ wr.heap.size := HC2.out.size
      have HPR := Lib.hid (HPS.out.chg HC2.out).pr
      obtain ⟨ad', x, hA', hx, hxb, hadl, e0, e1, e2, e3⟩ := HPR.out.at_ hlt
      cases hA'
      have HX := Lib.hid hx
      have HXB := Lib.hid hxb
      have hdr : ((cut ge zb bs).map secP).drop k = secP x.p :: ((cut ge zb bs).map secP).drop (k + 1) := by
        rw [← HYS.out, List.map_map]
        have hl' : k < (ys.map (secP ∘ fun x => x.p)).length := by rw [List.length_map]; exact hlt
        rw [List.drop_eq_getElem_cons hl', List.getElem_map]
        rw [List.getElem?_eq_getElem hlt] at hx
        injection hx with hx
        rw [hx]
        rfl
      have HDR := Lib.hid hdr
      have HM := Lib.hid (HMAY.out x.p (by rw [← HYS.out]; exact List.mem_map_of_mem (List.mem_of_getElem? hx)))
      clear hx hxb hdr
      obtain ⟨⟨pe, ps, pf, pb⟩, xA, xc⟩ := x
      dsimp only at e0 e1 e2 e3
      have hel : ∀ V, From wr V → V.cell? (ad.add (k * 4)) = some (v32 pe) ∧ V.cell? ⟨(ad.add (k * 4)).block, (ad.add (k * 4)).off + 1, none⟩ = some (v32 ps) ∧ V.cell? ⟨(ad.add (k * 4)).block, (ad.add (k * 4)).off + 2, none⟩ = some (.int .i64 pf) ∧ V.cell? ⟨(ad.add (k * 4)).block, (ad.add (k * 4)).off + 3, none⟩ = some (.slice xA pb.length xc) := fun V hV =>
        ⟨kept hV e0, kept hV e1, kept hV e2, kept hV e3⟩
      have hcl : ∀ V, From wr V → V.cell? ⟨t, 0, none⟩ = some (.pointer (some ⟨d2, 0, none⟩)) ∧ V.cell? ⟨t, 1, none⟩ = some (.int .i64 gf) ∧ V.cell? ⟨t, 2, none⟩ = some (v32 ge) ∧ V.cell? ⟨t, 3, none⟩ = some (.int .i64 ((z + k : Nat) : Int)) := fun V hV => by
        have h := HG2.out.below hV
        exact ⟨h.cell 0, h.cell 1, h.cell 2, h.cell 3⟩
      clear e0 e1 e2 e3 hadl
      go_wp2_with fail
      refine wp_region_N [14, 15] (From wr) (by kernel_rfl) ?_
      have hH : From wr wr.drew := (From.self _).drew
      refine wpAnyN_take (i := 0) (v := .pointer (some ⟨t, 0, none⟩)) [1, 2, 3, 14, 15] (by kernel_rfl) rfl (by kernel_rfl) (by kernel_rfl) (by kernel_rfl) (fun _ _ _ h => h) (Or.inl ⟨by rfl, ?_⟩) hH ?_
      · intro V hV; go_simp
      try simp only [Act.put, List.setIfInBounds_toArray, List.set_cons_zero, List.set_cons_succ, List.getElem_toArray, List.getElem_cons_succ, List.getElem_cons_zero]
      refine wpAnyN_take (i := 1) (v := .pointer (some ⟨t, 0, none⟩)) [2, 3, 14, 15] (by kernel_rfl) rfl (by kernel_rfl) (by kernel_rfl) (by kernel_rfl) (fun _ _ _ h => h) (Or.inl ⟨by rfl, ?_⟩) hH ?_
      · intro V hV; go_simp
      try simp only [Act.put, List.setIfInBounds_toArray, List.set_cons_zero, List.set_cons_succ, List.getElem_toArray, List.getElem_cons_succ, List.getElem_cons_zero]
      refine wpAnyN_take (i := 2) (v := .pointer (some ⟨t, 0, none⟩)) [3, 14, 15] (by kernel_rfl) rfl (by kernel_rfl) (by kernel_rfl) (by kernel_rfl) (fun _ _ _ h => h) (Or.inl ⟨by rfl, ?_⟩) hH ?_
      · intro V hV; go_simp
      try simp only [Act.put, List.setIfInBounds_toArray, List.set_cons_zero, List.set_cons_succ, List.getElem_toArray, List.getElem_cons_succ, List.getElem_cons_zero]
      refine wpAnyN_take (i := 3) (v := .pointer (some ⟨d2, 0, none⟩)) [14, 15] (by kernel_rfl) rfl (by kernel_rfl) (by kernel_rfl) (by kernel_rfl) (fun _ _ _ h => h) (Or.inl ⟨by rfl, ?_⟩) hH ?_
      · intro V hV; obtain ⟨k0, k1, k2, k3⟩ := hcl V hV; go_simp
      try simp only [Act.put, List.setIfInBounds_toArray, List.set_cons_zero, List.set_cons_succ, List.getElem_toArray, List.getElem_cons_succ, List.getElem_cons_zero]
      refine wpAnyN_take (i := 4) (v := .pointer (some ⟨t, 0, none⟩)) [5, 6, 7, 14, 15] (by kernel_rfl) rfl (by kernel_rfl) (by kernel_rfl) (by kernel_rfl) (fun _ _ _ h => h) (Or.inl ⟨by rfl, ?_⟩) hH ?_
      · intro V hV; go_simp
      try simp only [Act.put, List.setIfInBounds_toArray, List.set_cons_zero, List.set_cons_succ, List.getElem_toArray, List.getElem_cons_succ, List.getElem_cons_zero]
      refine wpAnyN_take (i := 5) (v := .pointer (some ⟨t, 0, none⟩)) [6, 7, 14, 15] (by kernel_rfl) rfl (by kernel_rfl) (by kernel_rfl) (by kernel_rfl) (fun _ _ _ h => h) (Or.inl ⟨by rfl, ?_⟩) hH ?_
      · intro V hV; go_simp
      try simp only [Act.put, List.setIfInBounds_toArray, List.set_cons_zero, List.set_cons_succ, List.getElem_toArray, List.getElem_cons_succ, List.getElem_cons_zero]
      refine wpAnyN_take (i := 6) (v := .pointer (some ⟨t, 1, none⟩)) [7, 14, 15] (by kernel_rfl) rfl (by kernel_rfl) (by kernel_rfl) (by kernel_rfl) (fun _ _ _ h => h) (Or.inl ⟨by rfl, ?_⟩) hH ?_
      · intro V hV; go_simp
      try simp only [Act.put, List.setIfInBounds_toArray, List.set_cons_zero, List.set_cons_succ, List.getElem_toArray, List.getElem_cons_succ, List.getElem_cons_zero]
      refine wpAnyN_take (i := 7) (v := .int .i64 gf) [14, 15] (by kernel_rfl) rfl (by kernel_rfl) (by kernel_rfl) (by kernel_rfl) (fun _ _ _ h => h) (Or.inl ⟨by rfl, ?_⟩) hH ?_
      · intro V hV; obtain ⟨k0, k1, k2, k3⟩ := hcl V hV; go_simp
      try simp only [Act.put, List.setIfInBounds_toArray, List.set_cons_zero, List.set_cons_succ, List.getElem_toArray, List.getElem_cons_succ, List.getElem_cons_zero]
      refine wpAnyN_take (i := 8) (v := .slice (some ad) ys.length c1) [10, 11, 12, 13, 14, 15] (by kernel_rfl) rfl (by kernel_rfl) (by kernel_rfl) (by kernel_rfl) (fun _ _ _ h => h) (Or.inl ⟨by rfl, ?_⟩) hH ?_
      · intro V hV; go_simp
      try simp only [Act.put, List.setIfInBounds_toArray, List.set_cons_zero, List.set_cons_succ, List.getElem_toArray, List.getElem_cons_succ, List.getElem_cons_zero]
      refine wpAnyN_take (i := 9) (v := .int .i64 (k : Int)) [10, 11, 12, 13, 14, 15] (by kernel_rfl) rfl (by kernel_rfl) (by kernel_rfl) (by kernel_rfl) (fun _ _ _ h => h) (Or.inl ⟨by rfl, ?_⟩) hH ?_
      · intro V hV; go_simp
      try simp only [Act.put, List.setIfInBounds_toArray, List.set_cons_zero, List.set_cons_succ, List.getElem_toArray, List.getElem_cons_succ, List.getElem_cons_zero]
      refine wpAnyN_take (i := 10) (v := .pointer (some (ad.add (k * 4)))) [11, 12, 13, 14, 15] (by kernel_rfl) rfl (by kernel_rfl) (by kernel_rfl) (by kernel_rfl) (fun _ _ _ h => h) (Or.inl ⟨by rfl, ?_⟩) hH ?_
      · intro V hV; go_simp
      try simp only [Act.put, List.setIfInBounds_toArray, List.set_cons_zero, List.set_cons_succ, List.getElem_toArray, List.getElem_cons_succ, List.getElem_cons_zero]
      refine wpAnyN_take (i := 11) (v := .agg #[v32 pe, v32 ps, .int .i64 pf, .slice xA pb.length xc]) [12, 13, 14, 15] (by kernel_rfl) rfl (by kernel_rfl) (by kernel_rfl) (by kernel_rfl) (fun _ _ _ h => h) (Or.inl ⟨by rfl, ?_⟩) hH ?_
      · intro V hV; obtain ⟨e0, e1, e2, e3⟩ := hel V hV; go_simp
      try simp only [Act.put, List.setIfInBounds_toArray, List.set_cons_zero, List.set_cons_succ, List.getElem_toArray, List.getElem_cons_succ, List.getElem_cons_zero]
      refine wpAnyN_one (i := 12) (by kernel_rfl) rfl (fun K hK => ?_)
      go_simp
      have con := Sector.refPut ⟨pe, ps, pf, pb⟩ wr.heap.size xA pb.length xc wr.drew HXB.out (Nat.le_refl _) HM.out
      refine con.mono ?_
      clear con
      rintro r w3 ⟨A3, c3, rfl, ho3, hb3⟩
      have hH3 : From wr w3 := hH.call hb3
      have qs := Disk.toStr (Pack.Own.low ho3) c3
      have HO3 := Lib.hid ho3
      clear ho3 hb3
      go_wp2_with fail
      refine hK.out _ _ (.inr hH3) ?_
      clear hK K hH
      have hH := hH3
      clear hH3 hel
      try simp only [Act.put, List.setIfInBounds_toArray, List.set_cons_zero, List.set_cons_succ, List.getElem_toArray, List.getElem_cons_succ, List.getElem_cons_zero]
      refine wpAnyN_one (i := 13) (by kernel_rfl) rfl (fun K hK => ?_)
      go_simp
      refine hK.out _ _ (.inr hH) ?_
      clear hK K qs
      try simp only [Act.put, List.setIfInBounds_toArray, List.set_cons_zero, List.set_cons_succ, List.getElem_toArray, List.getElem_cons_succ, List.getElem_cons_zero]
      obtain ⟨e, he⟩ : ∃ e, (append m2 gf (secP ⟨pe, ps, pf, pb⟩)).1 = e := ⟨_, rfl⟩
      obtain ⟨m3, hm3⟩ : ∃ m3, (append m2 gf (secP ⟨pe, ps, pf, pb⟩)).2 = m3 := ⟨_, rfl⟩
      have con := Disk.rappend_ok w3 B d2 m2 gf (secP ⟨pe, ps, pf, pb⟩) (HD2.out.below hH) (by have := hH.size; omega) hf (by rw [secP_len HM.out]; unfold maxLen; omega) HOK2.out
      rw [he, hm3] at con
      have HE := Lib.hid he
      have HM3 := Lib.hid hm3
      have HK3 := Lib.hid (show Ok m3 by rw [← hm3]; exact Disk.ok_append HOK2.out _ _)
      clear he hm3
      refine wpAnyN_one (i := 14) (by kernel_rfl) rfl (fun K hK => ?_)
      go_simp
      refine con.mono ?_
      clear con
      rintro r w4 ⟨rfl, hd4, hc4⟩
      have HD4 := Lib.hid hd4
      have HG4 := Lib.hid ((HG2.out.below hH).rob hc4)
      have HC4 := Lib.hid (HC2.out.trans ((Chg.of_below hH).trans (hc4.mono (Nat.le_refl _) rob_qobE)))
      clear hd4 hc4 hcl hH
      go_wp2_with fail
      refine hK.out _ _ (.inl (by decide)) ?_
      clear hK K
      try simp only [Act.put, List.setIfInBounds_toArray, List.set_cons_zero, List.set_cons_succ, List.getElem_toArray, List.getElem_cons_succ, List.getElem_cons_zero]
      refine wpAnyN_one (i := 15) (by kernel_rfl) rfl (fun K hK => ?_)
      go_simp
      refine hK.out _ _ (.inl (by decide)) ?_
      clear hK K
      try simp only [Act.put, List.setIfInBounds_toArray, List.set_cons_zero, List.set_cons_succ, List.getElem_toArray, List.getElem_cons_succ, List.getElem_cons_zero]
      refine wpAnyN_done (by kernel_rfl) ?_ _
      have k3 : w4.cell? ⟨t, 3, none⟩ = some (.int .i64 ((z + k : Nat) : Int)) := HG4.out.cell 3
      have f3 := HG4.out.free 3
      have k4 : w4.cell? ⟨t, 4, none⟩ = some (.bool false) := HG4.out.cell 4
      have f4 := HG4.out.free 4
      simp only [Exit.then]
      by_cases he0 : e = 0
      · subst he0
        go_wp2_with fail
        have h5 : Chg B (TobE ge) w4 (w4.setCell ⟨t, 3, none⟩ (.int .i64 (((z + k : Nat) : Int) + 1))) := (Chg.refl B (TobE ge) w4).set (p := ⟨t, 3, none⟩) _ (.inr ⟨ht, _, (show w4.heap[t]? = _ from HG4.out), rfl, rfl⟩)
        have hg5 : Rg (w4.setCell ⟨t, 3, none⟩ (.int .i64 (((z + k : Nat) : Int) + 1))) t d2 ⟨gf, ge, z + (k + 1), false⟩ := HG4.out.set 3 _
        go_roundw
        case rel =>
          refine ⟨k + 1, by omega, by go_num, m3, Fk_tob (ep := ge) HD4.out ?_, ?_, HK3.out, HC4.out.trans (Chg.mono ?_ (Nat.le_refl _) (tobE_qobE (ep := ge))), ?_⟩
          · simpa using h5
          · simpa using hg5
          · simpa using h5
          · rw [HWR.out, HDR.out, wrs_on HE.out, HM3.out]
            rfl
        case measure => simp [intOf]; omega
      · have d0 : (e == 0) = false := beq_eq_false_iff_ne.2 he0
        go_wp2_with fail
        have h5 : Chg B (TobE ge) w4 (w4.setCell ⟨t, 4, none⟩ (.bool true)) := (Chg.refl B (TobE ge) w4).set (p := ⟨t, 4, none⟩) _ (.inr ⟨ht, _, (show w4.heap[t]? = _ from HG4.out), rfl, rfl⟩)
        have hg5 : Rg (w4.setCell ⟨t, 4, none⟩ (.bool true)) t d2 ⟨gf, ge, z + k, true⟩ := HG4.out.set 4 _
        go_ret
        rw [HWR.out, HDR.out, wrs_bad (by rw [HE.out]; exact he0), HE.out, HM3.out]
        exact ⟨rfl, Fk_tob HD4.out h5, hg5, (Chg.of_below HW1.out).trans (HC4.out.trans (h5.mono (Nat.le_refl _) tobE_qobE))⟩
    · obtain rfl : k = ys.length := by omega
      go_wp2_with fail
      go_ret
      rw [HWR.out, List.drop_of_length_le (by rw [← HYS.out, List.length_map, List.length_map]; exact Nat.le_refl _), wrs_nil]
      exact ⟨rfl, HD2.out, HG2.out, (Chg.of_below HW1.out).trans HC2.out⟩

/-- The document's Append. -/
theorem rappend_segE (w : World) (B t d2 : Nat) (m : M) (g : Gm) (A : Option Addr) (n c : Nat) (bs : List (BitVec 8)) (hd : Fk w B d2 m) (hg : Rg w t d2 g) (hB : B ≤ w.heap.size) (ht : B ≤ t) (hf : g.file < 9223372036854775808) (hz : g.size < 8000000000000000000)
    (hb : By w A n bs) (hnc : n ≤ c) (hc : c ≤ maxLen) (hok : Ok m) :
    Calls Tryz.prog 44 #[.pointer (some ⟨t, 0, none⟩), .slice A n c] w (RSDidE w B t d2 (appendS m g bs)) := by
  cases hbr : g.broken
  · by_cases hl : 9860 < n
    · exact rappend_long w B t d2 m g A n c bs hd hg hbr (by omega) hl hb.len
    · obtain ⟨gf, ge, z, br⟩ := g
      dsimp only at hbr
      subst hbr
      exact rappend_goes w B t d2 m gf ge z A n c bs hd hg hB ht hf hz hb (by omega) hnc hc hok
  · exact rappend_broken w B t d2 m g A n c bs hd hg hbr

/-- The document's Sync. -/
theorem rsync_broken (w : World) (B t d : Nat) (m : M) (g : Gm) (hd : Fk w B d m) (hg : Rg w t d g) (hbr : g.broken = true) :
    Calls Tryz.prog 46 #[.pointer (some ⟨t, 0, none⟩)] w (RSDidE w B t d (syncS m g)) := by
  have hw : syncS m g = (8, m, g) := by unfold syncS; rw [hbr]; rfl
  rw [hw]
  have k4 : w.cell? ⟨t, 4, none⟩ = some (.bool true) := by have := hg.cell 4; rw [hbr] at this; exact this
  have HD := Lib.hid hd
  have HG := Lib.hid hg
  clear hd hg hbr hw
  go_enter Tryz.func46, Tryz.ntmps46
  go_wp2_with fail
  go_ret
  exact ⟨rfl, HD.out, HG.out, Chg.refl _ _ _⟩
theorem rsync_none (w : World) (B t d : Nat) (m : M) (g : Gm) (hd : Fk w B d m) (hg : Rg w t d g) (hbr : g.broken = false) (hz : g.size = 0) :
    Calls Tryz.prog 46 #[.pointer (some ⟨t, 0, none⟩)] w (RSDidE w B t d (syncS m g)) := by
  have hw : syncS m g = (0, m, g) := by unfold syncS; rw [hbr, if_neg (by simp), if_pos hz]
  rw [hw]
  have k4 : w.cell? ⟨t, 4, none⟩ = some (.bool false) := by have := hg.cell 4; rw [hbr] at this; exact this
  have k3 : w.cell? ⟨t, 3, none⟩ = some (.int .i64 0) := by have := hg.cell 3; rw [hz] at this; exact this
  have HD := Lib.hid hd
  have HG := Lib.hid hg
  clear hd hg hbr hw hz
  go_enter Tryz.func46, Tryz.ntmps46
  go_wp2_with fail
  go_ret
  exact ⟨rfl, HD.out, HG.out, Chg.refl _ _ _⟩
set_option maxRecDepth 100000 in
set_option maxHeartbeats 1000000 in
theorem rsync_goes (w : World) (B t d2 : Nat) (m : M) (gf : Int) (ge : BitVec 32) (z : Nat) (hd : Fk w B d2 m) (hg : Rg w t d2 ⟨gf, ge, z, false⟩) (hB : B ≤ w.heap.size) (ht : B ≤ t) (hf : -9223372036854775808 ≤ gf ∧ gf < 9223372036854775808) (hz : 0 < z) (hok : Ok m) (hi : Inv m) :
    Calls Tryz.prog 46 #[.pointer (some ⟨t, 0, none⟩)] w (RSDidE w B t d2 (syncS m ⟨gf, ge, z, false⟩)) := by
  have hw : syncS m ⟨gf, ge, z, false⟩ = ((sync m gf).1, (sync m gf).2, ⟨gf, ge, z, !decide ((sync m gf).1 = 0)⟩) := by unfold syncS; rw [if_neg (by simp), if_neg (by dsimp only; omega)]
  rw [hw]
  have k3 : w.cell? ⟨t, 3, none⟩ = some (.int .i64 (z : Int)) := hg.cell 3
  have k4 : w.cell? ⟨t, 4, none⟩ = some (.bool false) := hg.cell 4
  have d4 : ((z : Int) == 0) = false := beq_eq_false_iff_ne.2 (by omega)
  have HD := Lib.hid hd
  have HG := Lib.hid hg
  have hcl : ∀ V, From w V → V.cell? ⟨t, 0, none⟩ = some (.pointer (some ⟨d2, 0, none⟩)) ∧ V.cell? ⟨t, 1, none⟩ = some (.int .i64 gf) ∧ V.cell? ⟨t, 2, none⟩ = some (v32 ge) ∧ V.cell? ⟨t, 3, none⟩ = some (.int .i64 (z : Int)) := fun V hV => by
    have h := HG.out.below hV
    exact ⟨h.cell 0, h.cell 1, h.cell 2, h.cell 3⟩
  clear hd hg hw
  go_enter Tryz.func46, Tryz.ntmps46
  go_wp2_with fail
  clear k3 k4 d4
  refine wp_region_N [8, 9] (From w) (by kernel_rfl) ?_
  have hH : From w w.drew := (From.self _).drew
  refine wpAnyN_take (i := 0) (v := .pointer (some ⟨t, 0, none⟩)) [1, 2, 3, 8, 9] (by kernel_rfl) rfl (by kernel_rfl) (by kernel_rfl) (by kernel_rfl) (fun _ _ _ h => h) (Or.inl ⟨by rfl, ?_⟩) hH ?_
  · intro V hV; go_simp
  try simp only [Act.put, List.setIfInBounds_toArray, List.set_cons_zero, List.set_cons_succ, List.getElem_toArray, List.getElem_cons_succ, List.getElem_cons_zero]
  refine wpAnyN_take (i := 1) (v := .pointer (some ⟨t, 0, none⟩)) [2, 3, 8, 9] (by kernel_rfl) rfl (by kernel_rfl) (by kernel_rfl) (by kernel_rfl) (fun _ _ _ h => h) (Or.inl ⟨by rfl, ?_⟩) hH ?_
  · intro V hV; go_simp
  try simp only [Act.put, List.setIfInBounds_toArray, List.set_cons_zero, List.set_cons_succ, List.getElem_toArray, List.getElem_cons_succ, List.getElem_cons_zero]
  refine wpAnyN_take (i := 2) (v := .pointer (some ⟨t, 0, none⟩)) [3, 8, 9] (by kernel_rfl) rfl (by kernel_rfl) (by kernel_rfl) (by kernel_rfl) (fun _ _ _ h => h) (Or.inl ⟨by rfl, ?_⟩) hH ?_
  · intro V hV; go_simp
  try simp only [Act.put, List.setIfInBounds_toArray, List.set_cons_zero, List.set_cons_succ, List.getElem_toArray, List.getElem_cons_succ, List.getElem_cons_zero]
  refine wpAnyN_take (i := 3) (v := .pointer (some ⟨d2, 0, none⟩)) [8, 9] (by kernel_rfl) rfl (by kernel_rfl) (by kernel_rfl) (by kernel_rfl) (fun _ _ _ h => h) (Or.inl ⟨by rfl, ?_⟩) hH ?_
  · intro V hV; obtain ⟨k0, k1, k2, k3⟩ := hcl V hV; go_simp
  try simp only [Act.put, List.setIfInBounds_toArray, List.set_cons_zero, List.set_cons_succ, List.getElem_toArray, List.getElem_cons_succ, List.getElem_cons_zero]
  refine wpAnyN_take (i := 4) (v := .pointer (some ⟨t, 0, none⟩)) [5, 6, 7, 8, 9] (by kernel_rfl) rfl (by kernel_rfl) (by kernel_rfl) (by kernel_rfl) (fun _ _ _ h => h) (Or.inl ⟨by rfl, ?_⟩) hH ?_
  · intro V hV; go_simp
  try simp only [Act.put, List.setIfInBounds_toArray, List.set_cons_zero, List.set_cons_succ, List.getElem_toArray, List.getElem_cons_succ, List.getElem_cons_zero]
  refine wpAnyN_take (i := 5) (v := .pointer (some ⟨t, 0, none⟩)) [6, 7, 8, 9] (by kernel_rfl) rfl (by kernel_rfl) (by kernel_rfl) (by kernel_rfl) (fun _ _ _ h => h) (Or.inl ⟨by rfl, ?_⟩) hH ?_
  · intro V hV; go_simp
  try simp only [Act.put, List.setIfInBounds_toArray, List.set_cons_zero, List.set_cons_succ, List.getElem_toArray, List.getElem_cons_succ, List.getElem_cons_zero]
  refine wpAnyN_take (i := 6) (v := .pointer (some ⟨t, 1, none⟩)) [7, 8, 9] (by kernel_rfl) rfl (by kernel_rfl) (by kernel_rfl) (by kernel_rfl) (fun _ _ _ h => h) (Or.inl ⟨by rfl, ?_⟩) hH ?_
  · intro V hV; go_simp
  try simp only [Act.put, List.setIfInBounds_toArray, List.set_cons_zero, List.set_cons_succ, List.getElem_toArray, List.getElem_cons_succ, List.getElem_cons_zero]
  refine wpAnyN_take (i := 7) (v := .int .i64 gf) [8, 9] (by kernel_rfl) rfl (by kernel_rfl) (by kernel_rfl) (by kernel_rfl) (fun _ _ _ h => h) (Or.inl ⟨by rfl, ?_⟩) hH ?_
  · intro V hV; obtain ⟨k0, k1, k2, k3⟩ := hcl V hV; go_simp
  try simp only [Act.put, List.setIfInBounds_toArray, List.set_cons_zero, List.set_cons_succ, List.getElem_toArray, List.getElem_cons_succ, List.getElem_cons_zero]
  obtain ⟨e, he⟩ : ∃ e, (sync m gf).1 = e := ⟨_, rfl⟩
  obtain ⟨m3, hm3⟩ : ∃ m3, (sync m gf).2 = m3 := ⟨_, rfl⟩
  have con := Disk.rsync_ok w.drew B d2 m gf (HD.out.below (Below.refl _ _).drew) (by simp; exact hB) hi hok
  rw [he, hm3] at con
  have HRW := Lib.hid (show ((sync m gf).1, (sync m gf).2, (⟨gf, ge, z, !decide ((sync m gf).1 = 0)⟩ : Gm)) = (e, m3, ⟨gf, ge, z, !decide (e = 0)⟩) from by rw [he, hm3])
  clear he hm3
  refine wpAnyN_one (i := 8) (by kernel_rfl) rfl (fun K hK => ?_)
  go_simp
  refine con.mono ?_
  clear con
  rintro r w2 ⟨rfl, hd2, hc2⟩
  have HD2 := Lib.hid hd2
  have HG2 := Lib.hid ((HG.out.below (Below.refl _ _).drew).rob hc2)
  have HC2 := Lib.hid ((Chg.of_below (Below.refl w.heap.size w).drew).trans (hc2.mono (Nat.le_refl _) (rob_qobE (ep := ge))))
  clear hd2 hc2 hcl hH
  go_wp2_with fail
  refine hK.out _ _ (.inl (by decide)) ?_
  clear hK K
  try simp only [Act.put, List.setIfInBounds_toArray, List.set_cons_zero, List.set_cons_succ, List.getElem_toArray, List.getElem_cons_succ, List.getElem_cons_zero]
  refine wpAnyN_one (i := 9) (by kernel_rfl) rfl (fun K hK => ?_)
  go_simp
  refine hK.out _ _ (.inl (by decide)) ?_
  clear hK K
  try simp only [Act.put, List.setIfInBounds_toArray, List.set_cons_zero, List.set_cons_succ, List.getElem_toArray, List.getElem_cons_succ, List.getElem_cons_zero]
  refine wpAnyN_done (by kernel_rfl) ?_ _
  have k4 : w2.cell? ⟨t, 4, none⟩ = some (.bool false) := HG2.out.cell 4
  have f4 := HG2.out.free 4
  simp only [Exit.then]
  have h5 : ∀ x, Chg B (TobE ge) w2 (w2.setCell ⟨t, 4, none⟩ (.bool x)) := fun x => (Chg.refl B (TobE ge) w2).set (p := ⟨t, 4, none⟩) _ (.inr ⟨ht, _, (show w2.heap[t]? = _ from HG2.out), rfl, rfl⟩)
  have hg5 : ∀ x, Rg (w2.setCell ⟨t, 4, none⟩ (.bool x)) t d2 ⟨gf, ge, z, x⟩ := fun x => HG2.out.set 4 _
  have H5 := Lib.hid h5
  have HG5 := Lib.hid hg5
  clear h5 hg5
  by_cases he0 : e = 0
  · subst he0
    go_wp2_with fail
    go_ret
    rw [HRW.out]
    exact ⟨rfl, Fk_tob HD2.out (H5.out false), HG5.out false, HC2.out.trans ((H5.out false).mono (Nat.le_refl _) tobE_qobE)⟩
  · have d0 : (e == 0) = false := beq_eq_false_iff_ne.2 he0
    have d1 : (e != 0) = true := by simp [he0]
    go_wp2_with fail
    go_ret
    rw [HRW.out, decide_eq_false he0]
    exact ⟨rfl, Fk_tob HD2.out (H5.out true), HG5.out true, HC2.out.trans ((H5.out true).mono (Nat.le_refl _) tobE_qobE)⟩
theorem rsync_segE (w : World) (B t d2 : Nat) (m : M) (g : Gm) (hd : Fk w B d2 m) (hg : Rg w t d2 g) (hB : B ≤ w.heap.size) (ht : B ≤ t) (hf : -9223372036854775808 ≤ g.file ∧ g.file < 9223372036854775808) (hok : Ok m) (hi : Inv m) :
    Calls Tryz.prog 46 #[.pointer (some ⟨t, 0, none⟩)] w (RSDidE w B t d2 (syncS m g)) := by
  cases hb : g.broken
  · by_cases hz : g.size = 0
    · exact rsync_none w B t d2 m g hd hg hb hz
    · obtain ⟨gf, ge, z, br⟩ := g
      dsimp only at hb
      subst hb
      exact rsync_goes w B t d2 m gf ge z hd hg hB ht hf (by dsimp only at hz; omega) hok hi
  · exact rsync_broken w B t d2 m g hd hg hb
theorem rappend_seg (w : World) (B t d2 : Nat) (m : M) (g : Gm) (A : Option Addr) (n c : Nat) (bs : List (BitVec 8)) (hd : Fk w B d2 m) (hg : Rg w t d2 g) (hB : B ≤ w.heap.size) (ht : B ≤ t) (hf : g.file < 9223372036854775808) (hz : g.size < 8000000000000000000)
    (hb : By w A n bs) (hnc : n ≤ c) (hc : c ≤ maxLen) (hok : Ok m) :
    Calls Tryz.prog 44 #[.pointer (some ⟨t, 0, none⟩), .slice A n c] w (RSDid w B t d2 (appendS m g bs)) :=
  (rappend_segE w B t d2 m g A n c bs hd hg hB ht hf hz hb hnc hc hok).mono fun _ _ h => h.old
theorem rsync_seg (w : World) (B t d2 : Nat) (m : M) (g : Gm) (hd : Fk w B d2 m) (hg : Rg w t d2 g) (hB : B ≤ w.heap.size) (ht : B ≤ t) (hf : -9223372036854775808 ≤ g.file ∧ g.file < 9223372036854775808) (hok : Ok m) (hi : Inv m) :
    Calls Tryz.prog 46 #[.pointer (some ⟨t, 0, none⟩)] w (RSDid w B t d2 (syncS m g)) :=
  (rsync_segE w B t d2 m g hd hg hB ht hf hok hi).mono fun _ _ h => h.old
end Go.Proofs.YtdaknfepcbooeaaGreat.Segm
end

section
namespace Go.Proofs.YtdaknfepcbooeaaGreat.Sto
open Go.RowKit
open Go.Proofs.YtdaknfepcbooeaaGreat.Disk (M Fk Chg Rob append sync remove rename there Ok Inv)
open Go.Proofs.YtdaknfepcbooeaaGreat.Segm (Gm Rg Qob QobE appendS syncS beginS wrs wrs_on wrs_bad)
set_option linter.unusedVariables false
set_option linter.unusedSimpArgs false

/-! Of a store that isn't broken, the segment isn't, either. -/
def Good (g : Option Gm) : Prop := ∀ g', g = some g' → g'.broken = false
def Sound (s : St) : Prop := s.broken = false → Good s.g
theorem wrs_good : ∀ (L : List (List (BitVec 8))) (m : M) (g : Gm), (wrs L m g).1 = 0 → (wrs L m g).2.2.broken = g.broken
  | [], m, g, _ => rfl
  | b :: L, m, g, h => by
    by_cases h0 : (append m g.file b).1 = 0
    · rw [wrs_on h0] at h ⊢
      exact wrs_good L _ _ h
    · rw [wrs_bad h0] at h
      exact absurd h h0
theorem appendS_good {m : M} {g : Gm} {b : List (BitVec 8)} (h : (appendS m g b).1 = 0) : (appendS m g b).2.2.broken = false := by
  unfold appendS at *
  split
  · next h1 => rw [if_pos h1] at h; exact absurd h (show ¬ (8 : Int) = 0 by decide)
  · next h1 =>
    rw [if_neg h1] at h
    split
    · next h2 => rw [if_pos h2] at h; exact absurd h (show ¬ (3 : Int) = 0 by decide)
    · next h2 =>
      rw [if_neg h2] at h
      rw [wrs_good _ _ _ h]
      simpa using h1
theorem syncS_good {m : M} {g : Gm} (h : (syncS m g).1 = 0) : (syncS m g).2.2.broken = false := by
  unfold syncS at *
  split
  · next h1 => rw [if_pos h1] at h; exact absurd h (show ¬ (8 : Int) = 0 by decide)
  · next h1 =>
    rw [if_neg h1] at h
    split
    · simpa using h1
    · next h2 =>
      rw [if_neg h2] at h
      show (!decide ((sync m g.file).1 = 0)) = false
      rw [decide_eq_true h]
      rfl
theorem stp_good {ep : BitVec 32} {b : List (BitVec 8)} {i : Nat} {m : M} {g : Option Gm} (hg : Good g) (h : (stp ep b i m g).1 = 0) : Good (stp ep b i m g).2.2 := by
  match i, g, hg, h with
  | 0, g, _, _ =>
    intro g' e
    change (if (beginS m (fileOf ep)).2.1 then some (⟨fileOf ep, ep, 0, false⟩ : Gm) else none) = some g' at e
    split at e
    · cases e; rfl
    · cases e
  | 1, some g, _, h => intro g' e; cases e; exact appendS_good h
  | 1, none, hg, _ => exact hg
  | 2, some g, _, h => intro g' e; cases e; exact syncS_good h
  | 2, none, hg, _ => exact hg
  | 3, _, hg, _ => exact hg
  | 4, _, hg, _ => exact hg
  | 5, _, hg, _ => exact hg
  | 6, _, hg, _ => exact hg
  | i + 7, _, hg, _ => exact hg
theorem run7_good {ep : BitVec 32} {b : List (BitVec 8)} : ∀ (n i : Nat) (m : M) (g : Option Gm), Good g → (run7 ep b n i m g).1 = 0 → Good (run7 ep b n i m g).2.2
  | 0, _, _, _, hg, _ => hg
  | n + 1, i, m, g, hg, h => by
    by_cases h0 : (stp ep b i m g).1 = 0
    · rw [run7_goes h0] at h ⊢
      exact run7_good n _ _ _ (stp_good hg h0) h
    · rw [run7_stops h0] at h
      exact absurd h h0
theorem begin_sound {m : M} {s : St} (b : List (BitVec 8)) (h : Sound s) : Sound (beginT m s b).2.2 := by
  unfold beginT
  split
  · exact h
  · split
    · exact h
    · split
      · next h0 => exact fun _ => run7_good 7 0 m none (fun _ e => by cases e) h0
      · exact fun e => by cases e
theorem append_sound {m : M} {s : St} (b : List (BitVec 8)) (h : Sound s) : Sound (appendT m s b).2.2 := by
  unfold appendT
  split
  · exact h
  · split
    · exact h
    · split
      · exact h
      · intro e g' e'
        cases e'
        exact appendS_good (by simpa using e)
theorem sync_sound {m : M} {s : St} (h : Sound s) : Sound (syncT m s).2.2 := by
  unfold syncT
  split
  · exact h
  · split
    · exact h
    · intro e g' e'
      cases e'
      exact syncS_good (by simpa using e)

/-! The document's store in memory. -/
/-- Blocks that a store is written in. -/
def Uob : Obj → Prop
  | .cells _ t _ => t = 60
  | _ => False
/-- Blocks that the store's calls write. -/
def Utb : Obj → Prop
  | .cells _ t _ => t = 38 ∨ t = 85 ∨ t = 96 ∨ t = 60
  | _ => False
theorem qob_utb : ∀ o, Qob o → Utb o := by
  intro o h
  cases o with
  | cells _ t _ => exact h.imp id (·.imp id .inl)
  | _ => exact h
theorem rob_utb : ∀ o, Rob o → Utb o := fun o h => qob_utb o (Segm.rob_qob o h)
theorem qobE_utb {ep : BitVec 32} : ∀ o, QobE ep o → Utb o := fun o h => qob_utb o (Segm.qobE_qob o h)
theorem uob_utb : ∀ o, Uob o → Utb o := by
  intro o h
  cases o with
  | cells _ t _ => exact .inr (.inr (.inr h))
  | _ => exact h.elim
/-- The value of a segment, or of none. -/
def Rv7 (w : World) (B d : Nat) (g : Option Gm) (v : Value) : Prop := match g with
  | none => v = .pointer none
  | some g => ∃ t, B ≤ t ∧ v = .pointer (some ⟨t, 0, none⟩) ∧ Rg w t d g
theorem Rv7.chg {w w' : World} {B B' d : Nat} {g : Option Gm} {v : Value} {T : Obj → Prop} (h : Rv7 w B d g v) (hc : Chg B' T w w') (hT : ∀ cs fz, ¬ T (.cells cs 96 fz)) : Rv7 w' B d g v := by
  cases g with
  | none => exact h
  | some g =>
    obtain ⟨t, h1, h2, h3⟩ := h
    exact ⟨t, h1, h2, h3.chg hc hT⟩
theorem Rv7.below {w w' : World} {B d : Nat} {g : Option Gm} {v : Value} (h : Rv7 w B d g v) (hb : Below w.heap.size w w') : Rv7 w' B d g v := h.chg (B' := 0) (T := fun _ => False) (Chg.of_below hb) (fun _ _ h => h)
/-- The document's store in block q is s, on the disk in block d. -/
def Rt (w : World) (B q d : Nat) (s : St) : Prop :=
  ∃ v, Cel w q 60 [.pointer (some ⟨d, 0, none⟩), v32 s.ep, v, .bool s.broken] ∧ Rv7 w B d s.g v
theorem Rt.chg {w w' : World} {B B' q d : Nat} {s : St} {T : Obj → Prop} (h : Rt w B q d s) (hc : Chg B' T w w') (h1 : ∀ cs fz, ¬ T (.cells cs 96 fz)) (h2 : ∀ cs fz, ¬ T (.cells cs 60 fz)) : Rt w' B q d s := by
  obtain ⟨v, hc', hv⟩ := h
  exact ⟨v, Disk.Cel.chg hc' hc (h2 _ _), hv.chg hc h1⟩
theorem Rt.below {w w' : World} {B q d : Nat} {s : St} (h : Rt w B q d s) (hb : Below w.heap.size w w') : Rt w' B q d s := h.chg (B' := 0) (T := fun _ => False) (Chg.of_below hb) (fun _ _ h => h) (fun _ _ h => h)
theorem Rt.rob {w w' : World} {B q d : Nat} {s : St} (h : Rt w B q d s) (hc : Chg B Rob w w') : Rt w' B q d s := h.chg hc (by rintro cs fz (h | h) <;> revert h <;> decide) (by rintro cs fz (h | h) <;> revert h <;> decide)
theorem Fk_uob {B d : Nat} {m : M} {w w' : World} (h : Fk w B d m) (hc : Chg B Uob w w') : Fk w' B d m := by
  obtain ⟨A, c, lv, kv, left, h⟩ := h
  exact ⟨A, c, lv, kv, left, h.chg hc (by rintro cs t fz (rfl | rfl | rfl | rfl) h <;> (simp only [Uob] at h; revert h; decide))⟩
theorem Rv7_uob {B d : Nat} {g : Option Gm} {v : Value} {w w' : World} (h : Rv7 w B d g v) (hc : Chg B Uob w w') : Rv7 w' B d g v := h.chg hc (by intro cs fz h; simp only [Uob] at h; revert h; decide)
theorem rcel_qob {B g : Nat} {w w' : World} {cs : List Value} (h : Cel w g 60 cs) (hc : Chg B Qob w w') : Cel w' g 60 cs :=
  Disk.Cel.chg h hc (by rintro (h | h | h) <;> revert h <;> decide)
theorem rsegVal (v : Value) (w : World) (B d : Nat) (g : Option Gm) (h : Rv7 w B d g v) : (g = none ∧ v = .pointer none) ∨ ∃ g' t, g = some g' ∧ v = .pointer (some ⟨t, 0, none⟩) ∧ B ≤ t ∧ Rg w t d g' := by
  cases g with
  | none => exact .inl ⟨rfl, h⟩
  | some g => obtain ⟨t, h1, h2, h3⟩ := h; exact .inr ⟨g, t, rfl, h2, h1, h3⟩
/-- What a call of the document's store returned, and how the disk and the store are then. -/
def UDid (w : World) (B q d : Nat) (x : Int × M × St) (r : Ending) (w' : World) : Prop := r = .returned (.int .i64 x.1) ∧ Fk w' B d x.2.1 ∧ Rt w' B q d x.2.2 ∧ Chg B Utb w w'

set_option maxRecDepth 100000 in
theorem rfile_call (w : World) (ep : BitVec 32) : Calls Tryz.prog 36 #[v32 ep] w fun e w' => e = .returned (.int .i64 (fileOf ep)) ∧ w = w' := by
  have hl := ep.isLt
  unfold fileOf
  by_cases h : ep.toNat % 2 = 0
  · have d1 : (((ep.toNat : Int) % 2) == 0) = true := by rw [beq_iff_eq]; omega
    rw [if_pos h]
    clear h
    go_enter Tryz.func36, Tryz.ntmps36
    go_wp2_with fail
    go_ret
    exact ⟨rfl, rfl⟩
  · have d1 : (((ep.toNat : Int) % 2) == 0) = false := by rw [beq_eq_false_iff_ne]; omega
    rw [if_neg h]
    clear h
    go_enter Tryz.func36, Tryz.ntmps36
    go_wp2_with fail
    go_ret
    exact ⟨rfl, rfl⟩
set_option maxRecDepth 100000 in
theorem rsize_call (w : World) (B q d : Nat) (s : St) (h : Rt w B q d s) : Calls Tryz.prog 28 #[.pointer (some ⟨q, 0, none⟩)] w fun e w' => e = .returned (.int .i64 ((sizeT s : Nat) : Int)) ∧ w = w' := by
  obtain ⟨ep, g, br⟩ := s
  obtain ⟨v, hc, hv⟩ := h
  have k2 := hc.cell 2
  dsimp only at k2 hv
  have k2' : w.cell? ⟨q, 2, none⟩ = some v := k2
  clear hc k2
  unfold sizeT
  rcases rsegVal v w B d g hv with ⟨rfl, rfl⟩ | ⟨g', t, rfl, rfl, _, hg⟩
  · clear hv
    go_enter Tryz.func28, Tryz.ntmps28
    go_wp2_with fail
    go_ret
    exact ⟨rfl, rfl⟩
  · have k3 : w.cell? ⟨t, 3, none⟩ = some (.int .i64 (g'.size : Int)) := hg.cell 3
    clear hv hg
    go_enter Tryz.func28, Tryz.ntmps28
    go_wp2_with fail
    go_ret
    exact ⟨rfl, rfl⟩

set_option maxRecDepth 100000 in
set_option maxHeartbeats 1000000 in
/-- The document's Append. -/
theorem rappend_call (w : World) (B q d : Nat) (s : St) (m : M) (A : Option Addr) (n c : Nat) (b : List (BitVec 8)) (hd : Fk w B d m) (hs : Rt w B q d s) (hB : B ≤ w.heap.size) (hq : B ≤ q) (hb : By w A n b) (hnc : n ≤ c) (hc : c ≤ maxLen) (hok : Ok m) (hso : Sound s)
    (hf : ∀ g, s.g = some g → g.file < 9223372036854775808 ∧ g.size < 8000000000000000000) :
    Calls Tryz.prog 14 #[.pointer (some ⟨q, 0, none⟩), .slice A n c] w (UDid w B q d (appendT m s b)) := by
  have hbl : b.length = n := hb.len
  obtain ⟨ep, g, br⟩ := s
  have hcel := hs
  obtain ⟨v, hcel, hv⟩ := hcel
  dsimp only at hcel hv hf
  have k2 : w.cell? ⟨q, 2, none⟩ = some v := hcel.cell 2
  have k3 : w.cell? ⟨q, 3, none⟩ = some (.bool br) := hcel.cell 3
  cases br
  · rcases rsegVal v w B d g hv with ⟨rfl, rfl⟩ | ⟨g, t, rfl, rfl, htB, hsg⟩
    · have e1 : appendT m ⟨ep, none, false⟩ b = (4, m, ⟨ep, none, false⟩) := rfl
      rw [e1]
      have HD := Lib.hid hd
      have HS := Lib.hid hs
      clear hd hs hf hb hc e1 hv hcel hok hso
      go_enter Tryz.func14, Tryz.ntmps14
      go_wp2_with fail
      go_ret
      exact ⟨rfl, HD.out, HS.out, Chg.refl _ _ _⟩
    · obtain ⟨h1, h2⟩ := hf g rfl
      have hgb : g.broken = false := hso rfl g rfl
      have con3 := Segm.rappend_seg w B t d m g A n c b hd hsg hB htB h1 h2 hb hnc hc hok
      have e1 : appendT m ⟨ep, some g, false⟩ b = ((appendS m g b).1, (appendS m g b).2.1, ⟨ep, some (appendS m g b).2.2, !decide ((appendS m g b).1 = 0) && decide (n ≤ 9860)⟩) := by
        unfold appendT
        rw [if_neg (by simp)]
        dsimp only
        by_cases hl : n ≤ 9860
        · rw [if_neg (by omega), decide_eq_true hl, Bool.and_true]
        · rw [if_pos (by omega), decide_eq_false hl, Bool.and_false]
          have : appendS m g b = (3, m, g) := by unfold appendS; rw [hgb, if_neg (by simp), if_pos (by omega)]
          rw [this]
      rw [e1]
      generalize appendS m g b = x at *
      obtain ⟨e, m2, g2⟩ := x
      replace con3 : Calls Tryz.prog 44 #[.pointer (some ⟨t, 0, none⟩), .slice A n c] w fun r w' => r = .returned (.int .i64 e) ∧ Fk w' B d m2 ∧ Rg w' t d g2 ∧ Chg B Qob w w' := con3
      have HCEL := Lib.hid hcel
      have hnm : n ≤ maxLen := Nat.le_trans hnc hc
      unfold maxLen at hnm
      clear hd hs hf hb hc e1 hcel hsg h1 h2 hok hso hgb hv
      have hfin : ∀ (w1 : World) (x : Bool), Fk w1 B d m2 → Rg w1 t d g2 → Chg B Qob w w1 → UDid w B q d (e, m2, ⟨ep, some g2, x⟩) (.returned (.int .i64 e)) (w1.setCell ⟨q, 3, none⟩ (.bool x)) := fun w1 x h1 h2 h3 => by
        have c1 := rcel_qob HCEL.out h3
        have c2 := c1.set 3 (.bool x)
        have h5 : Chg B Uob w1 (w1.setCell ⟨q, 3, none⟩ (.bool x)) := (Chg.refl B Uob w1).set (p := ⟨q, 3, none⟩) _ (.inr ⟨hq, _, (show w1.heap[q]? = _ from c1), rfl⟩)
        exact ⟨rfl, Fk_uob h1 h5, ⟨_, c2, Rv7_uob (g := some g2) ⟨t, htB, rfl, h2⟩ h5⟩, (h3.mono (Nat.le_refl _) qob_utb).trans (h5.mono (Nat.le_refl _) uob_utb)⟩
      have hcl : ∀ w1, Chg B Qob w w1 → w1.cell? ⟨q, 3, none⟩ = some (.bool false) ∧ w1.frozen? ⟨q, 3, none⟩ = false := fun w1 h3 => ⟨(rcel_qob HCEL.out h3).cell 3, (rcel_qob HCEL.out h3).free 3⟩
      by_cases he0 : e = 0
      · subst he0
        go_enter Tryz.func14, Tryz.ntmps14
        go_wp2_with ((go_at_call 44; refine con3.mono ?_; rintro r w1 ⟨rfl, h1, h2, h3⟩; obtain ⟨k3', f3'⟩ := hcl w1 h3))
        go_ret
        exact hfin w1 _ h1 h2 h3
      · have d0 : (e == 0) = false := beq_eq_false_iff_ne.2 he0
        have d1 : (e != 0) = true := bne_iff_ne.2 he0
        rw [decide_eq_false he0]
        by_cases hl : n ≤ 9860
        · rw [decide_eq_true hl]
          have d2 : decide ((n : Int) ≤ 9860) = true := by simp; omega
          go_enter Tryz.func14, Tryz.ntmps14
          go_wp2_with ((go_at_call 44; refine con3.mono ?_; rintro r w1 ⟨rfl, h1, h2, h3⟩; obtain ⟨k3', f3'⟩ := hcl w1 h3))
          go_ret
          exact hfin w1 _ h1 h2 h3
        · rw [decide_eq_false hl]
          have d2 : decide ((n : Int) ≤ 9860) = false := by simp; omega
          go_enter Tryz.func14, Tryz.ntmps14
          go_wp2_with ((go_at_call 44; refine con3.mono ?_; rintro r w1 ⟨rfl, h1, h2, h3⟩; obtain ⟨k3', f3'⟩ := hcl w1 h3))
          go_ret
          exact hfin w1 _ h1 h2 h3
  · have e1 : appendT m ⟨ep, g, true⟩ b = (8, m, ⟨ep, g, true⟩) := rfl
    rw [e1]
    have HD := Lib.hid hd
    have HS := Lib.hid hs
    clear hd hs hf hb hc e1 hv hcel k2 hok hso
    go_enter Tryz.func14, Tryz.ntmps14
    go_wp2_with fail
    go_ret
    exact ⟨rfl, HD.out, HS.out, Chg.refl _ _ _⟩
set_option maxRecDepth 100000 in
set_option maxHeartbeats 1000000 in
/-- The document's Sync. -/
theorem rsync_call (w : World) (B q d : Nat) (s : St) (m : M) (hd : Fk w B d m) (hs : Rt w B q d s) (hB : B ≤ w.heap.size) (hq : B ≤ q) (hok : Ok m) (hi : Inv m) (hf : ∀ g, s.g = some g → -9223372036854775808 ≤ g.file ∧ g.file < 9223372036854775808) :
    Calls Tryz.prog 16 #[.pointer (some ⟨q, 0, none⟩)] w (UDid w B q d (syncT m s)) := by
  obtain ⟨ep, g, br⟩ := s
  have hcel := hs
  obtain ⟨v, hcel, hv⟩ := hcel
  dsimp only at hcel hv hf
  have k2 : w.cell? ⟨q, 2, none⟩ = some v := hcel.cell 2
  have k3 : w.cell? ⟨q, 3, none⟩ = some (.bool br) := hcel.cell 3
  cases br
  · rcases rsegVal v w B d g hv with ⟨rfl, rfl⟩ | ⟨g, t, rfl, rfl, htB, hsg⟩
    · have e1 : syncT m ⟨ep, none, false⟩ = (4, m, ⟨ep, none, false⟩) := rfl
      rw [e1]
      have HD := Lib.hid hd
      have HS := Lib.hid hs
      clear hd hs hf e1 hv hcel hok hi
      go_enter Tryz.func16, Tryz.ntmps16
      go_wp2_with fail
      go_ret
      exact ⟨rfl, HD.out, HS.out, Chg.refl _ _ _⟩
    · have con3 := Segm.rsync_seg w B t d m g hd hsg hB htB (hf g rfl) hok hi
      have e1 : syncT m ⟨ep, some g, false⟩ = ((syncS m g).1, (syncS m g).2.1, ⟨ep, some (syncS m g).2.2, !decide ((syncS m g).1 = 0)⟩) := rfl
      rw [e1]
      generalize syncS m g = x at *
      obtain ⟨e, m2, g2⟩ := x
      replace con3 : Calls Tryz.prog 46 #[.pointer (some ⟨t, 0, none⟩)] w fun r w' => r = .returned (.int .i64 e) ∧ Fk w' B d m2 ∧ Rg w' t d g2 ∧ Chg B Qob w w' := con3
      have HCEL := Lib.hid hcel
      clear hd hs hf e1 hcel hsg hok hi hv
      have hfin : ∀ (w1 : World) (x : Bool), Fk w1 B d m2 → Rg w1 t d g2 → Chg B Qob w w1 → UDid w B q d (e, m2, ⟨ep, some g2, x⟩) (.returned (.int .i64 e)) (w1.setCell ⟨q, 3, none⟩ (.bool x)) := fun w1 x h1 h2 h3 => by
        have c1 := rcel_qob HCEL.out h3
        have c2 := c1.set 3 (.bool x)
        have h5 : Chg B Uob w1 (w1.setCell ⟨q, 3, none⟩ (.bool x)) := (Chg.refl B Uob w1).set (p := ⟨q, 3, none⟩) _ (.inr ⟨hq, _, (show w1.heap[q]? = _ from c1), rfl⟩)
        exact ⟨rfl, Fk_uob h1 h5, ⟨_, c2, Rv7_uob (g := some g2) ⟨t, htB, rfl, h2⟩ h5⟩, (h3.mono (Nat.le_refl _) qob_utb).trans (h5.mono (Nat.le_refl _) uob_utb)⟩
      have hcl : ∀ w1, Chg B Qob w w1 → w1.cell? ⟨q, 3, none⟩ = some (.bool false) ∧ w1.frozen? ⟨q, 3, none⟩ = false := fun w1 h3 => ⟨(rcel_qob HCEL.out h3).cell 3, (rcel_qob HCEL.out h3).free 3⟩
      by_cases he0 : e = 0
      · subst he0
        go_enter Tryz.func16, Tryz.ntmps16
        go_wp2_with ((go_at_call 46; refine con3.mono ?_; rintro r w1 ⟨rfl, h1, h2, h3⟩; obtain ⟨k3', f3'⟩ := hcl w1 h3))
        go_ret
        exact hfin w1 _ h1 h2 h3
      · have d1 : (e != 0) = true := bne_iff_ne.2 he0
        rw [decide_eq_false he0]
        go_enter Tryz.func16, Tryz.ntmps16
        go_wp2_with ((go_at_call 46; refine con3.mono ?_; rintro r w1 ⟨rfl, h1, h2, h3⟩; obtain ⟨k3', f3'⟩ := hcl w1 h3))
        go_ret
        exact hfin w1 _ h1 h2 h3
  · have e1 : syncT m ⟨ep, g, true⟩ = (8, m, ⟨ep, g, true⟩) := rfl
    rw [e1]
    have HD := Lib.hid hd
    have HS := Lib.hid hs
    clear hd hs hf e1 hv hcel k2 hok hi
    go_enter Tryz.func16, Tryz.ntmps16
    go_wp2_with fail
    go_ret
    exact ⟨rfl, HD.out, HS.out, Chg.refl _ _ _⟩
end Go.Proofs.YtdaknfepcbooeaaGreat.Sto
end
