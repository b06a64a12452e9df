/-
  The program's segment: its state, and the calls of one sector.
  The program's segment: one sector written.
  The program's segment: Append.
-/
import Derived.Test.YtdaknfepcbooeaaGreatMPure
import Derived.Test.YtdaknfepcbooeaaGreatMSectorGet
import Derived.Test.YtdaknfepcbooeaaGreatMOrd
import Derived.Test.YtdaknfepcbooeaaGreatMFragC
import Derived.Test.YtdaknfepcbooeaaGreatMDiskC
section
namespace Go.Proofs.YtdaknfepcbooeaaGreat.Segm
open Go.RowKit
open Go.Proofs.YtdaknfepcbooeaaGreat.Frag (cut)
open Go.Proofs.YtdaknfepcbooeaaGreat.Disk (M Dk Chg Dob Bn Did append sync remove there)
open Go.Proofs.YtdaknfepcbooeaaGreat.Sector (partV)
set_option linter.unusedVariables false
set_option linter.unusedSimpArgs false

/-- Blocks that a segment is written in. -/
def Gob : Obj → Prop
  | .cells _ t _ => t = 120
  | _ => False
/-- Blocks that a disk's calls, or a segment's, write. -/
def Sob : Obj → Prop
  | .map _ _ => True
  | .cells _ t _ => t = 65 ∨ t = 126 ∨ t = 120
  | _ => False
/-- Blocks that a segment of the epoch is written in. -/
def GobE (ep : BitVec 32) : Obj → Prop
  | .cells cs t _ => t = 120 ∧ cs[3]? = some (v32 ep)
  | _ => False
/-- Blocks that a disk's calls, or those of a segment of the epoch, write. -/
def SobE (ep : BitVec 32) : Obj → Prop
  | .map _ _ => True
  | .cells cs t _ => t = 65 ∨ t = 126 ∨ (t = 120 ∧ cs[3]? = some (v32 ep))
  | _ => False
theorem dob_sobE {ep : BitVec 32} : ∀ o, Dob o → SobE ep o := by
  intro o h
  cases o with
  | map _ _ => trivial
  | cells _ t _ => exact h.imp id .inl
  | _ => exact h
theorem gobE_sobE {ep : BitVec 32} : ∀ o, GobE ep o → SobE ep o := by
  intro o h
  cases o with
  | cells _ t _ => exact .inr (.inr h)
  | _ => exact h.elim
theorem sobE_sob {ep : BitVec 32} : ∀ o, SobE ep o → Sob o := by
  intro o h
  cases o with
  | map _ _ => trivial
  | cells _ t _ => exact h.imp id (·.imp id (·.1))
  | _ => exact h
theorem dob_sob : ∀ o, Dob o → Sob o := by
  intro o h
  cases o with
  | map _ _ => trivial
  | cells _ t _ => exact h.imp id .inl
  | _ => exact h
theorem gob_sob : ∀ o, Gob o → Sob o := by
  intro o h
  cases o with
  | cells _ t _ => exact .inr (.inr h)
  | _ => exact h.elim
/-- The calls of the disk that a segment keeps. -/
abbrev addV (d : Nat) : Value := .func (.func 24) #[.pointer (some ⟨d, 0, none⟩)] #[]
abbrev syncV (d : Nat) : Value := .func (.func 73) #[.pointer (some ⟨d, 0, none⟩)] #[]
/-- The segment in block s is g, on the disk in block d. -/
def Sg (w : World) (s d : Nat) (g : Gm) : Prop :=
  Cel w s 120 [if g.broken then .nilFunc else addV d, if g.broken then .nilFunc else syncV d, .int .i64 g.file, v32 g.ep, .int .i64 (g.size : Int)]
theorem Sg.chg {B : Nat} {T : Obj → Prop} {w w' : World} {s d : Nat} {g : Gm} (h : Sg w s d g) (hc : Chg B T w w') (hT : ∀ cs fz, ¬ T (.cells cs 120 fz)) : Sg w' s d g := Disk.Cel.chg h hc (hT _ _)
theorem Sg.dob {B : Nat} {w w' : World} {s d : Nat} {g : Gm} (h : Sg w s d g) (hc : Chg B Dob w w') : Sg w' s d g := h.chg hc (by rintro cs fz (h | h) <;> revert h <;> decide)
theorem Sg.below {w w' : World} {s d : Nat} {g : Gm} (h : Sg w s d g) (hb : Below w.heap.size w w') : Sg w' s d g := h.chg (B := 0) (T := fun _ => False) (Chg.of_below hb) (fun _ _ h => h)
theorem Dk_gob {ep : BitVec 32} {B d : Nat} {m : M} {w w' : World} (h : Dk w B d m) (hc : Chg B (GobE ep) w w') : Dk w' B d m := by
  obtain ⟨b, vs, kv, h⟩ := h
  exact ⟨b, vs, kv, h.chg hc (by rintro cs t fz (rfl | rfl | rfl) h <;> (have h := h.1; revert h; decide)) (fun _ _ h => h)⟩

set_option maxRecDepth 100000 in
theorem isBroken_call (w : World) (s d : Nat) (g : Gm) (h : Sg w s d g) : Calls Tryz.prog 81 #[.pointer (some ⟨s, 0, none⟩)] w fun e w' => e = .returned (.bool g.broken) ∧ w = w' := by
  have h0 := h.cell 0
  clear h
  have q1 := fun w : World => run_eql_nil_nil_fn (P := Tryz.prog) w (t := 53) Tryz.underlying53
  have q2 := fun (w : World) (fn : Fn) (a b : Array Value) => run_eql_fn_nil (P := Tryz.prog) w (t := 53) Tryz.underlying53 fn a b
  cases hb : g.broken <;> rw [hb] at h0 <;> clear hb
  · have h1 : w.cell? ⟨s, 0, none⟩ = some (addV d) := h0
    clear h0
    go_enter Tryz.func81, Tryz.ntmps81
    go_wp2_with fail
    go_ret
    exact ⟨rfl, rfl⟩
  · have h1 : w.cell? ⟨s, 0, none⟩ = some .nilFunc := h0
    clear h0
    go_enter Tryz.func81, Tryz.ntmps81
    go_wp2_with fail
    go_ret
    exact ⟨rfl, rfl⟩
set_option maxRecDepth 100000 in
theorem isBroken_nil (w : World) : Calls Tryz.prog 81 #[.pointer none] w fun e w' => e = .returned (.bool true) ∧ w = w' := by
  go_enter Tryz.func81, Tryz.ntmps81
  go_wp2_with fail
  go_ret
  exact ⟨rfl, rfl⟩
set_option maxRecDepth 100000 in
theorem size_call (w : World) (s d : Nat) (g : Gm) (h : Sg w s d g) : Calls Tryz.prog 57 #[.pointer (some ⟨s, 0, none⟩)] w fun e w' => e = .returned (.int .i64 (g.size : Int)) ∧ w = w' := by
  have h4 := h.cell 4
  have h5 : w.cell? ⟨s, 4, none⟩ = some (.int .i64 (g.size : Int)) := h4
  clear h h4
  go_enter Tryz.func57, Tryz.ntmps57
  go_wp2_with fail
  go_ret
  exact ⟨rfl, rfl⟩
set_option maxRecDepth 100000 in
theorem heed_ok (w : World) (s : Nat) : Calls Tryz.prog 85 #[.pointer (some ⟨s, 0, none⟩), .int .i64 0] w fun e w' => e = .returned (.int .i64 0) ∧ w = w' := by
  go_enter Tryz.func85, Tryz.ntmps85
  go_wp2_with fail
  go_ret
  exact ⟨rfl, rfl⟩
set_option maxRecDepth 100000 in
theorem heed_bad (w : World) (B s d : Nat) (g : Gm) (e : Int) (he : e ≠ 0) (h : Sg w s d g) (hs : B ≤ s) : Calls Tryz.prog 85 #[.pointer (some ⟨s, 0, none⟩), .int .i64 e] w fun r w' => r = .returned (.int .i64 e) ∧ Sg w' s d { g with broken := true } ∧ Chg B (GobE g.ep) w w' := by
  have d1 : (e == 0) = false := beq_eq_false_iff_ne.2 he
  have k0 : ∃ v, w.cell? ⟨s, 0, none⟩ = some v := ⟨_, h.cell 0⟩
  have k1 : ∃ v, w.cell? ⟨s, 1, none⟩ = some v := ⟨_, h.cell 1⟩
  obtain ⟨v0, k0⟩ := k0
  obtain ⟨v1, k1⟩ := k1
  have f0 := h.free 0
  have f1 := h.free 1
  have h2 := (h.set 0 .nilFunc).set 1 .nilFunc
  have hc : Chg B (GobE g.ep) w ((w.setCell ⟨s, 0, none⟩ .nilFunc).setCell ⟨s, 1, none⟩ .nilFunc) :=
    ((Chg.refl B (GobE g.ep) w).set (p := ⟨s, 0, none⟩) .nilFunc (.inr ⟨hs, _, (show w.heap[s]? = _ from h), rfl, rfl⟩)).set (p := ⟨s, 1, none⟩) .nilFunc (.inr ⟨hs, _, (show (w.setCell ⟨s, 0, none⟩ .nilFunc).heap[s]? = _ from h.set 0 .nilFunc), rfl, rfl⟩)
  have H2 := Lib.hid h2
  have HC := Lib.hid hc
  clear h h2 hc he
  go_enter Tryz.func85, Tryz.ntmps85
  go_wp2_with fail
  go_ret
  exact ⟨rfl, H2.out, HC.out⟩

/-- The answer of a segment's call, and what the disk and the segment are then. -/
def SDid (w : World) (B s d : Nat) (x : Int × M × Gm) (r : Ending) (w' : World) : Prop := r = .returned (.int .i64 x.1) ∧ Dk w' B d x.2.1 ∧ Sg w' s d x.2.2 ∧ Chg B Sob w w'
/-- The same, told also that no segment of another epoch was written. -/
def SDidE (w : World) (B s d : Nat) (x : Int × M × Gm) (r : Ending) (w' : World) : Prop := r = .returned (.int .i64 x.1) ∧ Dk w' B d x.2.1 ∧ Sg w' s d x.2.2 ∧ Chg B (SobE x.2.2.ep) w w'
theorem SDidE.old {w : World} {B s d : Nat} {x : Int × M × Gm} {r : Ending} {w' : World} (h : SDidE w B s d x r w') : SDid w B s d x r w' := ⟨h.1, h.2.1, h.2.2.1, h.2.2.2.mono (Nat.le_refl _) sobE_sob⟩
end Go.Proofs.YtdaknfepcbooeaaGreat.Segm
end

section
namespace Go.Proofs.YtdaknfepcbooeaaGreat.Segm
open Go.RowKit
open Go.Proofs.YtdaknfepcbooeaaGreat.Frag (cut)
open Go.Proofs.YtdaknfepcbooeaaGreat.Disk (M Dk Chg Dob Bn Did append sync remove there)
open Go.Proofs.YtdaknfepcbooeaaGreat.Sector (partV)
open Go.Proofs.YtdaknfepcbooeaaGreat.Ord
set_option linter.unusedVariables false
set_option linter.unusedSimpArgs false

/-- The bytes of a sector that Put made, as what the disk's Append takes. -/
theorem img_bn {w : World} {B q : Nat} {b : List (BitVec 8)} (h : Cel w q 157 (b.map v8)) (hl : b.length = 512) : Bn w B (some ⟨q, 0, none⟩) 512 b :=
  ⟨hl, fun _ => ⟨_, _, rfl, h, .inr (by rintro (h | h) <;> revert h <;> decide), fun j hj => by
    rw [Addr.add_lit, Nat.zero_add, h.cell j, List.getElem?_map, List.getElem?_eq_getElem (by rw [hl]; exact hj), List.getD_eq_getElem?_getD, List.getElem?_eq_getElem (by rw [hl]; exact hj)]
    rfl⟩⟩

set_option maxRecDepth 100000 in
set_option maxHeartbeats 4000000 in
theorem write_call (w : World) (B s d : Nat) (m : M) (gf : Int) (ge : BitVec 32) (z : Nat) (p : Frag.Pt) (A : Option Addr) (n c : Nat) (hd : Dk w B d m) (hg : Sg w s d ⟨gf, ge, z, false⟩) (hB : B ≤ w.heap.size) (hs : B ≤ s) (hf : gf < 9223372036854775808) (hz : z < 9000000000000000000)
    (hp : (toS p).may = true) (hb : Bs w w.heap.size A n p.body) :
    Calls Tryz.prog 83 #[.pointer (some ⟨s, 0, none⟩), partV p.epoch p.seq p.flags A n c] w (SDidE w B s d (wr1 m ⟨gf, ge, z, false⟩ (secP p))) := by
  have HD := Lib.hid hd
  have HG := Lib.hid hg
  have HP := Lib.hid hp
  have HLB := Lib.hid hb
  have hsl : s < w.heap.size := Cel.lt hg
  have hnb := hb.len
  have C0 := Lib.hid (Cel.new w 121 [v32 p.epoch, v32 p.seq, .int .i64 p.flags, .slice A n c])
  clear hd hg hp hb
  go_enter Tryz.func83, Tryz.ntmps83
  have hb0 : Below w.heap.size w (w.alloc (.cells #[v32 p.epoch, v32 p.seq, .int .i64 p.flags, .slice A n c] 121)) := (Below.refl _ _).alloc (Nat.le_refl _) _
  have hsz0 : (w.alloc (.cells #[v32 p.epoch, v32 p.seq, .int .i64 p.flags, .slice A n c] 121)).heap.size = w.heap.size + 1 := by simp
  have HB0 := Lib.hid hb0
  have k0 := C0.out.cell 0
  have k1 := C0.out.cell 1
  have k2 := C0.out.cell 2
  have k3 := C0.out.cell 3
  clear hb0
  go_wp2_with fail
  have con := Sector.put_yes (toS p) w.heap.size A n c (w.alloc (.cells #[v32 p.epoch, v32 p.seq, .int .i64 p.flags, .slice A n c] 121)) (HLB.out.below HB0.out) (by omega) HP.out
  refine con.mono ?_
  clear con
  rintro r w1 ⟨q, rfl, hq, hc1, hb1⟩
  have hB1 : Below w.heap.size w w1 := HB0.out.trans (hb1.mono (by omega))
  have HB1 := Lib.hid hB1
  have HC1 := Lib.hid hc1
  have HD1 := Lib.hid (HD.out.below hB1)
  have HG1 := Lib.hid (HG.out.below hB1)
  have hs1 : w.heap.size + 1 ≤ w1.heap.size := by have := hb1.size; omega
  clear hb1 hc1 hB1 k0 k1 k2 k3
  go_wp2_with fail
  have hcl : ∀ V, Chg B Dob w1 V → V.cell? ⟨s, 0, none⟩ = some (addV d) ∧ V.cell? ⟨s, 1, none⟩ = some (syncV d) ∧ V.cell? ⟨s, 2, none⟩ = some (.int .i64 gf) := fun V hV => by
    have h := HG1.out.dob hV
    exact ⟨h.cell 0, h.cell 1, h.cell 2⟩
  refine wp_region_N [11, 12] (Chg B Dob w1) (by kernel_rfl) ?_
  have hH : Chg B Dob w1 w1.drew := (Chg.refl B Dob w1).drew
  refine wpAnyN_take (i := 0) (v := .pointer (some ⟨s, 0, none⟩)) [11, 12] (by kernel_rfl) rfl (by kernel_rfl) (by kernel_rfl) (by kernel_rfl) (fun _ _ _ h => h) (Or.inl ⟨by rfl, ?_⟩) hH ?_
  · intro V hV; go_simp
  try simp only [Act.put, List.setIfInBounds_toArray, List.set_cons_zero, List.set_cons_succ, List.getElem_toArray, List.getElem_cons_succ, List.getElem_cons_zero]
  refine wpAnyN_take (i := 1) (v := .pointer (some ⟨s, 0, none⟩)) [2, 3, 4, 10, 11, 12] (by kernel_rfl) rfl (by kernel_rfl) (by kernel_rfl) (by kernel_rfl) (fun _ _ _ h => h) (Or.inl ⟨by rfl, ?_⟩) hH ?_
  · intro V hV; go_simp
  try simp only [Act.put, List.setIfInBounds_toArray, List.set_cons_zero, List.set_cons_succ, List.getElem_toArray, List.getElem_cons_succ, List.getElem_cons_zero]
  refine wpAnyN_take (i := 2) (v := .pointer (some ⟨s, 0, none⟩)) [3, 4, 10, 11, 12] (by kernel_rfl) rfl (by kernel_rfl) (by kernel_rfl) (by kernel_rfl) (fun _ _ _ h => h) (Or.inl ⟨by rfl, ?_⟩) hH ?_
  · intro V hV; go_simp
  try simp only [Act.put, List.setIfInBounds_toArray, List.set_cons_zero, List.set_cons_succ, List.getElem_toArray, List.getElem_cons_succ, List.getElem_cons_zero]
  refine wpAnyN_take (i := 3) (v := .pointer (some ⟨s, 0, none⟩)) [4, 10, 11, 12] (by kernel_rfl) rfl (by kernel_rfl) (by kernel_rfl) (by kernel_rfl) (fun _ _ _ h => h) (Or.inl ⟨by rfl, ?_⟩) hH ?_
  · intro V hV; go_simp
  try simp only [Act.put, List.setIfInBounds_toArray, List.set_cons_zero, List.set_cons_succ, List.getElem_toArray, List.getElem_cons_succ, List.getElem_cons_zero]
  refine wpAnyN_take (i := 4) (v := addV d) [10, 11, 12] (by kernel_rfl) rfl (by kernel_rfl) (by kernel_rfl) (by kernel_rfl) (fun _ _ _ h => h) (Or.inl ⟨by rfl, ?_⟩) hH ?_
  · intro V hV; obtain ⟨k0, k1, k2⟩ := hcl V hV; go_simp
  try simp only [Act.put, List.setIfInBounds_toArray, List.set_cons_zero, List.set_cons_succ, List.getElem_toArray, List.getElem_cons_succ, List.getElem_cons_zero]
  refine wpAnyN_take (i := 5) (v := .pointer (some ⟨s, 0, none⟩)) [6, 7, 8, 10, 11, 12] (by kernel_rfl) rfl (by kernel_rfl) (by kernel_rfl) (by kernel_rfl) (fun _ _ _ h => h) (Or.inl ⟨by rfl, ?_⟩) hH ?_
  · intro V hV; go_simp
  try simp only [Act.put, List.setIfInBounds_toArray, List.set_cons_zero, List.set_cons_succ, List.getElem_toArray, List.getElem_cons_succ, List.getElem_cons_zero]
  refine wpAnyN_take (i := 6) (v := .pointer (some ⟨s, 0, none⟩)) [7, 8, 10, 11, 12] (by kernel_rfl) rfl (by kernel_rfl) (by kernel_rfl) (by kernel_rfl) (fun _ _ _ h => h) (Or.inl ⟨by rfl, ?_⟩) hH ?_
  · intro V hV; go_simp
  try simp only [Act.put, List.setIfInBounds_toArray, List.set_cons_zero, List.set_cons_succ, List.getElem_toArray, List.getElem_cons_succ, List.getElem_cons_zero]
  refine wpAnyN_take (i := 7) (v := .pointer (some ⟨s, 2, none⟩)) [8, 10, 11, 12] (by kernel_rfl) rfl (by kernel_rfl) (by kernel_rfl) (by kernel_rfl) (fun _ _ _ h => h) (Or.inl ⟨by rfl, ?_⟩) hH ?_
  · intro V hV; go_simp
  try simp only [Act.put, List.setIfInBounds_toArray, List.set_cons_zero, List.set_cons_succ, List.getElem_toArray, List.getElem_cons_succ, List.getElem_cons_zero]
  refine wpAnyN_take (i := 8) (v := .int .i64 gf) [10, 11, 12] (by kernel_rfl) rfl (by kernel_rfl) (by kernel_rfl) (by kernel_rfl) (fun _ _ _ h => h) (Or.inl ⟨by rfl, ?_⟩) hH ?_
  · intro V hV; obtain ⟨k0, k1, k2⟩ := hcl V hV; go_simp
  try simp only [Act.put, List.setIfInBounds_toArray, List.set_cons_zero, List.set_cons_succ, List.getElem_toArray, List.getElem_cons_succ, List.getElem_cons_zero]
  refine wpAnyN_take (i := 9) (v := .slice (some ⟨q, 0, none⟩) 512 512) [10, 11, 12] (by kernel_rfl) rfl (by kernel_rfl) (by kernel_rfl) (by kernel_rfl) (fun _ _ _ h => h) (Or.inl ⟨by rfl, ?_⟩) hH ?_
  · intro V hV; go_simp
  try simp only [Act.put, List.setIfInBounds_toArray, List.set_cons_zero, List.set_cons_succ, List.getElem_toArray, List.getElem_cons_succ, List.getElem_cons_zero]
  refine wpAnyN_one (i := 10) (by kernel_rfl) rfl (fun K hK => ?_)
  go_simp
  have con := Disk.append_call w1.drew B d m gf (some ⟨q, 0, none⟩) 512 512 (secP p) (HD1.out.below (Below.refl _ _).drew) (by have := HB1.out.size; simp; omega) hf (img_bn HC1.out (secP_len HP.out)) (fun ad e => by cases e; exact ⟨_, _, rfl⟩) (by unfold maxLen; omega)
  refine con.mono ?_
  clear con
  obtain ⟨e, he⟩ : ∃ e, (append m gf (secP p)).1 = e := ⟨_, rfl⟩
  obtain ⟨m2, hm2⟩ : ∃ m2, (append m gf (secP p)).2 = m2 := ⟨_, rfl⟩
  rintro r w2 ⟨rfl, hd2, hc2⟩
  rw [hm2] at hd2
  rw [he]
  have hc2' : Chg B Dob w1 w2 := hH.trans hc2
  have HE := Lib.hid he
  have HM2 := Lib.hid hm2
  have HD2 := Lib.hid hd2
  have HC2 := Lib.hid hc2'
  have HG2 := Lib.hid (HG1.out.dob hc2')
  clear hd2 hc2 he hm2
  go_wp2_with fail
  refine hK.out _ _ (.inr hc2') ?_
  clear hK K hc2' hcl hH
  try simp only [Act.put, List.setIfInBounds_toArray, List.set_cons_zero, List.set_cons_succ, List.getElem_toArray, List.getElem_cons_succ, List.getElem_cons_zero]
  by_cases he0 : e = 0
  · subst he0
    refine wpAnyN_one (i := 11) (by kernel_rfl) rfl (fun K hK => ?_)
    go_simp
    refine (heed_ok w2 s).mono ?_
    rintro r w3 ⟨rfl, rfl⟩
    go_wp2_with fail
    refine hK.out _ _ (.inl (by decide)) ?_
    clear hK K
    try simp only [Act.put, List.setIfInBounds_toArray, List.set_cons_zero, List.set_cons_succ, List.getElem_toArray, List.getElem_cons_succ, List.getElem_cons_zero]
    refine wpAnyN_one (i := 12) (by kernel_rfl) rfl (fun K hK => ?_)
    go_simp
    refine hK.out _ _ (.inl (by decide)) ?_
    clear hK K
    try simp only [Act.put, List.setIfInBounds_toArray, List.set_cons_zero, List.set_cons_succ, List.getElem_toArray, List.getElem_cons_succ, List.getElem_cons_zero]
    refine wpAnyN_done (by kernel_rfl) ?_ _
    have k4 : w2.cell? ⟨s, 4, none⟩ = some (.int .i64 (z : Int)) := HG2.out.cell 4
    have f4 := HG2.out.free 4
    simp only [Exit.then]
    go_wp2_with fail
    go_ret
    have hw : wr1 m ⟨gf, ge, z, false⟩ (secP p) = (0, m2, ⟨gf, ge, z + 1, false⟩) := by rw [wr1_ok HE.out, HM2.out]
    rw [hw]
    have h3 : Chg B (GobE ge) w2 (w2.setCell ⟨s, 4, none⟩ (.int .i64 ((z : Int) + 1))) := (Chg.refl B (GobE ge) w2).set (p := ⟨s, 4, none⟩) _ (.inr ⟨hs, _, (show w2.heap[s]? = _ from HG2.out), rfl, rfl⟩)
    exact ⟨rfl, Dk_gob HD2.out h3, HG2.out.set 4 _, ((Chg.of_below HB1.out).trans (HC2.out.mono (Nat.le_refl _) dob_sobE)).trans (h3.mono (Nat.le_refl _) gobE_sobE)⟩
  · have d0 : (e == 0) = false := beq_eq_false_iff_ne.2 he0
    refine wpAnyN_one (i := 11) (by kernel_rfl) rfl (fun K hK => ?_)
    go_simp
    refine (heed_bad w2 B s d ⟨gf, ge, z, false⟩ e he0 HG2.out hs).mono ?_
    rintro r w3 ⟨rfl, hg3, hc3⟩
    have HG3 := Lib.hid hg3
    have HC3 := Lib.hid hc3
    clear hg3 hc3
    go_wp2_with fail
    refine hK.out _ _ (.inl (by decide)) ?_
    clear hK K
    try simp only [Act.put, List.setIfInBounds_toArray, List.set_cons_zero, List.set_cons_succ, List.getElem_toArray, List.getElem_cons_succ, List.getElem_cons_zero]
    refine wpAnyN_one (i := 12) (by kernel_rfl) rfl (fun K hK => ?_)
    go_simp
    refine hK.out _ _ (.inl (by decide)) ?_
    clear hK K
    try simp only [Act.put, List.setIfInBounds_toArray, List.set_cons_zero, List.set_cons_succ, List.getElem_toArray, List.getElem_cons_succ, List.getElem_cons_zero]
    refine wpAnyN_done (by kernel_rfl) ?_ _
    simp only [Exit.then]
    go_wp2_with fail
    go_ret
    have hw : wr1 m ⟨gf, ge, z, false⟩ (secP p) = (e, m2, ⟨gf, ge, z, true⟩) := by rw [wr1_bad (by rw [HE.out]; exact he0), HM2.out, HE.out]
    rw [hw]
    exact ⟨rfl, Dk_gob HD2.out HC3.out, HG3.out, ((Chg.of_below HB1.out).trans (HC2.out.mono (Nat.le_refl _) dob_sobE)).trans (HC3.out.mono (Nat.le_refl _) gobE_sobE)⟩

/-- The program's Sync. -/
theorem sync_broken (w : World) (B s d : Nat) (m : M) (g : Gm) (hd : Dk w B d m) (hg : Sg w s d g) (hbr : g.broken = true) :
    Calls Tryz.prog 45 #[.pointer (some ⟨s, 0, none⟩)] w (SDidE w B s d (syncS m g)) := by
  have con := isBroken_call w s d g hg
  rw [hbr] at con
  have hw : syncS m g = (8, m, g) := by unfold syncS; rw [hbr]; rfl
  rw [hw]
  have HD := Lib.hid hd
  have HG := Lib.hid hg
  clear hd hg hbr hw
  go_enter Tryz.func45, Tryz.ntmps45
  go_wp2_with ((go_at_call 81; refine con.mono ?_; rintro e w' ⟨rfl, rfl⟩))
  go_ret
  exact ⟨rfl, HD.out, HG.out, Chg.refl _ _ _⟩
theorem sync_none (w : World) (B s d : Nat) (m : M) (g : Gm) (hd : Dk w B d m) (hg : Sg w s d g) (hbr : g.broken = false) (hz : g.size = 0) :
    Calls Tryz.prog 45 #[.pointer (some ⟨s, 0, none⟩)] w (SDidE w B s d (syncS m g)) := by
  have con := isBroken_call w s d g hg
  rw [hbr] at con
  have hw : syncS m g = (0, m, g) := by unfold syncS; rw [hbr, if_neg (by simp), if_pos hz]
  rw [hw]
  have k4 : w.cell? ⟨s, 4, none⟩ = some (.int .i64 0) := by have := hg.cell 4; rw [hz] at this; exact this
  have HD := Lib.hid hd
  have HG := Lib.hid hg
  clear hd hg hbr hw hz
  go_enter Tryz.func45, Tryz.ntmps45
  go_wp2_with ((go_at_call 81; refine con.mono ?_; rintro e w' ⟨rfl, rfl⟩))
  go_ret
  exact ⟨rfl, HD.out, HG.out, Chg.refl _ _ _⟩
set_option maxRecDepth 100000 in
set_option maxHeartbeats 4000000 in
theorem sync_goes (w : World) (B s d : Nat) (m : M) (gf : Int) (ge : BitVec 32) (z : Nat) (hd : Dk w B d m) (hg : Sg w s d ⟨gf, ge, z, false⟩) (hB : B ≤ w.heap.size) (hs : B ≤ s) (hf : -9223372036854775808 ≤ gf ∧ gf < 9223372036854775808) (hz : 0 < z) :
    Calls Tryz.prog 45 #[.pointer (some ⟨s, 0, none⟩)] w (SDidE w B s d (syncS m ⟨gf, ge, z, false⟩)) := by
  have con := isBroken_call w s d _ hg
  dsimp only at con
  have hw : syncS m ⟨gf, ge, z, false⟩ = ((sync m gf).1, (sync m gf).2, ⟨gf, ge, z, !decide ((sync m gf).1 = 0)⟩) := by unfold syncS; rw [if_neg (by simp), if_neg (by dsimp only; omega)]
  rw [hw]
  have k4 : w.cell? ⟨s, 4, none⟩ = some (.int .i64 (z : Int)) := hg.cell 4
  have d4 : ((z : Int) == 0) = false := beq_eq_false_iff_ne.2 (by omega)
  have HD := Lib.hid hd
  have HG := Lib.hid hg
  have hcl : ∀ V, Chg B Dob w V → V.cell? ⟨s, 0, none⟩ = some (addV d) ∧ V.cell? ⟨s, 1, none⟩ = some (syncV d) ∧ V.cell? ⟨s, 2, none⟩ = some (.int .i64 gf) := fun V hV => by
    have h := HG.out.dob hV
    exact ⟨h.cell 0, h.cell 1, h.cell 2⟩
  clear hd hg hw
  go_enter Tryz.func45, Tryz.ntmps45
  go_wp2_with ((go_at_call 81; refine con.mono ?_; rintro e w' ⟨rfl, rfl⟩))
  clear con k4 d4
  refine wp_region_N [10, 11] (Chg B Dob w) (by kernel_rfl) ?_
  have hH : Chg B Dob w w.drew := (Chg.refl B Dob w).drew
  refine wpAnyN_take (i := 0) (v := .pointer (some ⟨s, 0, none⟩)) [10, 11] (by kernel_rfl) rfl (by kernel_rfl) (by kernel_rfl) (by kernel_rfl) (fun _ _ _ h => h) (Or.inl ⟨by rfl, ?_⟩) hH ?_
  · intro V hV; go_simp
  try simp only [Act.put, List.setIfInBounds_toArray, List.set_cons_zero, List.set_cons_succ, List.getElem_toArray, List.getElem_cons_succ, List.getElem_cons_zero]
  refine wpAnyN_take (i := 1) (v := .pointer (some ⟨s, 0, none⟩)) [2, 3, 4, 9, 10, 11] (by kernel_rfl) rfl (by kernel_rfl) (by kernel_rfl) (by kernel_rfl) (fun _ _ _ h => h) (Or.inl ⟨by rfl, ?_⟩) hH ?_
  · intro V hV; go_simp
  try simp only [Act.put, List.setIfInBounds_toArray, List.set_cons_zero, List.set_cons_succ, List.getElem_toArray, List.getElem_cons_succ, List.getElem_cons_zero]
  refine wpAnyN_take (i := 2) (v := .pointer (some ⟨s, 0, none⟩)) [3, 4, 9, 10, 11] (by kernel_rfl) rfl (by kernel_rfl) (by kernel_rfl) (by kernel_rfl) (fun _ _ _ h => h) (Or.inl ⟨by rfl, ?_⟩) hH ?_
  · intro V hV; go_simp
  try simp only [Act.put, List.setIfInBounds_toArray, List.set_cons_zero, List.set_cons_succ, List.getElem_toArray, List.getElem_cons_succ, List.getElem_cons_zero]
  refine wpAnyN_take (i := 3) (v := .pointer (some ⟨s, 1, none⟩)) [4, 9, 10, 11] (by kernel_rfl) rfl (by kernel_rfl) (by kernel_rfl) (by kernel_rfl) (fun _ _ _ h => h) (Or.inl ⟨by rfl, ?_⟩) hH ?_
  · intro V hV; go_simp
  try simp only [Act.put, List.setIfInBounds_toArray, List.set_cons_zero, List.set_cons_succ, List.getElem_toArray, List.getElem_cons_succ, List.getElem_cons_zero]
  refine wpAnyN_take (i := 4) (v := syncV d) [9, 10, 11] (by kernel_rfl) rfl (by kernel_rfl) (by kernel_rfl) (by kernel_rfl) (fun _ _ _ h => h) (Or.inl ⟨by rfl, ?_⟩) hH ?_
  · intro V hV; obtain ⟨k0, k1, k2⟩ := hcl V hV; go_simp
  try simp only [Act.put, List.setIfInBounds_toArray, List.set_cons_zero, List.set_cons_succ, List.getElem_toArray, List.getElem_cons_succ, List.getElem_cons_zero]
  refine wpAnyN_take (i := 5) (v := .pointer (some ⟨s, 0, none⟩)) [6, 7, 8, 9, 10, 11] (by kernel_rfl) rfl (by kernel_rfl) (by kernel_rfl) (by kernel_rfl) (fun _ _ _ h => h) (Or.inl ⟨by rfl, ?_⟩) hH ?_
  · intro V hV; go_simp
  try simp only [Act.put, List.setIfInBounds_toArray, List.set_cons_zero, List.set_cons_succ, List.getElem_toArray, List.getElem_cons_succ, List.getElem_cons_zero]
  refine wpAnyN_take (i := 6) (v := .pointer (some ⟨s, 0, none⟩)) [7, 8, 9, 10, 11] (by kernel_rfl) rfl (by kernel_rfl) (by kernel_rfl) (by kernel_rfl) (fun _ _ _ h => h) (Or.inl ⟨by rfl, ?_⟩) hH ?_
  · intro V hV; go_simp
  try simp only [Act.put, List.setIfInBounds_toArray, List.set_cons_zero, List.set_cons_succ, List.getElem_toArray, List.getElem_cons_succ, List.getElem_cons_zero]
  refine wpAnyN_take (i := 7) (v := .pointer (some ⟨s, 2, none⟩)) [8, 9, 10, 11] (by kernel_rfl) rfl (by kernel_rfl) (by kernel_rfl) (by kernel_rfl) (fun _ _ _ h => h) (Or.inl ⟨by rfl, ?_⟩) hH ?_
  · intro V hV; go_simp
  try simp only [Act.put, List.setIfInBounds_toArray, List.set_cons_zero, List.set_cons_succ, List.getElem_toArray, List.getElem_cons_succ, List.getElem_cons_zero]
  refine wpAnyN_take (i := 8) (v := .int .i64 gf) [9, 10, 11] (by kernel_rfl) rfl (by kernel_rfl) (by kernel_rfl) (by kernel_rfl) (fun _ _ _ h => h) (Or.inl ⟨by rfl, ?_⟩) hH ?_
  · intro V hV; obtain ⟨k0, k1, k2⟩ := hcl V hV; go_simp
  try simp only [Act.put, List.setIfInBounds_toArray, List.set_cons_zero, List.set_cons_succ, List.getElem_toArray, List.getElem_cons_succ, List.getElem_cons_zero]
  refine wpAnyN_one (i := 9) (by kernel_rfl) rfl (fun K hK => ?_)
  go_simp
  have con := Disk.sync_call w.drew B d m gf hf (HD.out.below (Below.refl _ _).drew) (by simp; exact hB)
  refine con.mono ?_
  clear con
  obtain ⟨e, he⟩ : ∃ e, (sync m gf).1 = e := ⟨_, rfl⟩
  obtain ⟨m2, hm2⟩ : ∃ m2, (sync m gf).2 = m2 := ⟨_, rfl⟩
  rintro r w2 ⟨rfl, hd2, hc2⟩
  rw [hm2] at hd2
  rw [he]
  have hc2' : Chg B Dob w w2 := hH.trans hc2
  have HM2 := Lib.hid hm2
  have HD2 := Lib.hid hd2
  have HC2 := Lib.hid hc2'
  have HG2 := Lib.hid (HG.out.dob hc2')
  have HRW := Lib.hid (show ((sync m gf).1, (sync m gf).2, (⟨gf, ge, z, !decide ((sync m gf).1 = 0)⟩ : Gm)) = (e, m2, ⟨gf, ge, z, !decide (e = 0)⟩) from by rw [he, hm2])
  try rw [he]
  clear hd2 hc2 he hm2
  go_wp2_with fail
  refine hK.out _ _ (.inr hc2') ?_
  clear hK K hc2' hcl hH
  try simp only [Act.put, List.setIfInBounds_toArray, List.set_cons_zero, List.set_cons_succ, List.getElem_toArray, List.getElem_cons_succ, List.getElem_cons_zero]
  by_cases he0 : e = 0
  · subst he0
    refine wpAnyN_one (i := 10) (by kernel_rfl) rfl (fun K hK => ?_)
    go_simp
    refine (heed_ok w2 s).mono ?_
    rintro r w3 ⟨rfl, rfl⟩
    go_wp2_with fail
    refine hK.out _ _ (.inl (by decide)) ?_
    clear hK K
    try simp only [Act.put, List.setIfInBounds_toArray, List.set_cons_zero, List.set_cons_succ, List.getElem_toArray, List.getElem_cons_succ, List.getElem_cons_zero]
    refine wpAnyN_one (i := 11) (by kernel_rfl) rfl (fun K hK => ?_)
    go_simp
    refine hK.out _ _ (.inl (by decide)) ?_
    clear hK K
    try simp only [Act.put, List.setIfInBounds_toArray, List.set_cons_zero, List.set_cons_succ, List.getElem_toArray, List.getElem_cons_succ, List.getElem_cons_zero]
    refine wpAnyN_done (by kernel_rfl) ?_ _
    simp only [Exit.then]
    go_wp2_with fail
    go_ret
    try rw [HRW.out]
    exact ⟨rfl, HD2.out, HG2.out, HC2.out.mono (Nat.le_refl _) dob_sobE⟩
  · have d0 : (e == 0) = false := beq_eq_false_iff_ne.2 he0
    refine wpAnyN_one (i := 10) (by kernel_rfl) rfl (fun K hK => ?_)
    go_simp
    refine (heed_bad w2 B s d ⟨gf, ge, z, false⟩ e he0 HG2.out hs).mono ?_
    rintro r w3 ⟨rfl, hg3, hc3⟩
    have HG3 := Lib.hid hg3
    have HC3 := Lib.hid hc3
    clear hg3 hc3
    go_wp2_with fail
    refine hK.out _ _ (.inl (by decide)) ?_
    clear hK K
    try simp only [Act.put, List.setIfInBounds_toArray, List.set_cons_zero, List.set_cons_succ, List.getElem_toArray, List.getElem_cons_succ, List.getElem_cons_zero]
    refine wpAnyN_one (i := 11) (by kernel_rfl) rfl (fun K hK => ?_)
    go_simp
    refine hK.out _ _ (.inl (by decide)) ?_
    clear hK K
    try simp only [Act.put, List.setIfInBounds_toArray, List.set_cons_zero, List.set_cons_succ, List.getElem_toArray, List.getElem_cons_succ, List.getElem_cons_zero]
    refine wpAnyN_done (by kernel_rfl) ?_ _
    simp only [Exit.then]
    go_wp2_with fail
    go_ret
    try rw [HRW.out]
    rw [decide_eq_false he0]
    exact ⟨rfl, Dk_gob HD2.out HC3.out, HG3.out, (HC2.out.mono (Nat.le_refl _) dob_sobE).trans (HC3.out.mono (Nat.le_refl _) gobE_sobE)⟩
theorem sync_segE (w : World) (B s d : Nat) (m : M) (g : Gm) (hd : Dk w B d m) (hg : Sg w s d g) (hB : B ≤ w.heap.size) (hs : B ≤ s) (hf : -9223372036854775808 ≤ g.file ∧ g.file < 9223372036854775808) :
    Calls Tryz.prog 45 #[.pointer (some ⟨s, 0, none⟩)] w (SDidE w B s d (syncS m g)) := by
  cases hb : g.broken
  · by_cases hz : g.size = 0
    · exact sync_none w B s d m g hd hg hb hz
    · obtain ⟨gf, ge, z, br⟩ := g
      dsimp only at hb
      subst hb
      exact sync_goes w B s d m gf ge z hd hg hB hs hf (by dsimp only at hz; omega)
  · exact sync_broken w B s d m g hd hg hb
theorem sync_seg (w : World) (B s d : Nat) (m : M) (g : Gm) (hd : Dk w B d m) (hg : Sg w s d g) (hB : B ≤ w.heap.size) (hs : B ≤ s) (hf : -9223372036854775808 ≤ g.file ∧ g.file < 9223372036854775808) :
    Calls Tryz.prog 45 #[.pointer (some ⟨s, 0, none⟩)] w (SDid w B s d (syncS m g)) :=
  (sync_segE w B s d m g hd hg hB hs hf).mono fun _ _ h => h.old
end Go.Proofs.YtdaknfepcbooeaaGreat.Segm
end

section
namespace Go.Proofs.YtdaknfepcbooeaaGreat.Segm
open Go.RowKit
open Go.Proofs.YtdaknfepcbooeaaGreat.Frag (cut Pv flat Pr own_base own_below)
open Go.Proofs.YtdaknfepcbooeaaGreat.Disk (M Dk Chg Dob Bn Did append sync remove there own_chg)
open Go.Proofs.YtdaknfepcbooeaaGreat.Sector (partV)
open Go.Proofs.YtdaknfepcbooeaaGreat.Ord
set_option linter.unusedVariables false
set_option linter.unusedSimpArgs false

def From (w0 W : World) : Prop := Below w0.heap.size w0 W
theorem From.self (w0 : World) : From w0 w0 := Below.refl _ _
theorem From.drew {w0 W : World} (h : From w0 W) : From w0 W.drew := Below.drew h
theorem From.call {w0 W W' : World} (h2 : Below W.heap.size W W') (h : From w0 W) : From w0 W' := Below.trans h (h2.mono h.size)

theorem conv32 (z : Nat) (zb : BitVec 32) (h : zb = BitVec.ofNat 32 z) (V : World) : (convert 3 56 (.int .i64 (z : Int))).run Tryz.prog V = .ok (.int .u32 (zb.toNat : Int)) V := by
  have e : IntKind.u32.wrap (z : Int) = (zb.toNat : Int) := by
    rw [h, BitVec.toNat_ofNat]
    simp [IntKind.wrap, IntKind.bits, IntKind.signed]
  have hk : Tryz.prog.intKind 56 = .u32 := by kernel_rfl
  have h2 := run_convert_int (P := Tryz.prog) V 3 56 .i64 z (by kernel_rfl) (by rw [hk]; kernel_rfl)
  rw [hk, e] at h2
  exact h2

theorem append_broken (w : World) (B s d : Nat) (m : M) (g : Gm) (A : Option Addr) (n c : Nat) (bs : List (BitVec 8)) (hd : Dk w B d m) (hg : Sg w s d g) (hbr : g.broken = true) :
    Calls Tryz.prog 43 #[.pointer (some ⟨s, 0, none⟩), .slice A n c] w (SDidE w B s d (appendS m g bs)) := by
  have con := isBroken_call w s d g hg
  rw [hbr] at con
  have hw : appendS m g bs = (8, m, g) := by unfold appendS; rw [hbr]; rfl
  rw [hw]
  have HD := Lib.hid hd
  have HG := Lib.hid hg
  clear hd hg hbr hw
  go_enter Tryz.func43, Tryz.ntmps43
  go_wp2_with ((go_at_call 81; refine con.mono ?_; rintro e w' ⟨rfl, rfl⟩))
  go_ret
  exact ⟨rfl, HD.out, HG.out, Chg.refl _ _ _⟩

set_option maxRecDepth 100000 in
set_option maxHeartbeats 400000 in
theorem append_long (w : World) (B s d : Nat) (m : M) (gf : Int) (ge : BitVec 32) (z : Nat) (A : Option Addr) (n c : Nat) (bs : List (BitVec 8)) (hd : Dk w B d m) (hg : Sg w s d ⟨gf, ge, z, false⟩) (hz : z < 9000000000000000000) (hn : n ≤ maxLen) (hl : 9860 < n) (hb : bs.length = n) :
    Calls Tryz.prog 43 #[.pointer (some ⟨s, 0, none⟩), .slice A n c] w (SDidE w B s d (appendS m ⟨gf, ge, z, false⟩ bs)) := by
  have con := isBroken_call w s d _ hg
  dsimp only at con
  have hw : appendS m ⟨gf, ge, z, false⟩ bs = (3, m, ⟨gf, ge, z, false⟩) := by unfold appendS; rw [if_neg (by simp), if_pos (by rw [hb]; exact hl)]
  rw [hw]
  have HD := Lib.hid hd
  have HG := Lib.hid hg
  have hsl : s < w.heap.size := Cel.lt hg
  obtain ⟨zb, hzb⟩ : ∃ zb, zb = BitVec.ofNat 32 z := ⟨_, rfl⟩
  have HCV := Lib.hid (conv32 z zb hzb)
  have HZB := Lib.hid hzb
  clear hzb
  have hcl : ∀ V, From w V → V.cell? ⟨s, 3, none⟩ = some (v32 ge) ∧ V.cell? ⟨s, 4, none⟩ = some (.int .i64 (z : Int)) := fun V hV => by
    have h := HG.out.below hV
    exact ⟨h.cell 3, h.cell 4⟩
  clear hd hg hw
  go_enter Tryz.func43, Tryz.ntmps43
  go_wp2_with ((go_at_call 81; refine con.mono ?_; rintro e w' ⟨rfl, rfl⟩))
  clear con
  refine wp_region_N [] (From w) (by kernel_rfl) ?_
  have hH : From w w.drew := (From.self _).drew
  refine wpAnyN_take (i := 0) (v := .slice A n c) [] (by kernel_rfl) rfl (by kernel_rfl) (by kernel_rfl) (by kernel_rfl) (fun _ _ _ h => h) (Or.inl ⟨by rfl, ?_⟩) hH ?_
  · intro V hV; go_simp
  try simp only [Act.put, List.setIfInBounds_toArray, List.set_cons_zero, List.set_cons_succ, List.getElem_toArray, List.getElem_cons_succ, List.getElem_cons_zero]
  refine wpAnyN_take (i := 1) (v := .pointer (some ⟨s, 0, none⟩)) [] (by kernel_rfl) rfl (by kernel_rfl) (by kernel_rfl) (by kernel_rfl) (fun _ _ _ h => h) (Or.inl ⟨by rfl, ?_⟩) hH ?_
  · intro V hV; go_simp
  try simp only [Act.put, List.setIfInBounds_toArray, List.set_cons_zero, List.set_cons_succ, List.getElem_toArray, List.getElem_cons_succ, List.getElem_cons_zero]
  refine wpAnyN_take (i := 2) (v := .pointer (some ⟨s, 0, none⟩)) [] (by kernel_rfl) rfl (by kernel_rfl) (by kernel_rfl) (by kernel_rfl) (fun _ _ _ h => h) (Or.inl ⟨by rfl, ?_⟩) hH ?_
  · intro V hV; go_simp
  try simp only [Act.put, List.setIfInBounds_toArray, List.set_cons_zero, List.set_cons_succ, List.getElem_toArray, List.getElem_cons_succ, List.getElem_cons_zero]
  refine wpAnyN_take (i := 3) (v := .pointer (some ⟨s, 3, none⟩)) [] (by kernel_rfl) rfl (by kernel_rfl) (by kernel_rfl) (by kernel_rfl) (fun _ _ _ h => h) (Or.inl ⟨by rfl, ?_⟩) hH ?_
  · intro V hV; go_simp
  try simp only [Act.put, List.setIfInBounds_toArray, List.set_cons_zero, List.set_cons_succ, List.getElem_toArray, List.getElem_cons_succ, List.getElem_cons_zero]
  refine wpAnyN_take (i := 4) (v := v32 ge) [] (by kernel_rfl) rfl (by kernel_rfl) (by kernel_rfl) (by kernel_rfl) (fun _ _ _ h => h) (Or.inl ⟨by rfl, ?_⟩) hH ?_
  · intro V hV; obtain ⟨k3, k4⟩ := hcl V hV; go_simp
  try simp only [Act.put, List.setIfInBounds_toArray, List.set_cons_zero, List.set_cons_succ, List.getElem_toArray, List.getElem_cons_succ, List.getElem_cons_zero]
  refine wpAnyN_take (i := 5) (v := .pointer (some ⟨s, 0, none⟩)) [] (by kernel_rfl) rfl (by kernel_rfl) (by kernel_rfl) (by kernel_rfl) (fun _ _ _ h => h) (Or.inl ⟨by rfl, ?_⟩) hH ?_
  · intro V hV; go_simp
  try simp only [Act.put, List.setIfInBounds_toArray, List.set_cons_zero, List.set_cons_succ, List.getElem_toArray, List.getElem_cons_succ, List.getElem_cons_zero]
  refine wpAnyN_take (i := 6) (v := .pointer (some ⟨s, 0, none⟩)) [] (by kernel_rfl) rfl (by kernel_rfl) (by kernel_rfl) (by kernel_rfl) (fun _ _ _ h => h) (Or.inl ⟨by rfl, ?_⟩) hH ?_
  · intro V hV; go_simp
  try simp only [Act.put, List.setIfInBounds_toArray, List.set_cons_zero, List.set_cons_succ, List.getElem_toArray, List.getElem_cons_succ, List.getElem_cons_zero]
  refine wpAnyN_take (i := 7) (v := .pointer (some ⟨s, 4, none⟩)) [] (by kernel_rfl) rfl (by kernel_rfl) (by kernel_rfl) (by kernel_rfl) (fun _ _ _ h => h) (Or.inl ⟨by rfl, ?_⟩) hH ?_
  · intro V hV; go_simp
  try simp only [Act.put, List.setIfInBounds_toArray, List.set_cons_zero, List.set_cons_succ, List.getElem_toArray, List.getElem_cons_succ, List.getElem_cons_zero]
  refine wpAnyN_take (i := 8) (v := .int .i64 (z : Int)) [] (by kernel_rfl) rfl (by kernel_rfl) (by kernel_rfl) (by kernel_rfl) (fun _ _ _ h => h) (Or.inl ⟨by rfl, ?_⟩) hH ?_
  · intro V hV; obtain ⟨k3, k4⟩ := hcl V hV; go_simp
  try simp only [Act.put, List.setIfInBounds_toArray, List.set_cons_zero, List.set_cons_succ, List.getElem_toArray, List.getElem_cons_succ, List.getElem_cons_zero]
  refine wpAnyN_take (i := 9) (v := .int .u32 (zb.toNat : Int)) [] (by kernel_rfl) rfl (by kernel_rfl) (by kernel_rfl) (by kernel_rfl) (fun _ _ _ h => h) (Or.inl ⟨by rfl, ?_⟩) hH ?_
  · intro V hV; have kv := HCV.out V; go_simp
  try simp only [Act.put, List.setIfInBounds_toArray, List.set_cons_zero, List.set_cons_succ, List.getElem_toArray, List.getElem_cons_succ, List.getElem_cons_zero]
  refine wpAnyN_one (i := 10) (by kernel_rfl) rfl (fun K hK => ?_)
  go_simp
  refine (Frag.cut_long A n c ge zb w.drew hl hn).mono ?_
  rintro r w1 ⟨rfl, hb1⟩
  have hH1 : From w w1 := hH.call hb1
  go_wp2_with fail
  refine hK.out _ _ (.inr hH1) ?_
  clear hK K hH
  have hH := hH1
  clear hH1 hcl
  try simp only [Act.put, List.setIfInBounds_toArray, List.set_cons_zero, List.set_cons_succ, List.getElem_toArray, List.getElem_cons_succ, List.getElem_cons_zero]
  refine wpAnyN_take (i := 11) (v := .tuple #[.slice none 0 0, .int .i64 3]) [] (by kernel_rfl) rfl (by kernel_rfl) (by kernel_rfl) (by kernel_rfl) (fun _ _ _ h => h) (Or.inl ⟨by rfl, ?_⟩) hH ?_
  · intro V hV; go_simp
  try simp only [Act.put, List.setIfInBounds_toArray, List.set_cons_zero, List.set_cons_succ, List.getElem_toArray, List.getElem_cons_succ, List.getElem_cons_zero]
  refine wpAnyN_take (i := 12) (v := .slice none 0 0) [] (by kernel_rfl) rfl (by kernel_rfl) (by kernel_rfl) (by kernel_rfl) (fun _ _ _ h => h) (Or.inl ⟨by rfl, ?_⟩) hH ?_
  · intro V hV; go_simp
  try simp only [Act.put, List.setIfInBounds_toArray, List.set_cons_zero, List.set_cons_succ, List.getElem_toArray, List.getElem_cons_succ, List.getElem_cons_zero]
  refine wpAnyN_take (i := 13) (v := .int .i64 3) [] (by kernel_rfl) rfl (by kernel_rfl) (by kernel_rfl) (by kernel_rfl) (fun _ _ _ h => h) (Or.inl ⟨by rfl, ?_⟩) hH ?_
  · intro V hV; go_simp
  try simp only [Act.put, List.setIfInBounds_toArray, List.set_cons_zero, List.set_cons_succ, List.getElem_toArray, List.getElem_cons_succ, List.getElem_cons_zero]
  refine wpAnyN_one (i := 14) (by kernel_rfl) rfl (fun K hK => ?_)
  go_simp
  refine hK.out _ _ (.inr hH) ?_
  clear hK K
  try simp only [Act.put, List.setIfInBounds_toArray, List.set_cons_zero, List.set_cons_succ, List.getElem_toArray, List.getElem_cons_succ, List.getElem_cons_zero]
  refine wpAnyN_one (i := 15) (by kernel_rfl) rfl (fun K hK => ?_)
  go_simp
  refine hK.out _ _ (.inr hH) ?_
  clear hK K
  try simp only [Act.put, List.setIfInBounds_toArray, List.set_cons_zero, List.set_cons_succ, List.getElem_toArray, List.getElem_cons_succ, List.getElem_cons_zero]
  refine wpAnyN_done (by kernel_rfl) ?_ _
  simp only [Exit.then]
  go_wp2_with fail
  go_ret
  exact ⟨rfl, HD.out.below hH, HG.out.below hH, Chg.of_below hH⟩

/-- The parts of a record, in a row of the call's own. -/
structure Ps (w0 w : World) (A : Option Addr) (c : Nat) (xs : List Pv) : Prop where
  own : w.ownsRow w0.heap.size 121 4 (.slice A xs.length c) xs.length (flat xs)
  by_ : ∀ x ∈ xs, By w x.A x.p.body.length x.p.body
theorem Ps.chg {ep : BitVec 32} {B : Nat} {w0 w w' : World} {A : Option Addr} {c : Nat} {xs : List Pv} (h : Ps w0 w A c xs) (hc : Chg B (SobE ep) w w') : Ps w0 w' A c xs :=
  ⟨own_chg h.own hc (by rintro cur (h | h | ⟨h, -⟩) <;> revert h <;> decide), fun x hx => (h.by_ x hx).keep fun k cs fz hk => by
    rw [hk]
    exact hc.block _ _ hk (.inr (by rintro (h | h | ⟨h, -⟩) <;> revert h <;> decide))⟩
theorem Ps.pr {w0 w : World} {A : Option Addr} {c : Nat} {xs : List Pv} (h : Ps w0 w A c xs) : Pr w w.heap.size A xs.length xs := Frag.Pr.of_own h.own rfl fun x hx => (h.by_ x hx).rd

set_option maxRecDepth 100000 in
set_option maxHeartbeats 1000000 in
theorem append_goes (w : World) (B s d : Nat) (m : M) (gf : Int) (ge : BitVec 32) (z : Nat) (A : Option Addr) (n c : Nat) (bs : List (BitVec 8)) (hd : Dk w B d m) (hg : Sg w s d ⟨gf, ge, z, false⟩) (hB : B ≤ w.heap.size) (hs : B ≤ s) (hf : gf < 9223372036854775808) (hz : z < 8000000000000000000)
    (hb : Bs w w.heap.size A n bs) (hl : n ≤ 9860) (hnc : n ≤ c) (hc : c ≤ maxLen) :
    Calls Tryz.prog 43 #[.pointer (some ⟨s, 0, none⟩), .slice A n c] w (SDidE w B s d (appendS m ⟨gf, ge, z, false⟩ bs)) := by
  have con := isBroken_call w s d _ hg
  dsimp only at con
  have hw : appendS m ⟨gf, ge, z, false⟩ bs = wrs ((cut ge (BitVec.ofNat 32 z) bs).map secP) m ⟨gf, ge, z, false⟩ := by unfold appendS; rw [if_neg (by simp), if_neg (by rw [hb.len]; omega)]; rfl
  rw [hw]
  have HD := Lib.hid hd
  have HG := Lib.hid hg
  have HBS := Lib.hid hb
  have hsl : s < w.heap.size := Cel.lt hg
  obtain ⟨zb, hzb⟩ : ∃ zb, zb = BitVec.ofNat 32 z := ⟨_, rfl⟩
  have HCV := Lib.hid (conv32 z zb hzb)
  rw [← hzb]
  have HC := Lib.hid hc
  have hcl : ∀ V, From w V → V.cell? ⟨s, 3, none⟩ = some (v32 ge) ∧ V.cell? ⟨s, 4, none⟩ = some (.int .i64 (z : Int)) := fun V hV => by
    have h := HG.out.below hV
    exact ⟨h.cell 3, h.cell 4⟩
  have HMAY := Lib.hid (cut_may ge zb bs)
  clear hd hg hw hb hc hzb
  go_enter Tryz.func43, Tryz.ntmps43
  go_wp2_with ((go_at_call 81; refine con.mono ?_; rintro e w' ⟨rfl, rfl⟩))
  clear con
  refine wp_region_N [] (From w) (by kernel_rfl) ?_
  have hH : From w w.drew := (From.self _).drew
  refine wpAnyN_take (i := 0) (v := .slice A n c) [] (by kernel_rfl) rfl (by kernel_rfl) (by kernel_rfl) (by kernel_rfl) (fun _ _ _ h => h) (Or.inl ⟨by rfl, ?_⟩) hH ?_
  · intro V hV; go_simp
  try simp only [Act.put, List.setIfInBounds_toArray, List.set_cons_zero, List.set_cons_succ, List.getElem_toArray, List.getElem_cons_succ, List.getElem_cons_zero]
  refine wpAnyN_take (i := 1) (v := .pointer (some ⟨s, 0, none⟩)) [] (by kernel_rfl) rfl (by kernel_rfl) (by kernel_rfl) (by kernel_rfl) (fun _ _ _ h => h) (Or.inl ⟨by rfl, ?_⟩) hH ?_
  · intro V hV; go_simp
  try simp only [Act.put, List.setIfInBounds_toArray, List.set_cons_zero, List.set_cons_succ, List.getElem_toArray, List.getElem_cons_succ, List.getElem_cons_zero]
  refine wpAnyN_take (i := 2) (v := .pointer (some ⟨s, 0, none⟩)) [] (by kernel_rfl) rfl (by kernel_rfl) (by kernel_rfl) (by kernel_rfl) (fun _ _ _ h => h) (Or.inl ⟨by rfl, ?_⟩) hH ?_
  · intro V hV; go_simp
  try simp only [Act.put, List.setIfInBounds_toArray, List.set_cons_zero, List.set_cons_succ, List.getElem_toArray, List.getElem_cons_succ, List.getElem_cons_zero]
  refine wpAnyN_take (i := 3) (v := .pointer (some ⟨s, 3, none⟩)) [] (by kernel_rfl) rfl (by kernel_rfl) (by kernel_rfl) (by kernel_rfl) (fun _ _ _ h => h) (Or.inl ⟨by rfl, ?_⟩) hH ?_
  · intro V hV; go_simp
  try simp only [Act.put, List.setIfInBounds_toArray, List.set_cons_zero, List.set_cons_succ, List.getElem_toArray, List.getElem_cons_succ, List.getElem_cons_zero]
  refine wpAnyN_take (i := 4) (v := v32 ge) [] (by kernel_rfl) rfl (by kernel_rfl) (by kernel_rfl) (by kernel_rfl) (fun _ _ _ h => h) (Or.inl ⟨by rfl, ?_⟩) hH ?_
  · intro V hV; obtain ⟨k3, k4⟩ := hcl V hV; go_simp
  try simp only [Act.put, List.setIfInBounds_toArray, List.set_cons_zero, List.set_cons_succ, List.getElem_toArray, List.getElem_cons_succ, List.getElem_cons_zero]
  refine wpAnyN_take (i := 5) (v := .pointer (some ⟨s, 0, none⟩)) [] (by kernel_rfl) rfl (by kernel_rfl) (by kernel_rfl) (by kernel_rfl) (fun _ _ _ h => h) (Or.inl ⟨by rfl, ?_⟩) hH ?_
  · intro V hV; go_simp
  try simp only [Act.put, List.setIfInBounds_toArray, List.set_cons_zero, List.set_cons_succ, List.getElem_toArray, List.getElem_cons_succ, List.getElem_cons_zero]
  refine wpAnyN_take (i := 6) (v := .pointer (some ⟨s, 0, none⟩)) [] (by kernel_rfl) rfl (by kernel_rfl) (by kernel_rfl) (by kernel_rfl) (fun _ _ _ h => h) (Or.inl ⟨by rfl, ?_⟩) hH ?_
  · intro V hV; go_simp
  try simp only [Act.put, List.setIfInBounds_toArray, List.set_cons_zero, List.set_cons_succ, List.getElem_toArray, List.getElem_cons_succ, List.getElem_cons_zero]
  refine wpAnyN_take (i := 7) (v := .pointer (some ⟨s, 4, none⟩)) [] (by kernel_rfl) rfl (by kernel_rfl) (by kernel_rfl) (by kernel_rfl) (fun _ _ _ h => h) (Or.inl ⟨by rfl, ?_⟩) hH ?_
  · intro V hV; go_simp
  try simp only [Act.put, List.setIfInBounds_toArray, List.set_cons_zero, List.set_cons_succ, List.getElem_toArray, List.getElem_cons_succ, List.getElem_cons_zero]
  refine wpAnyN_take (i := 8) (v := .int .i64 (z : Int)) [] (by kernel_rfl) rfl (by kernel_rfl) (by kernel_rfl) (by kernel_rfl) (fun _ _ _ h => h) (Or.inl ⟨by rfl, ?_⟩) hH ?_
  · intro V hV; obtain ⟨k3, k4⟩ := hcl V hV; go_simp
  try simp only [Act.put, List.setIfInBounds_toArray, List.set_cons_zero, List.set_cons_succ, List.getElem_toArray, List.getElem_cons_succ, List.getElem_cons_zero]
  refine wpAnyN_take (i := 9) (v := .int .u32 (zb.toNat : Int)) [] (by kernel_rfl) rfl (by kernel_rfl) (by kernel_rfl) (by kernel_rfl) (fun _ _ _ h => h) (Or.inl ⟨by rfl, ?_⟩) hH ?_
  · intro V hV; have kv := HCV.out V; go_simp
  try simp only [Act.put, List.setIfInBounds_toArray, List.set_cons_zero, List.set_cons_succ, List.getElem_toArray, List.getElem_cons_succ, List.getElem_cons_zero]
  refine wpAnyN_one (i := 10) (by kernel_rfl) rfl (fun K hK => ?_)
  go_simp
  refine (Frag.cut_calls A n c ge zb bs w.drew (HBS.out.below (Below.refl _ _).drew) hl hnc HC.out).mono ?_
  rintro r w1 ⟨A1, m1, cx, xs, rfl, hxs, hm1, ho1, hby1, hb1⟩
  have hxl : xs.length = m1 := by rw [hm1, ← hxs, List.length_map]
  subst hxl
  have hpos : 0 < xs.length := by rw [hm1]; exact Frag.cut_length_pos _ _ _
  have hfew : xs.length ≤ 21 := by
    have := Frag.cut_length_le ge zb bs
    rw [HBS.out.len, ← hm1] at this
    omega
  obtain ⟨g1, cap1, hv1, hg1, hl1⟩ := ho1.form hpos
  have hA1 : ∃ ad, A1 = some ad := ⟨⟨g1, 0, none⟩, by injection hv1⟩
  obtain ⟨ad, rfl⟩ := hA1
  have hH1 : From w w1 := hH.call hb1
  have HPS := Lib.hid (⟨ho1, hby1⟩ : Ps w.drew w1 (some ad) cx xs)
  have HXS := Lib.hid hxs
  clear ho1 hby1 hv1 hm1 hxs hg1 hl1 hb1
  go_wp2_with fail
  refine hK.out _ _ (.inr hH1) ?_
  clear hK K hH
  have hH := hH1
  clear hH1 hcl
  try simp only [Act.put, List.setIfInBounds_toArray, List.set_cons_zero, List.set_cons_succ, List.getElem_toArray, List.getElem_cons_succ, List.getElem_cons_zero]
  refine wpAnyN_take (i := 11) (v := .tuple #[.slice (some ad) xs.length cx, .int .i64 0]) [] (by kernel_rfl) rfl (by kernel_rfl) (by kernel_rfl) (by kernel_rfl) (fun _ _ _ h => h) (Or.inl ⟨by rfl, ?_⟩) hH ?_
  · intro V hV; go_simp
  try simp only [Act.put, List.setIfInBounds_toArray, List.set_cons_zero, List.set_cons_succ, List.getElem_toArray, List.getElem_cons_succ, List.getElem_cons_zero]
  refine wpAnyN_take (i := 12) (v := .slice (some ad) xs.length cx) [] (by kernel_rfl) rfl (by kernel_rfl) (by kernel_rfl) (by kernel_rfl) (fun _ _ _ h => h) (Or.inl ⟨by rfl, ?_⟩) hH ?_
  · intro V hV; go_simp
  try simp only [Act.put, List.setIfInBounds_toArray, List.set_cons_zero, List.set_cons_succ, List.getElem_toArray, List.getElem_cons_succ, List.getElem_cons_zero]
  refine wpAnyN_take (i := 13) (v := .int .i64 0) [] (by kernel_rfl) rfl (by kernel_rfl) (by kernel_rfl) (by kernel_rfl) (fun _ _ _ h => h) (Or.inl ⟨by rfl, ?_⟩) hH ?_
  · intro V hV; go_simp
  try simp only [Act.put, List.setIfInBounds_toArray, List.set_cons_zero, List.set_cons_succ, List.getElem_toArray, List.getElem_cons_succ, List.getElem_cons_zero]
  refine wpAnyN_one (i := 14) (by kernel_rfl) rfl (fun K hK => ?_)
  go_simp
  refine hK.out _ _ (.inr hH) ?_
  clear hK K
  try simp only [Act.put, List.setIfInBounds_toArray, List.set_cons_zero, List.set_cons_succ, List.getElem_toArray, List.getElem_cons_succ, List.getElem_cons_zero]
  refine wpAnyN_one (i := 15) (by kernel_rfl) rfl (fun K hK => ?_)
  go_simp
  refine hK.out _ _ (.inr hH) ?_
  clear hK K
  try simp only [Act.put, List.setIfInBounds_toArray, List.set_cons_zero, List.set_cons_succ, List.getElem_toArray, List.getElem_cons_succ, List.getElem_cons_zero]
  refine wpAnyN_done (by kernel_rfl) ?_ _
  simp only [Exit.then]
  go_wp2_with fail
  have HW1 := Lib.hid hH
  clear hH
  go_loopw [31] (fun i wr => ∃ k : Nat, k ≤ xs.length ∧ i = .int .i64 (k : Int) ∧ ∃ m2, Dk wr B d m2 ∧ Sg wr s d ⟨gf, ge, z + k, false⟩ ∧ Chg B (SobE ge) w1 wr ∧ wrs ((cut ge zb bs).map secP) m ⟨gf, ge, z, false⟩ = wrs (((cut ge zb bs).map secP).drop k) m2 ⟨gf, ge, z + k, false⟩) (fun i _ => xs.length - (intOf i).toNat)
  case atStart => exact ⟨0, Nat.zero_le _, rfl, m, HD.out.below HW1.out, HG.out.below HW1.out, Chg.refl _ _ _, rfl⟩
  case round =>
    obtain ⟨k, hk, rfl, m2, hd2, hg2, hc2, hw2⟩ := hrel
    have HD2 := Lib.hid hd2
    have HG2 := Lib.hid hg2
    have HC2 := Lib.hid hc2
    have HWR := Lib.hid hw2
    clear hd2 hg2 hc2 hw2
    by_cases hlt : k < xs.length
    · have hsz1 : w.heap.size ≤ w1.heap.size := HW1.out.size
      have hsz2 : w1.heap.size ≤ wr.heap.size := HC2.out.size
      obtain ⟨ad', x, hA', hx, hxb, hadl, e0, e1, e2, e3⟩ := (HPS.out.chg HC2.out).pr.at_ hlt
      cases hA'
      have HX := Lib.hid hx
      have HXB := Lib.hid hxb
      have hdr : ((cut ge zb bs).map secP).drop k = secP x.p :: ((cut ge zb bs).map secP).drop (k + 1) := by
        rw [← HXS.out, List.map_map]
        have hl' : k < (xs.map (secP ∘ fun x => x.p)).length := by rw [List.length_map]; exact hlt
        rw [List.drop_eq_getElem_cons hl', List.getElem_map]
        rw [List.getElem?_eq_getElem hlt] at hx
        injection hx with hx
        rw [hx]
        rfl
      have HDR := Lib.hid hdr
      have HM := Lib.hid (HMAY.out x.p (by rw [← HXS.out]; exact List.mem_map_of_mem (List.mem_of_getElem? hx)))
      clear hx hxb hadl hdr
      obtain ⟨⟨pe, ps, pf, pb⟩, xA, xc⟩ := x
      dsimp only at e0 e1 e2 e3
      go_wp2_with fail
      have hbW : Below wr.heap.size wr (wr.alloc (.cells #[v32 pe, v32 ps, .int .i64 pf, .slice xA pb.length xc] 121)) := (Below.refl _ _).alloc (Nat.le_refl _) _
      have con := write_call (wr.alloc (.cells #[v32 pe, v32 ps, .int .i64 pf, .slice xA pb.length xc] 121)) B s d m2 gf ge (z + k) ⟨pe, ps, pf, pb⟩ xA pb.length xc (HD2.out.below hbW) (HG2.out.below hbW) (by have := hbW.size; omega) hs hf (by omega) HM.out ((HXB.out.below hbW).more hbW.size)
      have HBW := Lib.hid hbW
      clear hbW e0 e1 e2 e3
      obtain ⟨e, he⟩ : ∃ e, (append m2 gf (secP ⟨pe, ps, pf, pb⟩)).1 = e := ⟨_, rfl⟩
      by_cases he0 : e = 0
      · subst he0
        rw [wr1_ok he] at con
        refine con.mono ?_
        clear con
        rintro r w3 ⟨rfl, hd3, hg3, hc3⟩
        have HD3 := Lib.hid hd3
        have HG3 := Lib.hid hg3
        have HC3 := Lib.hid hc3
        have HE := Lib.hid he
        clear hd3 hg3 hc3 he
        go_wp2_with fail
        go_roundw
        case rel =>
          refine ⟨k + 1, by omega, by go_num, _, HD3.out, HG3.out, HC2.out.trans ((Chg.of_below HBW.out).trans HC3.out), ?_⟩
          rw [HWR.out, HDR.out, wrs_on HE.out]
          rfl
        case measure => simp [intOf]; omega
      · have d0 : (e == 0) = false := beq_eq_false_iff_ne.2 he0
        rw [wr1_bad (by rw [he]; exact he0), he] at con
        refine con.mono ?_
        clear con
        rintro r w3 ⟨rfl, hd3, hg3, hc3⟩
        have HD3 := Lib.hid hd3
        have HG3 := Lib.hid hg3
        have HC3 := Lib.hid hc3
        have HE := Lib.hid he
        clear hd3 hg3 hc3 he
        dsimp only
        go_wp2_with fail
        go_ret
        rw [HWR.out, HDR.out, wrs_bad (by rw [HE.out]; exact he0), HE.out]
        exact ⟨rfl, HD3.out, HG3.out, (Chg.of_below HW1.out).trans (HC2.out.trans ((Chg.of_below HBW.out).trans HC3.out))⟩
    · obtain rfl : k = xs.length := by omega
      go_wp2_with fail
      go_ret
      rw [HWR.out, List.drop_of_length_le (by rw [← HXS.out, List.length_map, List.length_map]; exact Nat.le_refl _), wrs_nil]
      exact ⟨rfl, HD2.out, HG2.out, (Chg.of_below HW1.out).trans HC2.out⟩

/-- The program's Append. -/
theorem append_segE (w : World) (B s d : Nat) (m : M) (g : Gm) (A : Option Addr) (n c : Nat) (bs : List (BitVec 8)) (hd : Dk w B d m) (hg : Sg w s d g) (hB : B ≤ w.heap.size) (hs : B ≤ s) (hf : g.file < 9223372036854775808) (hz : g.size < 8000000000000000000)
    (hb : Bs w w.heap.size A n bs) (hnc : n ≤ c) (hc : c ≤ maxLen) :
    Calls Tryz.prog 43 #[.pointer (some ⟨s, 0, none⟩), .slice A n c] w (SDidE w B s d (appendS m g bs)) := by
  cases hbr : g.broken
  · obtain ⟨gf, ge, z, br⟩ := g
    dsimp only at hbr
    subst hbr
    by_cases hl : 9860 < n
    · exact append_long w B s d m gf ge z A n c bs hd hg (by dsimp only at hz; omega) (by omega) hl hb.len
    · exact append_goes w B s d m gf ge z A n c bs hd hg hB hs hf hz hb (by omega) hnc hc
  · exact append_broken w B s d m g A n c bs hd hg hbr
theorem append_seg (w : World) (B s d : Nat) (m : M) (g : Gm) (A : Option Addr) (n c : Nat) (bs : List (BitVec 8)) (hd : Dk w B d m) (hg : Sg w s d g) (hB : B ≤ w.heap.size) (hs : B ≤ s) (hf : g.file < 9223372036854775808) (hz : g.size < 8000000000000000000)
    (hb : Bs w w.heap.size A n bs) (hnc : n ≤ c) (hc : c ≤ maxLen) :
    Calls Tryz.prog 43 #[.pointer (some ⟨s, 0, none⟩), .slice A n c] w (SDid w B s d (appendS m g bs)) :=
  (append_segE w B s d m g A n c bs hd hg hB hs hf hz hb hnc hc).mono fun _ _ h => h.old
end Go.Proofs.YtdaknfepcbooeaaGreat.Segm
end
