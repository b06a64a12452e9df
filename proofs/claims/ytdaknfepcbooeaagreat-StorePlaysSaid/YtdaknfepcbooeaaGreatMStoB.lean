/-
  The program's store: its state, and the calls that write nothing, or only mark it as broken.
  The program's store: beginning anew, a row of closures.
  The program's store: Begin.
  The program's store: Begin, Append, Sync.
-/
import Derived.Test.YtdaknfepcbooeaaGreatMStoA
import Derived.Test.YtdaknfepcbooeaaGreatMSegB
import Derived.Test.YtdaknfepcbooeaaGreatMSegKeeps
section
namespace Go.Proofs.YtdaknfepcbooeaaGreat.Sto
open Go.RowKit
open Go.Proofs.YtdaknfepcbooeaaGreat.Disk (M Dk Chg Dob Bn Did append sync remove rename there)
open Go.Proofs.YtdaknfepcbooeaaGreat.Segm (Gm Sg Sob SobE appendS syncS beginS)
set_option linter.unusedVariables false
set_option linter.unusedSimpArgs false

/-- Blocks that a store is written in. -/
def Pob : Obj → Prop
  | .cells _ t _ => t = 70
  | _ => False
/-- Blocks that the store's calls write. -/
def Stb : Obj → Prop
  | .map _ _ => True
  | .cells _ t _ => t = 65 ∨ t = 126 ∨ t = 120 ∨ t = 70
  | _ => False
theorem sob_stb : ∀ o, Sob o → Stb o := by
  intro o h
  cases o with
  | map _ _ => trivial
  | cells _ t _ => exact h.imp id (·.imp id .inl)
  | _ => exact h
theorem dob_stb : ∀ o, Dob o → Stb o := fun o h => sob_stb o (Segm.dob_sob o h)
theorem sobE_stb {ep : BitVec 32} : ∀ o, SobE ep o → Stb o := fun o h => sob_stb o (Segm.sobE_sob o h)
theorem pob_stb : ∀ o, Pob o → Stb o := by
  intro o h
  cases o with
  | cells _ t _ => exact .inr (.inr (.inr h))
  | _ => exact h.elim
/-- The value of a segment, or of none. -/
def Sv (w : World) (B d : Nat) (g : Option Gm) (v : Value) : Prop := match g with
  | none => v = .pointer none
  | some g => ∃ t, B ≤ t ∧ v = .pointer (some ⟨t, 0, none⟩) ∧ Sg w t d g
theorem Sv.chg {w w' : World} {B B' d : Nat} {g : Option Gm} {v : Value} {T : Obj → Prop} (h : Sv w B d g v) (hc : Chg B' T w w') (hT : ∀ cs fz, ¬ T (.cells cs 120 fz)) : Sv w' B d g v := by
  cases g with
  | none => exact h
  | some g =>
    obtain ⟨t, h1, h2, h3⟩ := h
    exact ⟨t, h1, h2, h3.chg hc hT⟩
theorem Sv.below {w w' : World} {B d : Nat} {g : Option Gm} {v : Value} (h : Sv w B d g v) (hb : Below w.heap.size w w') : Sv w' B d g v := h.chg (B' := 0) (T := fun _ => False) (Chg.of_below hb) (fun _ _ h => h)
/-- The store in block q is s, on the disk in block d. -/
def Ss (w : World) (B q d : Nat) (s : St) : Prop :=
  ∃ v, Cel w q 70 [.pointer (some ⟨d, 0, none⟩), v32 s.ep, v, .bool s.broken] ∧ Sv w B d s.g v
theorem Ss.chg {w w' : World} {B B' q d : Nat} {s : St} {T : Obj → Prop} (h : Ss w B q d s) (hc : Chg B' T w w') (h1 : ∀ cs fz, ¬ T (.cells cs 120 fz)) (h2 : ∀ cs fz, ¬ T (.cells cs 70 fz)) : Ss w' B q d s := by
  obtain ⟨v, hc', hv⟩ := h
  exact ⟨v, Disk.Cel.chg hc' hc (h2 _ _), hv.chg hc h1⟩
theorem Ss.below {w w' : World} {B q d : Nat} {s : St} (h : Ss w B q d s) (hb : Below w.heap.size w w') : Ss w' B q d s := h.chg (B' := 0) (T := fun _ => False) (Chg.of_below hb) (fun _ _ h => h) (fun _ _ h => h)
theorem Dk_pob {B d : Nat} {m : M} {w w' : World} (h : Dk w B d m) (hc : Chg B Pob w w') : Dk w' B d m := by
  obtain ⟨b, vs, kv, h⟩ := h
  exact ⟨b, vs, kv, h.chg hc (by rintro cs t fz (rfl | rfl | rfl) h <;> (simp only [Pob] at h; revert h; decide)) (fun _ _ h => h)⟩
theorem Sv_pob {B d : Nat} {g : Option Gm} {v : Value} {w w' : World} (h : Sv w B d g v) (hc : Chg B Pob w w') : Sv w' B d g v := h.chg hc (by intro cs fz h; simp only [Pob] at h; revert h; decide)

set_option maxRecDepth 100000 in
theorem isBroken_call (w : World) (q : Nat) (b : Bool) (h : w.cell? ⟨q, 3, none⟩ = some (.bool b)) : Calls Tryz.prog 37 #[.pointer (some ⟨q, 0, none⟩)] w fun e w' => e = .returned (.bool b) ∧ w = w' := by
  cases b <;> (
    go_enter Tryz.func37, Tryz.ntmps37
    go_wp2_with fail
    go_ret
    exact ⟨rfl, rfl⟩)
set_option maxRecDepth 100000 in
theorem isBroken_nil (w : World) : Calls Tryz.prog 37 #[.pointer none] w fun e w' => e = .returned (.bool true) ∧ w = w' := by
  go_enter Tryz.func37, Tryz.ntmps37
  go_wp2_with fail
  go_ret
  exact ⟨rfl, rfl⟩
set_option maxRecDepth 100000 in
theorem isRecord_call (w : World) (A : Option Addr) (n c : Nat) (hn : n ≤ maxLen) : Calls Tryz.prog 38 #[.slice A n c] w fun e w' => e = .returned (.bool (decide (n ≤ 9860))) ∧ w = w' := by
  unfold maxLen at hn
  by_cases hl : n ≤ 9860
  · have h1 : decide ((n : Int) ≤ 9860) = true := by simp; omega
    rw [decide_eq_true hl]
    go_enter Tryz.func38, Tryz.ntmps38
    go_wp2_with fail
    go_ret
    exact ⟨rfl, rfl⟩
  · have h1 : decide ((n : Int) ≤ 9860) = false := by simp; omega
    rw [decide_eq_false hl]
    go_enter Tryz.func38, Tryz.ntmps38
    go_wp2_with fail
    go_ret
    exact ⟨rfl, rfl⟩
set_option maxRecDepth 100000 in
theorem heed_ok (w : World) (q : Nat) : Calls Tryz.prog 39 #[.pointer (some ⟨q, 0, none⟩), .int .i64 0] w fun e w' => e = .returned (.int .i64 0) ∧ w = w' := by
  go_enter Tryz.func39, Tryz.ntmps39
  go_wp2_with fail
  go_ret
  exact ⟨rfl, rfl⟩
set_option maxRecDepth 100000 in
theorem heed_bad (w : World) (B q d : Nat) (s : St) (e : Int) (he : e ≠ 0) (h : Ss w B q d s) (hq : B ≤ q) : Calls Tryz.prog 39 #[.pointer (some ⟨q, 0, none⟩), .int .i64 e] w fun r w' => r = .returned (.int .i64 e) ∧ Ss w' B q d ⟨s.ep, s.g, true⟩ ∧ Chg B Pob w w' := by
  obtain ⟨v, hc, hv⟩ := h
  have d1 : (e == 0) = false := beq_eq_false_iff_ne.2 he
  have k3 : ∃ v, w.cell? ⟨q, 3, none⟩ = some v := ⟨_, hc.cell 3⟩
  obtain ⟨v3, k3⟩ := k3
  have f3 := hc.free 3
  have h2 := hc.set 3 (.bool true)
  have hcc : Chg B Pob w (w.setCell ⟨q, 3, none⟩ (.bool true)) :=
    (Chg.refl B Pob w).set (p := ⟨q, 3, none⟩) _ (.inr ⟨hq, _, (show w.heap[q]? = _ from hc), rfl⟩)
  have HV := Lib.hid (Sv_pob hv hcc)
  have H2 := Lib.hid h2
  have HC := Lib.hid hcc
  clear hc hv h2 hcc he
  go_enter Tryz.func39, Tryz.ntmps39
  go_wp2_with fail
  go_ret
  exact ⟨rfl, ⟨v, H2.out, HV.out⟩, HC.out⟩
theorem segVal_nil (v : Value) (w : World) (B d : Nat) (g : Option Gm) (h : Sv w B d g v) : (g = none ∧ v = .pointer none) ∨ ∃ g' t, g = some g' ∧ v = .pointer (some ⟨t, 0, none⟩) ∧ B ≤ t ∧ Sg w t d g' := by
  cases g with
  | none => exact .inl ⟨rfl, h⟩
  | some g => obtain ⟨t, h1, h2, h3⟩ := h; exact .inr ⟨g, t, rfl, h2, h1, h3⟩
/-- What canWrite tells. -/
def canW (s : St) : Int := if s.broken then 8 else match s.g with
  | none => 4
  | some _ => 0
set_option maxRecDepth 100000 in
theorem canWrite_call (w : World) (B q d : Nat) (s : St) (h : Ss w B q d s) : Calls Tryz.prog 42 #[.pointer (some ⟨q, 0, none⟩)] w fun e w' => e = .returned (.int .i64 (canW s)) ∧ w = w' := by
  obtain ⟨ep, g, br⟩ := s
  obtain ⟨v, hc, hv⟩ := h
  have k2 := hc.cell 2
  have k3 := hc.cell 3
  dsimp only at k2 k3 hv
  have con := isBroken_call w q br k3
  have k2' : w.cell? ⟨q, 2, none⟩ = some v := k2
  clear hc k3 k2
  unfold canW
  cases br
  · rcases segVal_nil v w B d g hv with ⟨rfl, rfl⟩ | ⟨g', t, rfl, rfl, _, _⟩
    · clear hv
      go_enter Tryz.func42, Tryz.ntmps42
      go_wp2_with ((go_at_call 37; refine con.mono ?_; rintro e w' ⟨rfl, rfl⟩))
      go_ret
      exact ⟨rfl, rfl⟩
    · clear hv
      go_enter Tryz.func42, Tryz.ntmps42
      go_wp2_with ((go_at_call 37; refine con.mono ?_; rintro e w' ⟨rfl, rfl⟩))
      go_ret
      exact ⟨rfl, rfl⟩
  · clear hv k2'
    go_enter Tryz.func42, Tryz.ntmps42
    go_wp2_with ((go_at_call 37; refine con.mono ?_; rintro e w' ⟨rfl, rfl⟩))
    go_ret
    exact ⟨rfl, rfl⟩
set_option maxRecDepth 100000 in
theorem canWrite_nil (w : World) : Calls Tryz.prog 42 #[.pointer none] w fun e w' => e = .returned (.int .i64 8) ∧ w = w' := by
  have con := isBroken_nil w
  go_enter Tryz.func42, Tryz.ntmps42
  go_wp2_with ((go_at_call 37; refine con.mono ?_; rintro e w' ⟨rfl, rfl⟩))
  go_ret
  exact ⟨rfl, rfl⟩
set_option maxRecDepth 100000 in
theorem segSize_nil (w : World) : Calls Tryz.prog 57 #[.pointer none] w fun e w' => e = .returned (.int .i64 0) ∧ w = w' := by
  go_enter Tryz.func57, Tryz.ntmps57
  go_wp2_with fail
  go_ret
  exact ⟨rfl, rfl⟩
set_option maxRecDepth 100000 in
theorem size_call (w : World) (B q d : Nat) (s : St) (h : Ss w B q d s) : Calls Tryz.prog 27 #[.pointer (some ⟨q, 0, none⟩)] w fun e w' => e = .returned (.int .i64 ((sizeT s : Nat) : Int)) ∧ w = w' := by
  obtain ⟨ep, g, br⟩ := s
  obtain ⟨v, hc, hv⟩ := h
  have k2 := hc.cell 2
  dsimp only at k2 hv
  have k2' : w.cell? ⟨q, 2, none⟩ = some v := k2
  clear hc k2
  unfold sizeT
  rcases segVal_nil v w B d g hv with ⟨rfl, rfl⟩ | ⟨g', t, rfl, rfl, _, hg⟩
  · have con := segSize_nil w
    clear hv
    go_enter Tryz.func27, Tryz.ntmps27
    go_wp2_with ((go_at_call 57; refine con.mono ?_; rintro e w' ⟨rfl, rfl⟩))
    go_ret
    exact ⟨rfl, rfl⟩
  · have con := Segm.size_call w t d g' hg
    clear hv hg
    go_enter Tryz.func27, Tryz.ntmps27
    go_wp2_with ((go_at_call 57; refine con.mono ?_; rintro e w' ⟨rfl, rfl⟩))
    go_ret
    exact ⟨rfl, rfl⟩
set_option maxRecDepth 100000 in
theorem epoch_call (w : World) (B q d : Nat) (s : St) (h : Ss w B q d s) : Calls Tryz.prog 29 #[.pointer (some ⟨q, 0, none⟩)] w fun e w' => e = .returned (v32 s.ep) ∧ w = w' := by
  obtain ⟨v, hc, hv⟩ := h
  have k1 := hc.cell 1
  have k1' : w.cell? ⟨q, 1, none⟩ = some (v32 s.ep) := k1
  clear hc hv k1
  go_enter Tryz.func29, Tryz.ntmps29
  go_wp2_with fail
  go_ret
  exact ⟨rfl, rfl⟩
set_option maxRecDepth 100000 in
theorem fileOf_call (w : World) (ep : BitVec 32) : Calls Tryz.prog 59 #[v32 ep] w fun e w' => e = .returned (.int .i64 (fileOf ep)) ∧ w = w' := by
  have hl := ep.isLt
  unfold fileOf
  by_cases h : ep.toNat % 2 = 0
  · have d1 : (((ep.toNat : Int) % 2) == 0) = true := by rw [beq_iff_eq]; omega
    rw [if_pos h]
    clear h
    go_enter Tryz.func59, Tryz.ntmps59
    go_wp2_with fail
    go_ret
    exact ⟨rfl, rfl⟩
  · have d1 : (((ep.toNat : Int) % 2) == 0) = false := by rw [beq_eq_false_iff_ne]; omega
    rw [if_neg h]
    clear h
    go_enter Tryz.func59, Tryz.ntmps59
    go_wp2_with fail
    go_ret
    exact ⟨rfl, rfl⟩
/-- Bytes of the call's own, that hold a part's sector. -/
def HeadB (w : World) (ep : BitVec 32) (r : Ending) (w' : World) : Prop := ∃ g, r = .returned (.slice (some ⟨g, 0, none⟩) 512 512) ∧ w.heap.size ≤ g ∧ Cel w' g 157 ((headSec ep).map v8) ∧ Below w.heap.size w w'
set_option maxRecDepth 100000 in
theorem headOf_call (w : World) (ep : BitVec 32) : Calls Tryz.prog 71 #[v32 ep] w (HeadB w ep) := by
  have con := Sector.put_yes (headP ep) 0 none 0 0 w ⟨rfl, fun h => absurd h (Nat.lt_irrefl 0)⟩ (Nat.zero_le _) (head_may ep)
  go_enter Tryz.func71, Tryz.ntmps71
  go_wp2_with fail
  refine con.mono ?_
  clear con
  rintro r w1 ⟨g, rfl, hg, hc, hb⟩
  have HC := Lib.hid hc
  have HB := Lib.hid hb
  clear hc hb
  go_wp2_with fail
  go_ret
  exact ⟨g, rfl, hg, HC.out, HB.out⟩
end Go.Proofs.YtdaknfepcbooeaaGreat.Sto
end

section
namespace Go.Proofs.YtdaknfepcbooeaaGreat.Sto
open Go.RowKit
open Go.Proofs.YtdaknfepcbooeaaGreat.Disk (M Dk Chg Dob Bn Did append sync remove rename there Ok)
open Go.Proofs.YtdaknfepcbooeaaGreat.Segm (Gm Sg Sob SobE GobE appendS syncS beginS)
open Go.Proofs.YtdaknfepcbooeaaGreat.Ord
set_option linter.unusedVariables false
set_option linter.unusedSimpArgs false

/-- While the steps are done: the disk, the new segment, and what the closures hold: the store, the bytes, the epoch, the segment. -/
structure Mb (w0 : World) (B q d bs bb be bn : Nat) (ep : BitVec 32) (A : Option Addr) (n c : Nat) (b : List (BitVec 8)) (m : M) (g : Option Gm) (W : World) : Prop where
  dk : Dk W B d m
  nx : ∃ v, Cel W bn 68 [v] ∧ Sv W B d g v
  st : ∃ a1 a2 a3, Cel W q 70 [.pointer (some ⟨d, 0, none⟩), a1, a2, a3]
  cs : Cel W bs 29 [.pointer (some ⟨q, 0, none⟩)]
  cb : Cel W bb 44 [.slice A n c]
  ce : Cel W be 56 [v32 ep]
  by_ : By W A n b
  chg : Chg B (SobE ep) w0 W
  new : w0.heap.size ≤ bn ∧ B ≤ w0.heap.size
/-- Blocks that the steps write, seen from within. -/
def Xob (ep : BitVec 32) : Obj → Prop
  | .map _ _ => True
  | .cells cs t _ => t = 65 ∨ t = 126 ∨ (t = 120 ∧ cs[3]? = some (v32 ep)) ∨ t = 68
  | _ => False
theorem sobE_xob {ep : BitVec 32} : ∀ o, SobE ep o → Xob ep o := by
  intro o h
  cases o with
  | map _ _ => trivial
  | cells _ t _ => exact h.imp id (·.imp id .inl)
  | _ => exact h
theorem by_sobE {ep : BitVec 32} {B : Nat} {w w' : World} {A : Option Addr} {n : Nat} {bs : List (BitVec 8)} (h : By w A n bs) (hc : Chg B (SobE ep) w w') : By w' A n bs := h.keep fun k cs fz hk => by
  rw [hk]; exact hc.block _ _ hk (.inr (by rintro (h | h | ⟨h, -⟩) <;> revert h <;> decide))
theorem cel_sobE {ep : BitVec 32} {B g : Nat} {t : TypeId} {w w' : World} {cs : List Value} (h : Cel w g t cs) (hc : Chg B (SobE ep) w w') (ht : t ≠ 65 ∧ t ≠ 126 ∧ t ≠ 120) : Cel w' g t cs :=
  Disk.Cel.chg h hc (by rintro (h | h | ⟨h, -⟩); exact ht.1 h; exact ht.2.1 h; exact ht.2.2 h)
theorem cel_xob {ep : BitVec 32} {B g : Nat} {t : TypeId} {w w' : World} {cs : List Value} (h : Cel w g t cs) (hc : Chg B (Xob ep) w w') (ht : t ≠ 65 ∧ t ≠ 126 ∧ t ≠ 120 ∧ t ≠ 68) : Cel w' g t cs :=
  Disk.Cel.chg h hc (by rintro (h | h | ⟨h, -⟩ | h); exact ht.1 h; exact ht.2.1 h; exact ht.2.2.1 h; exact ht.2.2.2 h)
/-- Blocks that hold a segment's pointer. -/
def Nob : Obj → Prop
  | .cells _ t _ => t = 68
  | _ => False
theorem nob_xob {ep : BitVec 32} : ∀ o, Nob o → Xob ep o := by
  intro o h
  cases o with
  | cells _ t _ => exact .inr (.inr (.inr h))
  | _ => exact h.elim
theorem Dk_nob {B d : Nat} {m : M} {w w' : World} (h : Dk w B d m) (hc : Chg B Nob w w') : Dk w' B d m := by
  obtain ⟨b, vs, kv, h⟩ := h
  exact ⟨b, vs, kv, h.chg hc (by rintro cs t fz (rfl | rfl | rfl) h <;> (simp only [Nob] at h; revert h; decide)) (fun _ _ h => h)⟩
theorem cel_nob {B g : Nat} {t : TypeId} {w w' : World} {cs : List Value} (h : Cel w g t cs) (hc : Chg B Nob w w') (ht : t ≠ 68) : Cel w' g t cs :=
  Disk.Cel.chg h hc (by intro h; exact ht h)
namespace Mb
variable {w0 W W' : World} {B q d bs bb be bn : Nat} {ep : BitVec 32} {A : Option Addr} {n c : Nat} {b : List (BitVec 8)} {m m' : M} {g g' : Option Gm}
theorem step (h : Mb w0 B q d bs bb be bn ep A n c b m g W) (hd : Dk W' B d m') (hv : ∀ v, Sv W B d g v → Sv W' B d g' v) (hc : Chg B (SobE ep) W W') : Mb w0 B q d bs bb be bn ep A n c b m' g' W' := by
  obtain ⟨v, h1, h2⟩ := h.nx
  obtain ⟨a1, a2, a3, h3⟩ := h.st
  exact ⟨hd, ⟨v, cel_sobE h1 hc (by decide), hv v h2⟩, ⟨a1, a2, a3, cel_sobE h3 hc (by decide)⟩, cel_sobE h.cs hc (by decide), cel_sobE h.cb hc (by decide), cel_sobE h.ce hc (by decide), by_sobE h.by_ hc, h.chg.trans hc, h.new⟩
theorem below (h : Mb w0 B q d bs bb be bn ep A n c b m g W) (hb : Below W.heap.size W W') : Mb w0 B q d bs bb be bn ep A n c b m g W' :=
  h.step (h.dk.below hb) (fun v hv => hv.below hb) (Chg.of_below hb)
end Mb
/-- What a step returned, and how things are then. -/
def MDid (w0 W : World) (B q d bs bb be bn : Nat) (ep : BitVec 32) (A : Option Addr) (n c : Nat) (b : List (BitVec 8)) (x : Int × M × Option Gm) (r : Ending) (W' : World) : Prop :=
  r = .returned (.int .i64 x.1) ∧ Mb w0 B q d bs bb be bn ep A n c b x.2.1 x.2.2 W' ∧ Chg B (Xob ep) W W'
theorem sv_ptr {w : World} {B d : Nat} {g : Option Gm} {v : Value} (h : Sv w B d g v) : ∃ p, v = .pointer p := by
  cases g with
  | none => exact ⟨_, h⟩
  | some g => obtain ⟨t, _, h2, _⟩ := h; exact ⟨_, h2⟩
theorem sv_dob {w w' : World} {B d : Nat} {g : Option Gm} {v : Value} (h : Sv w B d g v) (hc : Chg B Dob w w') : Sv w' B d g v := h.chg hc (by rintro cs fz (h | h) <;> revert h <;> decide)
theorem bs_lt {w : World} {g : Nat} {t : TypeId} {cs : List Value} (h : Cel w g t cs) : g < w.heap.size := Cel.lt h

theorem begin_sv (w : World) (B d : Nat) (m : M) (f : Int) (ep : BitVec 32) (hd : Dk w B d m) (hB : B ≤ w.heap.size) (hf : f < 9223372036854775808) :
    Calls Tryz.prog 65 #[.pointer (some ⟨d, 0, none⟩), .int .i64 f, v32 ep] w fun r w' => ∃ v, r = .returned (.tuple #[v, .int .i64 (beginS m f).1]) ∧ Dk w' B d (beginS m f).2.2 ∧
      Sv w' B d (if (beginS m f).2.1 then some ⟨f, ep, 0, false⟩ else none) v ∧ Chg B Dob w w' := by
  refine (Segm.begin_seg w B d m f ep hd hB hf).mono ?_
  intro r w' h
  cases hok : (beginS m f).2.1
  · obtain ⟨rfl, h1, h2⟩ := h.2 hok
    exact ⟨_, rfl, h1, rfl, h2⟩
  · obtain ⟨s, hs, rfl, h1, h2, h3⟩ := h.1 hok
    refine ⟨_, by rw [begin_zero hok], h1, ⟨s, Nat.le_trans hB hs, rfl, h2⟩, h3⟩
set_option maxRecDepth 100000 in
theorem removeIfAny_call (w : World) (B d : Nat) (m : M) (h : Dk w B d m) (hB : B ≤ w.heap.size) :
    Calls Tryz.prog 69 #[.pointer (some ⟨d, 0, none⟩), .int .i64 1] w (Did w B d (if (remove m 1).1 = 4 then 0 else (remove m 1).1, (remove m 1).2)) := by
  have con := Disk.remove_call w B d m 1 (by decide) h hB
  clear h
  generalize remove m 1 = x at *
  obtain ⟨e, m2⟩ := x
  replace con : Calls Tryz.prog 98 #[.pointer (some ⟨d, 0, none⟩), .int .i64 1] w fun r w' => r = .returned (.int .i64 e) ∧ Dk w' B d m2 ∧ Chg B Dob w w' := con
  by_cases he : e = 4
  · subst he
    go_enter Tryz.func69, Tryz.ntmps69
    go_wp2_with ((go_at_call 98; refine con.mono ?_; rintro e w' ⟨rfl, h1, h2⟩))
    go_ret
    exact ⟨rfl, h1, h2⟩
  · have d1 : (e == 4) = false := beq_eq_false_iff_ne.2 he
    have hi : (if e = 4 then 0 else e) = e := if_neg he
    clear he
    go_enter Tryz.func69, Tryz.ntmps69
    go_wp2_with ((go_at_call 98; refine con.mono ?_; rintro e w' ⟨rfl, h1, h2⟩))
    go_ret
    refine ⟨?_, h1, h2⟩
    first
      | rfl
      | (dsimp only; rw [hi])
set_option maxRecDepth 100000 in
set_option maxHeartbeats 1000000 in
theorem clo3 (w0 W : World) (B q d bs bb be bn : Nat) (ep : BitVec 32) (A : Option Addr) (n c : Nat) (b : List (BitVec 8)) (m : M) (g : Option Gm) (h : Mb w0 B q d bs bb be bn ep A n c b m g W) :
    Calls Tryz.prog 68 #[.pointer (some ⟨bs, 0, none⟩)] W (MDid w0 W B q d bs bb be bn ep A n c b (stp ep b 3 m g)) := by
  have H := Lib.hid h
  obtain ⟨a1, a2, a3, hst⟩ := h.st
  have k0 : W.cell? ⟨bs, 0, none⟩ = some (.pointer (some ⟨q, 0, none⟩)) := h.cs.cell 0
  have k1 : W.cell? ⟨q, 0, none⟩ = some (.pointer (some ⟨d, 0, none⟩)) := hst.cell 0
  have con := removeIfAny_call W B d m h.dk (Nat.le_trans h.new.2 h.chg.size)
  have e1 : stp ep b 3 m g = (((if (remove m 1).1 = 4 then 0 else (remove m 1).1), (remove m 1).2).1, ((if (remove m 1).1 = 4 then 0 else (remove m 1).1), (remove m 1).2).2, g) := rfl
  rw [e1]
  clear e1
  generalize ((if (remove m 1).1 = 4 then 0 else (remove m 1).1), (remove m 1).2) = x at *
  obtain ⟨e, m2⟩ := x
  replace con : Calls Tryz.prog 69 #[.pointer (some ⟨d, 0, none⟩), .int .i64 1] W fun r w' => r = .returned (.int .i64 e) ∧ Dk w' B d m2 ∧ Chg B Dob W w' := con
  clear h hst
  go_enter Tryz.func68, Tryz.ntmps68
  go_wp2_with ((go_at_call 69; refine con.mono ?_; rintro e w' ⟨rfl, h1, h2⟩))
  go_ret
  exact ⟨rfl, H.out.step h1 (fun v hv => sv_dob hv h2) (h2.mono (Nat.le_refl _) Segm.dob_sobE), h2.mono (Nat.le_refl _) (fun o ho => sobE_xob o (Segm.dob_sobE o ho))⟩
set_option maxRecDepth 100000 in
set_option maxHeartbeats 1000000 in
theorem clo5 (w0 W : World) (B q d bs bb be bn : Nat) (ep : BitVec 32) (A : Option Addr) (n c : Nat) (b : List (BitVec 8)) (m : M) (g : Option Gm) (h : Mb w0 B q d bs bb be bn ep A n c b m g W) :
    Calls Tryz.prog 72 #[.pointer (some ⟨bs, 0, none⟩)] W (MDid w0 W B q d bs bb be bn ep A n c b (stp ep b 5 m g)) := by
  have H := Lib.hid h
  obtain ⟨a1, a2, a3, hst⟩ := h.st
  have k0 : W.cell? ⟨bs, 0, none⟩ = some (.pointer (some ⟨q, 0, none⟩)) := h.cs.cell 0
  have k1 : W.cell? ⟨q, 0, none⟩ = some (.pointer (some ⟨d, 0, none⟩)) := hst.cell 0
  have con := Disk.sync_call W B d m 1 (by decide) h.dk (Nat.le_trans h.new.2 h.chg.size)
  have e1 : stp ep b 5 m g = ((sync m 1).1, (sync m 1).2, g) := rfl
  rw [e1]
  clear e1
  generalize (sync m 1) = x at *
  obtain ⟨e, m2⟩ := x
  replace con : Calls Tryz.prog 73 #[.pointer (some ⟨d, 0, none⟩), .int .i64 1] W fun r w' => r = .returned (.int .i64 e) ∧ Dk w' B d m2 ∧ Chg B Dob W w' := con
  clear h hst
  go_enter Tryz.func72, Tryz.ntmps72
  go_wp2_with ((go_at_call 73; refine con.mono ?_; rintro e w' ⟨rfl, h1, h2⟩))
  go_ret
  exact ⟨rfl, H.out.step h1 (fun v hv => sv_dob hv h2) (h2.mono (Nat.le_refl _) Segm.dob_sobE), h2.mono (Nat.le_refl _) (fun o ho => sobE_xob o (Segm.dob_sobE o ho))⟩
set_option maxRecDepth 100000 in
set_option maxHeartbeats 1000000 in
theorem clo6 (w0 W : World) (B q d bs bb be bn : Nat) (ep : BitVec 32) (A : Option Addr) (n c : Nat) (b : List (BitVec 8)) (m : M) (g : Option Gm) (h : Mb w0 B q d bs bb be bn ep A n c b m g W) :
    Calls Tryz.prog 74 #[.pointer (some ⟨bs, 0, none⟩)] W (MDid w0 W B q d bs bb be bn ep A n c b (stp ep b 6 m g)) := by
  have H := Lib.hid h
  obtain ⟨a1, a2, a3, hst⟩ := h.st
  have k0 : W.cell? ⟨bs, 0, none⟩ = some (.pointer (some ⟨q, 0, none⟩)) := h.cs.cell 0
  have k1 : W.cell? ⟨q, 0, none⟩ = some (.pointer (some ⟨d, 0, none⟩)) := hst.cell 0
  have con := Disk.rename_call W B d m 1 0 (by decide) (by decide) h.dk (Nat.le_trans h.new.2 h.chg.size)
  have e1 : stp ep b 6 m g = ((rename m 1 0).1, (rename m 1 0).2, g) := rfl
  rw [e1]
  clear e1
  generalize (rename m 1 0) = x at *
  obtain ⟨e, m2⟩ := x
  replace con : Calls Tryz.prog 75 #[.pointer (some ⟨d, 0, none⟩), .int .i64 1, .int .i64 0] W fun r w' => r = .returned (.int .i64 e) ∧ Dk w' B d m2 ∧ Chg B Dob W w' := con
  clear h hst
  go_enter Tryz.func74, Tryz.ntmps74
  go_wp2_with ((go_at_call 75; refine con.mono ?_; rintro e w' ⟨rfl, h1, h2⟩))
  go_ret
  exact ⟨rfl, H.out.step h1 (fun v hv => sv_dob hv h2) (h2.mono (Nat.le_refl _) Segm.dob_sobE), h2.mono (Nat.le_refl _) (fun o ho => sobE_xob o (Segm.dob_sobE o ho))⟩
theorem fileOf_fit' (ep : BitVec 32) : -9223372036854775808 ≤ fileOf ep ∧ fileOf ep < 9223372036854775808 := by
  rcases fileOf_or ep with h | h <;> rw [h] <;> decide
set_option maxRecDepth 100000 in
set_option maxHeartbeats 1000000 in
theorem clo1 (w0 W : World) (B q d bs bb be bn : Nat) (ep : BitVec 32) (A : Option Addr) (n c : Nat) (b : List (BitVec 8)) (m : M) (g : Gm) (h : Mb w0 B q d bs bb be bn ep A n c b m (some g) W) (hgf : g.file = fileOf ep) (hge : g.ep = ep) (hgz : g.size ≤ 100) (hnc : n ≤ c) (hc : c ≤ maxLen) :
    Calls Tryz.prog 66 #[.pointer (some ⟨bn, 0, none⟩), .pointer (some ⟨bb, 0, none⟩)] W (MDid w0 W B q d bs bb be bn ep A n c b (stp ep b 1 m (some g))) := by
  have H := Lib.hid h
  obtain ⟨v, hnx, t, htB, rfl, hsg⟩ := h.nx
  have k0 : W.cell? ⟨bn, 0, none⟩ = some (.pointer (some ⟨t, 0, none⟩)) := hnx.cell 0
  have k1 : W.cell? ⟨bb, 0, none⟩ = some (.slice A n c) := h.cb.cell 0
  have hff := fileOf_fit' ep
  have con := Segm.append_segE W B t d m g A n c b h.dk hsg (Nat.le_trans h.new.2 h.chg.size) htB (by rw [hgf]; exact hff.2) (by omega) h.by_.rd hnc hc
  have hep := appendS_ep m g b
  rw [hge] at hep
  have HN := Lib.hid hnx
  clear h hnx hsg hgf hge hgz hff
  have e1 : stp ep b 1 m (some g) = ((appendS m g b).1, (appendS m g b).2.1, some (appendS m g b).2.2) := rfl
  rw [e1]
  generalize (appendS m g b) = x at *
  obtain ⟨e, m2, g2⟩ := x
  dsimp only at hep
  subst hep
  replace con : Calls Tryz.prog 43 #[.pointer (some ⟨t, 0, none⟩), .slice A n c] W fun r w' => r = .returned (.int .i64 e) ∧ Dk w' B d m2 ∧ Sg w' t d g2 ∧ Chg B (SobE g2.ep) W w' := con
  clear e1
  go_enter Tryz.func66, Tryz.ntmps66
  go_wp2_with ((go_at_call 43; refine con.mono ?_; rintro e w' ⟨rfl, h1, h2, h3⟩))
  go_ret
  refine ⟨rfl, ?_, h3.mono (Nat.le_refl _) sobE_xob⟩
  obtain ⟨a1, a2, a3, h4⟩ := H.out.st
  exact ⟨h1, ⟨_, cel_sobE HN.out h3 (by decide), t, htB, rfl, h2⟩, ⟨a1, a2, a3, cel_sobE h4 h3 (by decide)⟩, cel_sobE H.out.cs h3 (by decide), cel_sobE H.out.cb h3 (by decide), cel_sobE H.out.ce h3 (by decide), by_sobE H.out.by_ h3, H.out.chg.trans h3, H.out.new⟩
set_option maxRecDepth 100000 in
set_option maxHeartbeats 1000000 in
theorem clo2 (w0 W : World) (B q d bs bb be bn : Nat) (ep : BitVec 32) (A : Option Addr) (n c : Nat) (b : List (BitVec 8)) (m : M) (g : Gm) (h : Mb w0 B q d bs bb be bn ep A n c b m (some g) W) (hgf : g.file = fileOf ep) (hge : g.ep = ep) (hgz : g.size ≤ 100) :
    Calls Tryz.prog 67 #[.pointer (some ⟨bn, 0, none⟩)] W (MDid w0 W B q d bs bb be bn ep A n c b (stp ep b 2 m (some g))) := by
  have H := Lib.hid h
  obtain ⟨v, hnx, t, htB, rfl, hsg⟩ := h.nx
  have k0 : W.cell? ⟨bn, 0, none⟩ = some (.pointer (some ⟨t, 0, none⟩)) := hnx.cell 0
  have k1 : W.cell? ⟨bb, 0, none⟩ = some (.slice A n c) := h.cb.cell 0
  have hff := fileOf_fit' ep
  have con := Segm.sync_segE W B t d m g h.dk hsg (Nat.le_trans h.new.2 h.chg.size) htB (by rw [hgf]; exact hff)
  have hep := syncS_ep m g
  rw [hge] at hep
  have HN := Lib.hid hnx
  clear h hnx hsg hgf hge hgz hff
  have e1 : stp ep b 2 m (some g) = ((syncS m g).1, (syncS m g).2.1, some (syncS m g).2.2) := rfl
  rw [e1]
  generalize (syncS m g) = x at *
  obtain ⟨e, m2, g2⟩ := x
  dsimp only at hep
  subst hep
  replace con : Calls Tryz.prog 45 #[.pointer (some ⟨t, 0, none⟩)] W fun r w' => r = .returned (.int .i64 e) ∧ Dk w' B d m2 ∧ Sg w' t d g2 ∧ Chg B (SobE g2.ep) W w' := con
  clear e1
  go_enter Tryz.func67, Tryz.ntmps67
  go_wp2_with ((go_at_call 45; refine con.mono ?_; rintro e w' ⟨rfl, h1, h2, h3⟩))
  go_ret
  refine ⟨rfl, ?_, h3.mono (Nat.le_refl _) sobE_xob⟩
  obtain ⟨a1, a2, a3, h4⟩ := H.out.st
  exact ⟨h1, ⟨_, cel_sobE HN.out h3 (by decide), t, htB, rfl, h2⟩, ⟨a1, a2, a3, cel_sobE h4 h3 (by decide)⟩, cel_sobE H.out.cs h3 (by decide), cel_sobE H.out.cb h3 (by decide), cel_sobE H.out.ce h3 (by decide), by_sobE H.out.by_ h3, H.out.chg.trans h3, H.out.new⟩
set_option maxRecDepth 100000 in
set_option maxHeartbeats 2000000 in
theorem clo0 (w0 W : World) (B q d bs bb be bn : Nat) (ep : BitVec 32) (A : Option Addr) (n c : Nat) (b : List (BitVec 8)) (m : M) (g : Option Gm) (h : Mb w0 B q d bs bb be bn ep A n c b m g W) :
    Calls Tryz.prog 64 #[.pointer (some ⟨bs, 0, none⟩), .pointer (some ⟨be, 0, none⟩), .pointer (some ⟨bn, 0, none⟩)] W (MDid w0 W B q d bs bb be bn ep A n c b (stp ep b 0 m g)) := by
  have H := Lib.hid h
  have hcl : ∀ V, Chg B (Xob ep) W V → V.cell? ⟨bs, 0, none⟩ = some (.pointer (some ⟨q, 0, none⟩)) ∧ V.cell? ⟨q, 0, none⟩ = some (.pointer (some ⟨d, 0, none⟩)) ∧ V.cell? ⟨be, 0, none⟩ = some (v32 ep) := fun V hV => by
    obtain ⟨a1, a2, a3, h4⟩ := H.out.st
    exact ⟨(cel_xob H.out.cs hV (by decide)).cell 0, (cel_xob h4 hV (by decide)).cell 0, (cel_xob H.out.ce hV (by decide)).cell 0⟩
  have con := begin_sv W.drew B d m (fileOf ep) ep (h.dk.below (Below.refl _ _).drew) (Nat.le_trans h.new.2 h.chg.size) (fileOf_fit' ep).2
  have con1 := fileOf_call W.drew ep
  clear h
  have e1 : stp ep b 0 m g = ((beginS m (fileOf ep)).1, (beginS m (fileOf ep)).2.2, if (beginS m (fileOf ep)).2.1 then some ⟨fileOf ep, ep, 0, false⟩ else none) := rfl
  rw [e1]
  clear e1
  generalize beginS m (fileOf ep) = x at *
  obtain ⟨e, ok, m2⟩ := x
  obtain ⟨f, hf⟩ : ∃ f, fileOf ep = f := ⟨_, rfl⟩
  rw [hf] at con con1 ⊢
  clear hf
  dsimp only at con ⊢
  generalize (if ok = true then some (⟨f, ep, 0, false⟩ : Gm) else none) = g2 at *
  go_enter Tryz.func64, Tryz.ntmps64
  go_wp2_with fail
  refine wp_region_N [] (Chg B (Xob ep) W) (by kernel_rfl) ?_
  have hH : Chg B (Xob ep) W W.drew := (Chg.refl B (Xob ep) W).drew
  refine wpAnyN_take (i := 0) (v := .pointer (some ⟨q, 0, none⟩)) [] (by kernel_rfl) rfl (by kernel_rfl) (by kernel_rfl) (by kernel_rfl) (fun _ _ _ h => h) (Or.inl ⟨by rfl, ?_⟩) hH ?_
  · intro V hV; obtain ⟨k0, k1, k2⟩ := hcl V hV; go_simp
  try simp only [Act.put, List.setIfInBounds_toArray, List.set_cons_zero, List.set_cons_succ, List.getElem_toArray, List.getElem_cons_succ, List.getElem_cons_zero]
  refine wpAnyN_take (i := 1) (v := .pointer (some ⟨q, 0, none⟩)) [] (by kernel_rfl) rfl (by kernel_rfl) (by kernel_rfl) (by kernel_rfl) (fun _ _ _ h => h) (Or.inl ⟨by rfl, ?_⟩) hH ?_
  · intro V hV; go_simp
  try simp only [Act.put, List.setIfInBounds_toArray, List.set_cons_zero, List.set_cons_succ, List.getElem_toArray, List.getElem_cons_succ, List.getElem_cons_zero]
  refine wpAnyN_take (i := 2) (v := .pointer (some ⟨q, 0, none⟩)) [] (by kernel_rfl) rfl (by kernel_rfl) (by kernel_rfl) (by kernel_rfl) (fun _ _ _ h => h) (Or.inl ⟨by rfl, ?_⟩) hH ?_
  · intro V hV; go_simp
  try simp only [Act.put, List.setIfInBounds_toArray, List.set_cons_zero, List.set_cons_succ, List.getElem_toArray, List.getElem_cons_succ, List.getElem_cons_zero]
  refine wpAnyN_take (i := 3) (v := .pointer (some ⟨d, 0, none⟩)) [] (by kernel_rfl) rfl (by kernel_rfl) (by kernel_rfl) (by kernel_rfl) (fun _ _ _ h => h) (Or.inl ⟨by rfl, ?_⟩) hH ?_
  · intro V hV; obtain ⟨k0, k1, k2⟩ := hcl V hV; go_simp
  try simp only [Act.put, List.setIfInBounds_toArray, List.set_cons_zero, List.set_cons_succ, List.getElem_toArray, List.getElem_cons_succ, List.getElem_cons_zero]
  refine wpAnyN_take (i := 4) (v := v32 ep) [] (by kernel_rfl) rfl (by kernel_rfl) (by kernel_rfl) (by kernel_rfl) (fun _ _ _ h => h) (Or.inl ⟨by rfl, ?_⟩) hH ?_
  · intro V hV; obtain ⟨k0, k1, k2⟩ := hcl V hV; go_simp
  try simp only [Act.put, List.setIfInBounds_toArray, List.set_cons_zero, List.set_cons_succ, List.getElem_toArray, List.getElem_cons_succ, List.getElem_cons_zero]
  refine wpAnyN_take (i := 6) (v := v32 ep) [] (by kernel_rfl) rfl (by kernel_rfl) (by kernel_rfl) (by kernel_rfl) (fun _ _ _ h => h) (Or.inl ⟨by rfl, ?_⟩) hH ?_
  · intro V hV; obtain ⟨k0, k1, k2⟩ := hcl V hV; go_simp
  try simp only [Act.put, List.setIfInBounds_toArray, List.set_cons_zero, List.set_cons_succ, List.getElem_toArray, List.getElem_cons_succ, List.getElem_cons_zero]
  refine wpAnyN_one (i := 5) (by kernel_rfl) rfl (fun K hK => ?_)
  go_simp
  refine con1.mono ?_
  clear con1
  rintro r w1 ⟨rfl, rfl⟩
  go_wp2_with fail
  refine hK.out _ _ (.inr hH) ?_
  clear hK K
  try simp only [Act.put, List.setIfInBounds_toArray, List.set_cons_zero, List.set_cons_succ, List.getElem_toArray, List.getElem_cons_succ, List.getElem_cons_zero]
  refine wpAnyN_one (i := 7) (by kernel_rfl) rfl (fun K hK => ?_)
  go_simp
  refine con.mono ?_
  clear con
  rintro r w1 ⟨v, rfl, hd1, hv1, hc1⟩
  obtain ⟨p, rfl⟩ := sv_ptr hv1
  have hc1' : Chg B (SobE ep) W w1 := (Chg.refl B (SobE ep) W).drew.trans (hc1.mono (Nat.le_refl _) Segm.dob_sobE)
  have hH1 : Chg B (Xob ep) W w1 := hc1'.mono (Nat.le_refl _) sobE_xob
  have HD1 := Lib.hid hd1
  have HV1 := Lib.hid hv1
  have HC1 := Lib.hid hc1'
  have HH1 := Lib.hid hH1
  obtain ⟨v0, hnx, _⟩ := H.out.nx
  have hnx1 : Cel w1 bn 68 [v0] := cel_sobE hnx hc1' (by decide)
  have kb : w1.cell? ⟨bn, 0, none⟩ = some v0 := hnx1.cell 0
  have fb := hnx1.free 0
  have HN1 := Lib.hid hnx1
  clear hd1 hv1 hc1 hc1' hH1 hnx hnx1 hH
  go_wp2_with fail
  refine hK.out _ _ (.inr HH1.out) ?_
  clear hK K
  have hH := HH1.out
  try simp only [Act.put, List.setIfInBounds_toArray, List.set_cons_zero, List.set_cons_succ, List.getElem_toArray, List.getElem_cons_succ, List.getElem_cons_zero]
  refine wpAnyN_one (i := 8) (by kernel_rfl) rfl (fun K hK => ?_)
  go_simp
  refine hK.out _ _ (.inr hH) ?_
  clear hK K
  try simp only [Act.put, List.setIfInBounds_toArray, List.set_cons_zero, List.set_cons_succ, List.getElem_toArray, List.getElem_cons_succ, List.getElem_cons_zero]
  refine wpAnyN_take (i := 9) (v := .pointer p) [] (by kernel_rfl) rfl (by kernel_rfl) (by kernel_rfl) (by kernel_rfl) (fun _ _ _ h => h) (Or.inl ⟨by rfl, ?_⟩) hH ?_
  · intro V hV; go_simp
  try simp only [Act.put, List.setIfInBounds_toArray, List.set_cons_zero, List.set_cons_succ, List.getElem_toArray, List.getElem_cons_succ, List.getElem_cons_zero]
  refine wpAnyN_take (i := 10) (v := .int .i64 e) [] (by kernel_rfl) rfl (by kernel_rfl) (by kernel_rfl) (by kernel_rfl) (fun _ _ _ h => h) (Or.inl ⟨by rfl, ?_⟩) hH ?_
  · intro V hV; go_simp
  try simp only [Act.put, List.setIfInBounds_toArray, List.set_cons_zero, List.set_cons_succ, List.getElem_toArray, List.getElem_cons_succ, List.getElem_cons_zero]
  have hn2 : Chg B Nob w1 (w1.setCell ⟨bn, 0, none⟩ (.pointer p)) := (Chg.refl B Nob w1).set (p := ⟨bn, 0, none⟩) _ (.inr ⟨Nat.le_trans H.out.new.2 H.out.new.1, _, (show w1.heap[bn]? = _ from HN1.out), rfl⟩)
  have hm2 : Mb w0 B q d bs bb be bn ep A n c b m2 g2 (w1.setCell ⟨bn, 0, none⟩ (.pointer p)) := by
    obtain ⟨a1, a2, a3, h4⟩ := H.out.st
    have hc := HC1.out
    refine ⟨Dk_nob HD1.out hn2, ⟨.pointer p, HN1.out.set 0 _, HV1.out.chg hn2 (by intro cs fz h; simp only [Nob] at h; revert h; decide)⟩, ⟨a1, a2, a3, cel_nob (cel_sobE h4 hc (by decide)) hn2 (by decide)⟩, cel_nob (cel_sobE H.out.cs hc (by decide)) hn2 (by decide), cel_nob (cel_sobE H.out.cb hc (by decide)) hn2 (by decide), cel_nob (cel_sobE H.out.ce hc (by decide)) hn2 (by decide), ?_, ?_, H.out.new⟩
    · exact (by_sobE H.out.by_ hc).keep fun k cs fz hk => by
        rw [hk]; exact hn2.block _ _ hk (.inr (by intro h; simp only [Nob] at h; revert h; decide))
    · exact (H.out.chg.trans hc).set (p := ⟨bn, 0, none⟩) (.pointer p) (.inl H.out.new.1)
  have hh2 : Chg B (Xob ep) W (w1.setCell ⟨bn, 0, none⟩ (.pointer p)) := HH1.out.trans (hn2.mono (Nat.le_refl _) nob_xob)
  have HM2 := Lib.hid hm2
  have HH2 := Lib.hid hh2
  clear hn2 hm2 hh2
  refine wpAnyN_one (i := 11) (by kernel_rfl) rfl (fun K hK => ?_)
  go_simp
  refine hK.out _ _ (.inr HH2.out) ?_
  clear hK K
  try simp only [Act.put, List.setIfInBounds_toArray, List.set_cons_zero, List.set_cons_succ, List.getElem_toArray, List.getElem_cons_succ, List.getElem_cons_zero]
  refine wpAnyN_one (i := 12) (by kernel_rfl) rfl (fun K hK => ?_)
  go_simp
  refine hK.out _ _ (.inr HH2.out) ?_
  clear hK K
  try simp only [Act.put, List.setIfInBounds_toArray, List.set_cons_zero, List.set_cons_succ, List.getElem_toArray, List.getElem_cons_succ, List.getElem_cons_zero]
  refine wpAnyN_done (by kernel_rfl) ?_ _
  simp only [Exit.then]
  go_wp2_with fail
  go_ret
  exact ⟨rfl, HM2.out, HH2.out⟩
set_option maxRecDepth 100000 in
set_option maxHeartbeats 2000000 in
theorem clo4 (w0 W : World) (B q d bs bb be bn : Nat) (ep : BitVec 32) (A : Option Addr) (n c : Nat) (b : List (BitVec 8)) (m : M) (g : Option Gm) (h : Mb w0 B q d bs bb be bn ep A n c b m g W) :
    Calls Tryz.prog 70 #[.pointer (some ⟨bs, 0, none⟩), .pointer (some ⟨be, 0, none⟩)] W (MDid w0 W B q d bs bb be bn ep A n c b (stp ep b 4 m g)) := by
  have H := Lib.hid h
  have hcl : ∀ V, Chg B (SobE ep) W V → V.cell? ⟨bs, 0, none⟩ = some (.pointer (some ⟨q, 0, none⟩)) ∧ V.cell? ⟨q, 0, none⟩ = some (.pointer (some ⟨d, 0, none⟩)) ∧ V.cell? ⟨be, 0, none⟩ = some (v32 ep) := fun V hV => by
    obtain ⟨a1, a2, a3, h4⟩ := H.out.st
    exact ⟨(cel_sobE H.out.cs hV (by decide)).cell 0, (cel_sobE h4 hV (by decide)).cell 0, (cel_sobE H.out.ce hV (by decide)).cell 0⟩
  have con1 := headOf_call W.drew ep
  clear h
  have e1 : stp ep b 4 m g = ((append m 1 (headSec ep)).1, (append m 1 (headSec ep)).2, g) := rfl
  rw [e1]
  clear e1
  go_enter Tryz.func70, Tryz.ntmps70
  go_wp2_with fail
  refine wp_region_N [] (Chg B (SobE ep) W) (by kernel_rfl) ?_
  have hH : Chg B (SobE ep) W W.drew := (Chg.refl B (SobE ep) W).drew
  refine wpAnyN_take (i := 0) (v := .pointer (some ⟨q, 0, none⟩)) [] (by kernel_rfl) rfl (by kernel_rfl) (by kernel_rfl) (by kernel_rfl) (fun _ _ _ h => h) (Or.inl ⟨by rfl, ?_⟩) hH ?_
  · intro V hV; obtain ⟨k0, k1, k2⟩ := hcl V hV; go_simp
  try simp only [Act.put, List.setIfInBounds_toArray, List.set_cons_zero, List.set_cons_succ, List.getElem_toArray, List.getElem_cons_succ, List.getElem_cons_zero]
  refine wpAnyN_take (i := 1) (v := .pointer (some ⟨q, 0, none⟩)) [] (by kernel_rfl) rfl (by kernel_rfl) (by kernel_rfl) (by kernel_rfl) (fun _ _ _ h => h) (Or.inl ⟨by rfl, ?_⟩) hH ?_
  · intro V hV; go_simp
  try simp only [Act.put, List.setIfInBounds_toArray, List.set_cons_zero, List.set_cons_succ, List.getElem_toArray, List.getElem_cons_succ, List.getElem_cons_zero]
  refine wpAnyN_take (i := 2) (v := .pointer (some ⟨q, 0, none⟩)) [] (by kernel_rfl) rfl (by kernel_rfl) (by kernel_rfl) (by kernel_rfl) (fun _ _ _ h => h) (Or.inl ⟨by rfl, ?_⟩) hH ?_
  · intro V hV; go_simp
  try simp only [Act.put, List.setIfInBounds_toArray, List.set_cons_zero, List.set_cons_succ, List.getElem_toArray, List.getElem_cons_succ, List.getElem_cons_zero]
  refine wpAnyN_take (i := 3) (v := .pointer (some ⟨d, 0, none⟩)) [] (by kernel_rfl) rfl (by kernel_rfl) (by kernel_rfl) (by kernel_rfl) (fun _ _ _ h => h) (Or.inl ⟨by rfl, ?_⟩) hH ?_
  · intro V hV; obtain ⟨k0, k1, k2⟩ := hcl V hV; go_simp
  try simp only [Act.put, List.setIfInBounds_toArray, List.set_cons_zero, List.set_cons_succ, List.getElem_toArray, List.getElem_cons_succ, List.getElem_cons_zero]
  refine wpAnyN_take (i := 4) (v := v32 ep) [] (by kernel_rfl) rfl (by kernel_rfl) (by kernel_rfl) (by kernel_rfl) (fun _ _ _ h => h) (Or.inl ⟨by rfl, ?_⟩) hH ?_
  · intro V hV; obtain ⟨k0, k1, k2⟩ := hcl V hV; go_simp
  try simp only [Act.put, List.setIfInBounds_toArray, List.set_cons_zero, List.set_cons_succ, List.getElem_toArray, List.getElem_cons_succ, List.getElem_cons_zero]
  refine wpAnyN_one (i := 5) (by kernel_rfl) rfl (fun K hK => ?_)
  go_simp
  refine con1.mono ?_
  clear con1
  rintro r w1 ⟨y, rfl, hy, hcy, hb1⟩
  have hH1 : Chg B (SobE ep) W w1 := hH.trans (Chg.of_below hb1)
  have con := Disk.append_call w1 B d m 1 (some ⟨y, 0, none⟩) 512 512 (headSec ep) (H.out.dk.below ((Below.refl _ _).drew.trans hb1)) (Nat.le_trans (Nat.le_trans H.out.new.2 H.out.chg.size) hH1.size) (by decide) (Segm.img_bn hcy (headSec_len ep)) (fun ad e => by cases e; exact ⟨_, _, rfl⟩) (by unfold maxLen; omega)
  have HM1 := Lib.hid (H.out.below ((Below.refl _ _).drew.trans hb1))
  have HH1 := Lib.hid hH1
  clear hcy hb1 hH1 hH
  go_wp2_with fail
  refine hK.out _ _ (.inr HH1.out) ?_
  clear hK K
  try simp only [Act.put, List.setIfInBounds_toArray, List.set_cons_zero, List.set_cons_succ, List.getElem_toArray, List.getElem_cons_succ, List.getElem_cons_zero]
  generalize append m 1 (headSec ep) = x at *
  obtain ⟨e, m2⟩ := x
  refine wpAnyN_one (i := 6) (by kernel_rfl) rfl (fun K hK => ?_)
  go_simp
  refine con.mono ?_
  clear con
  rintro r w2 ⟨rfl, hd2, hc2⟩
  have HH2 := Lib.hid (HH1.out.trans (hc2.mono (Nat.le_refl _) Segm.dob_sobE))
  have HM2 := Lib.hid (HM1.out.step hd2 (fun v hv => sv_dob hv hc2) (hc2.mono (Nat.le_refl _) Segm.dob_sobE))
  clear hd2 hc2
  go_wp2_with fail
  refine hK.out _ _ (.inr HH2.out) ?_
  clear hK K
  try simp only [Act.put, List.setIfInBounds_toArray, List.set_cons_zero, List.set_cons_succ, List.getElem_toArray, List.getElem_cons_succ, List.getElem_cons_zero]
  refine wpAnyN_one (i := 7) (by kernel_rfl) rfl (fun K hK => ?_)
  go_simp
  refine hK.out _ _ (.inr HH2.out) ?_
  clear hK K
  try simp only [Act.put, List.setIfInBounds_toArray, List.set_cons_zero, List.set_cons_succ, List.getElem_toArray, List.getElem_cons_succ, List.getElem_cons_zero]
  refine wpAnyN_done (by kernel_rfl) ?_ _
  simp only [Exit.then]
  go_wp2_with fail
  go_ret
  exact ⟨rfl, HM2.out, HH2.out.mono (Nat.le_refl _) sobE_xob⟩
end Go.Proofs.YtdaknfepcbooeaaGreat.Sto
end

section
namespace Go.Proofs.YtdaknfepcbooeaaGreat.Sto
open Go.RowKit
open Go.Proofs.YtdaknfepcbooeaaGreat.Disk (M Dk Chg Dob Bn Did append sync remove rename there Ok)
open Go.Proofs.YtdaknfepcbooeaaGreat.Segm (Gm Sg Sob SobE GobE appendS syncS beginS)
open Go.Proofs.YtdaknfepcbooeaaGreat.Ord
set_option linter.unusedVariables false
set_option linter.unusedSimpArgs false

set_option maxRecDepth 100000 in
set_option maxHeartbeats 1000000 in
/-- A row of steps, done up to the first error. -/
theorem doAll_call (W0 : World) (bl cc : Nat) (Fs : Nat → Nat × Array Value) (P : Nat → World → Prop) (R : Ending → World → Prop)
    (hcell : ∀ k W, k < 7 → P k W → W.cell? ⟨bl, k, none⟩ = some (.func (.func (Fs k).1) #[] (Fs k).2))
    (hent : ∀ k, k < 7 → ∀ args w, (callFunc (Fs k).1 args).run Tryz.prog w = .ok (.enter (Fs k).1 args) w)
    (hcl : ∀ k W, k < 7 → P k W → Calls Tryz.prog (Fs k).1 (Fs k).2 W fun r W' => ∃ e, r = .returned (.int .i64 e) ∧ (e = 0 → P (k + 1) W') ∧ (e ≠ 0 → R (.returned (.int .i64 e)) W'))
    (hend : ∀ W, P 7 W → R (.returned (.int .i64 0)) W) (h0 : P 0 W0) :
    Calls Tryz.prog 63 #[.slice (some ⟨bl, 0, none⟩) 7 cc] W0 R := by
  have HC := Lib.hid hcell
  have HCL := Lib.hid hcl
  have HE := Lib.hid hend
  have H0 := Lib.hid h0
  clear hcell hcl hend h0
  go_enter Tryz.func63, Tryz.ntmps63
  go_wp2_with fail
  go_loopw [8] (fun i wr => ∃ k : Nat, k ≤ 7 ∧ i = .int .i64 (k : Int) ∧ P k wr) (fun i _ => 7 - (intOf i).toNat)
  case atStart => exact ⟨0, Nat.zero_le _, rfl, H0.out⟩
  case round =>
    obtain ⟨k, hk, rfl, hP⟩ := hrel
    by_cases hlt : k < 7
    · have hc := HC.out k wr hlt hP
      have con := HCL.out k wr hlt hP
      have he := hent k hlt
      clear hP hent
      generalize Fs k = F at *
      obtain ⟨F, caps⟩ := F
      dsimp only at hc con he
      go_wp2_with fail
      refine con.mono ?_
      clear con
      rintro r w1 ⟨e, rfl, h1, h2⟩
      have H1 := Lib.hid h1
      have H2 := Lib.hid h2
      clear h1 h2
      by_cases he0 : e = 0
      · subst he0
        go_wp2_with fail
        go_roundw
        case rel => exact ⟨k + 1, by omega, by go_num, H1.out trivial⟩
        case measure => simp [intOf]; omega
      · have d0 : (e == 0) = false := beq_eq_false_iff_ne.2 he0
        have hr := H2.out he0
        go_wp2_with fail
        exact hr
    · obtain rfl : k = 7 := by omega
      have hr := HE.out wr hP
      clear hP hent
      go_wp2_with fail
      exact hr

/-- The closures, in their row. -/
def Fs (bs bb be bn : Nat) : Nat → Nat × Array Value
  | 0 => (64, #[.pointer (some ⟨bs, 0, none⟩), .pointer (some ⟨be, 0, none⟩), .pointer (some ⟨bn, 0, none⟩)])
  | 1 => (66, #[.pointer (some ⟨bn, 0, none⟩), .pointer (some ⟨bb, 0, none⟩)])
  | 2 => (67, #[.pointer (some ⟨bn, 0, none⟩)])
  | 3 => (68, #[.pointer (some ⟨bs, 0, none⟩)])
  | 4 => (70, #[.pointer (some ⟨bs, 0, none⟩), .pointer (some ⟨be, 0, none⟩)])
  | 5 => (72, #[.pointer (some ⟨bs, 0, none⟩)])
  | _ => (74, #[.pointer (some ⟨bs, 0, none⟩)])
abbrev cloV (F : Nat) (caps : Array Value) : Value := .func (.func F) #[] caps
def FV (bs bb be bn : Nat) (k : Nat) : Value := cloV (Fs bs bb be bn k).1 (Fs bs bb be bn k).2
/-- A step, whichever it is. -/
theorem clo_any (w0 W : World) (B q d bs bb be bn : Nat) (ep : BitVec 32) (A : Option Addr) (n c : Nat) (b : List (BitVec 8)) (m : M) (g : Option Gm) (k : Nat) (hk : k < 7) (h : Mb w0 B q d bs bb be bn ep A n c b m g W) (hm : Mid ep k m g) (hnc : n ≤ c) (hc : c ≤ maxLen) :
    Calls Tryz.prog (Fs bs bb be bn k).1 (Fs bs bb be bn k).2 W (MDid w0 W B q d bs bb be bn ep A n c b (stp ep b k m g)) := by
  match k, hk, g, h, hm with
  | 0, _, g, h, _ => exact clo0 w0 W B q d bs bb be bn ep A n c b m g h
  | 1, _, none, h, hm => obtain ⟨g', e, _⟩ := hm.2 (by decide); cases e
  | 1, _, some g, h, hm =>
    obtain ⟨g', e, h1, h2, h3, _⟩ := hm.2 (by decide)
    cases e
    exact clo1 w0 W B q d bs bb be bn ep A n c b m g h h1 h2 h3 hnc hc
  | 2, _, none, h, hm => obtain ⟨g', e, _⟩ := hm.2 (by decide); cases e
  | 2, _, some g, h, hm =>
    obtain ⟨g', e, h1, h2, h3, _⟩ := hm.2 (by decide)
    cases e
    exact clo2 w0 W B q d bs bb be bn ep A n c b m g h h1 h2 h3
  | 3, _, g, h, _ => exact clo3 w0 W B q d bs bb be bn ep A n c b m g h
  | 4, _, g, h, _ => exact clo4 w0 W B q d bs bb be bn ep A n c b m g h
  | 5, _, g, h, _ => exact clo5 w0 W B q d bs bb be bn ep A n c b m g h
  | 6, _, g, h, _ => exact clo6 w0 W B q d bs bb be bn ep A n c b m g h
theorem enters7 (bs bb be bn : Nat) (k : Nat) (hk : k < 7) : ∀ args w, (callFunc (Fs bs bb be bn k).1 args).run Tryz.prog w = .ok (.enter (Fs bs bb be bn k).1 args) w := by
  match k, hk with
  | 0, _ => exact enters_of Tryz.func64 (by kernel_rfl) rfl
  | 1, _ => exact enters_of Tryz.func66 (by kernel_rfl) rfl
  | 2, _ => exact enters_of Tryz.func67 (by kernel_rfl) rfl
  | 3, _ => exact enters_of Tryz.func68 (by kernel_rfl) rfl
  | 4, _ => exact enters_of Tryz.func70 (by kernel_rfl) rfl
  | 5, _ => exact enters_of Tryz.func72 (by kernel_rfl) rfl
  | 6, _ => exact enters_of Tryz.func74 (by kernel_rfl) rfl
/-- All steps, from a row of closures. -/
theorem doAll_seven (w0 W0 : World) (B q d bs bb be bn bl : Nat) (ep : BitVec 32) (A : Option Addr) (n c : Nat) (b : List (BitVec 8)) (m : M) (h : Mb w0 B q d bs bb be bn ep A n c b m none W0) (hok : Ok m) (hnc : n ≤ c) (hc : c ≤ maxLen)
    (hl : Cel W0 bl 48 [FV bs bb be bn 0, FV bs bb be bn 1, FV bs bb be bn 2, FV bs bb be bn 3, FV bs bb be bn 4, FV bs bb be bn 5, FV bs bb be bn 6]) :
    Calls Tryz.prog 63 #[.slice (some ⟨bl, 0, none⟩) 7 7] W0 fun r W => r = .returned (.int .i64 (anew m ep b).1) ∧ Mb w0 B q d bs bb be bn ep A n c b (anew m ep b).2.1 (anew m ep b).2.2 W := by
  refine doAll_call W0 bl 7 (Fs bs bb be bn) (fun k W => Cel W bl 48 [FV bs bb be bn 0, FV bs bb be bn 1, FV bs bb be bn 2, FV bs bb be bn 3, FV bs bb be bn 4, FV bs bb be bn 5, FV bs bb be bn 6] ∧
    ∃ m1 g1, Mb w0 B q d bs bb be bn ep A n c b m1 g1 W ∧ Mid ep k m1 g1 ∧ anew m ep b = run7 ep b (7 - k) k m1 g1) _ ?_ (enters7 bs bb be bn) ?_ ?_ ⟨hl, m, none, h, mid_start hok, rfl⟩
  · rintro k W hk ⟨hl, _⟩
    match k, hk with
    | 0, _ => exact hl.cell 0
    | 1, _ => exact hl.cell 1
    | 2, _ => exact hl.cell 2
    | 3, _ => exact hl.cell 3
    | 4, _ => exact hl.cell 4
    | 5, _ => exact hl.cell 5
    | 6, _ => exact hl.cell 6
  · rintro k W hk ⟨hl, m1, g1, hM, hm, hr⟩
    refine (clo_any w0 W B q d bs bb be bn ep A n c b m1 g1 k hk hM hm hnc hc).mono ?_
    rintro r W' ⟨rfl, hM', hc'⟩
    have e7 : 7 - k = (7 - (k + 1)) + 1 := by omega
    refine ⟨_, rfl, fun h0 => ⟨cel_xob hl hc' (by decide), _, _, hM', (mid_step hk hm).2 h0, ?_⟩, fun h0 => ?_⟩
    · rw [hr, e7, run7_goes h0]
    · rw [hr, e7, run7_stops h0]
      exact ⟨rfl, hM'⟩
  · rintro W ⟨_, m1, g1, hM, _, hr⟩
    rw [hr]
    exact ⟨rfl, hM⟩
end Go.Proofs.YtdaknfepcbooeaaGreat.Sto
end

section
namespace Go.Proofs.YtdaknfepcbooeaaGreat.Sto
open Go.RowKit
open Go.Proofs.YtdaknfepcbooeaaGreat.Disk (M Dk Chg Dob Bn Did append sync remove rename there Ok)
open Go.Proofs.YtdaknfepcbooeaaGreat.Segm (Gm Sg Sob SobE GobE appendS syncS beginS)
open Go.Proofs.YtdaknfepcbooeaaGreat.Ord
set_option linter.unusedVariables false
set_option linter.unusedSimpArgs false

/-- What a store's call returned, and how the disk and the store are then. -/
def TDid (w : World) (B q d : Nat) (x : Int × M × St) (r : Ending) (w' : World) : Prop := r = .returned (.int .i64 x.1) ∧ Dk w' B d x.2.1 ∧ Ss w' B q d x.2.2 ∧ Chg B Stb w w'
/-- What beginning anew makes of a store. -/
def anewT (m : M) (s : St) (b : List (BitVec 8)) : Int × M × St :=
  if (anew m (s.ep + 1#32) b).1 = 0 then (0, (anew m (s.ep + 1#32) b).2.1, ⟨s.ep + 1#32, (anew m (s.ep + 1#32) b).2.2, s.broken⟩) else ((anew m (s.ep + 1#32) b).1, (anew m (s.ep + 1#32) b).2.1, s)
theorem celb {w w' : World} {g : Nat} {t : TypeId} {cs : List Value} (h : Cel w g t cs) (hb : Below w.heap.size w w') : Cel w' g t cs := h.below hb (Cel.lt h)
theorem cel_sob {B g : Nat} {t : TypeId} {w w' : World} {cs : List Value} (h : Cel w g t cs) (hc : Chg B Sob w w') (ht : t ≠ 65 ∧ t ≠ 126 ∧ t ≠ 120) : Cel w' g t cs :=
  Disk.Cel.chg h hc (by rintro (h | h | h); exact ht.1 h; exact ht.2.1 h; exact ht.2.2 h)
theorem cel_pob {B g : Nat} {t : TypeId} {w w' : World} {cs : List Value} (h : Cel w g t cs) (hc : Chg B Pob w w') (ht : t ≠ 70) : Cel w' g t cs :=
  Disk.Cel.chg h hc (by intro h; exact ht h)
theorem cel_at {w : World} {k : Nat} (hk : w.heap.size = k) (t : TypeId) (cs : List Value) : Cel (w.alloc (.cells cs.toArray t)) k t cs := hk ▸ Cel.new w t cs
theorem size_at {w : World} {k : Nat} (hk : w.heap.size = k) (o : Obj) : (w.alloc o).heap.size = k + 1 := by simp [hk]
theorem below_at (w : World) (o : Obj) : Below w.heap.size w (w.alloc o) := (Below.refl _ _).alloc (Nat.le_refl _) _
theorem next_ne (ep : BitVec 32) : ep ≠ ep + 1#32 := fun e => by
  have h := congrArg BitVec.toNat e
  simp [BitVec.toNat_add] at h
  have := ep.isLt
  omega
theorem v32_inj {a b : BitVec 32} (h : v32 a = v32 b) : a = b := by
  unfold v32 at h
  injection h with _ h
  exact BitVec.eq_of_toNat_eq (by omega)
/-- A segment of another epoch stays as it is. -/
theorem Sg.sobE {ep : BitVec 32} {B t d : Nat} {g : Gm} {w w' : World} (h : Sg w t d g) (hc : Chg B (SobE ep) w w') (hne : g.ep ≠ ep) : Sg w' t d g :=
  Disk.Cel.chg h hc (by
    rintro (h | h | ⟨-, h⟩)
    · revert h; decide
    · revert h; decide
    · exact hne (v32_inj (Option.some.inj h)))
theorem Sv.sobE {ep : BitVec 32} {B d : Nat} {g : Option Gm} {v : Value} {w w' : World} (h : Sv w B d g v) (hc : Chg B (SobE ep) w w') (hne : ∀ g', g = some g' → g'.ep ≠ ep) : Sv w' B d g v := by
  cases g with
  | none => exact h
  | some g =>
    obtain ⟨t, h1, h2, h3⟩ := h
    exact ⟨t, h1, h2, Sg.sobE h3 hc (hne g rfl)⟩
set_option maxRecDepth 100000 in
set_option maxHeartbeats 2000000 in
theorem anew_call (w : World) (B q d : Nat) (s : St) (m : M) (A : Option Addr) (n c : Nat) (b : List (BitVec 8)) (hd : Dk w B d m) (hs : Ss w B q d s) (hB : B ≤ w.heap.size) (hq : B ≤ q) (hb : By w A n b) (hnc : n ≤ c) (hc : c ≤ maxLen) (hok : Ok m) (hf : ∀ g, s.g = some g → g.ep = s.ep) :
    Calls Tryz.prog 40 #[.pointer (some ⟨q, 0, none⟩), .slice A n c] w (TDid w B q d (anewT m s b)) := by
  obtain ⟨ep, g, br⟩ := s
  dsimp only at hf
  obtain ⟨v, hcel, hv⟩ := hs
  dsimp only at hcel hv
  unfold anewT
  dsimp only
  have k1 : w.cell? ⟨q, 1, none⟩ = some (v32 ep) := hcel.cell 1
  have hne : ∀ g', g = some g' → g'.ep ≠ ep + 1#32 := fun g' e h => next_ne ep ((hf g' e).symm.trans h)
  obtain ⟨ep', hep'⟩ : ∃ e, ep + 1#32 = e := ⟨_, rfl⟩
  have hx : ((ep.toNat : Int) + 1) % 4294967296 = (ep'.toNat : Int) := by
    rw [← hep']
    have := ep.isLt
    simp [BitVec.toNat_add]
  have hql : q < w.heap.size := Cel.lt hcel
  have HD := Lib.hid hd
  have HCEL := Lib.hid hcel
  have HV := Lib.hid hv
  have HBY := Lib.hid hb
  have HC := Lib.hid hc
  rw [hep'] at hne ⊢
  have HNE := Lib.hid hne
  obtain ⟨T, hT⟩ : ∃ T : Int × M × St, T = if (anew m ep' b).1 = 0 then (0, (anew m ep' b).2.1, ⟨ep', (anew m ep' b).2.2, br⟩) else ((anew m ep' b).1, (anew m ep' b).2.1, ⟨ep, g, br⟩) := ⟨_, rfl⟩
  rw [← hT]
  have HT := Lib.hid hT
  have HOK := Lib.hid hok
  clear hd hcel hv hb hc hf hne hep' hT hok
  go_enter Tryz.func40, Tryz.ntmps40
  go_wp2_with fail
  rw [hx]
  have z0 : w.heap.size = w.heap.size := rfl
  have c1 := cel_at z0 29 [.pointer (some ⟨q, 0, none⟩)]
  have z1 := size_at z0 (.cells #[.pointer (some ⟨q, 0, none⟩)] 29)
  have b1 := below_at w (.cells #[.pointer (some ⟨q, 0, none⟩)] 29)
  generalize w.alloc (.cells #[.pointer (some ⟨q, 0, none⟩)] 29) = W1 at *
  have c2 := cel_at z1 44 [.slice A n c]
  have z2 := size_at z1 (.cells #[.slice A n c] 44)
  have b2 := below_at W1 (.cells #[.slice A n c] 44)
  generalize W1.alloc (.cells #[.slice A n c] 44) = W2 at *
  have c3 := cel_at z2 56 [.int .u32 (ep'.toNat : Int)]
  have z3 := size_at z2 (.cells #[.int .u32 (ep'.toNat : Int)] 56)
  have b3 := below_at W2 (.cells #[.int .u32 (ep'.toNat : Int)] 56)
  generalize W2.alloc (.cells #[.int .u32 (ep'.toNat : Int)] 56) = W3 at *
  have c4 := cel_at z3 68 [.pointer none]
  have z4 := size_at z3 (.cells #[.pointer none] 68)
  have b4 := below_at W3 (.cells #[.pointer none] 68)
  generalize W3.alloc (.cells #[.pointer none] 68) = W4 at *
  have c5 := cel_at z4 48 [FV w.heap.size (w.heap.size + 1) (w.heap.size + 1 + 1) (w.heap.size + 1 + 1 + 1) 0, FV w.heap.size (w.heap.size + 1) (w.heap.size + 1 + 1) (w.heap.size + 1 + 1 + 1) 1, FV w.heap.size (w.heap.size + 1) (w.heap.size + 1 + 1) (w.heap.size + 1 + 1 + 1) 2, FV w.heap.size (w.heap.size + 1) (w.heap.size + 1 + 1) (w.heap.size + 1 + 1 + 1) 3, FV w.heap.size (w.heap.size + 1) (w.heap.size + 1 + 1) (w.heap.size + 1 + 1 + 1) 4, FV w.heap.size (w.heap.size + 1) (w.heap.size + 1 + 1) (w.heap.size + 1 + 1 + 1) 5, FV w.heap.size (w.heap.size + 1) (w.heap.size + 1 + 1) (w.heap.size + 1 + 1 + 1) 6]
  have b5 := below_at W4 (.cells #[FV w.heap.size (w.heap.size + 1) (w.heap.size + 1 + 1) (w.heap.size + 1 + 1 + 1) 0, FV w.heap.size (w.heap.size + 1) (w.heap.size + 1 + 1) (w.heap.size + 1 + 1 + 1) 1, FV w.heap.size (w.heap.size + 1) (w.heap.size + 1 + 1) (w.heap.size + 1 + 1 + 1) 2, FV w.heap.size (w.heap.size + 1) (w.heap.size + 1 + 1) (w.heap.size + 1 + 1 + 1) 3, FV w.heap.size (w.heap.size + 1) (w.heap.size + 1 + 1) (w.heap.size + 1 + 1 + 1) 4, FV w.heap.size (w.heap.size + 1) (w.heap.size + 1 + 1) (w.heap.size + 1 + 1 + 1) 5, FV w.heap.size (w.heap.size + 1) (w.heap.size + 1 + 1) (w.heap.size + 1 + 1 + 1) 6] 48)
  simp only [FV, Fs, cloV] at c5 b5
  generalize W4.alloc (.cells #[Value.func (Fn.func 64) #[] #[.pointer (some ⟨w.heap.size, 0, none⟩), .pointer (some ⟨w.heap.size + 1 + 1, 0, none⟩), .pointer (some ⟨w.heap.size + 1 + 1 + 1, 0, none⟩)],
    Value.func (Fn.func 66) #[] #[.pointer (some ⟨w.heap.size + 1 + 1 + 1, 0, none⟩), .pointer (some ⟨w.heap.size + 1, 0, none⟩)], Value.func (Fn.func 67) #[] #[.pointer (some ⟨w.heap.size + 1 + 1 + 1, 0, none⟩)],
    Value.func (Fn.func 68) #[] #[.pointer (some ⟨w.heap.size, 0, none⟩)], Value.func (Fn.func 70) #[] #[.pointer (some ⟨w.heap.size, 0, none⟩), .pointer (some ⟨w.heap.size + 1 + 1, 0, none⟩)],
    Value.func (Fn.func 72) #[] #[.pointer (some ⟨w.heap.size, 0, none⟩)], Value.func (Fn.func 74) #[] #[.pointer (some ⟨w.heap.size, 0, none⟩)]] 48) = W5 at *
  have hb5 : Below w.heap.size w W5 := b1.trans ((b2.mono (by omega)).trans ((b3.mono (by omega)).trans ((b4.mono (by omega)).trans (b5.mono (by omega)))))
  have hM : Mb w B q d w.heap.size (w.heap.size + 1) (w.heap.size + 1 + 1) (w.heap.size + 1 + 1 + 1) ep' A n c b m none W5 :=
    ⟨HD.out.below hb5, ⟨_, celb c4 b5, rfl⟩, ⟨_, _, _, celb HCEL.out hb5⟩, celb (celb (celb (celb c1 b2) b3) b4) b5, celb (celb (celb c2 b3) b4) b5, celb (celb c3 b4) b5, HBY.out.below hb5, Chg.of_below hb5, by omega, hB⟩
  have con := doAll_seven w W5 B q d w.heap.size (w.heap.size + 1) (w.heap.size + 1 + 1) (w.heap.size + 1 + 1 + 1) (w.heap.size + 1 + 1 + 1 + 1) ep' A n c b m hM HOK.out hnc HC.out c5
  clear c1 c2 c3 c4 c5 b1 b2 b3 b4 b5 hM hb5 HBY HD HOK z0
  generalize anew m ep' b = x at *
  obtain ⟨e, m2, g2⟩ := x
  refine con.mono ?_
  clear con
  rintro r W6 ⟨rfl, hM⟩
  dsimp only at hM
  have HM := Lib.hid hM
  clear hM z1 z2 z3 z4
  by_cases he0 : e = 0
  · subst he0
    obtain ⟨v2, hnx, hv2⟩ := HM.out.nx
    obtain ⟨p, rfl⟩ := sv_ptr hv2
    have hcl : ∀ V, Chg B Pob W6 V → V.cell? ⟨w.heap.size, 0, none⟩ = some (.pointer (some ⟨q, 0, none⟩)) ∧ V.cell? ⟨w.heap.size + 1 + 1, 0, none⟩ = some (v32 ep') ∧ V.cell? ⟨w.heap.size + 1 + 1 + 1, 0, none⟩ = some (.pointer p) := fun V hV =>
      ⟨(cel_pob HM.out.cs hV (by decide)).cell 0, (cel_pob HM.out.ce hV (by decide)).cell 0, (cel_pob hnx hV (by decide)).cell 0⟩
    have hH : Chg B Pob W6 W6.drew := (Chg.refl B Pob W6).drew
    have hq6 : Cel W6.drew q 70 [.pointer (some ⟨d, 0, none⟩), v32 ep, v, .bool br] := cel_sobE HCEL.out HM.out.chg.drew (by decide)
    have hQ7 := hq6.set 1 (v32 ep')
    have hQ8 := hQ7.set 2 (.pointer p)
    have hp7 : Chg B Pob W6 (W6.drew.setCell ⟨q, 1, none⟩ (v32 ep')) := hH.set (p := ⟨q, 1, none⟩) _ (.inr ⟨hq, _, (show W6.drew.heap[q]? = _ from hq6), rfl⟩)
    have hp8 : Chg B Pob W6 ((W6.drew.setCell ⟨q, 1, none⟩ (v32 ep')).setCell ⟨q, 2, none⟩ (.pointer p)) := hp7.set (p := ⟨q, 2, none⟩) _ (.inr ⟨hq, _, (show (W6.drew.setCell ⟨q, 1, none⟩ (v32 ep')).heap[q]? = _ from hQ7), rfl⟩)
    have r1 : W6.cell? ⟨q, 1, none⟩ = some (v32 ep) := hq6.cell 1
    have f1 : W6.frozen? ⟨q, 1, none⟩ = false := hq6.free 1
    have r2 : W6.cell? ⟨q, 2, none⟩ = some v := hq6.cell 2
    have f2 : W6.frozen? ⟨q, 2, none⟩ = false := hq6.free 2
    have HQ8 := Lib.hid hQ8
    have HP7 := Lib.hid hp7
    have HP8 := Lib.hid hp8
    have HV2 := Lib.hid hv2
    clear hnx hv2 hq6 hQ7 hQ8 hp7 hp8 k1 hx hql HCEL
    go_wp2_with fail
    refine wp_region_N [] (Chg B Pob W6) (by kernel_rfl) ?_
    refine wpAnyN_take (i := 0) (v := .pointer (some ⟨q, 0, none⟩)) [] (by kernel_rfl) rfl (by kernel_rfl) (by kernel_rfl) (by kernel_rfl) (fun _ _ _ h => h) (Or.inl ⟨by rfl, ?_⟩) hH ?_
    · intro V hV; obtain ⟨k0, k2, k3⟩ := hcl V hV; go_simp
    try simp only [Act.put, List.setIfInBounds_toArray, List.set_cons_zero, List.set_cons_succ, List.getElem_toArray, List.getElem_cons_succ, List.getElem_cons_zero]
    refine wpAnyN_take (i := 1) (v := .pointer (some ⟨q, 0, none⟩)) [] (by kernel_rfl) rfl (by kernel_rfl) (by kernel_rfl) (by kernel_rfl) (fun _ _ _ h => h) (Or.inl ⟨by rfl, ?_⟩) hH ?_
    · intro V hV; obtain ⟨k0, k2, k3⟩ := hcl V hV; go_simp
    try simp only [Act.put, List.setIfInBounds_toArray, List.set_cons_zero, List.set_cons_succ, List.getElem_toArray, List.getElem_cons_succ, List.getElem_cons_zero]
    refine wpAnyN_take (i := 2) (v := v32 ep') [] (by kernel_rfl) rfl (by kernel_rfl) (by kernel_rfl) (by kernel_rfl) (fun _ _ _ h => h) (Or.inl ⟨by rfl, ?_⟩) hH ?_
    · intro V hV; obtain ⟨k0, k2, k3⟩ := hcl V hV; go_simp
    try simp only [Act.put, List.setIfInBounds_toArray, List.set_cons_zero, List.set_cons_succ, List.getElem_toArray, List.getElem_cons_succ, List.getElem_cons_zero]
    refine wpAnyN_take (i := 3) (v := .pointer p) [] (by kernel_rfl) rfl (by kernel_rfl) (by kernel_rfl) (by kernel_rfl) (fun _ _ _ h => h) (Or.inl ⟨by rfl, ?_⟩) hH ?_
    · intro V hV; obtain ⟨k0, k2, k3⟩ := hcl V hV; go_simp
    try simp only [Act.put, List.setIfInBounds_toArray, List.set_cons_zero, List.set_cons_succ, List.getElem_toArray, List.getElem_cons_succ, List.getElem_cons_zero]
    refine wpAnyN_take (i := 4) (v := .pointer (some ⟨q, 0, none⟩)) [] (by kernel_rfl) rfl (by kernel_rfl) (by kernel_rfl) (by kernel_rfl) (fun _ _ _ h => h) (Or.inl ⟨by rfl, ?_⟩) hH ?_
    · intro V hV; go_simp
    try simp only [Act.put, List.setIfInBounds_toArray, List.set_cons_zero, List.set_cons_succ, List.getElem_toArray, List.getElem_cons_succ, List.getElem_cons_zero]
    refine wpAnyN_take (i := 5) (v := .pointer (some ⟨q, 1, none⟩)) [] (by kernel_rfl) rfl (by kernel_rfl) (by kernel_rfl) (by kernel_rfl) (fun _ _ _ h => h) (Or.inl ⟨by rfl, ?_⟩) hH ?_
    · intro V hV; go_simp
    try simp only [Act.put, List.setIfInBounds_toArray, List.set_cons_zero, List.set_cons_succ, List.getElem_toArray, List.getElem_cons_succ, List.getElem_cons_zero]
    refine wpAnyN_one (i := 6) (by kernel_rfl) rfl (fun K hK => ?_)
    go_simp
    refine hK.out _ _ (.inr HP7.out) ?_
    clear hK K
    try simp only [Act.put, List.setIfInBounds_toArray, List.set_cons_zero, List.set_cons_succ, List.getElem_toArray, List.getElem_cons_succ, List.getElem_cons_zero]
    have hH7 := HP7.out
    refine wpAnyN_take (i := 7) (v := .pointer (some ⟨q, 0, none⟩)) [] (by kernel_rfl) rfl (by kernel_rfl) (by kernel_rfl) (by kernel_rfl) (fun _ _ _ h => h) (Or.inl ⟨by rfl, ?_⟩) hH7 ?_
    · intro V hV; go_simp
    try simp only [Act.put, List.setIfInBounds_toArray, List.set_cons_zero, List.set_cons_succ, List.getElem_toArray, List.getElem_cons_succ, List.getElem_cons_zero]
    refine wpAnyN_take (i := 8) (v := .pointer (some ⟨q, 2, none⟩)) [] (by kernel_rfl) rfl (by kernel_rfl) (by kernel_rfl) (by kernel_rfl) (fun _ _ _ h => h) (Or.inl ⟨by rfl, ?_⟩) hH7 ?_
    · intro V hV; go_simp
    try simp only [Act.put, List.setIfInBounds_toArray, List.set_cons_zero, List.set_cons_succ, List.getElem_toArray, List.getElem_cons_succ, List.getElem_cons_zero]
    refine wpAnyN_one (i := 9) (by kernel_rfl) rfl (fun K hK => ?_)
    go_simp
    refine hK.out _ _ (.inr HP8.out) ?_
    clear hK K
    try simp only [Act.put, List.setIfInBounds_toArray, List.set_cons_zero, List.set_cons_succ, List.getElem_toArray, List.getElem_cons_succ, List.getElem_cons_zero]
    refine wpAnyN_done (by kernel_rfl) ?_ _
    simp only [Exit.then]
    go_wp2_with fail
    go_ret
    rw [HT.out, if_pos trivial]
    exact ⟨rfl, Dk_pob HM.out.dk HP8.out, ⟨_, HQ8.out, Sv_pob HV2.out HP8.out⟩, (HM.out.chg.mono (Nat.le_refl _) sobE_stb).trans (HP8.out.mono (Nat.le_refl _) pob_stb)⟩
  · have d0 : (e == 0) = false := beq_eq_false_iff_ne.2 he0
    go_wp2_with fail
    go_ret
    rw [HT.out, if_neg he0]
    exact ⟨rfl, HM.out.dk, ⟨v, cel_sobE HCEL.out HM.out.chg (by decide), Sv.sobE HV.out HM.out.chg HNE.out⟩, HM.out.chg.mono (Nat.le_refl _) sobE_stb⟩
theorem begin_eq (m : M) (s : St) (b : List (BitVec 8)) (hb : s.broken = false) (h : ¬ (9860 < b.length ∨ s.ep = 4294967295#32)) : beginT m s b = ((anewT m s b).1, (anewT m s b).2.1, ⟨(anewT m s b).2.2.ep, (anewT m s b).2.2.g, !decide ((anewT m s b).1 = 0)⟩) := by
  unfold beginT anewT
  rw [if_neg (by rw [hb]; decide), if_neg h]
  by_cases h0 : (anew m (s.ep + 1#32) b).1 = 0
  · rw [if_pos h0, if_pos h0]
    rfl
  · rw [if_neg h0, if_neg h0]
    show _ = (_, _, (⟨_, _, !decide ((anew m (s.ep + 1#32) b).1 = 0)⟩ : St))
    rw [decide_eq_false h0]
    rfl
theorem anewT_br (m : M) (s : St) (b : List (BitVec 8)) : (anewT m s b).2.2.broken = s.broken := by
  unfold anewT; split <;> rfl
set_option maxRecDepth 100000 in
set_option maxHeartbeats 1000000 in
theorem begin_nil (w : World) (v : Value) : Calls Tryz.prog 11 #[.pointer none, v] w fun e w' => e = .returned (.int .i64 8) ∧ w = w' := by
  have con := isBroken_nil w
  go_enter Tryz.func11, Tryz.ntmps11
  go_wp2_with ((go_at_call 37; refine con.mono ?_; rintro e w' ⟨rfl, rfl⟩))
  go_ret
  exact ⟨rfl, rfl⟩
/-- The program's Begin. -/
theorem begin_call (w : World) (B q d : Nat) (s : St) (m : M) (A : Option Addr) (n c : Nat) (b : List (BitVec 8)) (hd : Dk w B d m) (hs : Ss w B q d s) (hB : B ≤ w.heap.size) (hq : B ≤ q) (hb : By w A n b) (hnc : n ≤ c) (hc : c ≤ maxLen) (hok : Ok m) (hf : ∀ g, s.g = some g → g.ep = s.ep) :
    Calls Tryz.prog 11 #[.pointer (some ⟨q, 0, none⟩), .slice A n c] w (TDid w B q d (beginT m s b)) := by
  have hcel := hs
  obtain ⟨v, hcel, hv⟩ := hcel
  have k1 : w.cell? ⟨q, 1, none⟩ = some (v32 s.ep) := hcel.cell 1
  have k3 : w.cell? ⟨q, 3, none⟩ = some (.bool s.broken) := hcel.cell 3
  have con1 := isBroken_call w q s.broken k3
  have con2 := isRecord_call w A n c (Nat.le_trans hnc hc)
  have hbl : b.length = n := hb.len
  clear k3 hcel hv
  cases hbr : s.broken
  · rw [hbr] at con1
    by_cases hl : n ≤ 9860
    · rw [decide_eq_true hl] at con2
      by_cases hm : s.ep = 4294967295#32
      · have e1 : beginT m s b = (3, m, s) := by unfold beginT; rw [if_neg (by rw [hbr]; decide), if_pos (.inr hm)]
        rw [e1]
        have k1' : w.cell? ⟨q, 1, none⟩ = some (.int .u32 4294967295) := by rw [k1, hm]; rfl
        have HD := Lib.hid hd
        have HS := Lib.hid hs
        clear hd hs k1 hf hb hc hok e1 hm hbr
        go_enter Tryz.func11, Tryz.ntmps11
        go_wp2_with (first | (go_at_call 37; refine con1.mono ?_; rintro e w' ⟨rfl, rfl⟩) | (go_at_call 38; refine con2.mono ?_; rintro e w' ⟨rfl, rfl⟩))
        go_ret
        exact ⟨rfl, HD.out, HS.out, Chg.refl _ _ _⟩
      · have hne : ((s.ep.toNat : Int) == 4294967295) = false := beq_eq_false_iff_ne.2 fun e => hm (BitVec.eq_of_toNat_eq (by
          have : s.ep.toNat = 4294967295 := by omega
          rw [this]; rfl))
        have hq1 := begin_eq m s b hbr (by rintro (h | h); omega; exact hm h)
        have hbr3 := anewT_br m s b
        have con3 := anew_call w B q d s m A n c b hd hs hB hq hb hnc hc hok hf
        rw [hq1]
        generalize anewT m s b = x at *
        obtain ⟨e, m2, s2⟩ := x
        dsimp only at hbr3 ⊢
        replace con3 : Calls Tryz.prog 40 #[.pointer (some ⟨q, 0, none⟩), .slice A n c] w fun r w' => r = .returned (.int .i64 e) ∧ Dk w' B d m2 ∧ Ss w' B q d s2 ∧ Chg B Stb w w' := con3
        obtain ⟨ep2, g2, br2⟩ := s2
        dsimp only at hbr3 ⊢
        rw [hbr] at hbr3
        subst hbr3
        clear hd hs hf hb hc hok hq1 hbr hm
        by_cases he0 : e = 0
        · subst he0
          go_enter Tryz.func11, Tryz.ntmps11
          go_wp2_with (first | (go_at_call 37; refine con1.mono ?_; rintro e w' ⟨rfl, rfl⟩) | (go_at_call 38; refine con2.mono ?_; rintro e w' ⟨rfl, rfl⟩) | (go_at_call 40; refine con3.mono ?_; rintro e w' ⟨rfl, h1, h2, h3⟩) | (go_at_call 39; refine (heed_ok _ q).mono ?_; rintro e w' ⟨rfl, rfl⟩))
          go_ret
          exact ⟨rfl, h1, h2, h3⟩
        · have d0 : (e == 0) = false := beq_eq_false_iff_ne.2 he0
          go_enter Tryz.func11, Tryz.ntmps11
          go_wp2_with (first | (go_at_call 37; refine con1.mono ?_; rintro e w' ⟨rfl, rfl⟩) | (go_at_call 38; refine con2.mono ?_; rintro e w' ⟨rfl, rfl⟩) | (go_at_call 40; refine con3.mono ?_; rintro r w1 ⟨rfl, h1, h2, h3⟩) | (go_at_call 39; refine (heed_bad _ B q d _ e he0 h2 hq).mono ?_; rintro r w2 ⟨rfl, h4, h5⟩))
          go_ret
          refine ⟨rfl, Dk_pob h1 h5, ?_, h3.trans (h5.mono (Nat.le_refl _) pob_stb)⟩
          show Ss w2 B q d ⟨ep2, g2, !decide (e = 0)⟩
          rw [decide_eq_false he0]
          exact h4
    · rw [decide_eq_false hl] at con2
      have e1 : beginT m s b = (3, m, s) := by unfold beginT; rw [if_neg (by rw [hbr]; decide), if_pos (.inl (by omega))]
      rw [e1]
      have HD := Lib.hid hd
      have HS := Lib.hid hs
      clear hd hs hf hb hc hok e1 hbr
      go_enter Tryz.func11, Tryz.ntmps11
      go_wp2_with (first | (go_at_call 37; refine con1.mono ?_; rintro e w' ⟨rfl, rfl⟩) | (go_at_call 38; refine con2.mono ?_; rintro e w' ⟨rfl, rfl⟩))
      go_ret
      exact ⟨rfl, HD.out, HS.out, Chg.refl _ _ _⟩
  · rw [hbr] at con1
    have e1 : beginT m s b = (8, m, s) := by unfold beginT; rw [if_pos (by rw [hbr])]
    rw [e1]
    have HD := Lib.hid hd
    have HS := Lib.hid hs
    clear hd hs hf hb hc hok e1 hbr con2
    go_enter Tryz.func11, Tryz.ntmps11
    go_wp2_with ((go_at_call 37; refine con1.mono ?_; rintro e w' ⟨rfl, rfl⟩))
    go_ret
    exact ⟨rfl, HD.out, HS.out, Chg.refl _ _ _⟩

/-! Append and Sync. -/
set_option maxRecDepth 100000 in
set_option maxHeartbeats 1000000 in
theorem append_nil (w : World) (v : Value) : Calls Tryz.prog 13 #[.pointer none, v] w fun e w' => e = .returned (.int .i64 8) ∧ w = w' := by
  have con := canWrite_nil w
  go_enter Tryz.func13, Tryz.ntmps13
  go_wp2_with ((go_at_call 42; refine con.mono ?_; rintro e w' ⟨rfl, rfl⟩))
  go_ret
  exact ⟨rfl, rfl⟩
set_option maxRecDepth 100000 in
set_option maxHeartbeats 1000000 in
theorem sync_nil (w : World) : Calls Tryz.prog 15 #[.pointer none] w fun e w' => e = .returned (.int .i64 8) ∧ w = w' := by
  have con := canWrite_nil w
  go_enter Tryz.func15, Tryz.ntmps15
  go_wp2_with ((go_at_call 42; refine con.mono ?_; rintro e w' ⟨rfl, rfl⟩))
  go_ret
  exact ⟨rfl, rfl⟩
set_option maxRecDepth 100000 in
set_option maxHeartbeats 1000000 in
/-- The program's Append. -/
theorem append_call (w : World) (B q d : Nat) (s : St) (m : M) (A : Option Addr) (n c : Nat) (b : List (BitVec 8)) (hd : Dk w B d m) (hs : Ss w B q d s) (hB : B ≤ w.heap.size) (hq : B ≤ q) (hb : By w A n b) (hnc : n ≤ c) (hc : c ≤ maxLen) (hf : ∀ g, s.g = some g → g.file < 9223372036854775808 ∧ g.size < 8000000000000000000) :
    Calls Tryz.prog 13 #[.pointer (some ⟨q, 0, none⟩), .slice A n c] w (TDid w B q d (appendT m s b)) := by
  have con1 := canWrite_call w B q d s hs
  have con2 := isRecord_call w A n c (Nat.le_trans hnc hc)
  have hbl : b.length = n := hb.len
  obtain ⟨ep, g, br⟩ := s
  have hcel := hs
  obtain ⟨v, hcel, hv⟩ := hcel
  dsimp only at hcel hv hf
  have k2 : w.cell? ⟨q, 2, none⟩ = some v := hcel.cell 2
  unfold canW at con1
  dsimp only at con1
  cases br
  · rw [if_neg (by decide)] at con1
    cases g with
    | none =>
      have e1 : appendT m ⟨ep, none, false⟩ b = (4, m, ⟨ep, none, false⟩) := rfl
      rw [e1]
      dsimp only at con1
      have HD := Lib.hid hd
      have HS := Lib.hid hs
      clear hd hs hf hb hc e1 hv hcel k2 con2
      go_enter Tryz.func13, Tryz.ntmps13
      go_wp2_with ((go_at_call 42; refine con1.mono ?_; rintro e w' ⟨rfl, rfl⟩))
      go_ret
      exact ⟨rfl, HD.out, HS.out, Chg.refl _ _ _⟩
    | some g =>
      dsimp only at con1
      by_cases hl : n ≤ 9860
      · rw [decide_eq_true hl] at con2
        obtain ⟨t, htB, rfl, hsg⟩ := hv
        have e1 : appendT m ⟨ep, some g, false⟩ b = ((appendS m g b).1, (appendS m g b).2.1, ⟨ep, some (appendS m g b).2.2, !decide ((appendS m g b).1 = 0)⟩) := by
          unfold appendT
          rw [if_neg (by simp)]
          dsimp only
          rw [if_neg (by omega)]
        rw [e1]
        obtain ⟨h1, h2⟩ := hf g rfl
        have con3 := Segm.append_seg w B t d m g A n c b hd hsg hB htB h1 h2 hb.rd hnc hc
        generalize appendS m g b = x at *
        obtain ⟨e, m2, g2⟩ := x
        replace con3 : Calls Tryz.prog 43 #[.pointer (some ⟨t, 0, none⟩), .slice A n c] w fun r w' => r = .returned (.int .i64 e) ∧ Dk w' B d m2 ∧ Sg w' t d g2 ∧ Chg B Sob w w' := con3
        have HCEL := Lib.hid hcel
        clear hd hs hf hb hc e1 hcel hsg h1 h2
        by_cases he0 : e = 0
        · subst he0
          go_enter Tryz.func13, Tryz.ntmps13
          go_wp2_with (first | (go_at_call 42; refine con1.mono ?_; rintro e w' ⟨rfl, rfl⟩) | (go_at_call 38; refine con2.mono ?_; rintro e w' ⟨rfl, rfl⟩) | (go_at_call 43; refine con3.mono ?_; rintro r w1 ⟨rfl, h1, h2, h3⟩) | (go_at_call 39; refine (heed_ok _ q).mono ?_; rintro r w2 ⟨rfl, rfl⟩))
          go_ret
          exact ⟨rfl, h1, ⟨_, cel_sob HCEL.out h3 (by decide), t, htB, rfl, h2⟩, h3.mono (Nat.le_refl _) sob_stb⟩
        · have d0 : (e == 0) = false := beq_eq_false_iff_ne.2 he0
          go_enter Tryz.func13, Tryz.ntmps13
          go_wp2_with (first | (go_at_call 42; refine con1.mono ?_; rintro e w' ⟨rfl, rfl⟩) | (go_at_call 38; refine con2.mono ?_; rintro e w' ⟨rfl, rfl⟩) | (go_at_call 43; refine con3.mono ?_; rintro r w1 ⟨rfl, h1, h2, h3⟩) | (go_at_call 39; refine (heed_bad _ B q d ⟨ep, some g2, false⟩ e he0 ⟨_, cel_sob HCEL.out h3 (by decide), t, htB, rfl, h2⟩ hq).mono ?_; rintro r w2 ⟨rfl, h4, h5⟩))
          go_ret
          refine ⟨rfl, Dk_pob h1 h5, ?_, (h3.mono (Nat.le_refl _) sob_stb).trans (h5.mono (Nat.le_refl _) pob_stb)⟩
          show Ss w2 B q d ⟨ep, some g2, !decide (e = 0)⟩
          rw [decide_eq_false he0]
          exact h4
      · rw [decide_eq_false hl] at con2
        have e1 : appendT m ⟨ep, some g, false⟩ b = (3, m, ⟨ep, some g, false⟩) := by
          unfold appendT
          rw [if_neg (by simp)]
          dsimp only
          rw [if_pos (by omega)]
        rw [e1]
        have HD := Lib.hid hd
        have HS := Lib.hid hs
        clear hd hs hf hb hc e1 hv hcel k2
        go_enter Tryz.func13, Tryz.ntmps13
        go_wp2_with (first | (go_at_call 42; refine con1.mono ?_; rintro e w' ⟨rfl, rfl⟩) | (go_at_call 38; refine con2.mono ?_; rintro e w' ⟨rfl, rfl⟩))
        go_ret
        exact ⟨rfl, HD.out, HS.out, Chg.refl _ _ _⟩
  · rw [if_pos rfl] at con1
    have e1 : appendT m ⟨ep, g, true⟩ b = (8, m, ⟨ep, g, true⟩) := rfl
    rw [e1]
    have HD := Lib.hid hd
    have HS := Lib.hid hs
    clear hd hs hf hb hc e1 hv hcel k2 con2
    go_enter Tryz.func13, Tryz.ntmps13
    go_wp2_with ((go_at_call 42; refine con1.mono ?_; rintro e w' ⟨rfl, rfl⟩))
    go_ret
    exact ⟨rfl, HD.out, HS.out, Chg.refl _ _ _⟩
set_option maxRecDepth 100000 in
set_option maxHeartbeats 1000000 in
/-- The program's Sync. -/
theorem sync_call (w : World) (B q d : Nat) (s : St) (m : M) (hd : Dk w B d m) (hs : Ss w B q d s) (hB : B ≤ w.heap.size) (hq : B ≤ q) (hf : ∀ g, s.g = some g → -9223372036854775808 ≤ g.file ∧ g.file < 9223372036854775808) :
    Calls Tryz.prog 15 #[.pointer (some ⟨q, 0, none⟩)] w (TDid w B q d (syncT m s)) := by
  have con1 := canWrite_call w B q d s hs
  obtain ⟨ep, g, br⟩ := s
  have hcel := hs
  obtain ⟨v, hcel, hv⟩ := hcel
  dsimp only at hcel hv hf
  have k2 : w.cell? ⟨q, 2, none⟩ = some v := hcel.cell 2
  unfold canW at con1
  dsimp only at con1
  cases br
  · rw [if_neg (by decide)] at con1
    cases g with
    | none =>
      have e1 : syncT m ⟨ep, none, false⟩ = (4, m, ⟨ep, none, false⟩) := rfl
      rw [e1]
      dsimp only at con1
      have HD := Lib.hid hd
      have HS := Lib.hid hs
      clear hd hs hf e1 hv hcel k2
      go_enter Tryz.func15, Tryz.ntmps15
      go_wp2_with ((go_at_call 42; refine con1.mono ?_; rintro e w' ⟨rfl, rfl⟩))
      go_ret
      exact ⟨rfl, HD.out, HS.out, Chg.refl _ _ _⟩
    | some g =>
      dsimp only at con1
      obtain ⟨t, htB, rfl, hsg⟩ := hv
      have e1 : syncT m ⟨ep, some g, false⟩ = ((syncS m g).1, (syncS m g).2.1, ⟨ep, some (syncS m g).2.2, !decide ((syncS m g).1 = 0)⟩) := rfl
      rw [e1]
      have con3 := Segm.sync_seg w B t d m g hd hsg hB htB (hf g rfl)
      generalize syncS m g = x at *
      obtain ⟨e, m2, g2⟩ := x
      replace con3 : Calls Tryz.prog 45 #[.pointer (some ⟨t, 0, none⟩)] w fun r w' => r = .returned (.int .i64 e) ∧ Dk w' B d m2 ∧ Sg w' t d g2 ∧ Chg B Sob w w' := con3
      have HCEL := Lib.hid hcel
      clear hd hs hf e1 hcel hsg
      by_cases he0 : e = 0
      · subst he0
        go_enter Tryz.func15, Tryz.ntmps15
        go_wp2_with (first | (go_at_call 42; refine con1.mono ?_; rintro e w' ⟨rfl, rfl⟩) | (go_at_call 45; refine con3.mono ?_; rintro r w1 ⟨rfl, h1, h2, h3⟩) | (go_at_call 39; refine (heed_ok _ q).mono ?_; rintro r w2 ⟨rfl, rfl⟩))
        go_ret
        exact ⟨rfl, h1, ⟨_, cel_sob HCEL.out h3 (by decide), t, htB, rfl, h2⟩, h3.mono (Nat.le_refl _) sob_stb⟩
      · have d0 : (e == 0) = false := beq_eq_false_iff_ne.2 he0
        go_enter Tryz.func15, Tryz.ntmps15
        go_wp2_with (first | (go_at_call 42; refine con1.mono ?_; rintro e w' ⟨rfl, rfl⟩) | (go_at_call 45; refine con3.mono ?_; rintro r w1 ⟨rfl, h1, h2, h3⟩) | (go_at_call 39; refine (heed_bad _ B q d ⟨ep, some g2, false⟩ e he0 ⟨_, cel_sob HCEL.out h3 (by decide), t, htB, rfl, h2⟩ hq).mono ?_; rintro r w2 ⟨rfl, h4, h5⟩))
        go_ret
        refine ⟨rfl, Dk_pob h1 h5, ?_, (h3.mono (Nat.le_refl _) sob_stb).trans (h5.mono (Nat.le_refl _) pob_stb)⟩
        show Ss w2 B q d ⟨ep, some g2, !decide (e = 0)⟩
        rw [decide_eq_false he0]
        exact h4
  · rw [if_pos rfl] at con1
    have e1 : syncT m ⟨ep, g, true⟩ = (8, m, ⟨ep, g, true⟩) := rfl
    rw [e1]
    have HD := Lib.hid hd
    have HS := Lib.hid hs
    clear hd hs hf e1 hv hcel k2
    go_enter Tryz.func15, Tryz.ntmps15
    go_wp2_with ((go_at_call 42; refine con1.mono ?_; rintro e w' ⟨rfl, rfl⟩))
    go_ret
    exact ⟨rfl, HD.out, HS.out, Chg.refl _ _ _⟩
end Go.Proofs.YtdaknfepcbooeaaGreat.Sto
end
