/-
Layer 14: the walks of CheckCompiles and CheckReads: the program's Compile beside the document's.
-/
import Derived.Test.YteohlpmojfjjdaaGreatR0
import Derived.Test.YteohlpmojfjjdaaGreatR1
import Derived.Test.YteohlpmojfjjdaaGreatR2
import Derived.Test.YteohlpmojfjjdaaGreatR6
import Derived.Test.YteohlpmojfjjdaaGreatR7
import Derived.Test.YteohlpmojfjjdaaGreatR8
import Derived.Test.YteohlpmojfjjdaaGreatR13
import Derived.Test.YteohlpmojfjjdaaGreatR14
import Derived.Test.YteohlpmojfjjdaaGreatR21
import Derived.Test.YteohlpmojfjjdaaGreatR22
import Derived.Test.YteohlpmojfjjdaaGreatR34
import Derived.Test.YteohlpmojfjjdaaGreatR37
import Derived.Test.YteohlpmojfjjdaaGreatR38
import Derived.Test.YteohlpmojfjjdaaGreatR40
import Derived.WalkKit
import Derived.ProofKit
import Derived.OpenShut
import Derived.Deep.Slices
import Derived.Deep.Fields
import Derived.ChangeSame
import Derived.Test.YteohlpmojfjjdaaGreatRows
set_option linter.unusedVariables false
set_option linter.unusedSimpArgs false
set_option maxRecDepth 100000
set_option maxHeartbeats 4000000
namespace Go.Proofs.YteohlpmojfjjdaaGreat.Chk
open Go.RowKit
open Lex (Tx Cr cr_ry)
open Vars (scell)
open Book (pparse bookOf Pbk Bv Av)
def cmS : Except (Int × Int) CBook → List CStep
 | .error _ => []
 | .ok b => b.steps
def cmV : Except (Int × Int) CBook → List (List B)
 | .error _ => []
 | .ok b => b.vars
def cmM : Except (Int × Int) CBook → Int
 | .error _ => 0
 | .ok b => b.most
def cmP : Except (Int × Int) CBook → Int
 | .error (_, p) => p
 | .ok _ => 0
def cmZ : Except (Int × Int) CBook → Int
 | .error (z, _) => z
 | .ok _ => 0
theorem cgk_nil (w : World) (T : Nat) : Cgk w T none [] := ⟨fun h => absurd rfl h, by simp, by simp, by simp⟩
theorem nms_nil (w : World) : Nms w none [] := fun h => absurd rfl h
theorem cm_get {w w' : World} {T : Nat} {r : Except (Int × Int) CBook} {e : Ending} (h : CmSays w T r e w') : Below w.heap.size w w' ∧ ∃ A k A1 k1 us, e = .returned (.tuple #[.agg #[.slice A us.length k, .slice A1 (cmV r).length k1, .int .i64 (cmM r)], .int .i64 (cmP r), .int .i64 (cmZ r)]) ∧ Cgk w' T A us ∧ us.map (·.s) = cmS r ∧ Nms w' A1 (cmV r) := by
 obtain ⟨hb, h⟩ := h
 refine ⟨hb, ?_⟩
 cases r with
 | error q =>
  obtain ⟨z, p⟩ := q
  exact ⟨none, 0, none, 0, [], h.2, cgk_nil _ _, rfl, nms_nil _⟩
 | ok b =>
  obtain ⟨A, k, A1, k1, vs, rfl, h1, h2, h3⟩ := h
  refine ⟨A, k, A1, k1, vs, ?_, h1.cgk, h2, cr_ry h3⟩
  have : b.steps.length = vs.length := by rw [← h2, List.length_map]
  rw [this]; rfl
theorem cm_few {b : GBook} (h1 : b.steps.length ≤ 50000) (h2 : ∀ s ∈ b.steps, s.arms.length ≤ 50000) : (cmS (compile b)).length ≤ 50000 ∧ (cmV (compile b)).length ≤ 50000 ∧ ∀ s ∈ cmS (compile b), s.arms.length ≤ 50000 := by
 unfold compile
 split
 ·exact ⟨Nat.zero_le _, Nat.zero_le _, by simp [cmS]⟩
 ·rename_i hc
  have hv := vars_few (b := b) (by simpa using hc)
  refine ⟨by show (b.steps.map (cStep b)).length ≤ _; rw [List.length_map]; exact h1, by show (varsOf b).length ≤ _; omega, fun s hs => ?_⟩
  obtain ⟨x, hx, rfl⟩ := List.mem_map.1 (show s ∈ b.steps.map (cStep b) from hs)
  show (x.arms.map (cArm b)).length ≤ _
  rw [List.length_map]; exact h2 x hx
theorem len_of {us : List Cs} {S : List CStep} {n : Nat} (h : us.map (·.s) = S) (hn : S.length ≤ n) : us.length ≤ n := by rw [← h, List.length_map] at hn; exact hn
theorem mem_of {us : List Cs} {S : List CStep} (h : us.map (·.s) = S) {v : Cs} (hv : v ∈ us) : v.s ∈ S := by rw [← h]; exact List.mem_map_of_mem hv
theorem rd_get {w w' : World} {T : Nat} {s : List B} {b : Book.Book} {e : Ending} (h : RdSays w T (readOf s) e w') (hb : bookOf s = .ok b) : Below w.heap.size w w' ∧ ∃ A k A1 k1 us, e = .returned (.tuple #[.agg #[.slice A us.length k, .slice A1 (cmV (compile (gBook b))).length k1, .int .i64 (cmM (compile (gBook b)))], .int .i64 (cmZ (compile (gBook b)))]) ∧ Cgk w' T A us ∧ us.map (·.s) = cmS (compile (gBook b)) ∧ Nms w' A1 (cmV (compile (gBook b))) := by
 obtain ⟨hbe, h⟩ := h
 refine ⟨hbe, ?_⟩
 unfold readOf at h
 rw [hb] at h
 dsimp only at h
 cases hr : compile (gBook b) with
 | error q =>
  obtain ⟨z, p⟩ := q
  rw [hr] at h
  exact ⟨none, 0, none, 0, [], h.2, cgk_nil _ _, rfl, nms_nil _⟩
 | ok c =>
  rw [hr] at h
  obtain ⟨A, k, A1, k1, vs, rfl, h1, h2, h3⟩ := h
  refine ⟨A, k, A1, k1, vs, ?_, h1, h2, h3⟩
  have : c.steps.length = vs.length := by rw [← h2, List.length_map]
  rw [this]; rfl
theorem reads_walk (A : Option Addr) (n c : Nat) (s : List (BitVec 8)) (w : World) (hs : Bs w w.heap.size A n s) (hcap : n ≤ c) (hc : c ≤ maxLen) :
  Calls Tryz.prog 4 #[.slice A n c] w fun e w' => e = .returned (.bool true) ∧ Below w.heap.size w w' := by
 unfold maxLen at hc
 by_cases h2000 : 2000 < n
 ·have con := knows14 w
  have z : decide ((2000 : Int) < (n : Int)) = true := by simp; omega
  clear hs
  go_enter Tryz.func4, Tryz.ntmps4
  go_wp2_with fail
  refine con.mono ?_
  rintro e w' ⟨rfl, hb⟩
  have HB := Lib.hid hb
  clear hb con
  go_wp2_with fail
  go_ret
  exact ⟨rfl, HB.out⟩
 have z : decide ((2000 : Int) < (n : Int)) = false := by simp; omega
 have con := pparse w w.heap.size A n c s hs (Nat.le_refl _) (by omega)
 have HS := Lib.hid hs
 have HW := Lib.hid (Nat.le_refl w.heap.size)
 clear hs
 go_enter Tryz.func4, Tryz.ntmps4
 go_wp2_with fail
 refine con.mono ?_
 clear con
 intro e w1 h1
 obtain ⟨hb1, h1⟩ := h1
 cases hbk : bookOf s with
 | error q =>
  obtain ⟨p, bad⟩ := q
  rw [hbk] at h1
  obtain ⟨hbad, rfl⟩ := h1
  obtain ⟨W1, hW1⟩ : ∃ W1, W1 = w1.alloc (.cells #[.int .i64 0, .slice none 0 0] 24) := ⟨_, rfl⟩
  have hb11 : Below w1.heap.size w1 W1 := by rw [hW1]; exact (Below.refl _ _).alloc (Nat.le_refl _) _
  have hbw1 : Below w.heap.size w W1 := hb1.trans (hb11.mono hb1.size)
  have con := read14 W1 W1.heap.size A n c s ((HS.out.below hbw1).more hbw1.size) (Nat.le_refl _) (by omega) hcap
  have HRD := Lib.hid (show readOf s = .error (bad : Int) by unfold readOf; rw [hbk])
  have HBW1 := Lib.hid hbw1
  have HBAD := Lib.hid hbad
  rw [hW1] at con
  clear hb1 hb11 hbw1 hbk hbad
  go_wp2_with fail
  rw [← hW1] at con ⊢
  refine con.mono ?_
  clear con hW1
  intro e w2 h2
  obtain ⟨hb2, h2⟩ := h2
  rw [HRD.out] at h2
  obtain ⟨_, rfl⟩ := h2
  have HB2 := Lib.hid (HBW1.out.trans (hb2.mono HBW1.out.size))
  have hbad : ((bad : Int) == 0) = false := by have := HBAD.out; simp; omega
  obtain ⟨W2, hW2⟩ : ∃ W2, W2 = w2.alloc (.cells #[.slice none 0 0, .slice none 0 0, .int .i64 0] 30) := ⟨_, rfl⟩
  have hb22 : Below w2.heap.size w2 W2 := by rw [hW2]; exact (Below.refl _ _).alloc (Nat.le_refl _) _
  have con := knows14 W2
  have HB22 := Lib.hid (HB2.out.trans (hb22.mono HB2.out.size))
  rw [hW2] at con
  clear hb2 hb22
  go_wp2_with fail
  rw [← hW2] at con ⊢
  refine con.mono ?_
  clear con hW2
  rintro e w3 ⟨rfl, hb3⟩
  have HB3 := Lib.hid (HB22.out.trans (hb3.mono HB22.out.size))
  clear hb3
  go_wp2_with fail
  go_ret
  exact ⟨rfl, HB3.out⟩
 | ok bk =>
  rw [hbk] at h1
  obtain ⟨A1, c1, vs, rfl, hp, hvs, h3000⟩ := h1
  obtain ⟨z1, z2, z3⟩ := szs_pbk hp hvs hbk
  obtain ⟨f1, f2, f3⟩ := Book.few_book hbk
  obtain ⟨ml, hml⟩ : ∃ q, q = bk.steps.length := ⟨_, rfl⟩
  obtain ⟨mo, hmo⟩ : ∃ q, q = bk.most := ⟨_, rfl⟩
  rw [← hml, ← hmo]
  obtain ⟨W1, hW1⟩ : ∃ W1, W1 = w1.alloc (.cells #[.int .i64 mo, .slice A1 ml c1] 24) := ⟨_, rfl⟩
  have hb11 : Below w1.heap.size w1 W1 := by rw [hW1]; exact (Below.refl _ _).alloc (Nat.le_refl _) _
  have hr1 : Cel W1 w1.heap.size 24 [.int .i64 mo, .slice A1 ml c1] := by rw [hW1]; exact Cel.new w1 _ _
  have hbw1 : Below w.heap.size w W1 := hb1.trans (hb11.mono hb1.size)
  have con := read14 W1 W1.heap.size A n c s ((HS.out.below hbw1).more hbw1.size) (Nat.le_refl _) (by omega) hcap
  have HP := Lib.hid (hp.below hb11)
  have HR1 := Lib.hid hr1
  have HBW1 := Lib.hid hbw1
  have HBK := Lib.hid hbk
  have HVS := Lib.hid hvs
  have HZ := Lib.hid (And.intro z1 (And.intro z2 z3))
  have HML := Lib.hid hml
  have HMO := Lib.hid hmo
  have hm2 : ml ≤ 2000 := by rw [hml]; exact f3
  have HF1 := Lib.hid f1
  rw [hW1] at con
  clear hb1 hb11 hbw1 hbk hp hvs hr1 z1 z2 z3 hml hmo f1 f2 f3 h3000
  go_wp2_with fail
  rw [← hW1] at con ⊢
  refine con.mono ?_
  clear con hW1
  intro e w2 h2
  obtain ⟨hb2, A2, c2, V2, d2, us2, rfl, hk2, hu2, hn2⟩ := rd_get h2 HBK.out
  clear h2
  have hfw := cm_few (b := gBook bk) (by show (bk.steps.map gStep).length ≤ _; rw [List.length_map, ← HML.out]; omega) (fun x hx => by
   obtain ⟨y, hy, rfl⟩ := List.mem_map.1 (show x ∈ bk.steps.map gStep from hx)
   show (y.arms.map gArm).length ≤ _
   rw [List.length_map]; have := (HF1.out y hy).2; omega)
  obtain ⟨r, hr⟩ : ∃ r, r = compile (gBook bk) := ⟨_, rfl⟩
  rw [← hr] at hu2 hn2 hfw ⊢
  obtain ⟨xl, hxl⟩ : ∃ q, q = us2.length := ⟨_, rfl⟩
  obtain ⟨vl, hvl⟩ : ∃ q, q = (cmV r).length := ⟨_, rfl⟩
  obtain ⟨bm, hbm⟩ : ∃ q, q = cmM r := ⟨_, rfl⟩
  obtain ⟨zc, hzc⟩ : ∃ q, q = cmZ r := ⟨_, rfl⟩
  rw [← hxl, ← hvl, ← hbm, ← hzc]
  obtain ⟨W2, hW2⟩ : ∃ W2, W2 = w2.alloc (.cells #[.slice A2 xl c2, .slice V2 vl d2, .int .i64 bm] 30) := ⟨_, rfl⟩
  have hb22 : Below w2.heap.size w2 W2 := by rw [hW2]; exact (Below.refl _ _).alloc (Nat.le_refl _) _
  have hy2 : Cel W2 w2.heap.size 30 [.slice A2 xl c2, .slice V2 vl d2, .int .i64 bm] := by rw [hW2]; exact Cel.new w2 _ _
  have hb12 : Below W1.heap.size W1 W2 := hb2.trans (hb22.mono hb2.size)
  have hr2 := Cel.below HR1.out hb12 HR1.out.lt
  have hT2 : W1.heap.size ≤ w2.heap.size := hb2.size
  have HK2 := Lib.hid (hk2.below hT2 hb22)
  have HN2 := Lib.hid (show Nms W2 V2 (cmV r) from Cr.below hn2 hb22)
  have HU2 := Lib.hid hu2
  have HY2 := Lib.hid hy2
  have HB12 := Lib.hid hb12
  have HXL := Lib.hid hxl
  have HVL := Lib.hid hvl
  have HZB := Lib.hid (And.intro hzc hbm)
  have HFW := Lib.hid hfw
  have HRR := Lib.hid hr
  obtain ⟨hg2, hgs⟩ := of_pbk (T := W2.heap.size) (HP.out.below hb12)
  rw [HVS.out] at hgs
  have hl2 : (vs.map ofBv).length = ml := by have := congrArg List.length hgs; rw [HML.out]; simpa using this
  have con := pcompile_ W2 W2.heap.size (gBook bk) A1 ml c1 (vs.map ofBv) hg2 (Nat.le_refl _) hl2 (by omega) HZ.out.2.2 HZ.out.1 HZ.out.2.1 mo (by rw [HMO.out]; rfl) hgs.symm
  rw [← hr] at con
  have k0 := hr2.cell 0
  have k1 := hr2.cell 1
  change _ = some (Value.int .i64 mo) at k0
  change _ = some (Value.slice A1 ml c1) at k1
  rw [hW2] at con k0 k1
  clear hb2 hk2 hu2 hn2 hb22 hy2 hb12 hr2 hxl hvl hbm hzc hfw hr hg2 hgs hl2
  go_wp2_with fail
  rw [← hW2] at con ⊢
  refine con.mono ?_
  clear con hW2 k0 k1
  intro e w3 h3
  obtain ⟨hb3, A3, c3, V3, d3, us, rfl, hk3, hu3, hn3⟩ := cm_get h3
  clear h3
  have hx3 : us.length = xl := by rw [HXL.out]; have h1 := congrArg List.length hu3; have h2 := congrArg List.length HU2.out; rw [List.length_map] at h1 h2; omega
  rw [hx3, ← HVL.out, ← HZB.out.1, ← HZB.out.2]
  obtain ⟨W3, hW3⟩ : ∃ W3, W3 = w3.alloc (.cells #[.slice A3 xl c3, .slice V3 vl d3, .int .i64 bm] 30) := ⟨_, rfl⟩
  have hb33 : Below w3.heap.size w3 W3 := by rw [hW3]; exact (Below.refl _ _).alloc (Nat.le_refl _) _
  have hb23 : Below W2.heap.size W2 W3 := hb3.trans (hb33.mono hb3.size)
  have hy3 := Cel.below HY2.out hb23 HY2.out.lt
  have hT3 : W2.heap.size ≤ w3.heap.size := hb3.size
  have hT23 : W1.heap.size ≤ W2.heap.size := HB12.out.size
  have hup : ∀ {V : World} {B B' : Nat} {A : Option Addr} {l : List Cs}, Cgk V B A l → B ≤ B' → Cgk V B' A l := fun h hB => ⟨h.ry, fun v hv => Tx.up (h.send v hv) hB, h.arms, fun v hv u hu => Tx.up (h.tx v hv u hu) hB⟩
  have con := same14 W3 W2.heap.size A3 A2 V3 V2 c3 c2 d3 d2 us us2 (cmV r) (hk3.below hT3 hb33) (hup (HK2.out.below hT23 hb23) hT23) (by rw [HU2.out, hu3]) (show Nms W3 V3 (cmV r) from Cr.below hn3 hb33) (show Nms W3 V2 (cmV r) from Cr.below HN2.out hb23) (len_of hu3 HFW.out.1) HFW.out.2.1 (fun v hv => HFW.out.2.2 v.s (mem_of hu3 hv)) hb23.size bm
  rw [hx3, ← HVL.out] at con
  have x0 := hy3.cell 0
  have x1 := hy3.cell 1
  have x2 := hy3.cell 2
  rw [hW3] at x0 x1 x2 con
  have HBW3 := Lib.hid (HBW1.out.trans ((HB12.out.trans (hb23.mono hT23)).mono HBW1.out.size))
  clear hb3 hk3 hu3 hn3 hx3 hb33 hb23 hy3 HK2 HN2 HY2 HB12 hup
  go_wp2_with fail
  rw [← hW3] at con ⊢
  refine con.mono ?_
  clear con x0 x1 x2 hW3
  rintro e w6 ⟨rfl, hb6⟩
  have HBW6 := Lib.hid (HBW3.out.trans (hb6.mono HBW3.out.size))
  have con := knows14 w6
  clear hb6
  go_wp2_with fail
  refine con.mono ?_
  clear con
  rintro e w7 ⟨rfl, hb7⟩
  have HBW7 := Lib.hid (HBW6.out.trans (hb7.mono HBW6.out.size))
  clear hb7
  go_wp2_with fail
  go_ret
  exact ⟨rfl, HBW7.out⟩
end Go.Proofs.YteohlpmojfjjdaaGreat.Chk
