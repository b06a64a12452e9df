/-
Texts: NfaLast RegFew
-/
import Derived.Test.YteohlpmojfjjdaaGreatR1
import Derived.Test.YteohlpmojfjjdaaGreatR2
import Derived.Test.YteohlpmojfjjdaaGreatR3
import Derived.Test.YteohlpmojfjjdaaGreatR4
import Derived.Test.YteohlpmojfjjdaaGreatR6
import Derived.Test.YteohlpmojfjjdaaGreatR15
import Derived.Test.YteohlpmojfjjdaaGreatR18
set_option linter.unusedVariables false
set_option linter.unusedSimpArgs false
set_option maxRecDepth 100000
set_option maxHeartbeats 4000000
section
namespace Go.Proofs.YteohlpmojfjjdaaGreat.Nfa
open Go.RowKit
open Reg (Ov oflat RSpn sflat takes does piled weight heavy piled_append Rop)
def LaSays (w : World) (ops : List Rop) (k : Nat) (a : List In) (rest : List (List In)) (e : Ending) (w' : World) : Prop :=
 ∃ A m c vs k', e = .returned (.tuple #[.slice A m c, .int .i64 ((k' : Nat) - 1 : Int)]) ∧ Ri w' w.heap.size A m c vs ∧ vs.map (·.i) = a ∧ k' < k ∧ tops ops k' = some rest ∧ Below w.heap.size w w'
theorem tops_lens {ops : List Rop} {k : Nat} {p : List (List In)} (h : tops ops k = some p) : lens p ≤ 2 * ops.length := by
 have := (sem_some h).2
 have h2 := heavy_le (ops.take k)
 have h3 : (ops.take k).length ≤ ops.length := by rw [List.length_take]; omega
 simp [lens] at this ⊢
 omega
theorem tops_pos {ops : List Rop} {k : Nat} {a : List In} {p : List (List In)} (h : tops ops k = some (a :: p)) : 0 < k := by
 rcases Nat.eq_zero_or_pos k with rfl | h0
 ·simp [tops, sem] at h
 ·exact h0
section
variable (w : World) (A : Option Addr) (n c : Nat) (us : List Ov) (k : Nat) (u : Ov)
theorem rlast_set (h : Rl w A us) (hn : n ≤ 1000) (hl : us.length = n) (hk : k < n) (hu : us[k]? = some u) (hkd : u.o.kind = 1) (p : List (List In)) (hp : tops (us.map (·.o)) k = some p) :
  Calls Tryz.prog 112 #[.slice A n c, .int .i64 (k : Int)] w (LaSays w (us.map (·.o)) (k + 1) [oneI u.o] p) := by
 obtain ⟨ad, rfl, k0, k1, k2⟩ := h.at_ hu
 rw [hkd] at k0
 have HP := Lib.hid hp
 have hsp := h.sp u (List.mem_of_getElem? hu)
 have hb1 := (Below.refl w.heap.size w).alloc (Nat.le_refl _) (.cells #[.int .i64 1, .bool u.o.neg, .slice u.A u.o.sp.length u.c] 208)
 have HR := Lib.hid (Ri.lit (B := w.heap.size) (w.alloc (.cells #[.int .i64 1, .bool u.o.neg, .slice u.A u.o.sp.length u.c] 208)) (by simp) ⟨oneI u.o, u.A, u.c⟩ (Ry.below hsp hb1))
 have HB := Lib.hid (hb1.alloc (by simp) (.cells (Iv.cells ⟨oneI u.o, u.A, u.c⟩).toArray 170))
 clear h hu hkd hp hsp hb1
 go_enter Tryz.func112, Tryz.ntmps112
 go_wp2_with fail
 go_ret2
 refine ⟨_, 1, 1, [⟨oneI u.o, u.A, u.c⟩], k, rfl, ?_, rfl, Nat.lt_succ_self _, HP.out, HB.out⟩
 have := HR.out
 rw [show (w.alloc (.cells #[.int .i64 1, .bool u.o.neg, .slice u.A u.o.sp.length u.c] 208)).heap.size = w.heap.size + 1 by simp] at this
 exact this
theorem rlast_none (h : Rl w A us) (hn : n ≤ 1000) (hl : us.length = n) (hk : k < n) (hu : us[k]? = some u) (hkd : u.o.kind = 2) (p : List (List In)) (hp : tops (us.map (·.o)) k = some p) :
  Calls Tryz.prog 112 #[.slice A n c, .int .i64 (k : Int)] w (LaSays w (us.map (·.o)) (k + 1) [] p) := by
 obtain ⟨ad, rfl, k0, k1, k2⟩ := h.at_ hu
 rw [hkd] at k0
 have HP := Lib.hid hp
 have HB := Lib.hid ((Below.refl w.heap.size w).alloc (Nat.le_refl _) (.cells #[.int .i64 2, .bool u.o.neg, .slice u.A u.o.sp.length u.c] 208))
 clear h hu hkd hp
 go_enter Tryz.func112, Tryz.ntmps112
 go_wp2_with fail
 go_ret2
 exact ⟨none, 0, 0, [], k, rfl, Ri.nil_ _ _, rfl, Nat.lt_succ_self _, HP.out, HB.out⟩
theorem rlast_star (h : Rl w A us) (hn : n ≤ 1000) (hl : us.length = n) (hk : k < n) (hu : us[k]? = some u) (hkd : u.o.kind = 5) (b : List In) (rest : List (List In)) (hp : tops (us.map (·.o)) k = some (b :: rest))
  (con : ∀ W, Rl W A us → Calls Tryz.prog 112 #[.slice A n c, .int .i64 ((k : Int) - 1)] W (LaSays W (us.map (·.o)) k b rest)) :
  Calls Tryz.prog 112 #[.slice A n c, .int .i64 (k : Int)] w (LaSays w (us.map (·.o)) (k + 1) (starOf b) rest) := by
 have hbl := tops_lens hp
 rw [lens_cons, List.length_map, hl] at hbl
 have hb0 : b.length ≤ 2000 := by omega
 have hc1 := con _ (h.below ((Below.refl w.heap.size w).alloc (Nat.le_refl _) (.cells #[.int .i64 5, .bool u.o.neg, .slice u.A u.o.sp.length u.c] 208)))
 obtain ⟨ad, rfl, k0, k1, k2⟩ := h.at_ hu
 rw [hkd] at k0
 have CON := Lib.hid hc1
 have HV := Lib.hid (Cel.new w 208 [.int .i64 5, .bool u.o.neg, .slice u.A u.o.sp.length u.c])
 have HBA := Lib.hid ((Below.refl w.heap.size w).alloc (Nat.le_refl _) (.cells #[.int .i64 5, .bool u.o.neg, .slice u.A u.o.sp.length u.c] 208))
 clear h hu hkd hp con hc1 hbl
 go_enter Tryz.func112, Tryz.ntmps112
 go_wp2_with fail
 refine CON.out.mono ?_
 clear CON
 rintro e wa ⟨Ab, nb, cb, vb, k', rfl, hrb, hvb, hk', htop, hb1⟩
 have hnb : nb ≤ 2000 := by rw [← hrb.len]; have : (vb.map (·.i)).length = b.length := by rw [hvb]
                            rw [List.length_map] at this; omega
 have v0 := (HV.out.below hb1 HV.out.lt).cell 0
 have HRB := Lib.hid hrb
 have HVB := Lib.hid hvb
 have HTOP := Lib.hid htop
 have HW1 := Lib.hid (HBA.out.trans (hb1.mono HBA.out.size))
 have hlen : nb = b.length := by rw [← hrb.len, ← hvb, List.length_map]
 have HLEN := Lib.hid hlen
 clear hrb hvb htop hb1 hlen
 have HS1 := Lib.hid (src_pv wa (2) (1) ((nb : Int) + 2))
 have HP1 := Lib.hid (Ri.below (Ri.nil_ wa wa.heap.size) ((Below.refl wa.heap.size wa).alloc (Nat.le_refl _) (.cells (pcells (2) (1) ((nb : Int) + 2)).toArray 170)))
 have HQ1 := Lib.hid (Below.alloc (Below.refl wa.heap.size wa) (Nat.le_refl _) (.cells (pcells (2) (1) ((nb : Int) + 2)).toArray 170))
 go_wp2_with (first | (at_builtin; (refine wpList_append_any _ rfl _ _ 129 rfl wa.heap.size 170 rrowIn (.slice none (0) 0) (0) (iflat ([])) rfl HP1.out.own (some ⟨wa.heap.size, 0, none⟩) 1 1 (pcells (2) (1) ((nb : Int) + 2)) rfl rfl HS1.out (pcells_one _ _ _) (1) (iflat ([]) ++ pcells (2) (1) ((nb : Int) + 2)) (by simp) rfl (by unfold maxLen; omega) (by omega) HQ1.out.size ?_); intro A1 c1 w1 ho1 hg1 _; have HR1 := Lib.hid (HP1.out.pushed (vs := [pv ⟨2, 1, (nb : Int) + 2, false, []⟩]) (pv_sp _ _ _ _) (by simp) rfl hg1 ho1); have HB1 := Lib.hid (HQ1.out.trans (HP1.out.grew hg1 HQ1.out.size)); have HS2 := Lib.hid (Ri.below HRB.out HB1.out); have HP2 := Lib.hid HR1.out; have HQ2 := Lib.hid HB1.out; clear ho1 hg1) | (at_builtin; (refine wpList_append_any _ rfl _ _ 129 rfl wa.heap.size 170 rrowIn (.slice A1 (1) c1) (1) (iflat ([] ++ [pv ⟨2, 1, (nb : Int) + 2, false, []⟩])) rfl HP2.out.own Ab nb cb (iflat vb) rfl HRB.out.own.1 HS2.out.src (iflat_one _) (1 + nb) (iflat ([] ++ [pv ⟨2, 1, (nb : Int) + 2, false, []⟩]) ++ iflat vb) rfl rfl (by unfold maxLen; omega) (by omega) HQ2.out.size ?_); intro A2 c2 w2 ho2 hg2 _; have HR2 := Lib.hid (HP2.out.pushed (vs := vb) HS2.out.sp (by simp [HRB.out.len]) rfl hg2 ho2); have HB2 := Lib.hid (HQ2.out.trans (HP2.out.grew hg2 HQ2.out.size)); have HS3 := Lib.hid (src_pv w2 (3) (-((nb : Int) + 1)) (0)); have HP3 := Lib.hid (Ri.below HR2.out ((Below.refl w2.heap.size w2).alloc (Nat.le_refl _) (.cells (pcells (3) (-((nb : Int) + 1)) (0)).toArray 170))); have HQ3 := Lib.hid (Below.alloc HB2.out (HB2.out.size) (.cells (pcells (3) (-((nb : Int) + 1)) (0)).toArray 170)); clear ho2 hg2) | (at_builtin; (refine wpList_append_any _ rfl _ _ 129 rfl wa.heap.size 170 rrowIn (.slice A2 (1 + nb) c2) (1 + nb) (iflat ([] ++ [pv ⟨2, 1, (nb : Int) + 2, false, []⟩] ++ vb)) rfl HP3.out.own (some ⟨w2.heap.size, 0, none⟩) 1 1 (pcells (3) (-((nb : Int) + 1)) (0)) rfl rfl HS3.out (pcells_one _ _ _) (1 + nb + 1) (iflat ([] ++ [pv ⟨2, 1, (nb : Int) + 2, false, []⟩] ++ vb) ++ pcells (3) (-((nb : Int) + 1)) (0)) rfl rfl (by unfold maxLen; omega) (by omega) HQ3.out.size ?_); intro A3 c3 w3 ho3 hg3 _; have HR3 := Lib.hid (HP3.out.pushed (vs := [pv ⟨3, -((nb : Int) + 1), 0, false, []⟩]) (pv_sp _ _ _ _) rfl rfl hg3 ho3); have HB3 := Lib.hid (HQ3.out.trans (HP3.out.grew hg3 HQ3.out.size)); clear ho3 hg3))
 go_ret2
 refine ⟨_, _, _, _, k', rfl, HR3.out.less HW1.out.size, ?_, by omega, HTOP.out, HW1.out.trans (HB3.out.mono HW1.out.size)⟩
 simp [pv, starOf, HVB.out, two, go, HLEN.out] <;> omega
theorem rlast_plus (h : Rl w A us) (hn : n ≤ 1000) (hl : us.length = n) (hk : k < n) (hu : us[k]? = some u) (hkd : u.o.kind = 6) (b : List In) (rest : List (List In)) (hp : tops (us.map (·.o)) k = some (b :: rest))
  (con : ∀ W, Rl W A us → Calls Tryz.prog 112 #[.slice A n c, .int .i64 ((k : Int) - 1)] W (LaSays W (us.map (·.o)) k b rest)) :
  Calls Tryz.prog 112 #[.slice A n c, .int .i64 (k : Int)] w (LaSays w (us.map (·.o)) (k + 1) (plusOf b) rest) := by
 have hbl := tops_lens hp
 rw [lens_cons, List.length_map, hl] at hbl
 have hb0 : b.length ≤ 2000 := by omega
 have hc1 := con _ (h.below ((Below.refl w.heap.size w).alloc (Nat.le_refl _) (.cells #[.int .i64 6, .bool u.o.neg, .slice u.A u.o.sp.length u.c] 208)))
 obtain ⟨ad, rfl, k0, k1, k2⟩ := h.at_ hu
 rw [hkd] at k0
 have CON := Lib.hid hc1
 have HV := Lib.hid (Cel.new w 208 [.int .i64 6, .bool u.o.neg, .slice u.A u.o.sp.length u.c])
 have HBA := Lib.hid ((Below.refl w.heap.size w).alloc (Nat.le_refl _) (.cells #[.int .i64 6, .bool u.o.neg, .slice u.A u.o.sp.length u.c] 208))
 clear h hu hkd hp con hc1 hbl
 go_enter Tryz.func112, Tryz.ntmps112
 go_wp2_with fail
 refine CON.out.mono ?_
 clear CON
 rintro e wa ⟨Ab, nb, cb, vb, k', rfl, hrb, hvb, hk', htop, hb1⟩
 have hnb : nb ≤ 2000 := by rw [← hrb.len]; have : (vb.map (·.i)).length = b.length := by rw [hvb]
                            rw [List.length_map] at this; omega
 have v0 := (HV.out.below hb1 HV.out.lt).cell 0
 have HRB := Lib.hid hrb
 have HVB := Lib.hid hvb
 have HTOP := Lib.hid htop
 have HW1 := Lib.hid (HBA.out.trans (hb1.mono HBA.out.size))
 have hlen : nb = b.length := by rw [← hrb.len, ← hvb, List.length_map]
 have HLEN := Lib.hid hlen
 clear hrb hvb htop hb1 hlen
 have HS1 := Lib.hid (Ri.below HRB.out (Below.refl wa.heap.size wa))
 have HP1 := Lib.hid (Ri.nil_ wa wa.heap.size)
 have HQ1 := Lib.hid (Below.refl wa.heap.size wa)
 go_wp2_with (first | (at_builtin; (refine wpList_append_any _ rfl _ _ 129 rfl wa.heap.size 170 rrowIn (.slice none (0) 0) (0) (iflat ([])) rfl HP1.out.own Ab nb cb (iflat vb) rfl HRB.out.own.1 HS1.out.src (iflat_one _) (nb) (iflat ([]) ++ iflat vb) (Nat.zero_add _) rfl (by unfold maxLen; omega) (by omega) HQ1.out.size ?_); intro A1 c1 w1 ho1 hg1 _; have HR1 := Lib.hid (HP1.out.pushed (vs := vb) HS1.out.sp (by rw [HRB.out.len, Nat.zero_add]) rfl hg1 ho1); have HB1 := Lib.hid (HQ1.out.trans (HP1.out.grew hg1 HQ1.out.size)); have HS2 := Lib.hid (src_pv w1 (2) (-(nb : Int)) (1)); have HP2 := Lib.hid (Ri.below HR1.out ((Below.refl w1.heap.size w1).alloc (Nat.le_refl _) (.cells (pcells (2) (-(nb : Int)) (1)).toArray 170))); have HQ2 := Lib.hid (Below.alloc HB1.out (HB1.out.size) (.cells (pcells (2) (-(nb : Int)) (1)).toArray 170)); clear ho1 hg1) | (at_builtin; (refine wpList_append_any _ rfl _ _ 129 rfl wa.heap.size 170 rrowIn (.slice A1 (nb) c1) (nb) (iflat ([] ++ vb)) rfl HP2.out.own (some ⟨w1.heap.size, 0, none⟩) 1 1 (pcells (2) (-(nb : Int)) (1)) rfl rfl HS2.out (pcells_one _ _ _) (nb + 1) (iflat ([] ++ vb) ++ pcells (2) (-(nb : Int)) (1)) rfl rfl (by unfold maxLen; omega) (by omega) HQ2.out.size ?_); intro A2 c2 w2 ho2 hg2 _; have HR2 := Lib.hid (HP2.out.pushed (vs := [pv ⟨2, -(nb : Int), 1, false, []⟩]) (pv_sp _ _ _ _) rfl rfl hg2 ho2); have HB2 := Lib.hid (HQ2.out.trans (HP2.out.grew hg2 HQ2.out.size)); clear ho2 hg2))
 go_ret2
 refine ⟨_, _, _, _, k', rfl, HR2.out.less HW1.out.size, ?_, by omega, HTOP.out, HW1.out.trans (HB2.out.mono HW1.out.size)⟩
 simp [pv, plusOf, HVB.out, two, go, HLEN.out]
theorem rlast_opt (h : Rl w A us) (hn : n ≤ 1000) (hl : us.length = n) (hk : k < n) (hu : us[k]? = some u) (hkd : u.o.kind = 7) (b : List In) (rest : List (List In)) (hp : tops (us.map (·.o)) k = some (b :: rest))
  (con : ∀ W, Rl W A us → Calls Tryz.prog 112 #[.slice A n c, .int .i64 ((k : Int) - 1)] W (LaSays W (us.map (·.o)) k b rest)) :
  Calls Tryz.prog 112 #[.slice A n c, .int .i64 (k : Int)] w (LaSays w (us.map (·.o)) (k + 1) (optOf b) rest) := by
 have hbl := tops_lens hp
 rw [lens_cons, List.length_map, hl] at hbl
 have hb0 : b.length ≤ 2000 := by omega
 have hc1 := con _ (h.below ((Below.refl w.heap.size w).alloc (Nat.le_refl _) (.cells #[.int .i64 7, .bool u.o.neg, .slice u.A u.o.sp.length u.c] 208)))
 obtain ⟨ad, rfl, k0, k1, k2⟩ := h.at_ hu
 rw [hkd] at k0
 have CON := Lib.hid hc1
 have HV := Lib.hid (Cel.new w 208 [.int .i64 7, .bool u.o.neg, .slice u.A u.o.sp.length u.c])
 have HBA := Lib.hid ((Below.refl w.heap.size w).alloc (Nat.le_refl _) (.cells #[.int .i64 7, .bool u.o.neg, .slice u.A u.o.sp.length u.c] 208))
 clear h hu hkd hp con hc1 hbl
 go_enter Tryz.func112, Tryz.ntmps112
 go_wp2_with fail
 refine CON.out.mono ?_
 clear CON
 rintro e wa ⟨Ab, nb, cb, vb, k', rfl, hrb, hvb, hk', htop, hb1⟩
 have hnb : nb ≤ 2000 := by rw [← hrb.len]; have : (vb.map (·.i)).length = b.length := by rw [hvb]
                            rw [List.length_map] at this; omega
 have v0 := (HV.out.below hb1 HV.out.lt).cell 0
 have HRB := Lib.hid hrb
 have HVB := Lib.hid hvb
 have HTOP := Lib.hid htop
 have HW1 := Lib.hid (HBA.out.trans (hb1.mono HBA.out.size))
 have hlen : nb = b.length := by rw [← hrb.len, ← hvb, List.length_map]
 have HLEN := Lib.hid hlen
 clear hrb hvb htop hb1 hlen
 have HS1 := Lib.hid (src_pv wa (2) (1) ((nb : Int) + 1))
 have HP1 := Lib.hid (Ri.below (Ri.nil_ wa wa.heap.size) ((Below.refl wa.heap.size wa).alloc (Nat.le_refl _) (.cells (pcells (2) (1) ((nb : Int) + 1)).toArray 170)))
 have HQ1 := Lib.hid (Below.alloc (Below.refl wa.heap.size wa) (Nat.le_refl _) (.cells (pcells (2) (1) ((nb : Int) + 1)).toArray 170))
 go_wp2_with (first | (at_builtin; (refine wpList_append_any _ rfl _ _ 129 rfl wa.heap.size 170 rrowIn (.slice none (0) 0) (0) (iflat ([])) rfl HP1.out.own (some ⟨wa.heap.size, 0, none⟩) 1 1 (pcells (2) (1) ((nb : Int) + 1)) rfl rfl HS1.out (pcells_one _ _ _) (1) (iflat ([]) ++ pcells (2) (1) ((nb : Int) + 1)) (by simp) rfl (by unfold maxLen; omega) (by omega) HQ1.out.size ?_); intro A1 c1 w1 ho1 hg1 _; have HR1 := Lib.hid (HP1.out.pushed (vs := [pv ⟨2, 1, (nb : Int) + 1, false, []⟩]) (pv_sp _ _ _ _) (by simp) rfl hg1 ho1); have HB1 := Lib.hid (HQ1.out.trans (HP1.out.grew hg1 HQ1.out.size)); have HS2 := Lib.hid (Ri.below HRB.out HB1.out); have HP2 := Lib.hid HR1.out; have HQ2 := Lib.hid HB1.out; clear ho1 hg1) | (at_builtin; (refine wpList_append_any _ rfl _ _ 129 rfl wa.heap.size 170 rrowIn (.slice A1 (1) c1) (1) (iflat ([] ++ [pv ⟨2, 1, (nb : Int) + 1, false, []⟩])) rfl HP2.out.own Ab nb cb (iflat vb) rfl HRB.out.own.1 HS2.out.src (iflat_one _) (1 + nb) (iflat ([] ++ [pv ⟨2, 1, (nb : Int) + 1, false, []⟩]) ++ iflat vb) rfl rfl (by unfold maxLen; omega) (by omega) HQ2.out.size ?_); intro A2 c2 w2 ho2 hg2 _; have HR2 := Lib.hid (HP2.out.pushed (vs := vb) HS2.out.sp (by simp [HRB.out.len]) rfl hg2 ho2); have HB2 := Lib.hid (HQ2.out.trans (HP2.out.grew hg2 HQ2.out.size)); clear ho2 hg2))
 go_ret2
 refine ⟨_, _, _, _, k', rfl, HR2.out.less HW1.out.size, ?_, by omega, HTOP.out, HW1.out.trans (HB2.out.mono HW1.out.size)⟩
 simp [pv, optOf, HVB.out, two, go, HLEN.out]
theorem rlast_cat (h : Rl w A us) (hn : n ≤ 1000) (hl : us.length = n) (hk : k < n) (hu : us[k]? = some u) (hkd : u.o.kind = 3) (b a : List In) (rest : List (List In)) (hp : tops (us.map (·.o)) k = some (b :: a :: rest))
  (con : ∀ W, Rl W A us → Calls Tryz.prog 112 #[.slice A n c, .int .i64 ((k : Int) - 1)] W (LaSays W (us.map (·.o)) k b (a :: rest)))
  (con2 : ∀ W k1, Rl W A us → k1 < k → tops (us.map (·.o)) k1 = some (a :: rest) → Calls Tryz.prog 112 #[.slice A n c, .int .i64 ((k1 : Int) - 1)] W (LaSays W (us.map (·.o)) k1 a rest)) :
  Calls Tryz.prog 112 #[.slice A n c, .int .i64 (k : Int)] w (LaSays w (us.map (·.o)) (k + 1) (a ++ b) rest) := by
 have hbl := tops_lens hp
 rw [lens_cons, lens_cons, List.length_map, hl] at hbl
 have hb0 : b.length ≤ 2000 := by omega
 have ha0 : a.length ≤ 2000 := by omega
 have hc1 := con _ (h.below ((Below.refl w.heap.size w).alloc (Nat.le_refl _) (.cells #[.int .i64 3, .bool u.o.neg, .slice u.A u.o.sp.length u.c] 208)))
 have HH := Lib.hid h
 have CON2 := Lib.hid con2
 obtain ⟨ad, rfl, k0, k1, k2⟩ := h.at_ hu
 rw [hkd] at k0
 have CON := Lib.hid hc1
 have HV := Lib.hid (Cel.new w 208 [.int .i64 3, .bool u.o.neg, .slice u.A u.o.sp.length u.c])
 have HBA := Lib.hid ((Below.refl w.heap.size w).alloc (Nat.le_refl _) (.cells #[.int .i64 3, .bool u.o.neg, .slice u.A u.o.sp.length u.c] 208))
 clear h hu hkd hp con con2 hc1 hbl
 go_enter Tryz.func112, Tryz.ntmps112
 go_wp2_with fail
 refine CON.out.mono ?_
 clear CON
 rintro e wa ⟨Ab, nb, cb, vb, k', rfl, hrb, hvb, hk', htop, hb1⟩
 have hlen : nb = b.length := by rw [← hrb.len, ← hvb, List.length_map]
 have hnb : nb ≤ 2000 := by omega
 have v0 := (HV.out.below hb1 HV.out.lt).cell 0
 have HVA := Lib.hid (HV.out.below hb1 HV.out.lt)
 have HRB := Lib.hid hrb
 have HVB := Lib.hid hvb
 have HW1 := Lib.hid (HBA.out.trans (hb1.mono HBA.out.size))
 have HLEN := Lib.hid hlen
 have C2 := Lib.hid (CON2.out wa k' (HH.out.below HW1.out) hk' htop)
 clear hrb hvb htop hb1 hlen CON2
 go_wp2_with fail
 refine C2.out.mono ?_
 clear C2
 rintro e wb ⟨Aa, na, ca, va, k'', rfl, hra, hva, hk'', htop, hb1⟩
 have hlen : na = a.length := by rw [← hra.len, ← hva, List.length_map]
 have hna : na ≤ 2000 := by omega
 have v1 := (HVA.out.below hb1 HVA.out.lt).cell 0
 have HRA := Lib.hid hra
 have HRC := Lib.hid (HRB.out.below hb1)
 have HVV := Lib.hid hva
 have HTOP := Lib.hid htop
 have HW2 := Lib.hid (HW1.out.trans (hb1.mono HW1.out.size))
 have HLEA := Lib.hid hlen
 clear hra hva htop hb1 hlen v0
 have HS1 := Lib.hid (Ri.below HRA.out (Below.refl wb.heap.size wb))
 have HP1 := Lib.hid (Ri.nil_ wb wb.heap.size)
 have HQ1 := Lib.hid (Below.refl wb.heap.size wb)
 go_wp2_with (first | (at_builtin; (refine wpList_append_any _ rfl _ _ 129 rfl wb.heap.size 170 rrowIn (.slice none (0) 0) (0) (iflat ([])) rfl HP1.out.own Aa na ca (iflat va) rfl HRA.out.own.1 HS1.out.src (iflat_one _) (na) (iflat ([]) ++ iflat va) (Nat.zero_add _) rfl (by unfold maxLen; omega) (by omega) HQ1.out.size ?_); intro A1 c1 w1 ho1 hg1 _; have HR1 := Lib.hid (HP1.out.pushed (vs := va) HS1.out.sp (by rw [HRA.out.len, Nat.zero_add]) rfl hg1 ho1); have HB1 := Lib.hid (HQ1.out.trans (HP1.out.grew hg1 HQ1.out.size)); have HS2 := Lib.hid (Ri.below HRC.out HB1.out); have HP2 := Lib.hid HR1.out; have HQ2 := Lib.hid HB1.out; clear ho1 hg1) | (at_builtin; (refine wpList_append_any _ rfl _ _ 129 rfl wb.heap.size 170 rrowIn (.slice A1 (na) c1) (na) (iflat ([] ++ va)) rfl HP2.out.own Ab nb cb (iflat vb) rfl HRC.out.own.1 HS2.out.src (iflat_one _) (na + nb) (iflat ([] ++ va) ++ iflat vb) rfl rfl (by unfold maxLen; omega) (by omega) HQ2.out.size ?_); intro A2 c2 w2 ho2 hg2 _; have HR2 := Lib.hid (HP2.out.pushed (vs := vb) HS2.out.sp (by simp [HRC.out.len]) rfl hg2 ho2); have HB2 := Lib.hid (HQ2.out.trans (HP2.out.grew hg2 HQ2.out.size)); clear ho2 hg2))
 go_ret2
 refine ⟨_, _, _, _, k'', rfl, HR2.out.less HW2.out.size, ?_, by omega, HTOP.out, HW2.out.trans (HB2.out.mono HW2.out.size)⟩
 simp [pv, altOf, HVB.out, HVV.out, two, go, HLEN.out, HLEA.out]
theorem rlast_alt (h : Rl w A us) (hn : n ≤ 1000) (hl : us.length = n) (hk : k < n) (hu : us[k]? = some u) (hkd : u.o.kind = 4) (b a : List In) (rest : List (List In)) (hp : tops (us.map (·.o)) k = some (b :: a :: rest))
  (con : ∀ W, Rl W A us → Calls Tryz.prog 112 #[.slice A n c, .int .i64 ((k : Int) - 1)] W (LaSays W (us.map (·.o)) k b (a :: rest)))
  (con2 : ∀ W k1, Rl W A us → k1 < k → tops (us.map (·.o)) k1 = some (a :: rest) → Calls Tryz.prog 112 #[.slice A n c, .int .i64 ((k1 : Int) - 1)] W (LaSays W (us.map (·.o)) k1 a rest)) :
  Calls Tryz.prog 112 #[.slice A n c, .int .i64 (k : Int)] w (LaSays w (us.map (·.o)) (k + 1) (altOf a b) rest) := by
 have hbl := tops_lens hp
 rw [lens_cons, lens_cons, List.length_map, hl] at hbl
 have hb0 : b.length ≤ 2000 := by omega
 have ha0 : a.length ≤ 2000 := by omega
 have hc1 := con _ (h.below ((Below.refl w.heap.size w).alloc (Nat.le_refl _) (.cells #[.int .i64 4, .bool u.o.neg, .slice u.A u.o.sp.length u.c] 208)))
 have HH := Lib.hid h
 have CON2 := Lib.hid con2
 obtain ⟨ad, rfl, k0, k1, k2⟩ := h.at_ hu
 rw [hkd] at k0
 have CON := Lib.hid hc1
 have HV := Lib.hid (Cel.new w 208 [.int .i64 4, .bool u.o.neg, .slice u.A u.o.sp.length u.c])
 have HBA := Lib.hid ((Below.refl w.heap.size w).alloc (Nat.le_refl _) (.cells #[.int .i64 4, .bool u.o.neg, .slice u.A u.o.sp.length u.c] 208))
 clear h hu hkd hp con con2 hc1 hbl
 go_enter Tryz.func112, Tryz.ntmps112
 go_wp2_with fail
 refine CON.out.mono ?_
 clear CON
 rintro e wa ⟨Ab, nb, cb, vb, k', rfl, hrb, hvb, hk', htop, hb1⟩
 have hlen : nb = b.length := by rw [← hrb.len, ← hvb, List.length_map]
 have hnb : nb ≤ 2000 := by omega
 have v0 := (HV.out.below hb1 HV.out.lt).cell 0
 have HVA := Lib.hid (HV.out.below hb1 HV.out.lt)
 have HRB := Lib.hid hrb
 have HVB := Lib.hid hvb
 have HW1 := Lib.hid (HBA.out.trans (hb1.mono HBA.out.size))
 have HLEN := Lib.hid hlen
 have C2 := Lib.hid (CON2.out wa k' (HH.out.below HW1.out) hk' htop)
 clear hrb hvb htop hb1 hlen CON2
 go_wp2_with fail
 refine C2.out.mono ?_
 clear C2
 rintro e wb ⟨Aa, na, ca, va, k'', rfl, hra, hva, hk'', htop, hb1⟩
 have hlen : na = a.length := by rw [← hra.len, ← hva, List.length_map]
 have hna : na ≤ 2000 := by omega
 have v1 := (HVA.out.below hb1 HVA.out.lt).cell 0
 have HRA := Lib.hid hra
 have HRC := Lib.hid (HRB.out.below hb1)
 have HVV := Lib.hid hva
 have HTOP := Lib.hid htop
 have HW2 := Lib.hid (HW1.out.trans (hb1.mono HW1.out.size))
 have HLEA := Lib.hid hlen
 clear hra hva htop hb1 hlen v0
 have HS1 := Lib.hid (src_pv wb (2) (1) ((na : Int) + 2))
 have HP1 := Lib.hid (Ri.below (Ri.nil_ wb wb.heap.size) ((Below.refl wb.heap.size wb).alloc (Nat.le_refl _) (.cells (pcells (2) (1) ((na : Int) + 2)).toArray 170)))
 have HQ1 := Lib.hid (Below.alloc (Below.refl wb.heap.size wb) (Nat.le_refl _) (.cells (pcells (2) (1) ((na : Int) + 2)).toArray 170))
 go_wp2_with (first | (at_builtin; (refine wpList_append_any _ rfl _ _ 129 rfl wb.heap.size 170 rrowIn (.slice none (0) 0) (0) (iflat ([])) rfl HP1.out.own (some ⟨wb.heap.size, 0, none⟩) 1 1 (pcells (2) (1) ((na : Int) + 2)) rfl rfl HS1.out (pcells_one _ _ _) (1) (iflat ([]) ++ pcells (2) (1) ((na : Int) + 2)) (by simp) rfl (by unfold maxLen; omega) (by omega) HQ1.out.size ?_); intro A1 c1 w1 ho1 hg1 _; have HR1 := Lib.hid (HP1.out.pushed (vs := [pv ⟨2, 1, (na : Int) + 2, false, []⟩]) (pv_sp _ _ _ _) (by simp) rfl hg1 ho1); have HB1 := Lib.hid (HQ1.out.trans (HP1.out.grew hg1 HQ1.out.size)); have HS2 := Lib.hid (Ri.below HRA.out HB1.out); have HP2 := Lib.hid HR1.out; have HQ2 := Lib.hid HB1.out; clear ho1 hg1) | (at_builtin; (refine wpList_append_any _ rfl _ _ 129 rfl wb.heap.size 170 rrowIn (.slice A1 (1) c1) (1) (iflat ([] ++ [pv ⟨2, 1, (na : Int) + 2, false, []⟩])) rfl HP2.out.own Aa na ca (iflat va) rfl HRA.out.own.1 HS2.out.src (iflat_one _) (1 + na) (iflat ([] ++ [pv ⟨2, 1, (na : Int) + 2, false, []⟩]) ++ iflat va) rfl rfl (by unfold maxLen; omega) (by omega) HQ2.out.size ?_); intro A2 c2 w2 ho2 hg2 _; have HR2 := Lib.hid (HP2.out.pushed (vs := va) HS2.out.sp (by simp [HRA.out.len]) rfl hg2 ho2); have HB2 := Lib.hid (HQ2.out.trans (HP2.out.grew hg2 HQ2.out.size)); have HS3 := Lib.hid (src_pv w2 (3) ((nb : Int) + 1) (0)); have HP3 := Lib.hid (Ri.below HR2.out ((Below.refl w2.heap.size w2).alloc (Nat.le_refl _) (.cells (pcells (3) ((nb : Int) + 1) (0)).toArray 170))); have HQ3 := Lib.hid (Below.alloc HB2.out (HB2.out.size) (.cells (pcells (3) ((nb : Int) + 1) (0)).toArray 170)); clear ho2 hg2) | (at_builtin; (refine wpList_append_any _ rfl _ _ 129 rfl wb.heap.size 170 rrowIn (.slice A2 (1 + na) c2) (1 + na) (iflat ([] ++ [pv ⟨2, 1, (na : Int) + 2, false, []⟩] ++ va)) rfl HP3.out.own (some ⟨w2.heap.size, 0, none⟩) 1 1 (pcells (3) ((nb : Int) + 1) (0)) rfl rfl HS3.out (pcells_one _ _ _) (1 + na + 1) (iflat ([] ++ [pv ⟨2, 1, (na : Int) + 2, false, []⟩] ++ va) ++ pcells (3) ((nb : Int) + 1) (0)) rfl rfl (by unfold maxLen; omega) (by omega) HQ3.out.size ?_); intro A3 c3 w3 ho3 hg3 _; have HR3 := Lib.hid (HP3.out.pushed (vs := [pv ⟨3, (nb : Int) + 1, 0, false, []⟩]) (pv_sp _ _ _ _) rfl rfl hg3 ho3); have HB3 := Lib.hid (HQ3.out.trans (HP3.out.grew hg3 HQ3.out.size)); have HS4 := Lib.hid (Ri.below HRC.out HB3.out); have HP4 := Lib.hid HR3.out; have HQ4 := Lib.hid HB3.out; clear ho3 hg3) | (at_builtin; (refine wpList_append_any _ rfl _ _ 129 rfl wb.heap.size 170 rrowIn (.slice A3 (1 + na + 1) c3) (1 + na + 1) (iflat ([] ++ [pv ⟨2, 1, (na : Int) + 2, false, []⟩] ++ va ++ [pv ⟨3, (nb : Int) + 1, 0, false, []⟩])) rfl HP4.out.own Ab nb cb (iflat vb) rfl HRC.out.own.1 HS4.out.src (iflat_one _) (1 + na + 1 + nb) (iflat ([] ++ [pv ⟨2, 1, (na : Int) + 2, false, []⟩] ++ va ++ [pv ⟨3, (nb : Int) + 1, 0, false, []⟩]) ++ iflat vb) rfl rfl (by unfold maxLen; omega) (by omega) HQ4.out.size ?_); intro A4 c4 w4 ho4 hg4 _; have HR4 := Lib.hid (HP4.out.pushed (vs := vb) HS4.out.sp (by simp [HRC.out.len]) rfl hg4 ho4); have HB4 := Lib.hid (HQ4.out.trans (HP4.out.grew hg4 HQ4.out.size)); clear ho4 hg4))
 go_ret2
 refine ⟨_, _, _, _, k'', rfl, HR4.out.less HW2.out.size, ?_, by omega, HTOP.out, HW2.out.trans (HB4.out.mono HW2.out.size)⟩
 simp [pv, altOf, HVB.out, HVV.out, two, go, HLEN.out, HLEA.out]
end
theorem opS_some {o : Rop} {p q : List (List In)} (h : opS o p = some q) :
  (o.kind = 1 ∧ q = [oneI o] :: p) ∨ (o.kind = 2 ∧ q = [] :: p) ∨ (∃ b a r, o.kind = 3 ∧ p = b :: a :: r ∧ q = (a ++ b) :: r) ∨ (∃ b a r, o.kind = 4 ∧ p = b :: a :: r ∧ q = altOf a b :: r) ∨
  (∃ b r, o.kind = 5 ∧ p = b :: r ∧ q = starOf b :: r) ∨ (∃ b r, o.kind = 6 ∧ p = b :: r ∧ q = plusOf b :: r) ∨ (∃ b r, o.kind = 7 ∧ p = b :: r ∧ q = optOf b :: r) := by
 unfold opS at h
 split at h
 ·injection h with h; exact .inl ⟨‹_›, h.symm⟩
 split at h
 ·injection h with h; exact .inr (.inl ⟨‹_›, h.symm⟩)
 split at h
 ·split at h
  ·injection h with h; exact .inr (.inr (.inl ⟨_, _, _, ‹_›, rfl, h.symm⟩))
  ·cases h
 split at h
 ·split at h
  ·injection h with h; exact .inr (.inr (.inr (.inl ⟨_, _, _, ‹_›, rfl, h.symm⟩)))
  ·cases h
 split at h
 ·split at h
  ·injection h with h; exact .inr (.inr (.inr (.inr (.inl ⟨_, _, ‹_›, rfl, h.symm⟩))))
  ·cases h
 split at h
 ·split at h
  ·injection h with h; exact .inr (.inr (.inr (.inr (.inr (.inl ⟨_, _, ‹_›, rfl, h.symm⟩)))))
  ·cases h
 split at h
 ·split at h
  ·injection h with h; exact .inr (.inr (.inr (.inr (.inr (.inr ⟨_, _, ‹_›, rfl, h.symm⟩)))))
  ·cases h
 ·cases h
theorem rlast (A : Option Addr) (n c : Nat) (us : List Ov) (hn : n ≤ 1000) (hl : us.length = n) : ∀ (k : Nat), k ≤ n → ∀ (w : World) (a : List In) (rest : List (List In)), Rl w A us → tops (us.map (·.o)) k = some (a :: rest) →
  Calls Tryz.prog 112 #[.slice A n c, .int .i64 ((k : Int) - 1)] w (LaSays w (us.map (·.o)) k a rest) := by
 intro k
 induction k using Nat.strongRecOn with
 | ind k ih =>
  intro hk w a rest h htop
  have h0 := tops_pos htop
  obtain ⟨m, rfl⟩ : ∃ m, k = m + 1 := ⟨k - 1, by omega⟩
  rw [show ((m + 1 : Nat) : Int) - 1 = (m : Int) by omega]
  obtain ⟨u, hu⟩ : ∃ u, us[m]? = some u := ⟨_, List.getElem?_eq_getElem (by omega)⟩
  have ho : (us.map (·.o))[m]? = some u.o := by rw [List.getElem?_map, hu]; rfl
  rw [tops_succ ho] at htop
  rcases hp : tops (us.map (·.o)) m with _ | p
  ·rw [hp] at htop; cases htop
  ·rw [hp] at htop
   have con : ∀ (b : List In) (r : List (List In)), p = b :: r → ∀ W, Rl W A us → Calls Tryz.prog 112 #[.slice A n c, .int .i64 ((m : Int) - 1)] W (LaSays W (us.map (·.o)) m b r) := fun b r e W hW => ih m (by omega) (by omega) W b r hW (by rw [hp, e])
   have con2 : ∀ (b : List In) (r : List (List In)) W k1, Rl W A us → k1 < m → tops (us.map (·.o)) k1 = some (b :: r) → Calls Tryz.prog 112 #[.slice A n c, .int .i64 ((k1 : Int) - 1)] W (LaSays W (us.map (·.o)) k1 b r) := fun b r W k1 hW hk1 ht => ih k1 (by omega) (by omega) W b r hW ht
   rcases opS_some htop with ⟨hkd, e⟩ | ⟨hkd, e⟩ | ⟨b, a', r, hkd, rfl, e⟩ | ⟨b, a', r, hkd, rfl, e⟩ | ⟨b, r, hkd, rfl, e⟩ | ⟨b, r, hkd, rfl, e⟩ | ⟨b, r, hkd, rfl, e⟩ <;> (injection e with e1 e2; subst e1 e2)
   ·exact rlast_set w A n c us m u h hn hl (by omega) hu hkd _ hp
   ·exact rlast_none w A n c us m u h hn hl (by omega) hu hkd _ hp
   ·exact rlast_cat w A n c us m u h hn hl (by omega) hu hkd b a' _ hp (con _ _ rfl) (con2 _ _)
   ·exact rlast_alt w A n c us m u h hn hl (by omega) hu hkd b a' _ hp (con _ _ rfl) (con2 _ _)
   ·exact rlast_star w A n c us m u h hn hl (by omega) hu hkd b _ hp (con _ _ rfl)
   ·exact rlast_plus w A n c us m u h hn hl (by omega) hu hkd b _ hp (con _ _ rfl)
   ·exact rlast_opt w A n c us m u h hn hl (by omega) hu hkd b _ hp (con _ _ rfl)
def RuSays (w : World) (r : Except Nat (List In)) (e : Ending) (w' : World) : Prop := Below w.heap.size w w' ∧ match r with
 | .error bad => bad ≠ 0 ∧ e = .returned (.tuple #[.slice none 0 0, .int .i64 (bad : Int)])
 | .ok a => ∃ A m c vs, e = .returned (.tuple #[.slice A m c, .int .i64 0]) ∧ Ri w' w.heap.size A m c vs ∧ vs.map (·.i) = a ∧ m ≤ 200
theorem rbuild (w : World) (A : Option Addr) (n c : Nat) (us : List Ov) (h : Rl w A us) (hn : n ≤ 1000) (hl : us.length = n) :
  Calls Tryz.prog 72 #[.slice A n c] w (RuSays w (build (us.map (·.o)))) := by
 have con := rmay w A n c us h hl hn
 have con2 := rmany w A n c us h hl hn
 have con3 := rlast A n c us hn hl n (Nat.le_refl _) w
 generalize hops : us.map (·.o) = ops at *
 have hol : ops.length = n := by rw [← hops, List.length_map, hl]
 have HM := Lib.hid (build_may ops)
 have H := Lib.hid h
 by_cases hp : piled 0 ops = some 1
 ·rw [decide_eq_true hp] at con
  obtain ⟨a, ha, hal⟩ := sem_one hp
  have hhl := heavy_le ops
  by_cases h200 : 200 < heavy ops + 1
  ·have HB := Lib.hid (show build ops = .error 3 by rw [HM.out, if_pos hp, ha]; dsimp only; rw [if_pos h200])
   have d1 : decide ((200 : Int) < (heavy ops : Int) + 1) = true := by simp; omega
   clear h con3 HM hp ha hal h200
   go_enter Tryz.func72, Tryz.ntmps72
   go_wp2_with fail
   refine con.mono ?_
   rintro e w1 ⟨rfl, rfl⟩
   go_wp2_with fail
   refine con2.mono ?_
   rintro e w2 ⟨rfl, rfl⟩
   go_wp2_with fail
   go_ret2
   rw [HB.out]
   exact ⟨Below.refl _ _, by decide, rfl⟩
  ·have HB := Lib.hid (show build ops = .ok (a ++ [doneI]) by rw [HM.out, if_pos hp, ha]; dsimp only; rw [if_neg h200])
   have d1 : decide ((200 : Int) < (heavy ops : Int) + 1) = false := by simp; omega
   have hh2 : heavy ops ≤ 200 := by omega
   have CON3 := Lib.hid (con3 a [] h (by unfold tops; rw [List.take_of_length_le (by omega)]; exact ha))
   have HAL := Lib.hid hal
   clear h con3 HM hp ha h200 hal
   go_enter Tryz.func72, Tryz.ntmps72
   go_wp2_with fail
   refine con.mono ?_
   rintro e w1 ⟨rfl, rfl⟩
   go_wp2_with fail
   refine con2.mono ?_
   rintro e w2 ⟨rfl, rfl⟩
   go_wp2_with fail
   refine CON3.out.mono ?_
   clear CON3 con con2
   rintro e wa ⟨Ab, nb, cb, vb, k', rfl, hrb, hvb, hk', htop, hb1⟩
   have hlen : nb = heavy ops := by rw [← hrb.len, ← HAL.out, ← hvb, List.length_map]
   have hnb : nb ≤ 200 := by omega
   have hnb9 := Lib.hid (show nb + 1 ≤ 200 by simp at d1; omega)
   have HVB := Lib.hid hvb
   have HS := Lib.hid (src_pv wa 4 0 0)
   have HP := Lib.hid (hrb.below ((Below.refl wa.heap.size wa).alloc (Nat.le_refl _) (.cells (pcells 4 0 0).toArray 170)))
   have HQ := Lib.hid (hb1.alloc hb1.size (.cells (pcells 4 0 0).toArray 170))
   clear hrb hvb hk' htop hb1 hlen d1
   go_wp2_with ((at_builtin; refine wpList_append_any _ rfl _ _ 129 rfl w.heap.size 170 rrowIn (.slice Ab nb cb) nb (iflat vb) rfl HP.out.own (some ⟨wa.heap.size, 0, none⟩) 1 1 (pcells 4 0 0) rfl rfl HS.out (pcells_one _ _ _) (nb + 1) (iflat vb ++ pcells 4 0 0) rfl rfl (by unfold maxLen; omega) (by omega) HQ.out.size ?_; intro A8 c8 w8 ho8 hg8 _; have HR8 := Lib.hid (HP.out.pushed (vs := [pv doneI]) (pv_sp _ _ _ _) rfl rfl hg8 ho8); have HB8 := Lib.hid (HQ.out.trans (HP.out.grew hg8 HQ.out.size)); clear ho8 hg8))
   go_ret2
   unfold RuSays
   rw [HB.out]
   exact ⟨HB8.out, A8, nb + 1, c8, vb ++ [pv doneI], rfl, HR8.out, by rw [List.map_append, HVB.out]; rfl, hnb9.out⟩
 ·rw [decide_eq_false hp] at con
  have HB := Lib.hid (show build ops = .error 1 by rw [HM.out, if_neg hp])
  clear h con2 con3 HM hp
  go_enter Tryz.func72, Tryz.ntmps72
  go_wp2_with fail
  refine con.mono ?_
  rintro e w1 ⟨rfl, rfl⟩
  go_wp2_with fail
  go_ret2
  rw [HB.out]
  exact ⟨Below.refl _ _, by decide, rfl⟩
end Go.Proofs.YteohlpmojfjjdaaGreat.Nfa
end
section
namespace Go.Proofs.YteohlpmojfjjdaaGreat.Reg
theorem escS_len (c : BitVec 8) : (escS c).length ≤ 4 := by
 unfold escS
 split
 ·split <;> simp
 ·unfold classOf
  repeat' split
  all_goals simp
theorem atomL_sp {s : List (BitVec 8)} {k : Nat} {c : BitVec 8} {o : Rop} {j : Nat} (h : atomL s k c = .ok (o, j)) (hc : s[k]? = some c) (hs : s.length ≤ 80) : o.sp.length ≤ 1000 := by
 have hk := get_lt hc
 unfold atomL at h
 split at h
 ·cases h
 ·split at h
  ·have := setR_ok h hk
   omega
  ·split at h
   ·unfold escape at h
    split at h
    ·cases h
    ·rename_i c' hc'
     have := escS_len c'
     rcases e : escS c' with _ | ⟨x, t⟩ <;> rw [e] at h
     ·cases h
     ·injection h with h; injection h with e1 e2; subst e1
      rw [e] at this
      exact Nat.le_trans this (by omega)
   ·split at h <;> (injection h with h; injection h with e1 e2; subst e1; show 1 ≤ 1000; omega)
theorem one_sp (k : Int) : (one k).sp.length ≤ 1000 := Nat.zero_le _
theorem piece_sp {s : List (BitVec 8)} {x : St} (h : ∀ o ∈ x.ops, o.sp.length ≤ 1000) : ∀ o ∈ (pieceEnd s x).ops, o.sp.length ≤ 1000 := by
 intro o ho
 unfold pieceEnd at ho
 simp only [List.mem_append] at ho
 rcases ho with (ho | ho) | ho
 ·exact h o ho
 ·split at ho
  ·simp at ho
  ·rw [List.mem_singleton.1 ho]; exact one_sp _
 ·split at ho
  ·rw [List.mem_singleton.1 ho]; exact one_sp _
  ·simp at ho
theorem branch_sp {x : St} (h : ∀ o ∈ x.ops, o.sp.length ≤ 1000) : ∀ o ∈ (branchEnd x).ops, o.sp.length ≤ 1000 := by
 intro o ho
 unfold branchEnd at ho
 simp only [List.mem_append] at ho
 rcases ho with (ho | ho) | ho
 ·exact h o ho
 ·split at ho
  ·simp at ho
  ·rw [List.mem_singleton.1 ho]; exact one_sp _
 ·split at ho
  ·rw [List.mem_singleton.1 ho]; exact one_sp _
  ·simp at ho
theorem step_sp {s : List (BitVec 8)} {x y : St} {c : BitVec 8} (h : step s x c = .ok y) (hc : s[x.at_]? = some c) (hs : s.length ≤ 80) (hx : ∀ o ∈ x.ops, o.sp.length ≤ 1000) : ∀ o ∈ y.ops, o.sp.length ≤ 1000 := by
 unfold step at h
 split at h
 ·split at h
  ·cases h
  ·injection h with h; subst h; exact hx
 ·split at h
  ·split at h
   ·cases h
   ·injection h with h; subst h; exact piece_sp (branch_sp hx)
  ·split at h
   ·injection h with h; subst h; exact branch_sp hx
   ·split at h
    ·cases h
    ·rename_i o j e
     injection h with h; subst h
     refine piece_sp fun o' ho => ?_
     rcases List.mem_append.1 ho with ho | ho
     ·exact hx o' ho
     ·rw [List.mem_singleton.1 ho]; exact atomL_sp e hc hs
theorem runF_sp {s : List (BitVec 8)} (hs : s.length ≤ 80) : ∀ (n : Nat) (x : St) (l : List Rop), (∀ o ∈ x.ops, o.sp.length ≤ 1000) → runF s n x = .ok l → ∀ o ∈ l, o.sp.length ≤ 1000 := by
 intro n
 induction n with
 | zero => intro x l _ h; cases h
 | succ n ih =>
  intro x l hx h
  unfold runF at h
  split at h
  ·split at h
   ·cases h
   ·injection h with h; subst h; exact branch_sp hx
  ·rename_i c hc
   split at h
   ·cases h
   ·rename_i y hy
    exact ih y l (step_sp hy hc hs hx) h
theorem parse_sp {s : List (BitVec 8)} {l : List Rop} (h : parse s = .ok l) : ∀ o ∈ l, o.sp.length ≤ 1000 := by
 unfold parse at h
 split at h
 ·cases h
 ·exact runF_sp (by omega) _ _ _ (by simp [St0]) h
theorem piled_kinds : ∀ (l : List Rop) (n m : Nat), piled n l = some m → ∀ o ∈ l, 1 ≤ o.kind ∧ o.kind ≤ 7
 | [], _, _, _ => by simp
 | o :: l, n, m, h => by
  unfold piled at h
  split at h
  ·cases h
  ·rename_i k e
   have h2 := piled_kinds l k m h
   intro x hx
   rcases List.mem_cons.1 hx with rfl | hx
   ·unfold does at e
    split at e
    ·cases e
    ·rename_i t ht
     unfold takes at ht
     split at ht
     ·omega
     ·split at ht
      ·omega
      ·split at ht
       ·omega
       ·cases ht
   ·exact h2 x hx
theorem runF_len {s : List (BitVec 8)} : ∀ (n : Nat) (x : St) (l : List Rop), runF s n x = .ok l → l.length ≤ x.ops.length + 4 * n := by
 intro n
 induction n with
 | zero => intro x l h; cases h
 | succ n ih =>
  intro x l h
  unfold runF at h
  split at h
  ·split at h
   ·cases h
   ·injection h with h
    subst h
    unfold branchEnd
    simp only [List.length_append]
    split <;> split <;> simp <;> omega
  ·rename_i c hc
   split at h
   ·cases h
   ·rename_i y hy
    have h1 := (step_few hy).1
    have h2 := ih y l h
    omega
theorem parse_len {s : List (BitVec 8)} {l : List Rop} (h : parse s = .ok l) : l.length ≤ 1000 := by
 have h80 := (parse_good h).1
 unfold parse at h
 split at h
 ·cases h
 ·have := runF_len _ _ _ h
  simp [St0] at this
  omega
end Go.Proofs.YteohlpmojfjjdaaGreat.Reg
end
