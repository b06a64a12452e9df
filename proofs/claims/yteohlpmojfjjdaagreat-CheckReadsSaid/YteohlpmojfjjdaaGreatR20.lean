/-
Texts: ChkArm ChkStep ChkCheck
-/
import Derived.Test.YteohlpmojfjjdaaGreatR0
import Derived.Test.YteohlpmojfjjdaaGreatR1
import Derived.Test.YteohlpmojfjjdaaGreatR2
import Derived.Test.YteohlpmojfjjdaaGreatR4
import Derived.Test.YteohlpmojfjjdaaGreatR7
import Derived.Test.YteohlpmojfjjdaaGreatR8
import Derived.Test.YteohlpmojfjjdaaGreatR13
import Derived.Test.YteohlpmojfjjdaaGreatR14
import Derived.Test.YteohlpmojfjjdaaGreatR15
import Derived.Test.YteohlpmojfjjdaaGreatR16
import Derived.Test.YteohlpmojfjjdaaGreatR18
import Derived.Test.YteohlpmojfjjdaaGreatR19
import Derived.Deep.Cut
set_option linter.unusedVariables false
set_option linter.unusedSimpArgs false
set_option maxRecDepth 100000
set_option maxHeartbeats 4000000
section
namespace Go.Proofs.YteohlpmojfjjdaaGreat.Chk
open Go.RowKit Nfa Go.Proofs.YteohlpmojfjjdaaGreat.Ord
open Reg (Sp RSpn sflat Ov oflat Rop parse ROws RParseSays rparse parse_len)
open Lex (Tx Cr cr_ry)
open Vars (scell Ons rowStr)
theorem rl_of {w : World} {B n c : Nat} {A : Option Addr} {l : List Rop} (h : ROws w B (.slice A n c) l) (hn : l.length = n) : ∃ us : List Ov, us.map (·.o) = l ∧ us.length = n ∧ Rl w A us := by
 obtain ⟨us, ho, hm, hs⟩ := h.row
 rw [hn] at ho
 exact ⟨us, hm, by rw [← hn, ← hm, List.length_map], ⟨Ry.of_own ho (by decide), hs⟩⟩
def IntSays (w : World) (z : Int) (e : Ending) (w' : World) : Prop := e = .returned (.int .i64 z) ∧ Below w.heap.size w w'
theorem arm14 (w : World) (T : Nat) (A : Option Addr) (n c : Nat) (vs : List Gs) (h : Gbk w T A vs) (hT : T ≤ w.heap.size) (hl : vs.length = n) (hn : n ≤ 50000) (hs : sumA vs ≤ 50000) (most : Int) (g : GArm) (P : Option Addr) (pc : Nat) (hp : Tx w T P g.pat) (k : Nat) :
  Calls Tryz.prog 32 #[.agg #[.int .i64 most, .slice A n c], .agg #[.int .i64 g.at_, .slice P g.pat.length pc, .string (str g.as_), .string (str g.go)], .int .i64 (k : Int)] w (IntSays w (armBad ⟨most, vs.map (·.g)⟩ k g)) := by
 obtain ⟨w1, hw1⟩ : ∃ w1, w1 = w.alloc (.cells #[.int .i64 most, .slice A n c] 38) := ⟨_, rfl⟩
 obtain ⟨w2, hw2⟩ : ∃ w2, w2 = w1.alloc (.cells #[.int .i64 g.at_, .slice P g.pat.length pc, .string (str g.as_), .string (str g.go)] 70) := ⟨_, rfl⟩
 have hs1 : w1.heap.size = w.heap.size + 1 := by rw [hw1]; simp
 have hb1 : Below w.heap.size w w1 := by rw [hw1]; exact (Below.refl _ _).alloc (Nat.le_refl _) _
 have hb2 : Below w1.heap.size w1 w2 := by rw [hw2]; exact (Below.refl _ _).alloc (Nat.le_refl _) _
 have hb12 : Below w.heap.size w w2 := hb1.trans (hb2.mono hb1.size)
 have hcb : Cel w2 w.heap.size 38 [.int .i64 most, .slice A n c] := by
  have := Cel.new w 38 [.int .i64 most, .slice A n c]
  rw [← hw1] at this
  exact Cel.below this hb2 this.lt
 have hca : Cel w2 (w.heap.size + 1) 70 [.int .i64 g.at_, .slice P g.pat.length pc, .string (str g.as_), .string (str g.go)] := by
  rw [hw2, ← hs1]; exact Cel.new w1 _ _
 have H := Lib.hid (h.below hT hb12)
 have HCB := Lib.hid hcb
 have HCA := Lib.hid hca
 have HB := Lib.hid hb12
 have HL := Lib.hid hl
 have hT2 : T ≤ w2.heap.size := Nat.le_trans hT hb12.size
 have hbs := (hp.below hT hb12).bs hT2
 rw [hw1] at hw2
 by_cases hk : 6 ≤ k
 ·have HE := Lib.hid (show armBad ⟨most, vs.map (·.g)⟩ k g = 3 by unfold armBad; rw [if_pos hk])
  have hkd : decide ((6 : Int) ≤ (k : Int)) = true := by simp; omega
  clear h hb1 hb2 hb12 hcb hca hw1 hs1 hbs hp
  go_enter Tryz.func32, Tryz.ntmps32
  go_wp2_with fail
  rw [← hw2]
  go_ret
  rw [HE.out]
  exact ⟨rfl, HB.out⟩
 have hkd : decide ((6 : Int) ≤ (k : Int)) = false := by simp; omega
 have con := rparse w2 w2.heap.size P g.pat.length pc g.pat hbs (Nat.le_refl _)
 have k1 := hca.cell 1
 have HA0 := Lib.hid (show armBad ⟨most, vs.map (·.g)⟩ k g = match Reg.parse g.pat with
  | .error (bad, _) => (bad : Int)
  | .ok ops => match Nfa.build ops with
   | .error bad => (bad : Int)
   | .ok _ => if 8 ≤ atOf (varsOf ⟨most, vs.map (·.g)⟩) g.as_ then 3 else if (target ⟨most, vs.map (·.g)⟩ g.go).2 then 0 else 9 by unfold armBad; rw [if_neg hk]; rfl)
 clear h hb1 hb2 hb12 hcb hca hw1 hs1 hbs hp hk
 go_enter Tryz.func32, Tryz.ntmps32
 go_wp2_with fail
 rw [← hw2]
 clear hw2
 refine con.mono ?_
 clear con k1
 intro e w3 hps
 cases hpa : parse g.pat with
 | error q =>
  obtain ⟨bad, p⟩ := q
  rw [hpa] at hps
  obtain ⟨hb3, hbad, rfl⟩ := hps
  have HE := Lib.hid (show armBad ⟨most, vs.map (·.g)⟩ k g = (bad : Int) by rw [HA0.out, hpa])
  have HB3 := Lib.hid (HB.out.trans (hb3.mono HB.out.size))
  have hbi : ¬ ((bad : Int) = 0) := by omega
  clear hb3 hpa hbad
  go_wp2_with fail
  go_ret
  rw [HE.out]
  exact ⟨rfl, HB3.out⟩
 | ok l =>
  rw [hpa] at hps
  obtain ⟨hb3, A2, c2, rfl, ho2⟩ := hps
  obtain ⟨us, hm2, hl2, hr2⟩ := rl_of ho2 rfl
  have con2 := rbuild w3 A2 l.length c2 us hr2 (parse_len hpa) hl2
  rw [hm2] at con2
  have HA1 := Lib.hid (show armBad ⟨most, vs.map (·.g)⟩ k g = match Nfa.build l with
   | .error bad => (bad : Int)
   | .ok _ => if 8 ≤ atOf (varsOf ⟨most, vs.map (·.g)⟩) g.as_ then 3 else if (target ⟨most, vs.map (·.g)⟩ g.go).2 then 0 else 9 by rw [HA0.out, hpa])
  have HB3 := Lib.hid (HB.out.trans (hb3.mono HB.out.size))
  have H3 := Lib.hid (H.out.below hT2 hb3)
  have HCB3 := Lib.hid (HCB.out.below hb3 HCB.out.lt)
  have HCA3 := Lib.hid (HCA.out.below hb3 HCA.out.lt)
  have hT3 : T ≤ w3.heap.size := Nat.le_trans hT2 hb3.size
  generalize l.length = ll at *
  clear hb3 ho2 hm2 hl2 hr2 hpa
  go_wp2_with fail
  refine con2.mono ?_
  clear con2
  rintro e w4 ⟨hb4, hr4⟩
  have HB4 := Lib.hid (HB3.out.trans (hb4.mono HB3.out.size))
  have H4 := Lib.hid (H3.out.below hT3 hb4)
  have HCB4 := Lib.hid (HCB3.out.below hb4 HCB3.out.lt)
  have HCA4 := Lib.hid (HCA3.out.below hb4 HCA3.out.lt)
  have hT4 : T ≤ w4.heap.size := Nat.le_trans hT3 hb4.size
  clear hb4
  cases hbu : build l with
  | error bad =>
   rw [hbu] at hr4
   obtain ⟨hbad, rfl⟩ := hr4
   have HE := Lib.hid (show armBad ⟨most, vs.map (·.g)⟩ k g = (bad : Int) by rw [HA1.out, hbu])
   have hbi : ¬ ((bad : Int) = 0) := by omega
   clear hbu hbad
   go_wp2_with fail
   go_ret
   rw [HE.out]
   exact ⟨rfl, HB4.out⟩
  | ok is =>
   rw [hbu] at hr4
   obtain ⟨A5, m5, c5, us5, rfl, _⟩ := hr4
   have HA2 := Lib.hid (show armBad ⟨most, vs.map (·.g)⟩ k g = if 8 ≤ atOf (varsOf ⟨most, vs.map (·.g)⟩) g.as_ then 3 else if (target ⟨most, vs.map (·.g)⟩ g.go).2 then 0 else 9 by rw [HA1.out, hbu])
   clear hbu HA1 HA0
   go_wp2_with fail
   have con5 := vars_ w4.drew T A n c vs (H4.out.below hT4 (Below.refl _ _).drew) hT4 HL.out hn hs most
   obtain ⟨ns, hns⟩ : ∃ ns, ns = varsOf ⟨most, vs.map (·.g)⟩ := ⟨_, rfl⟩
   rw [← hns] at con5 HA2
   clear hns
   refine wp_region_N [] (Below w4.heap.size w4) (by kernel_rfl) ?_
   have hH : Below w4.heap.size w4 w4.drew := (Below.refl _ _).drew
   refine tk_ 0 (.agg #[.int .i64 most, .slice A n c]) [] rfl hH ?_ ?_
   ·intro V hV; have c0 := (HCB4.out.below hV HCB4.out.lt).cell 0; have c1 := (HCB4.out.below hV HCB4.out.lt).cell 1; go_simp
   try simp only [Act.put, lay_]
   refine tk_ 2 (.pointer (some ⟨w.heap.size + 1, 2, none⟩)) [] rfl hH ?_ ?_
   ·intro V hV; go_simp
   try simp only [Act.put, lay_]
   refine tk_ 3 (.string (str g.as_)) [] rfl hH ?_ ?_
   ·intro V hV; have c2 := (HCA4.out.below hV HCA4.out.lt).cell 2; go_simp
   try simp only [Act.put, lay_]
   refine wpAnyN_one (i := 1) (by kernel_rfl) rfl (fun K hK => ?_)
   go_simp
   refine con5.mono ?_
   rintro e w5 ⟨A6, c6, rfl, ho5, hb5, hl5⟩
   go_wp2_with fail
   have hH5 : Below w4.heap.size w4 w5 := hH.trans hb5
   refine hK.out _ _ (.inr hH5) ?_
   clear hK K con5 hH
   try simp only [Act.put, lay_]
   have con6 := at_ w5 A6 ns.length c6 ns (cr_ry (Ry.of_own ho5 (by decide))) rfl (by omega) g.as_
   refine wpAnyN_one (i := 4) (by kernel_rfl) rfl (fun K hK => ?_)
   go_simp
   refine con6.mono ?_
   rintro e w6 ⟨rfl, rfl⟩
   go_wp2_with fail
   refine hK.out _ _ (.inr hH5) ?_
   clear hK K con6
   try simp only [Act.put, lay_]
   obtain ⟨z, hz⟩ : ∃ z, z = atOf ns g.as_ := ⟨_, rfl⟩
   rw [← hz] at HA2 ⊢
   clear hz
   refine wpAnyN_one (i := 5) (by kernel_rfl) rfl (fun K hK => ?_)
   go_simp
   refine hK.out _ _ (.inr hH5) ?_
   clear hK K
   try simp only [Act.put, lay_]
   refine wpAnyN_done (by kernel_rfl) ?_ _
   have HB5 := Lib.hid (HB4.out.trans (hH5.mono HB4.out.size))
   have H5 := Lib.hid (H4.out.below hT4 hH5)
   have HCB5 := Lib.hid (HCB4.out.below hH5 HCB4.out.lt)
   have HCA5 := Lib.hid (HCA4.out.below hH5 HCA4.out.lt)
   have hT5 : T ≤ w5.heap.size := Nat.le_trans hT4 hH5.size
   clear ho5 hb5 hl5 hH5
   by_cases h8 : 8 ≤ z
   ·have h8d : decide (8 ≤ z) = true := decide_eq_true h8
    have HE := Lib.hid (show armBad ⟨most, vs.map (·.g)⟩ k g = 3 by rw [HA2.out, if_pos h8])
    go_wp2_with fail
    go_ret
    rw [HE.out]
    exact ⟨rfl, HB5.out⟩
   ·have h8d : decide (8 ≤ z) = false := decide_eq_false h8
    have h8n : z < 8 := by omega
    have HA3 := Lib.hid (show armBad ⟨most, vs.map (·.g)⟩ k g = if (target ⟨most, vs.map (·.g)⟩ g.go).2 then 0 else 9 by rw [HA2.out, if_neg h8])
    have con7 := target_ w5 T A n c vs H5.out hT5 HL.out (by omega) most g.go
    obtain ⟨⟨t1, t2⟩, ht⟩ : ∃ t, t = target ⟨most, vs.map (·.g)⟩ g.go := ⟨_, rfl⟩
    rw [← ht] at con7
    have HTG := Lib.hid ht
    have b0 := HCB5.out.cell 0
    have b1 := HCB5.out.cell 1
    have a3 := HCA5.out.cell 3
    clear ht
    cases t2
    ·have HE := Lib.hid (show armBad ⟨most, vs.map (·.g)⟩ k g = 9 by rw [HA3.out, ← HTG.out]; rfl)
     go_wp2_with fail
     refine con7.mono ?_
     clear con7 b0 b1 a3
     rintro e w7 ⟨rfl, hb7⟩
     have HB7 := Lib.hid (HB5.out.trans (hb7.mono HB5.out.size))
     clear hb7
     go_wp2_with fail
     go_ret
     rw [HE.out]
     exact ⟨rfl, HB7.out⟩
    ·have HE := Lib.hid (show armBad ⟨most, vs.map (·.g)⟩ k g = 0 by rw [HA3.out, ← HTG.out]; rfl)
     go_wp2_with fail
     refine con7.mono ?_
     clear con7 b0 b1 a3
     rintro e w7 ⟨rfl, hb7⟩
     have HB7 := Lib.hid (HB5.out.trans (hb7.mono HB5.out.size))
     clear hb7
     go_wp2_with fail
     go_ret
     rw [HE.out]
     exact ⟨rfl, HB7.out⟩
end Go.Proofs.YteohlpmojfjjdaaGreat.Chk
end
section
namespace Go.Proofs.YteohlpmojfjjdaaGreat.Chk
open Go.RowKit
open Lex (Tx Cr cr_ry)
open Vars (scell Ons rowStr names names_)
theorem namesR_few : ∀ (f p : Nat) (s : List (BitVec 8)) (l : List (List (BitVec 8))), Vars.namesR f p s = .ok l → l.length ≤ f := by
 intro f
 induction f with
 | zero => intro p s l h; unfold Vars.namesR at h; cases h; exact Nat.le_refl _
 | succ f ih =>
  intro p s l h
  cases s with
  | nil => rw [Vars.namesR_nil] at h; cases h; simp
  | cons c s =>
   unfold Vars.namesR at h
   split at h
   ·have := ih _ _ _ h; omega
   ·split at h
    ·split at h
     ·cases h
     ·split at h
      ·have := ih _ _ _ h; omega
      ·cases h
    ·split at h
     ·cases h
     ·split at h
      ·cases h
      ·rename_i ns hns
       have := ih _ _ _ hns
       injection h with h
       subst h
       simp; omega
theorem few_names {s : List (BitVec 8)} {l : List (List (BitVec 8))} {n : Nat} (h : Vars.names s = .ok l) (hn : l.length = n) (hs : s.length ≤ 100000) : n ≤ 100001 := by
 have := namesR_few _ _ _ _ h
 omega
def numsB (tg : Int) (sd : Bool) (tm ty : Int) : Bool := decide (tg < 0) || decide (2 < tg) || (sd && decide (tg = 0)) || (!sd && !decide (tg = 0)) || (decide (tg = 1) && !decide (ty = 0)) || decide (tm < 1) || decide (100 < tm) || decide (ty < 0) || decide (5 < ty)
theorem step14 (w : World) (T : Nat) (A : Option Addr) (n c : Nat) (vs : List Gs) (h : Gbk w T A vs) (hT : T ≤ w.heap.size) (hl : vs.length = n) (hn : n ≤ 50000) (hs : sumA vs ≤ 50000) (most : Int) (i : Nat) (v : Gs) (hv : vs[i]? = some v) (hcap : v.g.send.length ≤ v.c4) (hsl : v.g.send.length ≤ 100000) :
  Calls Tryz.prog 31 #[.agg #[.int .i64 most, .slice A n c], .int .i64 (i : Int)] w (IntSays w (stepBad ⟨most, vs.map (·.g)⟩ i v.g)) := by
 have hi : i < n := by rw [← hl]; exact (List.getElem?_eq_some_iff.1 hv).1
 obtain ⟨w1, hw1⟩ : ∃ w1, w1 = w.alloc (.cells #[.int .i64 most, .slice A n c] 38) := ⟨_, rfl⟩
 obtain ⟨w2, hw2⟩ : ∃ w2, w2 = w1.alloc (.cells #[.int .i64 v.g.at_, .string (str v.g.name), .int .i64 v.g.tag, .bool v.g.sends, .slice v.A4 v.g.send.length v.c4, .slice v.A5 v.g.arms.length v.c5, .int .i64 v.g.time, .int .i64 v.g.try_, .string (str v.g.els)] 67) := ⟨_, rfl⟩
 have hs1 : w1.heap.size = w.heap.size + 1 := by rw [hw1]; simp
 have hb1 : Below w.heap.size w w1 := by rw [hw1]; exact (Below.refl _ _).alloc (Nat.le_refl _) _
 have hb2 : Below w1.heap.size w1 w2 := by rw [hw2]; exact (Below.refl _ _).alloc (Nat.le_refl _) _
 have hb12 : Below w.heap.size w w2 := hb1.trans (hb2.mono hb1.size)
 have hcb : Cel w2 w.heap.size 38 [.int .i64 most, .slice A n c] := by
  have := Cel.new w 38 [.int .i64 most, .slice A n c]
  rw [← hw1] at this
  exact Cel.below this hb2 this.lt
 have hca : Cel w2 (w.heap.size + 1) 67 v.cells := by
  rw [hw2, ← hs1]; exact Cel.new w1 _ _
 have H := Lib.hid (h.below hT hb12)
 have HCB := Lib.hid hcb
 have HCA := Lib.hid hca
 have HB := Lib.hid hb12
 have HL := Lib.hid hl
 have HV := Lib.hid hv
 have hT2 : T ≤ w2.heap.size := Nat.le_trans hT hb12.size
 obtain ⟨ad, rfl, hcell⟩ := (h.below hT hb1).cell hv
 have k0 := hcell 0 _ rfl
 have k1 := hcell 1 _ rfl
 have k2 := hcell 2 _ rfl
 have k3 := hcell 3 _ rfl
 have k4 := hcell 4 _ rfl
 have k5 := hcell 5 _ rfl
 have k6 := hcell 6 _ rfl
 have k7 := hcell 7 _ rfl
 have k8 := hcell 8 _ rfl
 rw [← add_at9 ad (i * 9) 1 (by decide)] at k1
 rw [← add_at9 ad (i * 9) 2 (by decide)] at k2
 rw [← add_at9 ad (i * 9) 3 (by decide)] at k3
 rw [← add_at9 ad (i * 9) 4 (by decide)] at k4
 rw [← add_at9 ad (i * 9) 5 (by decide)] at k5
 rw [← add_at9 ad (i * 9) 6 (by decide)] at k6
 rw [← add_at9 ad (i * 9) 7 (by decide)] at k7
 rw [← add_at9 ad (i * 9) 8 (by decide)] at k8
 rw [Nat.add_zero] at k0
 rw [hw1] at k0 k1 k2 k3 k4 k5 k6 k7 k8 hw2
 obtain ⟨E, hE⟩ : ∃ E, E = stepBad ⟨most, vs.map (·.g)⟩ i v.g := ⟨_, rfl⟩
 rw [← hE]
 have HE := Lib.hid hE
 by_cases h30 : 30 ≤ i
 ·have HE2 := Lib.hid (show E = 3 by rw [HE.out]; unfold stepBad; rw [if_pos h30])
  have hid : decide ((30 : Int) ≤ (i : Int)) = true := by simp; omega
  clear h hb1 hb2 hb12 hcb hca hw1 hs1 hcell hE hv
  go_enter Tryz.func31, Tryz.ntmps31
  go_wp2_with fail
  rw [← hw2]
  go_ret
  rw [HE2.out]
  exact ⟨rfl, HB.out⟩
 have hid : decide ((30 : Int) ≤ (i : Int)) = false := by simp; omega
 have con := target_ w2 T (some ad) n c vs H.out hT2 HL.out (by omega) most v.g.name
 obtain ⟨⟨t1, t2⟩, ht⟩ : ∃ t, t = target ⟨most, vs.map (·.g)⟩ v.g.name := ⟨_, rfl⟩
 rw [← ht] at con
 have HTG := Lib.hid ht
 have HE3 := Lib.hid (show E = if t1 ≠ (i : Int) then 6 else if numsB v.g.tag v.g.sends v.g.time v.g.try_ then 1 else match Vars.names v.g.send with
  | .error _ => 2
  | .ok l => if l.any (fun n => decide (atOf (varsOf ⟨most, vs.map (·.g)⟩) n < 0)) then 9 else if (target ⟨most, vs.map (·.g)⟩ v.g.els).2 then 0 else 9 by
  rw [HE.out]; unfold stepBad; rw [if_neg h30, ← ht]; rfl)
 clear h hb1 hb2 hb12 hcb hca hw1 hs1 hcell hE hv ht HE h30
 obtain ⟨⟨ga, gn, tg, sd, gs, gm, tm, ty, ge⟩, A4, c4, A5, c5, avs⟩ := v
 dsimp only at *
 go_enter Tryz.func31, Tryz.ntmps31
 go_wp2_with fail
 rw [← hw2]
 have b0 := HCB.out.cell 0
 have b1 := HCB.out.cell 1
 have a1 := HCA.out.cell 1
 change _ = some (Value.string (str gn)) at a1
 clear k0 k1 k2 k3 k4 k5 k6 k7 k8 hw2
 refine con.mono ?_
 clear con
 rintro e w3 ⟨rfl, hb3⟩
 have HB3 := Lib.hid (HB.out.trans (hb3.mono HB.out.size))
 have H3 := Lib.hid (H.out.below hT2 hb3)
 have HCB3 := Lib.hid (HCB.out.below hb3 HCB.out.lt)
 have HCA3 := Lib.hid (HCA.out.below hb3 HCA.out.lt)
 have hT3 : T ≤ w3.heap.size := Nat.le_trans hT2 hb3.size
 clear hb3 b0 b1 a1
 by_cases hti : t1 = (i : Int)
 case neg =>
  have HE4 := Lib.hid (show E = 6 by rw [HE3.out, if_pos hti])
  have hb : (t1 == (i : Int)) = false := by simpa using hti
  clear hti
  go_wp2_with fail
  go_ret
  rw [HE4.out]
  exact ⟨rfl, HB3.out⟩
 subst hti
 have HE4 := Lib.hid (show E = if numsB tg sd tm ty then 1 else match Vars.names gs with
  | .error _ => 2
  | .ok l => if l.any (fun n => decide (atOf (varsOf ⟨most, vs.map (·.g)⟩) n < 0)) then 9 else if (target ⟨most, vs.map (·.g)⟩ ge).2 then 0 else 9 by rw [HE3.out, if_neg (fun hh => hh rfl)])
 clear HE3
 go_upto_region 7 with fail
 go_cut [87] from 31 to 88 (fun s87 wx => s87 = .bool (numsB tg sd tm ty) ∧ w3 = wx)
 case first =>
  have a2 := HCA3.out.cell 2
  have a3 := HCA3.out.cell 3
  have a6 := HCA3.out.cell 6
  have a7 := HCA3.out.cell 7
  change _ = some (Value.int .i64 tg) at a2
  change _ = some (Value.bool sd) at a3
  change _ = some (Value.int .i64 tm) at a6
  change _ = some (Value.int .i64 ty) at a7
  clear HE4 HTG
  by_cases h1 : tg < 0
  ·have h1d : decide (tg < 0) = true := decide_eq_true h1
   go_wp2_with fail
   go_meet
   case rel => exact ⟨congrArg Value.bool (by unfold numsB; simp [*]), rfl⟩
  ·have h1d : decide (tg < 0) = false := decide_eq_false h1
   have h1n : 0 ≤ tg := by omega
   by_cases h2 : 2 < tg
   ·have h2d : decide (2 < tg) = true := decide_eq_true h2
    go_wp2_with fail
    go_meet
    case rel => exact ⟨congrArg Value.bool (by unfold numsB; simp [*]), rfl⟩
   ·have h2d : decide (2 < tg) = false := decide_eq_false h2
    have h2n : tg ≤ 2 := by omega
    cases sd
    ·by_cases h4 : tg = 0
     ·subst h4
      by_cases h7 : tm < 1
      ·have h7d : decide (tm < 1) = true := decide_eq_true h7
       go_wp2_with fail
       go_meet
       case rel => exact ⟨congrArg Value.bool (by unfold numsB; simp [*]), rfl⟩
      ·have h7d : decide (tm < 1) = false := decide_eq_false h7
       have h7n : 1 ≤ tm := by omega
       by_cases h8 : 100 < tm
       ·have h8d : decide (100 < tm) = true := decide_eq_true h8
        go_wp2_with fail
        go_meet
        case rel => exact ⟨congrArg Value.bool (by unfold numsB; simp [*]), rfl⟩
       ·have h8d : decide (100 < tm) = false := decide_eq_false h8
        have h8n : tm ≤ 100 := by omega
        by_cases h9 : ty < 0
        ·have h9d : decide (ty < 0) = true := decide_eq_true h9
         go_wp2_with fail
         go_meet
         case rel => exact ⟨congrArg Value.bool (by unfold numsB; simp [*]), rfl⟩
        ·have h9d : decide (ty < 0) = false := decide_eq_false h9
         have h9n : 0 ≤ ty := by omega
         by_cases h10 : 5 < ty
         ·have h10d : decide (5 < ty) = true := decide_eq_true h10
          go_wp2_with fail
          go_meet
          case rel => exact ⟨congrArg Value.bool (by unfold numsB; simp [*]), rfl⟩
         ·have h10d : decide (5 < ty) = false := decide_eq_false h10
          have h10n : ty ≤ 5 := by omega
          go_wp2_with fail
          go_meet
          case rel => exact ⟨congrArg Value.bool (by unfold numsB; simp [*]), rfl⟩
     ·have h4b : (tg == 0) = false := by simpa using h4
      go_wp2_with fail
      go_meet
      case rel => exact ⟨congrArg Value.bool (by unfold numsB; simp [*]), rfl⟩
    ·by_cases h4 : tg = 0
     ·subst h4
      go_wp2_with fail
      go_meet
      case rel => exact ⟨congrArg Value.bool (by unfold numsB; simp [*]), rfl⟩
     ·have h4b : (tg == 0) = false := by simpa using h4
      by_cases h5 : tg = 1
      ·subst h5
       by_cases h6 : ty = 0
       ·subst h6
        by_cases h7 : tm < 1
        ·have h7d : decide (tm < 1) = true := decide_eq_true h7
         go_wp2_with fail
         go_meet
         case rel => exact ⟨congrArg Value.bool (by unfold numsB; simp [*]), rfl⟩
        ·have h7d : decide (tm < 1) = false := decide_eq_false h7
         have h7n : 1 ≤ tm := by omega
         by_cases h8 : 100 < tm
         ·have h8d : decide (100 < tm) = true := decide_eq_true h8
          go_wp2_with fail
          go_meet
          case rel => exact ⟨congrArg Value.bool (by unfold numsB; simp [*]), rfl⟩
         ·have h8d : decide (100 < tm) = false := decide_eq_false h8
          have h8n : tm ≤ 100 := by omega
          go_wp2_with fail
          go_meet
          case rel => exact ⟨congrArg Value.bool (by unfold numsB; simp [*]), rfl⟩
       ·have h6b : (ty == 0) = false := by simpa using h6
        go_wp2_with fail
        go_meet
        case rel => exact ⟨congrArg Value.bool (by unfold numsB; simp [*]), rfl⟩
      ·have h5b : (tg == 1) = false := by simpa using h5
       by_cases h7 : tm < 1
       ·have h7d : decide (tm < 1) = true := decide_eq_true h7
        go_wp2_with fail
        go_meet
        case rel => exact ⟨congrArg Value.bool (by unfold numsB; simp [*]), rfl⟩
       ·have h7d : decide (tm < 1) = false := decide_eq_false h7
        have h7n : 1 ≤ tm := by omega
        by_cases h8 : 100 < tm
        ·have h8d : decide (100 < tm) = true := decide_eq_true h8
         go_wp2_with fail
         go_meet
         case rel => exact ⟨congrArg Value.bool (by unfold numsB; simp [*]), rfl⟩
        ·have h8d : decide (100 < tm) = false := decide_eq_false h8
         have h8n : tm ≤ 100 := by omega
         by_cases h9 : ty < 0
         ·have h9d : decide (ty < 0) = true := decide_eq_true h9
          go_wp2_with fail
          go_meet
          case rel => exact ⟨congrArg Value.bool (by unfold numsB; simp [*]), rfl⟩
         ·have h9d : decide (ty < 0) = false := decide_eq_false h9
          have h9n : 0 ≤ ty := by omega
          by_cases h10 : 5 < ty
          ·have h10d : decide (5 < ty) = true := decide_eq_true h10
           go_wp2_with fail
           go_meet
           case rel => exact ⟨congrArg Value.bool (by unfold numsB; simp [*]), rfl⟩
          ·have h10d : decide (5 < ty) = false := decide_eq_false h10
           have h10n : ty ≤ 5 := by omega
           go_wp2_with fail
           go_meet
           case rel => exact ⟨congrArg Value.bool (by unfold numsB; simp [*]), rfl⟩
 case rest =>
  obtain ⟨rfl, rfl⟩ := hcut
  cases hnb : numsB tg sd tm ty
  case true =>
   have HE5 := Lib.hid (show E = 1 by rw [HE4.out, hnb]; rfl)
   clear hnb
   go_wp2_with fail
   go_ret
   rw [HE5.out]
   exact ⟨rfl, HB3.out⟩
  have HE5 := Lib.hid (show E = match Vars.names gs with
   | .error _ => 2
   | .ok l => if l.any (fun n => decide (atOf (varsOf ⟨most, vs.map (·.g)⟩) n < 0)) then 9 else if (target ⟨most, vs.map (·.g)⟩ ge).2 then 0 else 9 by rw [HE4.out, hnb]; rfl)
  have htx := (H3.out.send _ (List.mem_of_getElem? HV.out)).bs hT3
  have con := names_ w3 w3.heap.size A4 gs.length c4 gs htx (Nat.le_refl _) hsl hcap
  have a4 := HCA3.out.cell 4
  change _ = some (Value.slice A4 gs.length c4) at a4
  clear HE4 hnb htx
  go_wp2_with fail
  refine con.mono ?_
  clear con a4
  rintro e w4 ⟨hb4, hr4⟩
  have HB4 := Lib.hid (HB3.out.trans (hb4.mono HB3.out.size))
  have H4 := Lib.hid (H3.out.below hT3 hb4)
  have HCB4 := Lib.hid (HCB3.out.below hb4 HCB3.out.lt)
  have HCA4 := Lib.hid (HCA3.out.below hb4 HCA3.out.lt)
  have hT4 : T ≤ w4.heap.size := Nat.le_trans hT3 hb4.size
  clear hb4
  cases hnm : Vars.names gs with
  | error q =>
   rw [hnm] at hr4
   obtain rfl := hr4
   have HE6 := Lib.hid (show E = 2 by rw [HE5.out, hnm])
   have hq : decide ((0 : Int) ≤ (q : Int)) = true := by simp
   clear hnm
   go_wp2_with fail
   go_ret
   rw [HE6.out]
   exact ⟨rfl, HB4.out⟩
  | ok l =>
   rw [hnm] at hr4
   obtain ⟨A6, n6, c6, rfl, hon⟩ := hr4
   have HE6 := Lib.hid (show E = if l.any (fun n => decide (atOf (varsOf ⟨most, vs.map (·.g)⟩) n < 0)) then 9 else if (target ⟨most, vs.map (·.g)⟩ ge).2 then 0 else 9 by rw [HE5.out, hnm])
   obtain ⟨ns, hns⟩ : ∃ ns, ns = varsOf ⟨most, vs.map (·.g)⟩ := ⟨_, rfl⟩
   have con := vars_ w4 T (some ad) n c vs H4.out hT4 HL.out hn hs most
   rw [← hns] at con HE6
   have HON := Lib.hid hon
   have hnl : n6 ≤ 100001 := few_names hnm hon.len hsl
   have HNL := Lib.hid hon.len
   have b0 := HCB4.out.cell 0
   have b1 := HCB4.out.cell 1
   clear hnm hon hns HE5
   go_wp2_with fail
   refine con.mono ?_
   clear con b0 b1
   rintro e w5 ⟨A7, c7, rfl, ho7, hb5, hl7⟩
   have HB5 := Lib.hid (HB4.out.trans (hb5.mono HB4.out.size))
   have H5 := Lib.hid (H4.out.below hT4 hb5)
   have HCB5 := Lib.hid (HCB4.out.below hb5 HCB4.out.lt)
   have HCA5 := Lib.hid (HCA4.out.below hb5 HCA4.out.lt)
   have hT5 : T ≤ w5.heap.size := Nat.le_trans hT4 hb5.size
   have HNS := Lib.hid (show Nms w5 A7 ns from cr_ry (Ry.of_own ho7 (by decide)))
   have HLS := Lib.hid (show Nms w5 A6 l from cr_ry (Ry.of_own (HON.out.below hb5) (by decide)))
   clear ho7 hb5
   go_wp2_with fail
   go_loopw [11] (fun v11 wr => ∃ k : Nat, k ≤ n6 ∧ v11 = .int .i64 (k : Int) ∧ w5 = wr ∧ Hid (l.any (fun n => decide (atOf ns n < 0)) = (l.drop k).any (fun n => decide (atOf ns n < 0)))) (fun v11 _ => n6 - (intOf v11).toNat)
   case atStart => exact ⟨0, Nat.zero_le _, rfl, rfl, Lib.hid (by rw [List.drop_zero])⟩
   case round =>
    obtain ⟨k, hk, rfl, hw, HK⟩ := hrel
    obtain ⟨W0, rfl⟩ : ∃ W0, W0 = wr := ⟨_, rfl⟩
    subst hw
    rcases Nat.lt_or_ge k n6 with hlt | hge
    ·obtain ⟨x, hx⟩ : ∃ x, l[k]? = some x := ⟨_, List.getElem?_eq_getElem (by rw [HNL.out]; exact hlt)⟩
     obtain ⟨ax, rfl, j0⟩ := HLS.out.at_ hx
     have con := at_ w5 A7 ns.length c7 ns HNS.out rfl (by omega) x
     have HD := Lib.hid (drop_at' hx)
     obtain ⟨z, hz⟩ : ∃ z, z = atOf ns x := ⟨_, rfl⟩
     rw [← hz] at con
     have HZ := Lib.hid hz
     obtain ⟨sx, hsx⟩ : ∃ sx, sx = str x := ⟨_, rfl⟩
     rw [← hsx] at con j0
     clear hx hz hsx
     by_cases hneg : z < 0
     ·have hzd : decide (z < 0) = true := decide_eq_true hneg
      have HE7 := Lib.hid (show E = 9 by
       rw [HE6.out, HK.out, HD.out, List.any_cons, ← HZ.out, hzd]; rfl)
      go_wp2_with fail
      refine con.mono ?_
      clear con
      rintro e w' ⟨rfl, rfl⟩
      go_wp2_with fail
      go_ret
      rw [HE7.out]
      exact ⟨rfl, HB5.out⟩
     ·have hzd : decide (z < 0) = false := decide_eq_false hneg
      have hzn : 0 ≤ z := by omega
      have HK2 := Lib.hid (show l.any (fun n => decide (atOf ns n < 0)) = (l.drop (k + 1)).any (fun n => decide (atOf ns n < 0)) by
       rw [HK.out, HD.out, List.any_cons, ← HZ.out, hzd]; rfl)
      clear HK
      go_wp2_with fail
      refine con.mono ?_
      clear con
      rintro e w' ⟨rfl, rfl⟩
      go_wp2_with fail
      exact ⟨⟨k + 1, by omega, by rw [show ((k + 1 : Nat) : Int) = (k : Int) + 1 by omega], trivial, HK2⟩, by simp [intOf]; omega⟩
    ·obtain rfl : k = n6 := by omega
     have HE7 := Lib.hid (show E = if (target ⟨most, vs.map (·.g)⟩ ge).2 then 0 else 9 by
      rw [HE6.out, HK.out, List.drop_eq_nil_of_le (by rw [HNL.out]; exact Nat.le_refl _)]; rfl)
     have con7 := target_ w5 T (some ad) n c vs H5.out hT5 HL.out (by omega) most ge
     obtain ⟨⟨u1, u2⟩, hu⟩ : ∃ t, t = target ⟨most, vs.map (·.g)⟩ ge := ⟨_, rfl⟩
     rw [← hu] at con7
     have HTG2 := Lib.hid hu
     have b0 := HCB5.out.cell 0
     have b1 := HCB5.out.cell 1
     have a8 := HCA5.out.cell 8
     change _ = some (Value.string (str ge)) at a8
     clear hu HK
     cases u2
     ·have HE8 := Lib.hid (show E = 9 by rw [HE7.out, ← HTG2.out]; rfl)
      go_wp2_with fail
      refine con7.mono ?_
      clear con7 b0 b1 a8
      rintro e w7 ⟨rfl, hb7⟩
      have HB7 := Lib.hid (HB5.out.trans (hb7.mono HB5.out.size))
      clear hb7
      go_wp2_with fail
      go_ret
      rw [HE8.out]
      exact ⟨rfl, HB7.out⟩
     ·have HE8 := Lib.hid (show E = 0 by rw [HE7.out, ← HTG2.out]; rfl)
      go_wp2_with fail
      refine con7.mono ?_
      clear con7 b0 b1 a8
      rintro e w7 ⟨rfl, hb7⟩
      have HB7 := Lib.hid (HB5.out.trans (hb7.mono HB5.out.size))
      clear hb7
      go_wp2_with fail
      go_ret
      rw [HE8.out]
      exact ⟨rfl, HB7.out⟩
end Go.Proofs.YteohlpmojfjjdaaGreat.Chk
end
section
namespace Go.Proofs.YteohlpmojfjjdaaGreat.Chk
open Go.RowKit Go.Proofs.YteohlpmojfjjdaaGreat.Ord
open Lex (Tx Cr cr_ry lbelow_drew)
theorem armsBad_hit {b : GBook} {k : Nat} {a : GArm} {l : List GArm} (h : armBad b k a ≠ 0) : armsBad b k (a :: l) = (armBad b k a, a.at_) := by unfold armsBad; rw [if_pos h]
theorem armsBad_miss {b : GBook} {k : Nat} {a : GArm} {l : List GArm} (h : armBad b k a = 0) : armsBad b k (a :: l) = armsBad b (k + 1) l := by
 conv => lhs; unfold armsBad
 rw [if_neg (by simp [h])]
theorem stepsBad_hit {b : GBook} {i : Nat} {s : GStep} {l : List GStep} (h : stepBad b i s ≠ 0) : stepsBad b i (s :: l) = (stepBad b i s, s.at_) := by unfold stepsBad; rw [if_pos h]
theorem stepsBad_arm {b : GBook} {i : Nat} {s : GStep} {l : List GStep} (h : stepBad b i s = 0) (h2 : (armsBad b 0 s.arms).1 ≠ 0) : stepsBad b i (s :: l) = armsBad b 0 s.arms := by
 unfold stepsBad; rw [if_neg (by simp [h]), if_pos h2]
theorem stepsBad_miss {b : GBook} {i : Nat} {s : GStep} {l : List GStep} (h : stepBad b i s = 0) (h2 : (armsBad b 0 s.arms).1 = 0) : stepsBad b i (s :: l) = stepsBad b (i + 1) l := by
 conv => lhs; unfold stepsBad
 rw [if_neg (by simp [h]), if_neg (by simp [h2])]
def CkSays (w : World) (r : Int × Int) (e : Ending) (w' : World) : Prop := e = .returned (.tuple #[.int .i64 r.1, .int .i64 r.2]) ∧ Below w.heap.size w w'
theorem check_ (w : World) (T : Nat) (A : Option Addr) (n c : Nat) (vs : List Gs) (h : Gbk w T A vs) (hT : T ≤ w.heap.size) (hl : vs.length = n) (hn : n ≤ 50000) (hs : sumA vs ≤ 50000) (most : Int) (hcap : ∀ v ∈ vs, v.g.send.length ≤ v.c4 ∧ v.g.send.length ≤ 100000 ∧ v.g.arms.length ≤ 50000) :
  Calls Tryz.prog 17 #[.agg #[.int .i64 most, .slice A n c]] w (CkSays w (check ⟨most, vs.map (·.g)⟩)) := by
 obtain ⟨w1, hw1⟩ : ∃ w1, w1 = w.alloc (.cells #[.int .i64 most, .slice A n c] 38) := ⟨_, rfl⟩
 have hb1 : Below w.heap.size w w1 := by rw [hw1]; exact (Below.refl _ _).alloc (Nat.le_refl _) _
 have hcb : Cel w1 w.heap.size 38 [.int .i64 most, .slice A n c] := by rw [hw1]; exact Cel.new w _ _
 have H := Lib.hid (h.below hT hb1)
 have HCB := Lib.hid hcb
 have HB := Lib.hid hb1
 have HL := Lib.hid hl
 have HCAP := Lib.hid hcap
 have hT1 : T ≤ w1.heap.size := Nat.le_trans hT hb1.size
 obtain ⟨E, hE⟩ : ∃ E, E = check ⟨most, vs.map (·.g)⟩ := ⟨_, rfl⟩
 rw [← hE]
 have HE := Lib.hid hE
 have b0 := hcb.cell 0
 have b1 := hcb.cell 1
 rw [hw1] at b0 b1
 clear h hb1 hcb hcap hE
 by_cases h0 : n = 0
 ·have HE2 := Lib.hid (show E = (4, 0) by
   have hv : vs = [] := List.eq_nil_of_length_eq_zero (by rw [HL.out]; exact h0)
   rw [HE.out, hv]; rfl)
  subst h0
  go_enter Tryz.func17, Tryz.ntmps17
  go_wp2_with fail
  rw [← hw1]
  go_ret2
  rw [HE2.out]
  exact ⟨rfl, HB.out⟩
 have hnz : ((n : Int) == 0) = false := by simp; omega
 have hvn : vs ≠ [] := fun e => h0 (by rw [← HL.out, e]; rfl)
 by_cases hm1 : most < 1
 ·have hd1 : decide (most < 1) = true := decide_eq_true hm1
  have HE2 := Lib.hid (show E = (1, 0) by rw [HE.out]; unfold check; rw [if_neg (by simpa using hvn), if_pos (.inl hm1)])
  clear hvn h0
  go_enter Tryz.func17, Tryz.ntmps17
  go_wp2_with fail
  rw [← hw1]
  go_ret2
  rw [HE2.out]
  exact ⟨rfl, HB.out⟩
 have hd1 : decide (most < 1) = false := decide_eq_false hm1
 have hm1n : 1 ≤ most := by omega
 by_cases hm2 : 1000 < most
 ·have hd2 : decide (1000 < most) = true := decide_eq_true hm2
  have HE2 := Lib.hid (show E = (1, 0) by rw [HE.out]; unfold check; rw [if_neg (by simpa using hvn), if_pos (.inr hm2)])
  clear hvn h0
  go_enter Tryz.func17, Tryz.ntmps17
  go_wp2_with fail
  rw [← hw1]
  go_ret2
  rw [HE2.out]
  exact ⟨rfl, HB.out⟩
 have hd2 : decide (1000 < most) = false := decide_eq_false hm2
 have hm2n : most ≤ 1000 := by omega
 have HE2 := Lib.hid (show E = stepsBad ⟨most, vs.map (·.g)⟩ 0 (vs.map (·.g)) by rw [HE.out]; unfold check; rw [if_neg (by simpa using hvn), if_neg (fun hh => hh.elim hm1 hm2)])
 clear hvn h0 HE
 go_enter Tryz.func17, Tryz.ntmps17
 go_wp2_with fail
 rw [← hw1]
 clear hw1 b0 b1
 go_loopw [4] (fun v4 wr => ∃ i : Nat, i ≤ n ∧ v4 = .int .i64 (i : Int) ∧ Below w1.heap.size w1 wr ∧ Hid (E = stepsBad ⟨most, vs.map (·.g)⟩ i ((vs.map (·.g)).drop i))) (fun v4 _ => n - (intOf v4).toNat)
 case atStart => exact ⟨0, Nat.zero_le _, rfl, Below.refl _ _, Lib.hid (by rw [List.drop_zero]; exact HE2.out)⟩
 case round =>
  clear HE2
  obtain ⟨i, hi, rfl, hb, HK⟩ := hrel
  obtain ⟨W0, hW0⟩ : ∃ W0, W0 = wr := ⟨_, rfl⟩
  rw [← hW0] at hb ⊢
  clear hW0
  have HB0 := Lib.hid hb
  have HC0 := Lib.hid (HCB.out.below hb HCB.out.lt)
  have H0 := Lib.hid (H.out.below hT1 hb)
  have hT0 : T ≤ W0.heap.size := Nat.le_trans hT1 hb.size
  have b0 := HC0.out.cell 0
  have b1 := HC0.out.cell 1
  change _ = some (Value.int .i64 most) at b0
  change _ = some (Value.slice A n c) at b1
  clear hb
  rcases Nat.lt_or_ge i n with hlt | hge
  ·obtain ⟨x, hx⟩ : ∃ x, vs[i]? = some x := ⟨_, List.getElem?_eq_getElem (by rw [HL.out]; exact hlt)⟩
   obtain ⟨hc1, hc2, hc3⟩ := HCAP.out x (List.mem_of_getElem? hx)
   have con := step14 W0 T A n c vs H0.out hT0 HL.out hn hs most i x hx hc1 hc2
   obtain ⟨z, hz⟩ : ∃ z, z = stepBad ⟨most, vs.map (·.g)⟩ i x.g := ⟨_, rfl⟩
   rw [← hz] at con
   have HZ := Lib.hid hz
   have HX := Lib.hid hx
   have HD := Lib.hid (show (vs.map (·.g)).drop i = x.g :: (vs.map (·.g)).drop (i + 1) from drop_at' (by rw [List.getElem?_map, hx]; rfl))
   clear hx hz hc1 hc2
   go_wp2_with fail
   refine con.mono ?_
   clear con b0 b1
   rintro e w3 ⟨rfl, hb3⟩
   have HB3 := Lib.hid (HB0.out.trans (hb3.mono HB0.out.size))
   have H3 := Lib.hid (H0.out.below hT0 hb3)
   have HC3 := Lib.hid (HC0.out.below hb3 HC0.out.lt)
   obtain ⟨ad, rfl, hcell⟩ := H3.out.cell HX.out
   have b0 := HC3.out.cell 0
   have b1 := HC3.out.cell 1
   change _ = some (Value.int .i64 most) at b0
   change _ = some (Value.slice (some ad) n c) at b1
   have k0 := hcell 0 _ rfl
   rw [Nat.add_zero] at k0
   have k5 := hcell 5 _ rfl
   rw [← add_at9 ad (i * 9) 5 (by decide)] at k5
   clear hb3 hcell
   by_cases hzz : z = 0
   case neg =>
    have HE3 := Lib.hid (show E = (z, x.g.at_) by rw [HK.out, HD.out, stepsBad_hit (by rw [← HZ.out]; exact hzz), ← HZ.out])
    have hzb : (z == 0) = false := by simpa using hzz
    clear HK
    go_wp2_with fail
    go_quiet (fail)
    go_wp2_with fail
    go_ret2
    rw [HE3.out]
    exact ⟨rfl, HB.out.trans ((lbelow_drew HB3.out nq).mono HB.out.size)⟩
   subst hzz
   obtain ⟨m, hm⟩ : ∃ m, m = x.g.arms.length := ⟨_, rfl⟩
   rw [← hm] at k5 hc3
   have HM := Lib.hid hm
   have hax : x.avs.length = m := by rw [hm, ← (H3.out.arms x (List.mem_of_getElem? HX.out)).2]; simp
   have HAX := Lib.hid hax
   have HAG := Lib.hid (H3.out.arms x (List.mem_of_getElem? HX.out)).2
   clear hm hax
   go_wp2_with fail
   go_loopw [6] (fun v6 wr => ∃ j : Nat, j ≤ m ∧ v6 = .int .i64 (j : Int) ∧ Below w3.heap.size w3 wr ∧ Hid (armsBad ⟨most, vs.map (·.g)⟩ 0 x.g.arms = armsBad ⟨most, vs.map (·.g)⟩ j (x.g.arms.drop j))) (fun v6 _ => m - (intOf v6).toNat)
   case atStart => exact ⟨0, Nat.zero_le _, rfl, Below.refl _ _, Lib.hid (by rw [List.drop_zero])⟩
   case round =>
    obtain ⟨j, hj, rfl, hb, HK2⟩ := hrel
    obtain ⟨W4, hW4⟩ : ∃ W4, W4 = wr := ⟨_, rfl⟩
    rw [← hW4] at hb ⊢
    clear hW4
    have hT3 : T ≤ w3.heap.size := Nat.le_trans hT1 HB3.out.size
    have HB4 := Lib.hid (HB3.out.trans (hb.mono HB3.out.size))
    have H4 := Lib.hid (H3.out.below hT3 hb)
    have HC4 := Lib.hid (HC3.out.below hb HC3.out.lt)
    have HBW := Lib.hid hb
    replace b0 := (hb.cell (cell_lt b0)).trans b0
    replace b1 := (hb.cell (cell_lt b1)).trans b1
    replace k5 := (hb.cell (cell_lt k5)).trans k5
    have hT4 : T ≤ W4.heap.size := Nat.le_trans hT3 hb.size
    clear hb k0
    rcases Nat.lt_or_ge j m with hlj | hgj
    ·obtain ⟨a, ha⟩ : ∃ a, x.avs[j]? = some a := ⟨_, List.getElem?_eq_getElem (by rw [HAX.out]; exact hlj)⟩
     obtain ⟨ad5, h5, hac⟩ := H4.out.acell HX.out ha
     have q0 := hac 0 _ rfl
     have q1 := hac 1 _ rfl
     have q2 := hac 2 _ rfl
     have q3 := hac 3 _ rfl
     rw [Nat.add_zero] at q0
     rw [← add_at9 ad5 (j * 4) 1 (by decide)] at q1
     rw [← add_at9 ad5 (j * 4) 2 (by decide)] at q2
     rw [← add_at9 ad5 (j * 4) 3 (by decide)] at q3
     rw [h5] at k5
     have HDJ := Lib.hid (show x.g.arms.drop j = a.g :: x.g.arms.drop (j + 1) by
      rw [← HAG.out]
      exact drop_at' (by rw [List.getElem?_map, ha]; rfl))
     have htx := H4.out.pats x (List.mem_of_getElem? HX.out) a (List.mem_of_getElem? ha)
     have con := arm14 W4.drew T (some ad) n c vs (H4.out.below hT4 (Below.refl _ _).drew) hT4 HL.out hn hs most a.g a.A a.c (htx.below hT4 (Below.refl _ _).drew) j
     obtain ⟨u, hu⟩ : ∃ u, u = armBad ⟨most, vs.map (·.g)⟩ j a.g := ⟨_, rfl⟩
     rw [← hu] at con
     have HU := Lib.hid hu
     clear hac ha htx hu
     go_wp2_with fail
     refine wp_region_N [] (Below W4.heap.size W4) (by kernel_rfl) ?_
     have hH : Below W4.heap.size W4 W4.drew := (Below.refl _ _).drew
     refine tk_ 0 (.agg #[.int .i64 most, .slice (some ad) n c]) [] rfl hH ?_ ?_
     ·intro V hV; have zb0 := (hV.cell (cell_lt b0)).trans b0; have zb1 := (hV.cell (cell_lt b1)).trans b1; go_simp
     try simp only [Act.put, lay_]
     refine tk_ 1 (.pointer (some ⟨w.heap.size, 1, none⟩)) [] rfl hH ?_ ?_
     ·intro V hV; go_simp
     try simp only [Act.put, lay_]
     refine tk_ 2 (.slice (some ad) n c) [] rfl hH ?_ ?_
     ·intro V hV; have zb1 := (hV.cell (cell_lt b1)).trans b1; go_simp
     try simp only [Act.put, lay_]
     refine tk_ 3 (.int .i64 (i : Int)) [] rfl hH ?_ ?_
     ·intro V hV; go_simp
     try simp only [Act.put, lay_]
     refine tk_ 4 (.pointer (some (ad.add (i * 9)))) [] rfl hH ?_ ?_
     ·intro V hV; go_simp
     try simp only [Act.put, lay_]
     refine tk_ 5 (.pointer (some ⟨(ad.add (i * 9)).block, (ad.add (i * 9)).off + 5, none⟩)) [] rfl hH ?_ ?_
     ·intro V hV; go_simp
     try simp only [Act.put, lay_]
     refine tk_ 6 (.slice (some ad5) m x.c5) [] rfl hH ?_ ?_
     ·intro V hV; have zk5 := (hV.cell (cell_lt k5)).trans k5; go_simp
     try simp only [Act.put, lay_]
     refine tk_ 7 (.int .i64 (j : Int)) [] rfl hH ?_ ?_
     ·intro V hV; go_simp
     try simp only [Act.put, lay_]
     refine tk_ 8 (.pointer (some (ad5.add (j * 4)))) [] rfl hH ?_ ?_
     ·intro V hV; go_simp
     try simp only [Act.put, lay_]
     refine tk_ 9 (.agg #[.int .i64 a.g.at_, .slice a.A a.g.pat.length a.c, .string (str a.g.as_), .string (str a.g.go)]) [] rfl hH ?_ ?_
     ·intro V hV; have zq0 := (hV.cell (cell_lt q0)).trans q0; have zq1 := (hV.cell (cell_lt q1)).trans q1; have zq2 := (hV.cell (cell_lt q2)).trans q2; have zq3 := (hV.cell (cell_lt q3)).trans q3; go_simp
     try simp only [Act.put, lay_]
     refine tk_ 10 (.int .i64 (j : Int)) [] rfl hH ?_ ?_
     ·intro V hV; go_simp
     try simp only [Act.put, lay_]
     refine wpAnyN_one (i := 11) (by kernel_rfl) rfl (fun K hK => ?_)
     go_simp
     refine con.mono ?_
     rintro e w6 ⟨rfl, hb6⟩
     go_wp2_with fail
     have hH6 : Below W4.heap.size W4 w6 := hH.trans hb6
     refine hK.out _ _ (.inr hH6) ?_
     clear hK K con hH
     try simp only [Act.put, lay_]
     refine wpAnyN_one (i := 12) (by kernel_rfl) rfl (fun K hK => ?_)
     go_simp
     refine hK.out _ _ (.inr hH6) ?_
     clear hK K
     try simp only [Act.put, lay_]
     refine wpAnyN_done (by kernel_rfl) ?_ _
     have HB6 := Lib.hid (HB4.out.trans (hH6.mono HB4.out.size))
     have HBW6 := Lib.hid (HBW.out.trans (hH6.mono HBW.out.size))
     replace b0 := (hH6.cell (cell_lt b0)).trans b0
     replace b1 := (hH6.cell (cell_lt b1)).trans b1
     replace k5 := (hH6.cell (cell_lt k5)).trans k5
     replace q0 := (hH6.cell (cell_lt q0)).trans q0
     clear hb6 hH6 q1 q2 q3
     by_cases huz : u = 0
     case neg =>
      have HE3 := Lib.hid (show E = (u, a.g.at_) by
       have e1 : armsBad ⟨most, vs.map (·.g)⟩ 0 x.g.arms = (u, a.g.at_) := by rw [HK2.out, HDJ.out, armsBad_hit (by rw [← HU.out]; exact huz), ← HU.out]
       rw [HK.out, HD.out, stepsBad_arm HZ.out.symm (by rw [e1]; exact huz), e1])
      have hub : (u == 0) = false := by simpa using huz
      clear HK HK2 huz
      go_wp2_with fail
      go_quiet (fail)
      go_wp2_with fail
      go_ret2
      rw [HE3.out]
      exact ⟨rfl, HB.out.trans ((lbelow_drew HB6.out nq).mono HB.out.size)⟩
     subst huz
     have HK3 := Lib.hid (show armsBad ⟨most, vs.map (·.g)⟩ 0 x.g.arms = armsBad ⟨most, vs.map (·.g)⟩ (j + 1) (x.g.arms.drop (j + 1)) by rw [HK2.out, HDJ.out, armsBad_miss HU.out.symm])
     clear HK2
     go_wp2_with fail
     exact ⟨⟨j + 1, by omega, by rw [show ((j + 1 : Nat) : Int) = (j : Int) + 1 by omega], HBW6.out, HK3⟩, by simp [intOf]; omega⟩
    ·obtain rfl : j = m := by omega
     have HK3 := Lib.hid (show E = stepsBad ⟨most, vs.map (·.g)⟩ (i + 1) ((vs.map (·.g)).drop (i + 1)) by
      have e1 : armsBad ⟨most, vs.map (·.g)⟩ 0 x.g.arms = (0, 0) := by rw [HK2.out, List.drop_eq_nil_of_le (by rw [← HM.out]; exact Nat.le_refl _)]; rfl
      rw [HK.out, HD.out, stepsBad_miss HZ.out.symm (by rw [e1])])
     clear HK HK2
     go_wp2_with fail
     exact ⟨⟨i + 1, by omega, by rw [show ((i + 1 : Nat) : Int) = (i : Int) + 1 by omega], HB4.out, HK3⟩, by simp [intOf]; omega⟩
  ·obtain rfl : i = n := by omega
   have HE3 := Lib.hid (show E = (0, 0) by rw [HK.out, List.drop_eq_nil_of_le (by rw [List.length_map, HL.out]; exact Nat.le_refl _)]; rfl)
   clear HK
   go_wp2_with fail
   go_ret2
   rw [HE3.out]
   exact ⟨rfl, HB.out.trans (HB0.out.mono HB.out.size)⟩
end Go.Proofs.YteohlpmojfjjdaaGreat.Chk
end
