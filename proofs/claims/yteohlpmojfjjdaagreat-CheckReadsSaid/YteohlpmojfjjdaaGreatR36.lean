/-
The program's check (layer 14): an arm and a step, compiled.
-/
import Derived.Test.YteohlpmojfjjdaaGreatR0
import Derived.Test.YteohlpmojfjjdaaGreatR1
import Derived.Test.YteohlpmojfjjdaaGreatR2
import Derived.Test.YteohlpmojfjjdaaGreatR4
import Derived.Test.YteohlpmojfjjdaaGreatR6
import Derived.Test.YteohlpmojfjjdaaGreatR7
import Derived.Test.YteohlpmojfjjdaaGreatR8
import Derived.Test.YteohlpmojfjjdaaGreatR13
import Derived.Test.YteohlpmojfjjdaaGreatR14
import Derived.Test.YteohlpmojfjjdaaGreatR21
import Derived.Test.YteohlpmojfjjdaaGreatR22
import Derived.Test.YteohlpmojfjjdaaGreatR27
import Derived.Test.YteohlpmojfjjdaaGreatR28
import Derived.Test.YteohlpmojfjjdaaGreatR33
import Derived.Test.YteohlpmojfjjdaaGreatR34
import Derived.Test.YteohlpmojfjjdaaGreatR35
set_option linter.unusedVariables false
set_option linter.unusedSimpArgs false
set_option maxRecDepth 100000
set_option maxHeartbeats 4000000
namespace Go.Proofs.YteohlpmojfjjdaaGreat.Chk
open Go.RowKit Go.Proofs.YteohlpmojfjjdaaGreat.Ord
open Lex (Tx Cr cr_ry)
open Vars (scell Ons)
open Book (Tx.frm)
theorem compiledArm_ (w : World) (T g : Nat) (b : GBook) (hn : Nn w g b.steps (varsOf b)) (a : Ga) (ht : Tx w T a.A a.g.pat) (hT : T ≤ w.heap.size) (hs : a.g.as_.length ≤ 100000 ∧ a.g.go.length ≤ 100000) (hp : a.g.pat.length ≤ 100000) (hv : varF (varsOf b) a.g.as_ = atOf (varsOf b) a.g.as_) :
  Calls Tryz.prog 69 #[pa g, .agg #[.int .i64 a.g.at_, .slice a.A a.g.pat.length a.c, .string (str a.g.as_), .string (str a.g.go)]] w (CaSays w T (cArm b a.g)) := by
 obtain ⟨w1, hw1⟩ : ∃ w1, w1 = (w.alloc (.cells #[.int .i64 a.g.at_, .slice a.A a.g.pat.length a.c, .string (str a.g.as_), .string (str a.g.go)] 56)).alloc (.cells #[.slice none 0 0, .int .i64 0, .int .i64 0] 54) := ⟨_, rfl⟩
 have hb1 : Below w.heap.size w w1 := by rw [hw1]; exact ((Below.refl _ _).alloc (Nat.le_refl _) _).alloc (by simp) _
 have hc1 : Cel w1 w.heap.size 56 a.cells := by rw [hw1]; exact (Cel.new w 56 a.cells).alloc _
 have hr1 : Cel w1 (w.heap.size + 1) 54 [.slice none 0 0, .int .i64 0, .int .i64 0] := by
  have := Cel.new (w.alloc (.cells #[.int .i64 a.g.at_, .slice a.A a.g.pat.length a.c, .string (str a.g.as_), .string (str a.g.go)] 56)) 54 [.slice none 0 0, .int .i64 0, .int .i64 0]
  rw [World.size_alloc] at this
  rw [hw1]; exact this
 have hn1 := hn.below hb1
 have HN1 := Lib.hid hn1
 have HB1 := Lib.hid hb1
 have HT1 := Lib.hid (ht.below hT hb1)
 have HC1 := Lib.hid hc1
 have HR1 := Lib.hid hr1
 have hT1 : T ≤ w1.heap.size := Nat.le_trans hT hb1.size
 have con := ptarget_ hn1 a.g.go hs.2
 rw [tgt_eq] at con
 obtain ⟨x, hx⟩ : ∃ x, x = cArm b a.g := ⟨_, rfl⟩
 have HXP := Lib.hid (show x.pat = a.g.pat by rw [hx]; rfl)
 have HXV := Lib.hid (show x.var = varF (varsOf b) a.g.as_ by rw [hx, hv]; rfl)
 have HXT := Lib.hid (show x.to = (target b a.g.go).1 by rw [hx]; rfl)
 rw [← hx]
 have k3 := hc1.cell 3
 change _ = some (Value.string (str a.g.go)) at k3
 obtain ⟨pl, hpl⟩ : ∃ pl, pl = a.g.pat.length := ⟨_, rfl⟩
 rw [← hpl] at hw1 hp ⊢
 have HPL := Lib.hid hpl
 rw [hw1] at k3
 have HW1 := Lib.hid hw1
 obtain ⟨sas, hsas⟩ : ∃ q, q = str a.g.as_ := ⟨_, rfl⟩
 obtain ⟨sgo, hsgo⟩ : ∃ q, q = str a.g.go := ⟨_, rfl⟩
 rw [← hsas, ← hsgo] at k3 HW1 ⊢
 rw [← hsgo] at con
 have HSAS := Lib.hid hsas
 obtain ⟨tz, htz⟩ : ∃ q, q = (target b a.g.go).1 := ⟨_, rfl⟩
 obtain ⟨tb, htb⟩ : ∃ q, q = (target b a.g.go).2 := ⟨_, rfl⟩
 rw [← htz, ← htb] at con
 rw [← htz] at HXT
 clear hn hn1 hb1 ht hc1 hr1 hx hpl hw1 hsas hsgo htz htb
 go_enter Tryz.func69, Tryz.ntmps69
 go_wp2_with fail
 rw [← HW1.out]
 refine con.mono ?_
 clear con HW1 k3
 rintro e w2 ⟨rfl, rfl⟩
 go_wp2_with fail
 refine wp_region_N [9] (fun V => Cel V w.heap.size 56 a.cells) (by kernel_rfl) ?_
 have hH : Cel w1.drew w.heap.size 56 a.cells := HC1.out
 refine tk_ 0 (.pointer (some ⟨w.heap.size, 1, none⟩)) [9] rfl hH ?_ ?_
 ·intro V hV; go_simp
 try simp only [Act.put, lay_]
 refine tk_ 1 (.slice a.A pl a.c) [9] rfl hH ?_ ?_
 ·intro V hV; have c1 := hV.cell 1; have c2 := hV.cell 2; change _ = some (Value.slice a.A a.g.pat.length a.c) at c1; rw [← HPL.out] at c1; change _ = some (Value.string (str a.g.as_)) at c2; rw [← HSAS.out] at c2; go_simp
 try simp only [Act.put, lay_]
 refine tk_ 3 (pa g) [9] rfl hH ?_ ?_
 ·intro V hV; go_simp
 try simp only [Act.put, lay_]
 refine tk_ 4 (.pointer (some ⟨w.heap.size, 2, none⟩)) [9] rfl hH ?_ ?_
 ·intro V hV; go_simp
 try simp only [Act.put, lay_]
 refine tk_ 5 (.string sas) [9] rfl hH ?_ ?_
 ·intro V hV; have c1 := hV.cell 1; have c2 := hV.cell 2; change _ = some (Value.slice a.A a.g.pat.length a.c) at c1; rw [← HPL.out] at c1; change _ = some (Value.string (str a.g.as_)) at c2; rw [← HSAS.out] at c2; go_simp
 try simp only [Act.put, lay_]
 refine tk_ 7 (.int .i64 tz) [9] rfl hH ?_ ?_
 ·intro V hV; go_simp
 try simp only [Act.put, lay_]
 have hbd : Below w1.heap.size w1 w1.drew := (Below.refl _ _).drew
 have con := clone_ w1.drew.heap.size a.A pl a.c a.g.pat w1.drew (by rw [HPL.out]; exact ((HT1.out.below hT1 hbd).bs hT1)) (Nat.le_refl _) hp
 refine wpAnyN_one (i := 2) (by kernel_rfl) rfl (fun K hK => ?_)
 go_simp
 refine con.mono ?_
 rintro e w5 ⟨A5, c5, rfl, hy5, hb5⟩
 go_wp2_with fail
 have hb15 : Below w1.heap.size w1 w5 := hbd.trans hb5
 have hH5 : Cel w5 w.heap.size 56 a.cells := Cel.below HC1.out hb15 HC1.out.lt
 refine hK.out _ _ (.inr hH5) ?_
 clear hK K con hH
 have hH := hH5
 try simp only [Act.put, lay_]
 have con := variable_ (HN1.out.below hb15) a.g.as_ hs.1
 rw [← HSAS.out] at con
 obtain ⟨vz, hvz⟩ : ∃ q, q = varF (varsOf b) a.g.as_ := ⟨_, rfl⟩
 rw [← hvz] at con HXV
 refine wpAnyN_one (i := 6) (by kernel_rfl) rfl (fun K hK => ?_)
 go_simp
 refine con.mono ?_
 rintro e w6 ⟨rfl, rfl⟩
 go_wp2_with fail
 refine hK.out _ _ (.inr hH5) ?_
 clear hK K con
 try simp only [Act.put, lay_]
 refine tk_ 8 (.agg #[.slice A5 pl c5, .int .i64 vz, .int .i64 tz]) [9] rfl hH ?_ ?_
 ·intro V hV; go_simp
 try simp only [Act.put, lay_]
 have hr5 := Cel.below HR1.out hb15 HR1.out.lt
 have k0 := hr5.cell 0
 have k1 := hr5.cell 1
 have k2 := hr5.cell 2
 have f0 := hr5.free 0
 have f1 := hr5.free 1
 have f2 := hr5.free 2
 have hc6 := fw3_cel (a := .slice A5 pl c5) (b := .int .i64 vz) (c := .int .i64 tz) hr5
 have hf6 := fw3_frm w5 (w.heap.size + 1) (.slice A5 pl c5) (.int .i64 vz) (.int .i64 tz)
 have HC6 := Lib.hid hc6
 have HF6 := Lib.hid hf6
 have HY5 := Lib.hid hy5
 have HB15 := Lib.hid hb15
 have HR5 := Lib.hid hr5
 clear hc6 hf6 hy5 hb15 hb5 hH5 hr5 hbd hH hvz
 unfold fw3 at HC6 HF6
 refine wpAnyN_one (i := 9) (by kernel_rfl) rfl (fun K hK => ?_)
 go_simp
 refine hK.out _ _ (.inl (by decide)) ?_
 clear hK K
 try simp only [Act.put, lay_]
 refine wpAnyN_done (by kernel_rfl) ?_ _
 clear k0 k1 k2 f0 f1 f2
 go_wp2_with fail
 refine bodyPost_ret (v := .agg #[.slice A5 pl c5, .int .i64 vz, .int .i64 tz]) (Book.results_at1 4 54 Tryz.results69 ⟨w.heap.size + 1, 0, none⟩ rfl _ (load_arm HC6.out)) rfl ?_
 refine ⟨⟨x, A5, c5⟩, rfl, ?_, ?_, HB1.out.trans ((HB15.out.mono HB1.out.size).trans (HF6.out.below (Nat.le_trans HB1.out.size HB15.out.size) (by intro q hq; rw [List.mem_singleton.1 hq]; omega)))⟩
 ·rw [HXP.out, ← HPL.out, HXV.out, HXT.out]
 ·rw [HXP.out]
  refine Tx.frm (.inr (by rw [← HPL.out]; exact HY5.out)) HF6.out fun q hq => ?_
  rw [List.mem_singleton.1 hq]
  exact ⟨by omega, Cel.not_ty HR5.out (by decide)⟩
theorem acell_of {w : World} {v : Gs} (har : Cr w v.A5 (gaflat v.avs)) {j : Nat} {a : Ga} (hj : v.avs[j]? = some a) : ∃ ad, v.A5 = some ad ∧ ∀ k u, a.cells[k]? = some u → w.cell? (ad.add (j * 4 + k)) = some u := by
 have e : ∀ k, k < 4 → (gaflat v.avs)[j * 4 + k]? = a.cells[k]? := fun k hk => flat_at Ga.cells 4 (fun _ => rfl) v.avs j k a hj hk
 obtain ⟨ad, h5, hc⟩ := har (fun q => by have := e 0 (by decide); rw [q] at this; simp [Ga.cells] at this)
 refine ⟨ad, h5, fun k u hu => hc _ _ ?_⟩
 rw [e k (by have := (List.getElem?_eq_some_iff.1 hu).1; exact this)]
 exact hu
theorem compiledStep_ (w : World) (T g : Nat) (b : GBook) (hn : Nn w g b.steps (varsOf b)) (v : Gs) (hsd : Tx w T v.A4 v.g.send) (har : Cr w v.A5 (gaflat v.avs)) (hav : v.avs.map (·.g) = v.g.arms) (hpt : ∀ u ∈ v.avs, Tx w T u.A u.g.pat) (hT : T ≤ w.heap.size) (hs : Szs v) (hp : ∀ u ∈ v.avs, u.g.pat.length ≤ 100000) (hm : v.g ∈ b.steps) :
  Calls Tryz.prog 30 #[pa g, .agg #[.int .i64 v.g.at_, .string (str v.g.name), .int .i64 v.g.tag, .bool v.g.sends, .slice v.A4 v.g.send.length v.c4, .slice v.A5 v.g.arms.length v.c5, .int .i64 v.g.time, .int .i64 v.g.try_, .string (str v.g.els)]] w (CsSays w T (cStep b v.g)) := by
 obtain ⟨w1, hw1⟩ : ∃ w1, w1 = (w.alloc (.cells #[.int .i64 v.g.at_, .string (str v.g.name), .int .i64 v.g.tag, .bool v.g.sends, .slice v.A4 v.g.send.length v.c4, .slice v.A5 v.g.arms.length v.c5, .int .i64 v.g.time, .int .i64 v.g.try_, .string (str v.g.els)] 52)).alloc (.cells #[.string ⟨#[]⟩, .int .i64 0, .slice none 0 0, .slice none 0 0, .int .i64 0, .int .i64 0, .int .i64 0] 49) := ⟨_, rfl⟩
 have hb1 : Below w.heap.size w w1 := by rw [hw1]; exact ((Below.refl _ _).alloc (Nat.le_refl _) _).alloc (by simp) _
 have hc1 : Cel w1 w.heap.size 52 v.cells := by rw [hw1]; exact (Cel.new w 52 v.cells).alloc _
 have hr1 : Cel w1 (w.heap.size + 1) 49 zero7 := by
  have := Cel.new (w.alloc (.cells v.cells.toArray 52)) 49 zero7
  rw [World.size_alloc] at this
  rw [hw1]; exact this
 have hn1 := hn.below hb1
 have HN := Lib.hid hn
 have HB1 := Lib.hid hb1
 have HSD1 := Lib.hid (hsd.below hT hb1)
 have HAR := Lib.hid har
 have HAV := Lib.hid hav
 have HPT := Lib.hid hpt
 have HC1 := Lib.hid hc1
 have HR1 := Lib.hid hr1
 have HSZ := Lib.hid hs
 have HPZ := Lib.hid hp
 have HM := Lib.hid hm
 have hT1 : T ≤ w1.heap.size := Nat.le_trans hT hb1.size
 have con := ptarget_ hn1 v.g.els hs.2.1
 rw [tgt_eq] at con
 obtain ⟨x, hx⟩ : ∃ x, x = cStep b v.g := ⟨_, rfl⟩
 have HX := Lib.hid hx
 rw [← hx]
 have k8 := hc1.cell 8
 change _ = some (Value.string (str v.g.els)) at k8
 obtain ⟨te, hte⟩ : ∃ q, q = (target b v.g.els).1 := ⟨_, rfl⟩
 obtain ⟨tb, htb⟩ : ∃ q, q = (target b v.g.els).2 := ⟨_, rfl⟩
 rw [← hte, ← htb] at con
 have HTE := Lib.hid hte
 obtain ⟨sl, hsl⟩ : ∃ q, q = v.g.send.length := ⟨_, rfl⟩
 have hsl1 : sl ≤ 100000 := by rw [hsl]; exact hs.2.2.1
 rw [← hsl] at hw1 ⊢
 rw [hw1] at k8
 have HSL := Lib.hid hsl
 have HW1 := Lib.hid hw1
 clear hn hn1 hb1 hsd har hav hpt hc1 hr1 hx hw1 hs hp hm hte htb hsl
 go_enter Tryz.func30, Tryz.ntmps30
 go_wp2_with fail
 rw [← HW1.out]
 refine con.mono ?_
 clear con HW1 k8
 rintro e w2 ⟨rfl, rfl⟩
 go_upto_region 2 with fail
 go_cut [7] from 17 to 29 (fun s7 wx => ∃ (gc : Nat) (A2 : Option Addr) (k2 : Nat), s7 = .pointer (some ⟨gc, 0, none⟩) ∧ Pi w wx T gc v te A2 k2 none 0 [])
 case first =>
  refine wp_region_N [] (Below w1.heap.size w1) (by kernel_rfl) ?_
  have hH : Below w1.heap.size w1 w1.drew := (Below.refl _ _).drew
  refine tk_ 0 (.pointer (some ⟨w.heap.size, 1, none⟩)) [] rfl hH ?_ ?_
  ·intro V hV; go_simp
  try simp only [Act.put, lay_]
  refine tk_ 1 (.string (str v.g.name)) [] rfl hH ?_ ?_
  ·intro V hV; have c0 := (Cel.below HC1.out hV HC1.out.lt).cell 1; change _ = some (Value.string (str v.g.name)) at c0; go_simp
  try simp only [Act.put, lay_]
  refine tk_ 2 (.pointer (some ⟨w.heap.size, 2, none⟩)) [] rfl hH ?_ ?_
  ·intro V hV; go_simp
  try simp only [Act.put, lay_]
  refine tk_ 3 (.int .i64 v.g.tag) [] rfl hH ?_ ?_
  ·intro V hV; have c0 := (Cel.below HC1.out hV HC1.out.lt).cell 2; change _ = some (Value.int .i64 v.g.tag) at c0; go_simp
  try simp only [Act.put, lay_]
  refine tk_ 4 (.pointer (some ⟨w.heap.size, 4, none⟩)) [] rfl hH ?_ ?_
  ·intro V hV; go_simp
  try simp only [Act.put, lay_]
  refine tk_ 5 (.slice v.A4 sl v.c4) [] rfl hH ?_ ?_
  ·intro V hV; have c0 := (Cel.below HC1.out hV HC1.out.lt).cell 4; change _ = some (Value.slice v.A4 v.g.send.length v.c4) at c0; rw [← HSL.out] at c0; go_simp
  try simp only [Act.put, lay_]
  refine tk_ 7 (.pointer (some ⟨w.heap.size, 6, none⟩)) [] rfl hH ?_ ?_
  ·intro V hV; go_simp
  try simp only [Act.put, lay_]
  refine tk_ 8 (.int .i64 v.g.time) [] rfl hH ?_ ?_
  ·intro V hV; have c0 := (Cel.below HC1.out hV HC1.out.lt).cell 6; change _ = some (Value.int .i64 v.g.time) at c0; go_simp
  try simp only [Act.put, lay_]
  refine tk_ 9 (.pointer (some ⟨w.heap.size, 7, none⟩)) [] rfl hH ?_ ?_
  ·intro V hV; go_simp
  try simp only [Act.put, lay_]
  refine tk_ 10 (.int .i64 v.g.try_) [] rfl hH ?_ ?_
  ·intro V hV; have c0 := (Cel.below HC1.out hV HC1.out.lt).cell 7; change _ = some (Value.int .i64 v.g.try_) at c0; go_simp
  try simp only [Act.put, lay_]
  refine tk_ 11 (.int .i64 te) [] rfl hH ?_ ?_
  ·intro V hV; go_simp
  try simp only [Act.put, lay_]
  have HBG := Lib.hid (show w.heap.size + 1 < w1.heap.size from HR1.out.lt)
  refine wpAnyN_two (i := 6) (j := 13) (by kernel_rfl) rfl rfl (fun K hK => ?_) (fun K hK => ?_)
  ·have con := clone_ w1.drew.heap.size v.A4 sl v.c4 v.g.send w1.drew (by rw [HSL.out]; exact ((HSD1.out.below hT1 hH).bs hT1)) (Nat.le_refl _) hsl1
   go_simp
   refine con.mono ?_
   rintro e w5 ⟨A5, c5, rfl, hy5, hb5⟩
   go_wp2_with fail
   have hH5 : Below w1.heap.size w1 w5 := hH.trans hb5
   refine hK.out _ _ (.inr hH5) ?_
   clear hK K con hH
   have hH := hH5
   try simp only [Act.put, lay_]
   refine tk_ 12 (.agg #[.string (str v.g.name), .int .i64 v.g.tag, .slice A5 sl c5, .slice none 0 0, .int .i64 v.g.time, .int .i64 v.g.try_, .int .i64 te]) [] rfl hH ?_ ?_
   ·intro V hV; go_simp
   try simp only [Act.put, lay_]
   have hc6 := Cel.new w5 49 [.string (str v.g.name), .int .i64 v.g.tag, .slice A5 sl c5, .slice none 0 0, .int .i64 v.g.time, .int .i64 v.g.try_, .int .i64 te]
   have hb6 : Below w5.heap.size w5 (w5.alloc (.cells #[.string (str v.g.name), .int .i64 v.g.tag, .slice A5 sl c5, .slice none 0 0, .int .i64 v.g.time, .int .i64 v.g.try_, .int .i64 te] 49)) := (Below.refl _ _).alloc (Nat.le_refl _) _
   have hb60 : Below w5.heap.size w5 (w5.alloc (.cells #[.string ⟨#[]⟩, .int .i64 0, .slice none 0 0, .slice none 0 0, .int .i64 0, .int .i64 0, .int .i64 0] 49)) := (Below.refl _ _).alloc (Nat.le_refl _) _
   refine wpAnyN_one (i := 13) (by kernel_rfl) rfl (fun K hK => ?_)
   go_simp
   refine hK.out _ _ (.inr (hH5.trans (hb60.mono hH5.size))) ?_
   clear hK K
   try simp only [Act.put, lay_]
   refine wpAnyN_one (i := 14) (by kernel_rfl) rfl (fun K hK => ?_)
   go_simp
   refine hK.out _ _ (.inr (hH5.trans (hb6.mono hH5.size))) ?_
   clear hK K
   try simp only [Act.put, lay_]
   refine wpAnyN_done (by kernel_rfl) ?_ _
   have HPI := Lib.hid (show Pi w (w5.alloc (.cells #[.string (str v.g.name), .int .i64 v.g.tag, .slice A5 sl c5, .slice none 0 0, .int .i64 v.g.time, .int .i64 v.g.try_, .int .i64 te] 49)) T w5.heap.size v te A5 c5 none 0 [] from
    ⟨(hb6.block _ (Nat.lt_of_lt_of_le HC1.out.lt hH5.size)).trans (Cel.below HC1.out hH5 HC1.out.lt), (hb6.block _ (Nat.lt_of_lt_of_le HR1.out.lt hH5.size)).trans (Cel.below HR1.out hH5 HR1.out.lt), by unfold stepCells7; rw [← HSL.out]; exact hc6, Nat.lt_of_lt_of_le HBG.out hH5.size, (HB1.out.trans (hH5.mono HB1.out.size)).trans (hb6.mono (Nat.le_trans HB1.out.size hH5.size)), World.ownsRow_nil _ _ _ _, .inr (by rw [← HSL.out]; exact By.below hy5 hb6), by simp⟩)
   clear hy5 hb5 hH5 hc6 hb6 hb60 hH
   go_wp2_with fail
   go_meet
   case rel => exact ⟨w5.heap.size, A5, c5, rfl, HPI.out⟩
  ·have hb4 : Below w1.heap.size w1 (w1.drew.alloc (.cells #[.string ⟨#[]⟩, .int .i64 0, .slice none 0 0, .slice none 0 0, .int .i64 0, .int .i64 0, .int .i64 0] 49)) := hH.alloc (Nat.le_refl _) _
   have hc4 : Cel (w1.drew.alloc (.cells #[.string ⟨#[]⟩, .int .i64 0, .slice none 0 0, .slice none 0 0, .int .i64 0, .int .i64 0, .int .i64 0] 49)) w1.heap.size 49 zero7 := Cel.new w1.drew _ zero7
   go_simp
   refine hK.out _ _ (.inr hb4) ?_
   clear hK K
   try simp only [Act.put, lay_]
   obtain ⟨W4, hW4⟩ : ∃ W4, W4 = w1.drew.alloc (.cells #[.string ⟨#[]⟩, .int .i64 0, .slice none 0 0, .slice none 0 0, .int .i64 0, .int .i64 0, .int .i64 0] 49) := ⟨_, rfl⟩
   rw [← hW4] at hb4 hc4
   have con := clone_ W4.heap.size v.A4 sl v.c4 v.g.send W4 (by rw [HSL.out]; exact ((HSD1.out.below hT1 hb4).bs (Nat.le_trans hT1 hb4.size))) (Nat.le_refl _) hsl1
   rw [hW4] at con
   refine wpAnyN_one (i := 6) (by kernel_rfl) rfl (fun K hK => ?_)
   go_simp
   refine con.mono ?_
   rintro e w5 ⟨A5, c5, rfl, hy5, hb5⟩
   go_wp2_with fail
   rw [← hW4] at hb5
   have hc5 : Cel w5 w1.heap.size 49 zero7 := (hb5.block _ hc4.lt).trans hc4
   have hH : Below w1.heap.size w1 w5 := hb4.trans (hb5.mono hb4.size)
   refine hK.out _ _ (.inr hH) ?_
   clear hK K con hW4
   try simp only [Act.put, lay_]
   refine tk_ 12 (.agg #[.string (str v.g.name), .int .i64 v.g.tag, .slice A5 sl c5, .slice none 0 0, .int .i64 v.g.time, .int .i64 v.g.try_, .int .i64 te]) [] rfl hH ?_ ?_
   ·intro V hV; go_simp
   try simp only [Act.put, lay_]
   have k0 := hc5.cell 0
   have k1 := hc5.cell 1
   have k2 := hc5.cell 2
   have k3 := hc5.cell 3
   have k4 := hc5.cell 4
   have k5 := hc5.cell 5
   have k6 := hc5.cell 6
   have f0 := hc5.free 0
   have f1 := hc5.free 1
   have f2 := hc5.free 2
   have f3 := hc5.free 3
   have f4 := hc5.free 4
   have f5 := hc5.free 5
   have f6 := hc5.free 6
   unfold zero7 at k0 k1 k2 k3 k4 k5 k6
   have hc6 := fw7_cel (a := .string (str v.g.name)) (b := .int .i64 v.g.tag) (c := .slice A5 sl c5) (d := .slice none 0 0) (e := .int .i64 v.g.time) (f := .int .i64 v.g.try_) (k := .int .i64 te) (show Cel w5 w1.heap.size 49 [.string ⟨#[]⟩, .int .i64 0, .slice none 0 0, .slice none 0 0, .int .i64 0, .int .i64 0, .int .i64 0] from hc5)
   have hf6 := fw7_frm w5 w1.heap.size (.string (str v.g.name)) (.int .i64 v.g.tag) (.slice A5 sl c5) (.slice none 0 0) (.int .i64 v.g.time) (.int .i64 v.g.try_) (.int .i64 te)
   have hb6 := hH.trans (hf6.below hH.size (by intro q hq; rw [List.mem_singleton.1 hq]; exact Nat.le_refl _))
   have hpi : Pi w (fw7 w5 w1.heap.size (.string (str v.g.name)) (.int .i64 v.g.tag) (.slice A5 sl c5) (.slice none 0 0) (.int .i64 v.g.time) (.int .i64 v.g.try_) (.int .i64 te)) T w1.heap.size v te A5 c5 none 0 [] :=
    ⟨Cel.below HC1.out hb6 HC1.out.lt, Cel.below HR1.out hb6 HR1.out.lt, by unfold stepCells7; rw [← HSL.out]; exact hc6, HBG.out, HB1.out.trans (hb6.mono HB1.out.size), World.ownsRow_nil _ _ _ _, Tx.frm (.inr (by rw [← HSL.out]; exact hy5)) hf6 (fun q hq => by rw [List.mem_singleton.1 hq]; exact ⟨hT1, Cel.not_ty hc5 (by decide)⟩), by simp⟩
   have HPI := Lib.hid hpi
   unfold fw7 at HPI hb6
   refine wpAnyN_one (i := 14) (by kernel_rfl) rfl (fun K hK => ?_)
   go_simp
   refine hK.out _ _ (.inr hb6) ?_
   clear hK K
   try simp only [Act.put, lay_]
   refine wpAnyN_done (by kernel_rfl) ?_ _
   clear hy5 hb5 hc5 hc6 hf6 hb6 hH hb4 hc4 hpi k0 k1 k2 k3 k4 k5 k6 f0 f1 f2 f3 f4 f5 f6
   go_wp2_with fail
   go_meet
   case rel => exact ⟨w1.heap.size, A5, c5, rfl, HPI.out⟩
 case rest =>
  obtain ⟨gc, A2, k2, rfl, hpi⟩ := hcut
  obtain ⟨W4, hW4⟩ : ∃ W4, W4 = wc := ⟨_, rfl⟩
  rw [← hW4] at hpi ⊢
  clear hW4
  have HPI := Lib.hid hpi
  have k5 := hpi.sc.cell 5
  change _ = some (Value.slice v.A5 v.g.arms.length v.c5) at k5
  obtain ⟨m, hm⟩ : ∃ m, m = v.g.arms.length := ⟨_, rfl⟩
  rw [← hm] at k5
  have hm5 : m ≤ 50000 := by rw [hm]; exact HSZ.out.2.2.2.2.1
  have HMM := Lib.hid hm
  have HAM := Lib.hid (show v.avs.length = m by rw [hm, ← HAV.out]; simp)
  clear hpi hm
  go_wp2_with fail
  go_loopw [33] (fun v33 wr => ∃ (j : Nat) (A3 : Option Addr) (k3 : Nat) (cas : List Ca), j ≤ m ∧ v33 = .int .i64 (j : Int) ∧ cas.length = j ∧ Pi w wr T gc v te A2 k2 A3 k3 cas ∧ Hid (cas.map (·.c) = (v.g.arms.take j).map (cArm b))) (fun v33 _ => m - (intOf v33).toNat)
  case atStart => exact ⟨0, none, 0, [], Nat.zero_le _, rfl, rfl, HPI.out, Lib.hid (by simp)⟩
  case round =>
   obtain ⟨j, A3, k3, cas, hj, rfl, hcln, hpi, HK⟩ := hrel
   obtain ⟨W0, hW0⟩ : ∃ W0, W0 = wr := ⟨_, rfl⟩
   rw [← hW0] at hpi ⊢
   clear hW0 k5
   have HPJ := Lib.hid hpi
   have HCLN := Lib.hid hcln
   have hT0 : T ≤ W0.heap.size := Nat.le_trans hT hpi.bel.size
   rcases Nat.lt_or_ge j m with hlj | hgj
   ·obtain ⟨a, ha⟩ : ∃ a, v.avs[j]? = some a := ⟨_, List.getElem?_eq_getElem (by rw [HAM.out]; exact hlj)⟩
    have ham := List.mem_of_getElem? ha
    obtain ⟨ad5, h5, hac⟩ := acell_of (Cr.below HAR.out hpi.bel) ha
    have y0 := hac 0 _ rfl
    have y1 := hac 1 _ rfl
    have y2 := hac 2 _ rfl
    have y3 := hac 3 _ rfl
    rw [Nat.add_zero] at y0
    rw [← add_at9 ad5 (j * 4) _ (by decide)] at y1 y2 y3
    have haj : v.g.arms[j]? = some a.g := by rw [← HAV.out, List.getElem?_map, ha]; rfl
    have HAJ := Lib.hid haj
    obtain ⟨W1, hW1⟩ : ∃ W1, W1 = W0.alloc (.cells #[.int .i64 a.g.at_, .slice a.A a.g.pat.length a.c, .string (str a.g.as_), .string (str a.g.go)] 56) := ⟨_, rfl⟩
    have hb1 : Below W0.heap.size W0 W1 := by rw [hW1]; exact (Below.refl _ _).alloc (Nat.le_refl _) _
    have hc1 : Cel W1 W0.heap.size 56 a.cells := by rw [hW1]; exact Cel.new W0 _ a.cells
    have hbw1 : Below w.heap.size w W1.drew := (hpi.bel.trans (hb1.mono hpi.bel.size)).drew
    have hbd1 : Below W0.heap.size W0 W1.drew := hb1.drew
    have hpi1 := hpi.below hT hbd1
    have con := compiledArm_ W1.drew T g b (HN.out.below hbw1) a ((HPT.out a ham).below hT hbw1) (Nat.le_trans hT hbw1.size) (HSZ.out.2.2.2.2.2 a ham) (HPZ.out a ham) (var_eq HM.out (List.mem_of_getElem? haj))
    have HP1 := Lib.hid hpi1
    have hH : Cel W1.drew gc 49 (stepCells7 v te A2 k2 A3 cas.length k3) ∧ Cel W1.drew W0.heap.size 56 a.cells := ⟨hpi1.xc, hc1⟩
    have HCA := Lib.hid (show Cel W1.drew W0.heap.size 56 a.cells from hc1)
    obtain ⟨xa, hxa⟩ : ∃ xa, xa = cArm b a.g := ⟨_, rfl⟩
    rw [← hxa] at con
    have HXA := Lib.hid hxa
    rw [h5]
    clear ha hac ham haj hb1 hc1 hbw1 hbd1 hpi1 hpi hxa h5 hcln
    go_wp2_with fail
    rw [← hW1]
    clear hW1 y0 y1 y2 y3
    refine wp_region_N [8] (fun V => Cel V gc 49 (stepCells7 v te A2 k2 A3 cas.length k3) ∧ Cel V W0.heap.size 56 a.cells) (by kernel_rfl) ?_
    refine tk_ 0 (.pointer (some ⟨gc, 3, none⟩)) [8] rfl hH ?_ ?_
    ·intro V hV; go_simp
    try simp only [Act.put, lay_]
    refine tk_ 1 (.slice A3 cas.length k3) [8] rfl hH ?_ ?_
    ·intro V hV; obtain ⟨hV1, hV2⟩ := hV; have c3 := hV1.cell 3; change _ = some (Value.slice A3 cas.length k3) at c3; have a0 := hV2.cell 0; have a1 := hV2.cell 1; have a2 := hV2.cell 2; have a3 := hV2.cell 3; change _ = some (Value.int .i64 a.g.at_) at a0; change _ = some (Value.slice a.A a.g.pat.length a.c) at a1; change _ = some (Value.string (str a.g.as_)) at a2; change _ = some (Value.string (str a.g.go)) at a3; go_simp
    try simp only [Act.put, lay_]
    refine tk_ 2 (pa g) [8] rfl hH ?_ ?_
    ·intro V hV; go_simp
    try simp only [Act.put, lay_]
    refine tk_ 3 (.agg #[.int .i64 a.g.at_, .slice a.A a.g.pat.length a.c, .string (str a.g.as_), .string (str a.g.go)]) [8] rfl hH ?_ ?_
    ·intro V hV; obtain ⟨hV1, hV2⟩ := hV; have c3 := hV1.cell 3; change _ = some (Value.slice A3 cas.length k3) at c3; have a0 := hV2.cell 0; have a1 := hV2.cell 1; have a2 := hV2.cell 2; have a3 := hV2.cell 3; change _ = some (Value.int .i64 a.g.at_) at a0; change _ = some (Value.slice a.A a.g.pat.length a.c) at a1; change _ = some (Value.string (str a.g.as_)) at a2; change _ = some (Value.string (str a.g.go)) at a3; go_simp
    try simp only [Act.put, lay_]
    refine wpAnyN_one (i := 4) (by kernel_rfl) rfl (fun K hK => ?_)
    go_simp
    refine con.mono ?_
    rintro e w5 ⟨ca, hca, rfl, hy5, hb5⟩
    go_wp2_with fail
    have hp5 := HP1.out.below hT hb5
    have hH5 : Cel w5 gc 49 (stepCells7 v te A2 k2 A3 cas.length k3) ∧ Cel w5 W0.heap.size 56 a.cells := ⟨hp5.xc, Cel.below HCA.out hb5 HCA.out.lt⟩
    refine hK.out _ _ (.inr hH5) ?_
    clear hK K con hH
    try simp only [Act.put, lay_]
    have hxc : ca.cells = [.slice ca.A xa.pat.length ca.k, .int .i64 xa.var, .int .i64 xa.to] := by rw [← hca]; rfl
    have HXC := Lib.hid hxc
    have hy5' : Tx w5 T ca.A ca.c.pat := by rw [hca]; exact hy5
    have hb6 : Below w5.heap.size w5 (w5.alloc (.cells #[.slice ca.A xa.pat.length ca.k, .int .i64 xa.var, .int .i64 xa.to] 54)) := (Below.refl _ _).alloc (Nat.le_refl _) _
    have hp6 := hp5.below hT hb6
    have hH6 := And.intro hp6.xc (Cel.below hH5.2 hb6 hH5.2.lt)
    have hsz : W0.heap.size ≤ w5.heap.size := by have h1 := hH5.2.lt; omega
    have HP6 := Lib.hid hp6
    have HY6 := Lib.hid (hy5'.below (Nat.le_trans hT hp5.bel.size) hb6)
    have HSRC := Lib.hid (Ry.src (m := 1) (Ry.of_cel (Cel.new w5 54 [.slice ca.A xa.pat.length ca.k, .int .i64 xa.var, .int .i64 xa.to])) (by simp))
    have HK2 := Lib.hid (show (cas ++ [ca]).map (·.c) = (v.g.arms.take (j + 1)).map (cArm b) by
     rw [List.take_add_one, HAJ.out, List.map_append, List.map_append, HK.out]
     show _ ++ [ca.c] = _ ++ [cArm b a.g]
     rw [hca, HXA.out])
    have HCA6 := Lib.hid hH6.2
    have hcl : cas.length ≤ 50000 := by rw [HCLN.out]; omega
    have hsw : w.heap.size ≤ (w5.alloc (.cells #[.slice ca.A xa.pat.length ca.k, .int .i64 xa.var, .int .i64 xa.to] 54)).heap.size := hp6.bel.size
    refine wpAnyN_one (i := 5) (by kernel_rfl) rfl (fun K hK => ?_)
    go_simp
    refine hK.out _ _ (.inr hH6) ?_
    clear hK K hp5 hy5 hy5' hb5 hb6 hp6 hca hxc hH5 hH6
    try simp only [Act.put, lay_]
    refine wpAnyN_one (i := 6) (by kernel_rfl) rfl (fun K hK => ?_)
    rw [if_pos (by rfl)]
    refine wp_append_any _ _ _ 47 rfl w.heap.size 54 rowCa (.slice A3 cas.length k3) cas.length (caflat cas) rfl HP6.out.own (some ⟨w5.heap.size, 0, none⟩) 1 1 [.slice ca.A xa.pat.length ca.k, .int .i64 xa.var, .int .i64 xa.to] rfl rfl HSRC.out (by intro u hu; simp at hu; rcases hu with rfl | rfl | rfl <;> rfl) (cas.length + 1) _ rfl rfl (by unfold maxLen; omega) (by omega) hsw ?_
    intro A8 c8 w8 ho8 hg8 _
    rw [← HXC.out] at ho8
    obtain ⟨hx8, hp8⟩ := HP6.out.arm hT HY6.out hg8 ho8
    have hH8 := And.intro hx8 (Cel.grown HCA6.out hg8 (own_ty_ne HP6.out.own HCA6.out (by decide)))
    have y3 : w8.cell? ⟨gc, 3, none⟩ = some (.slice A3 cas.length k3) := hx8.cell 3
    have g3 := hx8.free 3
    have HP8 := Lib.hid hp8
    refine hK.out _ _ (.inr hH8) ?_
    clear hK K hp8 ho8 hg8 hx8
    try simp only [Act.put, lay_]
    refine wpAnyN_one (i := 7) (by kernel_rfl) rfl (fun K hK => ?_)
    go_simp
    refine hK.out _ _ (.inr hH8) ?_
    clear hK K hH8
    try simp only [Act.put, lay_]
    refine wpAnyN_one (i := 8) (by kernel_rfl) rfl (fun K hK => ?_)
    go_simp
    refine hK.out _ _ (.inl (by decide)) ?_
    clear hK K
    try simp only [Act.put, lay_]
    refine wpAnyN_done (by kernel_rfl) ?_ _
    clear y3 g3
    go_wp2_with fail
    exact ⟨⟨j + 1, A8, c8, cas ++ [ca], hlj, by rw [show ((j + 1 : Nat) : Int) = (j : Int) + 1 by omega], by rw [List.length_append, HCLN.out]; rfl, HP8.out, HK2⟩, by simp [intOf]; omega⟩
   ·obtain rfl : j = m := by omega
    have HE := Lib.hid (show cas.map (·.c) = v.g.arms.map (cArm b) by rw [HK.out, List.take_of_length_le (by rw [← HAM.out, ← HAV.out, List.length_map]; exact Nat.le_refl _)])
    have hx0 := hpi.xc
    unfold stepCells7 at hx0
    have q0 := hx0.cell 0
    have q1 := hx0.cell 1
    have q2 := hx0.cell 2
    have q3 := hx0.cell 3
    have q4 := hx0.cell 4
    have q5 := hx0.cell 5
    have q6 := hx0.cell 6
    have hr0 := hpi.rc
    unfold zero7 at hr0
    have r0 := hr0.cell 0
    have r1 := hr0.cell 1
    have r2 := hr0.cell 2
    have r3 := hr0.cell 3
    have r4 := hr0.cell 4
    have r5 := hr0.cell 5
    have r6 := hr0.cell 6
    have f0 := hr0.free 0
    have f1 := hr0.free 1
    have f2 := hr0.free 2
    have f3 := hr0.free 3
    have f4 := hr0.free 4
    have f5 := hr0.free 5
    have f6 := hr0.free 6
    obtain ⟨cl, hcl⟩ : ∃ q, q = cas.length := ⟨_, rfl⟩
    rw [← hcl] at q3
    have HCL := Lib.hid hcl
    have hc6 := fw7_cel (a := .string (str v.g.name)) (b := .int .i64 v.g.tag) (c := .slice A2 v.g.send.length k2) (d := .slice A3 cl k3) (e := .int .i64 v.g.time) (f := .int .i64 v.g.try_) (k := .int .i64 te) hr0
    have hf6 := fw7_frm W0 (w.heap.size + 1) (.string (str v.g.name)) (.int .i64 v.g.tag) (.slice A2 v.g.send.length k2) (.slice A3 cl k3) (.int .i64 v.g.time) (.int .i64 v.g.try_) (.int .i64 te)
    have HC6 := Lib.hid hc6
    have HF6 := Lib.hid hf6
    unfold fw7 at HC6 HF6
    clear hc6 hf6 hr0 hx0 hpi hcl hcln
    go_wp2_with fail
    refine bodyPost_ret (v := .agg #[.string (str v.g.name), .int .i64 v.g.tag, .slice A2 v.g.send.length k2, .slice A3 cl k3, .int .i64 v.g.time, .int .i64 v.g.try_, .int .i64 te]) (Book.results_at1 4 49 Tryz.results30 ⟨w.heap.size + 1, 0, none⟩ rfl _ (load_cstep HC6.out)) rfl ?_
    have hrt : ∀ t' : TypeId, 49 ≠ t' → ∀ q ∈ [w.heap.size + 1], T ≤ q ∧ ∀ o fz, W0.heap[q]? ≠ some (Obj.cells o t' fz) := fun t' ht q hq => by
     rw [List.mem_singleton.1 hq]; exact ⟨by omega, Cel.not_ty HPJ.out.rc ht⟩
    have hal : x.arms.length = cl := by rw [HX.out, HCL.out]; show (v.g.arms.map (cArm b)).length = _; rw [← HE.out, List.length_map]
    refine ⟨⟨x, A2, k2, A3, k3, cas⟩, rfl, ?_, ⟨?_, ?_, ?_, fun u hu => ?_⟩, HPJ.out.bel.trans (HF6.out.below HPJ.out.bel.size (by intro q hq; rw [List.mem_singleton.1 hq]; omega))⟩
    ·rw [hal, HX.out]
     show _ = Ending.returned (Value.agg #[.string (str v.g.name), .int .i64 v.g.tag, .slice A2 v.g.send.length k2, .slice A3 cl k3, .int .i64 v.g.time, .int .i64 v.g.try_, .int .i64 (target b v.g.els).1])
     rw [← HTE.out]
    ·rw [HX.out]; exact Tx.frm HPJ.out.snd HF6.out (hrt _ (by decide))
    ·exact (Ry.of_own HPJ.out.own (by decide)).frm HF6.out fun q hq => (hrt _ (by decide) q hq).2
    ·rw [HX.out]; exact HE.out
    ·exact Tx.frm (HPJ.out.tx u hu) HF6.out (hrt _ (by decide))
end Go.Proofs.YteohlpmojfjjdaaGreat.Chk
