/-
Texts: ChkPcompile ChkFrom ChkSame
-/
import Derived.Test.YteohlpmojfjjdaaGreatC0
import Derived.Test.YteohlpmojfjjdaaGreatC1
import Derived.Test.YteohlpmojfjjdaaGreatC2
import Derived.Test.YteohlpmojfjjdaaGreatC3
import Derived.Test.YteohlpmojfjjdaaGreatC5
import Derived.Test.YteohlpmojfjjdaaGreatC7
import Derived.Test.YteohlpmojfjjdaaGreatC8
import Derived.Test.YteohlpmojfjjdaaGreatC9
import Derived.Test.YteohlpmojfjjdaaGreatC16
import Derived.Test.YteohlpmojfjjdaaGreatC17
import Derived.Test.YteohlpmojfjjdaaGreatC18
import Derived.Test.YteohlpmojfjjdaaGreatC23
import Derived.Test.YteohlpmojfjjdaaGreatC24
import Derived.Test.YteohlpmojfjjdaaGreatC30
import Derived.Test.YteohlpmojfjjdaaGreatC31
import Derived.Test.YteohlpmojfjjdaaGreatC32
import Derived.Test.YteohlpmojfjjdaaGreatC33
import Derived.Test.YteohlpmojfjjdaaGreatC34
import Derived.BigQuiet
set_option linter.unusedVariables false
set_option linter.unusedSimpArgs false
set_option maxRecDepth 100000
set_option maxHeartbeats 4000000
section
namespace Go.Proofs.YteohlpmojfjjdaaGreat.Chk
open Go.RowKit Go.Proofs.YteohlpmojfjjdaaGreat.Ord
open Lex (Tx Cr cr_ry)
open Vars (scell Ons)
open Book (Tx.frm)
def Pzs (v : Gs) : Prop := ∀ a ∈ v.avs, a.g.pat.length ≤ 100000
def CbSays (w : World) (T : Nat) (b : GBook) (e : Ending) (w' : World) : Prop := ∃ As cs Av cv out, e = .returned (.agg #[.slice As b.steps.length cs, .slice Av (varsOf b).length cv, .int .i64 b.most]) ∧ Cbk w' T As out ∧ out.map (·.s) = b.steps.map (cStep b) ∧ Ry 9 w' Av ((varsOf b).map scell) ∧ Below w.heap.size w w'
theorem compiled_ (w : World) (T g : Nat) (b : GBook) (hn : Nn w g b.steps (varsOf b)) (A : Option Addr) (n c : Nat) (vs : List Gs) (most : Int) (h : Gbk w T A vs) (hT : T ≤ w.heap.size) (hl : vs.length = n) (hn5 : n ≤ 50000) (hs : ∀ v ∈ vs, Szs v) (hp : ∀ v ∈ vs, Pzs v) (hbm : b.most = most) (hbs : b.steps = vs.map (·.g)) :
  Calls Tryz.prog 16 #[pa g, .agg #[.int .i64 most, .slice A n c]] w (CbSays w T b) := by
 obtain ⟨w1, hw1⟩ : ∃ w1, w1 = (w.alloc (.cells #[.int .i64 most, .slice A n c] 24)).alloc (.cells #[.slice none 0 0, .slice none 0 0, .int .i64 0] 30) := ⟨_, rfl⟩
 have hb1 : Below w.heap.size w w1 := by rw [hw1]; exact ((Below.refl _ _).alloc (Nat.le_refl _) _).alloc (by simp) _
 have hc1 : Cel w1 w.heap.size 24 [.int .i64 most, .slice A n c] := by rw [hw1]; exact (Cel.new w 24 [.int .i64 most, .slice A n c]).alloc _
 have hr1 : Cel w1 (w.heap.size + 1) 30 zero3 := by
  have := Cel.new (w.alloc (.cells #[.int .i64 most, .slice A n c] 24)) 30 zero3
  rw [World.size_alloc] at this
  rw [hw1]; exact this
 obtain ⟨ns, hns⟩ : ∃ ns, ns = varsOf b := ⟨_, rfl⟩
 obtain ⟨b1, n1, b2, n2, Av, cv, h1, h2, h3, h4⟩ := (hn.below hb1).ex
 rw [← hns] at h1 h4
 obtain ⟨nl, hnl⟩ : ∃ nl, nl = ns.length := ⟨_, rfl⟩
 rw [← hnl] at h1
 have HNC := Lib.hid h1
 have HNR := Lib.hid h4
 have HNS := Lib.hid hns
 have HNL := Lib.hid hnl
 have HN := Lib.hid hn
 have H := Lib.hid h
 have HL := Lib.hid hl
 have HS := Lib.hid hs
 have HP := Lib.hid hp
 have HB1 := Lib.hid hb1
 have HC1 := Lib.hid hc1
 have HR1 := Lib.hid hr1
 have HBM := Lib.hid hbm
 have HST := Lib.hid hbs
 clear hn h hl hs hp hb1 hc1 hr1 hbm hbs h1 h2 h3 h4 hns hnl
 go_enter Tryz.func16, Tryz.ntmps16
 go_wp2_with fail
 rw [← hw1]
 clear hw1
 refine wp_region_N [] (Below w1.heap.size w1) (by kernel_rfl) ?_
 have hH : Below w1.heap.size w1 w1.drew := (Below.refl _ _).drew
 refine tk_ 0 (pa g) [] rfl hH ?_ ?_
 ·intro V hV; go_simp
 try simp only [Act.put, lay_]
 refine tk_ 1 (pa g) [] rfl hH ?_ ?_
 ·intro V hV; go_simp
 try simp only [Act.put, lay_]
 refine tk_ 2 (.pointer (some ⟨g, 2, none⟩)) [] rfl hH ?_ ?_
 ·intro V hV; go_simp
 try simp only [Act.put, lay_]
 refine tk_ 3 (.slice Av nl cv) [] rfl hH ?_ ?_
 ·intro V hV; have c0 := (Cel.below HNC.out hV HNC.out.lt).cell 2; change _ = some (Value.slice Av nl cv) at c0; go_simp
 try simp only [Act.put, lay_]
 refine tk_ 4 (.pointer (some ⟨w.heap.size, 0, none⟩)) [] rfl hH ?_ ?_
 ·intro V hV; go_simp
 try simp only [Act.put, lay_]
 refine tk_ 5 (.int .i64 most) [] rfl hH ?_ ?_
 ·intro V hV; have c0 := (Cel.below HC1.out hV HC1.out.lt).cell 0; change _ = some (Value.int .i64 most) at c0; go_simp
 try simp only [Act.put, lay_]
 refine tk_ 6 (.agg #[.slice none 0 0, .slice Av nl cv, .int .i64 most]) [] rfl hH ?_ ?_
 ·intro V hV; go_simp
 try simp only [Act.put, lay_]
 have hbz : Below w1.heap.size w1 (w1.drew.alloc (.cells #[.slice none 0 0, .slice none 0 0, .int .i64 0] 30)) := hH.alloc (Nat.le_refl _) _
 have hbf : Below w1.heap.size w1 (w1.drew.alloc (.cells #[.slice none 0 0, .slice Av nl cv, .int .i64 most] 30)) := hH.alloc (Nat.le_refl _) _
 refine wpAnyN_one (i := 7) (by kernel_rfl) rfl (fun K hK => ?_)
 go_simp
 refine hK.out _ _ (.inr hbz) ?_
 clear hK K
 try simp only [Act.put, lay_]
 refine wpAnyN_one (i := 8) (by kernel_rfl) rfl (fun K hK => ?_)
 go_simp
 refine hK.out _ _ (.inr hbf) ?_
 clear hK K
 try simp only [Act.put, lay_]
 refine wpAnyN_done (by kernel_rfl) ?_ _
 obtain ⟨W4, hW4⟩ : ∃ W4, W4 = (w1.alloc (.cells #[.slice none 0 0, .slice Av nl cv, .int .i64 most] 30)).drew := ⟨_, rfl⟩
 have hc4 : Cel W4 w1.heap.size 30 [.slice none 0 0, .slice Av nl cv, .int .i64 most] := by rw [hW4]; exact (Cel.new w1 30 [.slice none 0 0, .slice Av nl cv, .int .i64 most]).drew
 replace hbf : Below w1.heap.size w1 W4 := by rw [hW4]; exact ((Below.refl _ _).alloc (Nat.le_refl _) _).drew
 have hpo : Po w W4 w1.heap.size T most A n c ns Av cv none 0 [] :=
  ⟨Cel.below HC1.out hbf HC1.out.lt, Cel.below HR1.out hbf HR1.out.lt, by rw [← HNL.out]; exact hc4, HR1.out.lt, HB1.out.trans (hbf.mono HB1.out.size), World.ownsRow_nil _ _ _ _, by simp, HNR.out.below hbf⟩
 have HPO := Lib.hid hpo
 have k1 := hpo.bc.cell 1
 change _ = some (Value.slice A n c) at k1
 rw [hW4] at k1
 clear hH hbz hbf hc4 hpo
 go_wp2_with fail
 rw [← hW4]
 clear hW4 k1
 go_loopw [18] (fun v18 wr => ∃ (i : Nat) (As : Option Addr) (cs : Nat) (out : List Cs), i ≤ n ∧ v18 = .int .i64 (i : Int) ∧ out.length = i ∧ Po w wr w1.heap.size T most A n c ns Av cv As cs out ∧ Hid (out.map (·.s) = (b.steps.take i).map (cStep b))) (fun v18 _ => n - (intOf v18).toNat)
 case atStart => exact ⟨0, none, 0, [], Nat.zero_le _, rfl, rfl, HPO.out, Lib.hid (by simp)⟩
 case round =>
  obtain ⟨i, As, cs, out, hi, rfl, holn, hpo, HO⟩ := hrel
  obtain ⟨W0, hW0⟩ : ∃ W0, W0 = wr := ⟨_, rfl⟩
  rw [← hW0] at hpo ⊢
  clear hW0
  have HPJ := Lib.hid hpo
  have HLN := Lib.hid holn
  have hT0 : T ≤ W0.heap.size := Nat.le_trans hT hpo.bel.size
  rcases Nat.lt_or_ge i n with hlt | hge
  ·obtain ⟨x, hx⟩ : ∃ x, vs[i]? = some x := ⟨_, List.getElem?_eq_getElem (by rw [HL.out]; exact hlt)⟩
   have hxm := List.mem_of_getElem? hx
   have hG0 := H.out.below hT hpo.bel
   obtain ⟨ad, rfl, hcell⟩ := hG0.cell hx
   have k0 := hcell 0 _ rfl
   have k1 := hcell 1 _ rfl
   have k2 := hcell 2 _ rfl
   have k3 := hcell 3 _ rfl
   have k4 := hcell 4 _ rfl
   have k5 := hcell 5 _ rfl
   have k6 := hcell 6 _ rfl
   have k7 := hcell 7 _ rfl
   have k8 := hcell 8 _ rfl
   rw [Nat.add_zero] at k0
   rw [← add_at9 ad (i * 9) _ (by decide)] at k1 k2 k3 k4 k5 k6 k7 k8
   have hbx : b.steps[i]? = some x.g := by rw [HST.out, List.getElem?_map, hx]; rfl
   have HBX := Lib.hid hbx
   obtain ⟨W1, hW1⟩ : ∃ W1, W1 = W0.alloc (.cells #[.int .i64 x.g.at_, .string (str x.g.name), .int .i64 x.g.tag, .bool x.g.sends, .slice x.A4 x.g.send.length x.c4, .slice x.A5 x.g.arms.length x.c5, .int .i64 x.g.time, .int .i64 x.g.try_, .string (str x.g.els)] 52) := ⟨_, rfl⟩
   have hb1 : Below W0.heap.size W0 W1 := by rw [hW1]; exact (Below.refl _ _).alloc (Nat.le_refl _) _
   have hc1 : Cel W1 W0.heap.size 52 x.cells := by rw [hW1]; exact Cel.new W0 _ x.cells
   have hbw1 : Below w.heap.size w W1.drew := (hpo.bel.trans (hb1.mono hpo.bel.size)).drew
   have hbd1 : Below W0.heap.size W0 W1.drew := hb1.drew
   have hpo1 := hpo.below hT hbd1
   have hG1 := H.out.below hT hbw1
   have con := compiledStep_ W1.drew T g b (HN.out.below hbw1) x (hG1.send x hxm) (hG1.arms x hxm).1 (hG1.arms x hxm).2 (hG1.pats x hxm) (Nat.le_trans hT hbw1.size) (HS.out x hxm) (HP.out x hxm) (List.mem_of_getElem? hbx)
   have HP1 := Lib.hid hpo1
   have hH : Cel W1.drew w1.heap.size 30 [.slice As out.length cs, .slice Av ns.length cv, .int .i64 most] ∧ Cel W1.drew W0.heap.size 52 x.cells := ⟨hpo1.oc, hc1⟩
   have HCA := Lib.hid (show Cel W1.drew W0.heap.size 52 x.cells from hc1)
   obtain ⟨xs, hxs⟩ : ∃ xs, xs = cStep b x.g := ⟨_, rfl⟩
   rw [← hxs] at con
   have HXS := Lib.hid hxs
   clear hx hcell hxm hG0 hbx hb1 hc1 hbw1 hbd1 hpo1 hG1 hpo hxs holn
   go_wp2_with fail
   rw [← hW1]
   clear hW1 k0 k1 k2 k3 k4 k5 k6 k7 k8
   refine wp_region_N [8] (fun V => Cel V w1.heap.size 30 [.slice As out.length cs, .slice Av ns.length cv, .int .i64 most] ∧ Cel V W0.heap.size 52 x.cells) (by kernel_rfl) ?_
   refine tk_ 0 (.pointer (some ⟨w1.heap.size, 0, none⟩)) [8] rfl hH ?_ ?_
   ·intro V hV; go_simp
   try simp only [Act.put, lay_]
   refine tk_ 1 (.slice As out.length cs) [8] rfl hH ?_ ?_
   ·intro V hV; obtain ⟨hV1, hV2⟩ := hV; have c3 := hV1.cell 0; change _ = some (Value.slice As out.length cs) at c3; have a0 := hV2.cell 0; change _ = some (Value.int .i64 x.g.at_) at a0; have a1 := hV2.cell 1; change _ = some (Value.string (str x.g.name)) at a1; have a2 := hV2.cell 2; change _ = some (Value.int .i64 x.g.tag) at a2; have a3 := hV2.cell 3; change _ = some (Value.bool x.g.sends) at a3; have a4 := hV2.cell 4; change _ = some (Value.slice x.A4 x.g.send.length x.c4) at a4; have a5 := hV2.cell 5; change _ = some (Value.slice x.A5 x.g.arms.length x.c5) at a5; have a6 := hV2.cell 6; change _ = some (Value.int .i64 x.g.time) at a6; have a7 := hV2.cell 7; change _ = some (Value.int .i64 x.g.try_) at a7; have a8 := hV2.cell 8; change _ = some (Value.string (str x.g.els)) at a8; go_simp
   try simp only [Act.put, lay_]
   refine tk_ 2 (pa g) [8] rfl hH ?_ ?_
   ·intro V hV; go_simp
   try simp only [Act.put, lay_]
   refine tk_ 3 (.agg #[.int .i64 x.g.at_, .string (str x.g.name), .int .i64 x.g.tag, .bool x.g.sends, .slice x.A4 x.g.send.length x.c4, .slice x.A5 x.g.arms.length x.c5, .int .i64 x.g.time, .int .i64 x.g.try_, .string (str x.g.els)]) [8] rfl hH ?_ ?_
   ·intro V hV; obtain ⟨hV1, hV2⟩ := hV; have c3 := hV1.cell 0; change _ = some (Value.slice As out.length cs) at c3; have a0 := hV2.cell 0; change _ = some (Value.int .i64 x.g.at_) at a0; have a1 := hV2.cell 1; change _ = some (Value.string (str x.g.name)) at a1; have a2 := hV2.cell 2; change _ = some (Value.int .i64 x.g.tag) at a2; have a3 := hV2.cell 3; change _ = some (Value.bool x.g.sends) at a3; have a4 := hV2.cell 4; change _ = some (Value.slice x.A4 x.g.send.length x.c4) at a4; have a5 := hV2.cell 5; change _ = some (Value.slice x.A5 x.g.arms.length x.c5) at a5; have a6 := hV2.cell 6; change _ = some (Value.int .i64 x.g.time) at a6; have a7 := hV2.cell 7; change _ = some (Value.int .i64 x.g.try_) at a7; have a8 := hV2.cell 8; change _ = some (Value.string (str x.g.els)) at a8; go_simp
   try simp only [Act.put, lay_]
   refine wpAnyN_one (i := 4) (by kernel_rfl) rfl (fun K hK => ?_)
   go_simp
   refine con.mono ?_
   rintro e w5 ⟨cp, hcp, rfl, hy5, hb5⟩
   go_wp2_with fail
   have hp5 := HP1.out.below hT hb5
   have hH5 := And.intro hp5.oc (Cel.below HCA.out hb5 HCA.out.lt)
   refine hK.out _ _ (.inr hH5) ?_
   clear hK K con hH
   try simp only [Act.put, lay_]
   have hxc : cp.cells = [.string (str xs.name), .int .i64 xs.tag, .slice cp.A2 xs.send.length cp.k2, .slice cp.A3 xs.arms.length cp.k3, .int .i64 xs.time, .int .i64 xs.try_, .int .i64 xs.els] := by rw [← hcp]; rfl
   have HXC := Lib.hid hxc
   have hb6 : Below w5.heap.size w5 (w5.alloc (.cells #[.string (str xs.name), .int .i64 xs.tag, .slice cp.A2 xs.send.length cp.k2, .slice cp.A3 xs.arms.length cp.k3, .int .i64 xs.time, .int .i64 xs.try_, .int .i64 xs.els] 49)) := (Below.refl _ _).alloc (Nat.le_refl _) _
   have hp6 := hp5.below hT hb6
   have hH6 := And.intro hp6.oc (Cel.below hH5.2 hb6 hH5.2.lt)
   have HP6 := Lib.hid hp6
   have HY6 := Lib.hid (hy5.below (Nat.le_trans hT hp5.bel.size) hb6)
   have HSRC := Lib.hid (Ry.src (m := 1) (Ry.of_cel (Cel.new w5 49 [.string (str xs.name), .int .i64 xs.tag, .slice cp.A2 xs.send.length cp.k2, .slice cp.A3 xs.arms.length cp.k3, .int .i64 xs.time, .int .i64 xs.try_, .int .i64 xs.els])) (by simp))
   have HK2 := Lib.hid (show (out ++ [cp]).map (·.s) = (b.steps.take (i + 1)).map (cStep b) by
    rw [List.take_add_one, HBX.out, List.map_append, List.map_append, HO.out]
    show _ ++ [cp.s] = _ ++ [cStep b x.g]
    rw [hcp, HXS.out])
   have HCA6 := Lib.hid hH6.2
   have hcl : out.length ≤ 50000 := by rw [HLN.out]; omega
   have hsw : w.heap.size ≤ (w5.alloc (.cells #[.string (str xs.name), .int .i64 xs.tag, .slice cp.A2 xs.send.length cp.k2, .slice cp.A3 xs.arms.length cp.k3, .int .i64 xs.time, .int .i64 xs.try_, .int .i64 xs.els] 49)).heap.size := hp6.bel.size
   refine wpAnyN_one (i := 5) (by kernel_rfl) rfl (fun K hK => ?_)
   go_simp
   refine hK.out _ _ (.inr hH6) ?_
   clear hK K hp5 hy5 hb5 hb6 hp6 hcp hxc hH5 hH6
   try simp only [Act.put, lay_]
   refine wpAnyN_one (i := 6) (by kernel_rfl) rfl (fun K hK => ?_)
   rw [if_pos (by rfl)]
   refine wp_append_any _ _ _ 27 rfl w.heap.size 49 rowCs (.slice As out.length cs) out.length (csflat out) rfl HP6.out.own (some ⟨w5.heap.size, 0, none⟩) 1 1 [.string (str xs.name), .int .i64 xs.tag, .slice cp.A2 xs.send.length cp.k2, .slice cp.A3 xs.arms.length cp.k3, .int .i64 xs.time, .int .i64 xs.try_, .int .i64 xs.els] rfl rfl HSRC.out (by intro u hu; simp at hu; rcases hu with rfl | rfl | rfl | rfl | rfl | rfl | rfl <;> rfl) (out.length + 1) _ rfl rfl (by unfold maxLen; omega) (by omega) hsw ?_
   intro A8 c8 w8 ho8 hg8 _
   rw [← HXC.out] at ho8
   obtain ⟨hx8, hp8⟩ := HP6.out.step hT HY6.out hg8 ho8
   have hH8 := And.intro hx8 (Cel.grown HCA6.out hg8 (own_ty_ne HP6.out.own HCA6.out (by decide)))
   have y3 : w8.cell? ⟨w1.heap.size, 0, none⟩ = some (.slice As out.length cs) := hx8.cell 0
   have g3 := hx8.free 0
   have HP8 := Lib.hid hp8
   refine hK.out _ _ (.inr hH8) ?_
   clear hK K hp8 ho8 hg8 hx8
   try simp only [Act.put, lay_]
   refine wpAnyN_one (i := 7) (by kernel_rfl) rfl (fun K hK => ?_)
   go_simp
   refine hK.out _ _ (.inr hH8) ?_
   clear hK K hH8
   try simp only [Act.put, lay_]
   refine wpAnyN_one (i := 8) (by kernel_rfl) rfl (fun K hK => ?_)
   go_simp
   refine hK.out _ _ (.inl (by decide)) ?_
   clear hK K
   try simp only [Act.put, lay_]
   refine wpAnyN_done (by kernel_rfl) ?_ _
   clear y3 g3
   go_wp2_with fail
   exact ⟨⟨i + 1, A8, c8, out ++ [cp], hlt, by rw [show ((i + 1 : Nat) : Int) = (i : Int) + 1 by omega], by rw [List.length_append, HLN.out]; rfl, HP8.out, HK2⟩, by simp [intOf]; omega⟩
  ·obtain rfl : i = n := by omega
   have HE := Lib.hid (show out.map (·.s) = b.steps.map (cStep b) by rw [HO.out, List.take_of_length_le (by rw [HST.out, List.length_map, HL.out]; exact Nat.le_refl _)])
   have hx0 := hpo.oc
   have q0 := hx0.cell 0
   have q1 := hx0.cell 1
   have q2 := hx0.cell 2
   have hr0 := hpo.rc
   unfold zero3 at hr0
   have r0 := hr0.cell 0
   have r1 := hr0.cell 1
   have r2 := hr0.cell 2
   have f0 := hr0.free 0
   have f1 := hr0.free 1
   have f2 := hr0.free 2
   obtain ⟨ol, hol⟩ : ∃ q, q = out.length := ⟨_, rfl⟩
   rw [← hol] at q0
   have HOL := Lib.hid hol
   have hc6 := fw3_cel (a := .slice As ol cs) (b := .slice Av ns.length cv) (c := .int .i64 most) hr0
   have hf6 := fw3_frm W0 (w.heap.size + 1) (.slice As ol cs) (.slice Av ns.length cv) (.int .i64 most)
   have HC6 := Lib.hid hc6
   have HF6 := Lib.hid hf6
   unfold fw3 at HC6 HF6
   clear hc6 hf6 hr0 hx0 hpo hol holn
   go_wp2_with fail
   refine bodyPost_ret (v := .agg #[.slice As ol cs, .slice Av ns.length cv, .int .i64 most]) (Book.results_at1 4 30 Tryz.results16 ⟨w.heap.size + 1, 0, none⟩ rfl _ (load_abook HC6.out)) rfl ?_
   have hrt : ∀ t' : TypeId, 30 ≠ t' → ∀ q ∈ [w.heap.size + 1], T ≤ q ∧ ∀ o fz, W0.heap[q]? ≠ some (Obj.cells o t' fz) := fun t' ht q hq => by
    rw [List.mem_singleton.1 hq]; exact ⟨by omega, Cel.not_ty HPJ.out.rc ht⟩
   have hsl : b.steps.length = ol := by rw [HOL.out]; have := congrArg List.length HE.out; simpa using this.symm
   refine ⟨As, cs, Av, cv, out, ?_, ⟨(Ry.of_own HPJ.out.own (by decide)).frm HF6.out fun q hq => (hrt _ (by decide) q hq).2, fun u hu => (HPJ.out.parts u hu).frm HF6.out fun q hq => ⟨(hrt _ (by decide : 30 ≠ 5) q hq).1, (hrt _ (by decide) q hq).2, (hrt _ (by decide) q hq).2⟩⟩, HE.out, ?_, HPJ.out.bel.trans (HF6.out.below HPJ.out.bel.size (by intro q hq; rw [List.mem_singleton.1 hq]; omega))⟩
   ·rw [hsl, ← HNS.out, HBM.out]
   ·rw [← HNS.out]
    exact HPJ.out.nms.frm HF6.out fun q hq => (hrt _ (by decide) q hq).2
theorem pcompile_ (w : World) (T : Nat) (b : GBook) (A : Option Addr) (n c : Nat) (vs : List Gs) (h : Gbk w T A vs) (hT : T ≤ w.heap.size) (hl : vs.length = n) (hn5 : n ≤ 50000) (hsm : sumA vs ≤ 50000) (hs : ∀ v ∈ vs, Szs v) (hp : ∀ v ∈ vs, Pzs v) (most : Int) (hbm : b.most = most) (hbs : b.steps = vs.map (·.g)) :
  Calls Tryz.prog 8 #[.agg #[.int .i64 most, .slice A n c]] w (CmSays w T (compile b)) := by
 obtain ⟨w1, hw1⟩ : ∃ w1, w1 = (w.alloc (.cells #[.int .i64 most, .slice A n c] 24)).alloc (.cells #[.slice none 0 0, .slice none 0 0, .int .i64 0] 30) := ⟨_, rfl⟩
 have hb1 : Below w.heap.size w w1 := by rw [hw1]; exact ((Below.refl _ _).alloc (Nat.le_refl _) _).alloc (by simp) _
 have hc1 : Cel w1 w.heap.size 24 [.int .i64 most, .slice A n c] := by rw [hw1]; exact (Cel.new w 24 [.int .i64 most, .slice A n c]).alloc _
 have hr1 : Cel w1 (w.heap.size + 1) 30 zero3 := by
  have := Cel.new (w.alloc (.cells #[.int .i64 most, .slice A n c] 24)) 30 zero3
  rw [World.size_alloc] at this
  rw [hw1]; exact this
 have con := namesOf_ w1 T A n c vs (h.below hT hb1) (Nat.le_trans hT hb1.size) hl hn5 hsm hs b hbs
 have k1 := hc1.cell 1
 change _ = some (Value.slice A n c) at k1
 rw [hw1] at k1 con
 have H := Lib.hid h
 have HL := Lib.hid hl
 have HS := Lib.hid hs
 have HP := Lib.hid hp
 have HB1 := Lib.hid hb1
 have HC1 := Lib.hid hc1
 have HR1 := Lib.hid hr1
 have HBM := Lib.hid hbm
 have HST := Lib.hid hbs
 clear h hl hs hp hb1 hc1 hr1 hbm hbs hsm
 go_enter Tryz.func8, Tryz.ntmps8
 go_wp2_with fail
 rw [← hw1] at con ⊢
 refine con.mono ?_
 clear con hw1 k1
 rintro e w2 ⟨g, rfl, hn2, hb2⟩
 have hbw2 : Below w.heap.size w w2 := HB1.out.trans (hb2.mono HB1.out.size)
 have hc2 := Cel.below HC1.out hb2 HC1.out.lt
 have con := firstFault_ w2 T g A n c vs most (H.out.below hT hbw2) (Nat.le_trans hT hbw2.size) HL.out hn5 HS.out b HBM.out HST.out hn2
 have k0 := hc2.cell 0
 have k1 := hc2.cell 1
 change _ = some (Value.slice A n c) at k1
 change _ = some (Value.int .i64 most) at k0
 have HC2 := Lib.hid hc2
 have HR2 := Lib.hid (Cel.below HR1.out hb2 HR1.out.lt)
 have HB2 := Lib.hid hbw2
 have HN2 := Lib.hid hn2
 obtain ⟨⟨z, p⟩, hzp⟩ : ∃ q, q = check b := ⟨_, rfl⟩
 rw [← hzp] at con
 unfold FfSays at con
 dsimp only at con
 have HCK := Lib.hid hzp.symm
 clear hb2 hc2 hn2 hbw2 hzp
 go_wp2_with fail
 refine con.mono ?_
 clear con k0 k1
 rintro e w3 ⟨rfl, hb3⟩
 have HB3 := Lib.hid (HB2.out.trans (hb3.mono HB2.out.size))
 have HN3 := Lib.hid (HN2.out.below hb3)
 have HC3 := Lib.hid (Cel.below HC2.out hb3 HC2.out.lt)
 have HR3 := Lib.hid (Cel.below HR2.out hb3 HR2.out.lt)
 clear hb3 HC1 HC2 HB2 HN2 HR1 HR2
 by_cases hz : z = 0
 rotate_left
 ·have hzd : (z == 0) = false := by simpa using hz
  have HE := Lib.hid (compile_bad HCK.out hz)
  have HZ := Lib.hid hz
  have hr0 := HR3.out
  unfold zero3 at hr0
  have r0 := hr0.cell 0
  have r1 := hr0.cell 1
  have r2 := hr0.cell 2
  have l0 := hr0.free 0
  have l1 := hr0.free 1
  have l2 := hr0.free 2
  have HC4 := Lib.hid (fw3_cel (a := .slice none 0 0) (b := .slice none 0 0) (c := .int .i64 0) hr0)
  have HF4 := Lib.hid (fw3_frm w3 (w.heap.size + 1) (.slice none 0 0) (.slice none 0 0) (.int .i64 0))
  clear hz hr0
  unfold fw3 at HC4 HF4
  go_wp2_with fail
  refine bodyPost_ret (v := .tuple #[.agg #[.slice none 0 0, .slice none 0 0, .int .i64 0], .int .i64 p, .int .i64 z]) (Lex.results_at3 2 30 3 4 Tryz.results8 ⟨w.heap.size + 1, 0, none⟩ rfl _ _ _ rfl rfl (load_abook HC4.out)) rfl ?_
  refine ⟨HB3.out.trans (HF4.out.below HB3.out.size (by intro q hq; rw [List.mem_singleton.1 hq]; omega)), ?_⟩
  rw [HE.out]
  exact ⟨HZ.out, rfl⟩
 subst hz
 have HE := Lib.hid (compile_ok HCK.out)
 have con := compiled_ w3 T g b HN3.out A n c vs most (H.out.below hT HB3.out) (Nat.le_trans hT HB3.out.size) HL.out hn5 HS.out HP.out HBM.out HST.out
 have k0 := HC3.out.cell 0
 have k1 := HC3.out.cell 1
 change _ = some (Value.slice A n c) at k1
 change _ = some (Value.int .i64 most) at k0
 clear HCK
 go_wp2_with fail
 refine con.mono ?_
 clear con k0 k1
 rintro e w4 ⟨As, cs, Av, cv, out, rfl, hcb, hom, hry, hb4⟩
 have hr0 := Cel.below HR3.out hb4 HR3.out.lt
 unfold zero3 at hr0
 have r0 := hr0.cell 0
 have r1 := hr0.cell 1
 have r2 := hr0.cell 2
 have l0 := hr0.free 0
 have l1 := hr0.free 1
 have l2 := hr0.free 2
 obtain ⟨sl, hsl⟩ : ∃ q, q = b.steps.length := ⟨_, rfl⟩
 obtain ⟨vl, hvl⟩ : ∃ q, q = (varsOf b).length := ⟨_, rfl⟩
 obtain ⟨bm, hbm⟩ : ∃ q, q = b.most := ⟨_, rfl⟩
 rw [← hsl, ← hvl, ← hbm]
 have HC4 := Lib.hid (fw3_cel (a := .slice As sl cs) (b := .slice Av vl cv) (c := .int .i64 bm) hr0)
 have HF4 := Lib.hid (fw3_frm w4 (w.heap.size + 1) (.slice As sl cs) (.slice Av vl cv) (.int .i64 bm))
 have HRT := Lib.hid (show ∀ t' : TypeId, 30 ≠ t' → ∀ q ∈ [w.heap.size + 1], T ≤ q ∧ ∀ o fz, w4.heap[q]? ≠ some (Obj.cells o t' fz) from fun t' ht q hq => by
  rw [List.mem_singleton.1 hq]; exact ⟨by omega, Cel.not_ty hr0 ht⟩)
 have HCB := Lib.hid hcb
 have HOM := Lib.hid hom
 have HRY := Lib.hid hry
 have HB4 := Lib.hid (HB3.out.trans (hb4.mono HB3.out.size))
 have HSL := Lib.hid hsl
 have HVL := Lib.hid hvl
 have HBB := Lib.hid hbm
 unfold fw3 at HC4 HF4
 clear hr0 hcb hom hry hb4 hsl hvl hbm
 go_wp2_with fail
 refine bodyPost_ret (v := .tuple #[.agg #[.slice As sl cs, .slice Av vl cv, .int .i64 bm], .int .i64 0, .int .i64 0]) (Lex.results_at3 2 30 3 4 Tryz.results8 ⟨w.heap.size + 1, 0, none⟩ rfl _ _ _ rfl rfl (load_abook HC4.out)) rfl ?_
 refine ⟨HB4.out.trans (HF4.out.below HB4.out.size (by intro q hq; rw [List.mem_singleton.1 hq]; omega)), ?_⟩
 rw [HE.out]
 refine ⟨As, cs, Av, cv, out, ?_, ⟨HCB.out.ry.frm HF4.out fun q hq => (HRT.out _ (by decide) q hq).2, fun u hu => (HCB.out.parts u hu).frm HF4.out fun q hq => ⟨(HRT.out _ (by decide : 30 ≠ 5) q hq).1, (HRT.out _ (by decide) q hq).2, (HRT.out _ (by decide) q hq).2⟩⟩, HOM.out, HRY.out.frm HF4.out fun q hq => (HRT.out _ (by decide) q hq).2⟩
 rw [HSL.out, HVL.out, HBB.out]
 show _ = Ending.returned (Value.tuple #[.agg #[.slice As (b.steps.map (cStep b)).length cs, .slice Av (varsOf b).length cv, .int .i64 b.most], .int .i64 0, .int .i64 0])
 rw [List.length_map]
end Go.Proofs.YteohlpmojfjjdaaGreat.Chk
end
section
namespace Go.Proofs.YteohlpmojfjjdaaGreat.Chk
open Go.RowKit
open Lex (Tx Cr cr_ry)
def ofAv (v : Book.Av) : Ga := ⟨gArm v.a, v.A, v.c⟩
def ofBv (v : Book.Bv) : Gs := ⟨gStep v.s, v.A4, v.c4, v.A5, v.c5, v.avs.map ofAv⟩
theorem gaflat_of (vs : List Book.Av) : gaflat (vs.map ofAv) = Book.aflat vs := by
 induction vs with
 | nil => rfl
 | cons v vs ih => rw [List.map_cons, gaflat, List.flatMap_cons, Book.aflat, List.flatMap_cons]; exact congrArg _ ih
theorem cells_of (v : Book.Bv) : (ofBv v).cells = v.cells := by
 unfold Gs.cells Book.Bv.cells Book.cells9 ofBv gStep
 simp
theorem gsflat_of (vs : List Book.Bv) : gsflat (vs.map ofBv) = Book.s9flat vs := by
 induction vs with
 | nil => rfl
 | cons v vs ih =>
  rw [List.map_cons, gsflat, List.flatMap_cons, Book.s9flat, List.flatMap_cons, cells_of]
  exact congrArg _ ih
end Go.Proofs.YteohlpmojfjjdaaGreat.Chk
end
section
namespace Go.Proofs.YteohlpmojfjjdaaGreat.Chk
open Go.RowKit
open Lex (Tx Cr cr_ry lbelow_drew)
open Vars (scell)
structure Cgk (w : World) (T : Nat) (A : Option Addr) (vs : List Cs) : Prop where
 ry : Cr w A (csflat vs)
 send : ∀ v ∈ vs, Tx w T v.A2 v.s.send
 arms : ∀ v ∈ vs, Cr w v.A3 (caflat v.cas) ∧ v.cas.map (·.c) = v.s.arms
 tx : ∀ v ∈ vs, ∀ u ∈ v.cas, Tx w T u.A u.c.pat
theorem Cbk.cgk {w : World} {T : Nat} {A : Option Addr} {vs : List Cs} (h : Cbk w T A vs) : Cgk w T A vs := ⟨cr_ry h.ry, fun v hv => (h.parts v hv).1, fun v hv => ⟨cr_ry (h.parts v hv).2.1, (h.parts v hv).2.2.1⟩, fun v hv => (h.parts v hv).2.2.2⟩
theorem Cgk.below {w w' : World} {T : Nat} {A : Option Addr} {vs : List Cs} (h : Cgk w T A vs) (hT : T ≤ w.heap.size) (hb : Below w.heap.size w w') : Cgk w' T A vs :=
 ⟨h.ry.below hb, fun v hv => (h.send v hv).below hT hb, fun v hv => ⟨(h.arms v hv).1.below hb, (h.arms v hv).2⟩, fun v hv u hu => (h.tx v hv u hu).below hT hb⟩
theorem Cgk.step {w : World} {T : Nat} {A : Option Addr} {vs : List Cs} (h : Cgk w T A vs) {i : Nat} {v : Cs} (hi : vs[i]? = some v) : ∃ ad, A = some ad ∧
  w.cell? (ad.add (i * 7)) = some (.string (str v.s.name)) ∧ w.cell? ⟨(ad.add (i * 7)).block, (ad.add (i * 7)).off + 1, none⟩ = some (.int .i64 v.s.tag) ∧ w.cell? ⟨(ad.add (i * 7)).block, (ad.add (i * 7)).off + 2, none⟩ = some (.slice v.A2 v.s.send.length v.k2) ∧
  w.cell? ⟨(ad.add (i * 7)).block, (ad.add (i * 7)).off + 3, none⟩ = some (.slice v.A3 v.s.arms.length v.k3) ∧ w.cell? ⟨(ad.add (i * 7)).block, (ad.add (i * 7)).off + 4, none⟩ = some (.int .i64 v.s.time) ∧ w.cell? ⟨(ad.add (i * 7)).block, (ad.add (i * 7)).off + 5, none⟩ = some (.int .i64 v.s.try_) ∧
  w.cell? ⟨(ad.add (i * 7)).block, (ad.add (i * 7)).off + 6, none⟩ = some (.int .i64 v.s.els) := by
 have e : ∀ k, k < 7 → (csflat vs)[i * 7 + k]? = v.cells[k]? := fun k hk => flat_at Cs.cells 7 (fun _ => rfl) vs i k v hi hk
 obtain ⟨ad, rfl, hc⟩ := h.ry (fun q => by have := e 0 (by decide); rw [q] at this; simp [Cs.cells] at this)
 refine ⟨ad, rfl, hc _ _ (e 0 (by decide)), ?_, ?_, ?_, ?_, ?_, ?_⟩
 all_goals rw [add_at9 _ _ _ (by decide)]
 ·exact hc _ _ (e 1 (by decide))
 ·exact hc _ _ (e 2 (by decide))
 ·exact hc _ _ (e 3 (by decide))
 ·exact hc _ _ (e 4 (by decide))
 ·exact hc _ _ (e 5 (by decide))
 ·exact hc _ _ (e 6 (by decide))
theorem Cgk.arm {w : World} {T : Nat} {A : Option Addr} {vs : List Cs} (h : Cgk w T A vs) {v : Cs} (hv : v ∈ vs) {j : Nat} {a : Ca} (hj : v.cas[j]? = some a) : ∃ ad, v.A3 = some ad ∧
  w.cell? (ad.add (j * 3)) = some (.slice a.A a.c.pat.length a.k) ∧ w.cell? ⟨(ad.add (j * 3)).block, (ad.add (j * 3)).off + 1, none⟩ = some (.int .i64 a.c.var) ∧ w.cell? ⟨(ad.add (j * 3)).block, (ad.add (j * 3)).off + 2, none⟩ = some (.int .i64 a.c.to) := by
 have e : ∀ k, k < 3 → (caflat v.cas)[j * 3 + k]? = a.cells[k]? := fun k hk => flat_at Ca.cells 3 (fun _ => rfl) v.cas j k a hj hk
 obtain ⟨ad, h5, hc⟩ := (h.arms v hv).1 (fun q => by have := e 0 (by decide); rw [q] at this; simp [Ca.cells] at this)
 refine ⟨ad, h5, hc _ _ (e 0 (by decide)), ?_, ?_⟩
 all_goals rw [add_at9 _ _ _ (by decide)]
 ·exact hc _ _ (e 1 (by decide))
 ·exact hc _ _ (e 2 (by decide))
theorem map_get {α β : Type} {f : α → β} {us vs : List α} (h : us.map f = vs.map f) {i : Nat} {u : α} (hu : us[i]? = some u) : ∃ v, vs[i]? = some v ∧ f v = f u := by
 have h1 : (vs.map f)[i]? = some (f u) := by rw [← h, List.getElem?_map, hu]; rfl
 rw [List.getElem?_map] at h1
 cases e : vs[i]? with
 | none => rw [e] at h1; cases h1
 | some v => rw [e] at h1; exact ⟨v, rfl, Option.some.inj h1⟩
theorem same14 (w : World) (T : Nat) (A1 A2 V1 V2 : Option Addr) (c1 c2 d1 d2 : Nat) (us vs : List Cs) (ns : List (List B)) (h1 : Cgk w T A1 us) (h2 : Cgk w T A2 vs) (hs : us.map (·.s) = vs.map (·.s)) (m1 : Nms w V1 ns) (m2 : Nms w V2 ns) (hn : us.length ≤ 50000) (hm : ns.length ≤ 50000) (ha : ∀ v ∈ us, v.s.arms.length ≤ 50000) (hT : T ≤ w.heap.size) (most : Int) :
  Calls Tryz.prog 11 #[.agg #[.slice A1 us.length c1, .slice V1 ns.length d1, .int .i64 most], .agg #[.slice A2 us.length c2, .slice V2 ns.length d2, .int .i64 most]] w fun e w' => e = .returned (.bool true) ∧ Below w.heap.size w w' := by
 obtain ⟨n, hln⟩ : ∃ n, n = us.length := ⟨_, rfl⟩
 obtain ⟨m, hlm⟩ : ∃ m, m = ns.length := ⟨_, rfl⟩
 rw [← hln] at hn ⊢
 rw [← hlm] at hm ⊢
 obtain ⟨w1, hw1⟩ : ∃ w1, w1 = w.alloc (.cells #[.slice A1 n c1, .slice V1 m d1, .int .i64 most] 30) := ⟨_, rfl⟩
 have hb1 : Below w.heap.size w w1 := by rw [hw1]; exact (Below.refl _ _).alloc (Nat.le_refl _) _
 have hs1 : w1.heap.size = w.heap.size + 1 := by rw [hw1]; simp
 have hc1 : Cel w1 w.heap.size 30 [.slice A1 n c1, .slice V1 m d1, .int .i64 most] := by rw [hw1]; exact Cel.new w _ _
 obtain ⟨w2, hw2⟩ : ∃ w2, w2 = w1.alloc (.cells #[.slice A2 n c2, .slice V2 m d2, .int .i64 most] 30) := ⟨_, rfl⟩
 have hb12 : Below w1.heap.size w1 w2 := by rw [hw2]; exact (Below.refl _ _).alloc (Nat.le_refl _) _
 have hc2 : Cel w2 (w.heap.size + 1) 30 [.slice A2 n c2, .slice V2 m d2, .int .i64 most] := by rw [hw2, ← hs1]; exact Cel.new w1 _ _
 have hb2 : Below w.heap.size w w2 := hb1.trans (hb12.mono hb1.size)
 have HC1 := Lib.hid ((hb12.block _ hc1.lt).trans hc1)
 have HC2 := Lib.hid hc2
 have HB2 := Lib.hid hb2
 have H1 := Lib.hid (h1.below hT hb2)
 have H2 := Lib.hid (h2.below hT hb2)
 have M1 := Lib.hid (Cr.below m1 hb2)
 have M2 := Lib.hid (Cr.below m2 hb2)
 have HS := Lib.hid hs
 have HLN := Lib.hid hln
 have HLM := Lib.hid hlm
 have HAL := Lib.hid ha
 have hT2 : T ≤ w2.heap.size := Nat.le_trans hT hb2.size
 rw [hw1] at hw2
 clear h1 h2 m1 m2 hs hln hlm hb1 hs1 hc1 hb12 hc2 hb2 ha hw1
 go_enter Tryz.func11, Tryz.ntmps11
 go_wp2_with fail
 rw [← hw2]
 clear hw2
 go_loopw [5] (fun v5 wr => ∃ (i : Nat), i ≤ m ∧ v5 = .int .i64 (i : Int) ∧ Below w2.heap.size w2 wr) (fun v5 _ => m - (intOf v5).toNat)
 case atStart => exact ⟨0, Nat.zero_le _, rfl, Below.refl _ _⟩
 case round =>
  obtain ⟨i, hi, rfl, hb⟩ := hrel
  obtain ⟨W0, rfl⟩ : ∃ W0, W0 = wr := ⟨_, rfl⟩
  have hc1 := (hb.block _ (Cel.lt HC1.out)).trans HC1.out
  have hc2 := (hb.block _ HC2.out.lt).trans HC2.out
  replace hc1 : Cel W0 w.heap.size 30 [.slice A1 n c1, .slice V1 m d1, .int .i64 most] := hc1
  replace hc2 : Cel W0 (w.heap.size + 1) 30 [.slice A2 n c2, .slice V2 m d2, .int .i64 most] := hc2
  have p1 := hc1.cell 1
  have q1 := hc2.cell 1
  have HB := Lib.hid hb
  rcases Nat.lt_or_ge i m with hlt | hge
  ·obtain ⟨x, hx⟩ : ∃ x, ns[i]? = some x := ⟨_, List.getElem?_eq_getElem (by rw [← HLM.out]; exact hlt)⟩
   obtain ⟨ad, rfl, k0⟩ := Nms.at_ (show Nms W0 V1 ns from Cr.below M1.out hb) hx
   obtain ⟨bd, rfl, j0⟩ := Nms.at_ (show Nms W0 V2 ns from Cr.below M2.out hb) hx
   generalize str x = sx at k0 j0
   clear hb hc1 hc2 hx
   go_wp2_with fail
   go_quiet (fail)
   go_wp2_with fail
   exact ⟨⟨i + 1, hlt, by rw [show ((i + 1 : Nat) : Int) = (i : Int) + 1 by omega], lbelow_drew HB.out nq⟩, by simp [intOf]; omega⟩
  ·obtain rfl : m = i := by omega
   have p0 := hc1.cell 0
   have q0 := hc2.cell 0
   clear hb hc1 hc2
   go_wp2_with fail
   go_loopw [6] (fun v6 wr => ∃ (i : Nat), i ≤ n ∧ v6 = .int .i64 (i : Int) ∧ Below w2.heap.size w2 wr) (fun v6 _ => n - (intOf v6).toNat)
   case atStart => exact ⟨0, Nat.zero_le _, rfl, HB.out⟩
   case round =>
    clear p1 q1 p0 q0 HB hi
    obtain ⟨i, hi, rfl, hb⟩ := hrel
    obtain ⟨W1, rfl⟩ : ∃ W1, W1 = wr := ⟨_, rfl⟩
    have hc1 := (hb.block _ (Cel.lt HC1.out)).trans HC1.out
    have hc2 := (hb.block _ HC2.out.lt).trans HC2.out
    replace hc1 : Cel W1 w.heap.size 30 [.slice A1 n c1, .slice V1 m d1, .int .i64 most] := hc1
    replace hc2 : Cel W1 (w.heap.size + 1) 30 [.slice A2 n c2, .slice V2 m d2, .int .i64 most] := hc2
    have p0 := hc1.cell 0
    have q0 := hc2.cell 0
    have l1 := hc1.lt
    have l2 := hc2.lt
    have HB := Lib.hid hb
    have hTW : T ≤ W1.heap.size := Nat.le_trans hT2 hb.size
    rcases Nat.lt_or_ge i n with hlt | hge
    ·obtain ⟨u, hu⟩ : ∃ u, us[i]? = some u := ⟨_, List.getElem?_eq_getElem (by rw [← HLN.out]; exact hlt)⟩
     obtain ⟨v, hv, hvs⟩ := map_get HS.out hu
     have hG1 := H1.out.below hT2 hb
     have hG2 := H2.out.below hT2 hb
     obtain ⟨ad, rfl, x0, x1, x2, x3, x4, x5, x6⟩ := hG1.step hu
     obtain ⟨bd, rfl, y0, y1, y2, y3, y4, y5, y6⟩ := hG2.step hv
     have hum := List.mem_of_getElem? hu
     have hvm := List.mem_of_getElem? hv
     have HU := Lib.hid hum
     have HV := Lib.hid hvm
     have HVS := Lib.hid hvs
     have hal := HAL.out u hum
     rw [hvs] at y0 y1 y2 y3 y4 y5 y6
     have tu := hG1.send u hum
     have tw := hG2.send v hvm
     rw [hvs] at tw
     have lx : (ad.add (i * 7)).block < W1.heap.size := cell_lt x0
     have ly : (bd.add (i * 7)).block < W1.heap.size := cell_lt y0
     obtain ⟨sl, hsl⟩ : ∃ sl, sl = u.s.send.length := ⟨_, rfl⟩
     obtain ⟨ml, hml⟩ : ∃ ml, ml = u.s.arms.length := ⟨_, rfl⟩
     rw [← hsl] at x2 y2
     rw [← hml] at x3 y3 hal
     have HML := Lib.hid hml
     obtain ⟨X1, hX1⟩ : ∃ X1, X1 = W1.alloc (.cells #[.string (str u.s.name), .int .i64 u.s.tag, .slice u.A2 sl u.k2, .slice u.A3 ml u.k3, .int .i64 u.s.time, .int .i64 u.s.try_, .int .i64 u.s.els] 49) := ⟨_, rfl⟩
     have hbX1 : Below W1.heap.size W1 X1 := by rw [hX1]; exact (Below.refl _ _).alloc (Nat.le_refl _) _
     have hsX1 : X1.heap.size = W1.heap.size + 1 := by rw [hX1]; simp
     have hcX1 : Cel X1 W1.heap.size 49 [.string (str u.s.name), .int .i64 u.s.tag, .slice u.A2 sl u.k2, .slice u.A3 ml u.k3, .int .i64 u.s.time, .int .i64 u.s.try_, .int .i64 u.s.els] := by rw [hX1]; exact Cel.new W1 _ _
     obtain ⟨X2, hX2⟩ : ∃ X2, X2 = X1.alloc (.cells #[.string (str u.s.name), .int .i64 u.s.tag, .slice v.A2 sl v.k2, .slice v.A3 ml v.k3, .int .i64 u.s.time, .int .i64 u.s.try_, .int .i64 u.s.els] 49) := ⟨_, rfl⟩
     have hbX2 : Below X1.heap.size X1 X2 := by rw [hX2]; exact (Below.refl _ _).alloc (Nat.le_refl _) _
     have hcX2 : Cel X2 (W1.heap.size + 1) 49 [.string (str u.s.name), .int .i64 u.s.tag, .slice v.A2 sl v.k2, .slice v.A3 ml v.k3, .int .i64 u.s.time, .int .i64 u.s.try_, .int .i64 u.s.els] := by rw [hX2, ← hsX1]; exact Cel.new X1 _ _
     have hcX12 : Cel X2 W1.heap.size 49 [.string (str u.s.name), .int .i64 u.s.tag, .slice u.A2 sl u.k2, .slice u.A3 ml u.k3, .int .i64 u.s.time, .int .i64 u.s.try_, .int .i64 u.s.els] := (hbX2.block _ hcX1.lt).trans hcX1
     have hb2 : Below W1.heap.size W1 X2 := hbX1.trans (hbX2.mono hbX1.size)
     have s1 : (convert 41 9 (.slice u.A2 sl u.k2)).run Tryz.prog X2 = .ok (.string (str u.s.send)) X2 := by rw [hsl]; exact (tu.below hTW hb2).str (Nat.le_trans hTW hb2.size) u.k2 0
     have s2 : (convert 41 9 (.slice v.A2 sl v.k2)).run Tryz.prog X2 = .ok (.string (str u.s.send)) X2 := by rw [hsl]; exact (tw.below hTW hb2).str (Nat.le_trans hTW hb2.size) v.k2 0
     have HX1 := Lib.hid hcX12
     have HX2 := Lib.hid hcX2
     have HBX := Lib.hid hb2
     have HG1 := Lib.hid (hG1.below hTW hb2)
     have HG2 := Lib.hid (hG2.below hTW hb2)
     rw [hX1] at hX2
     rw [hX2] at s1 s2
     have HXE := Lib.hid hX2
     clear hu hv hvs hG1 hG2 hum hvm tu tw hsl hml hX1 hbX1 hsX1 hcX1 hX2 hbX2 hcX2 hcX12 hb2 hb hc1 hc2
     go_wp2_with fail
     rw [← HXE.out]
     clear s1 s2 x0 x1 x2 x3 x4 x5 x6 y0 y1 y2 y3 y4 y5 y6 p0 q0
     have hTX : T ≤ X2.heap.size := Nat.le_trans hTW HBX.out.size
     go_loopw [9] (fun v9 wr => ∃ (k : Nat), k ≤ ml ∧ v9 = .int .i64 (k : Int) ∧ Below X2.heap.size X2 wr) (fun v9 _ => ml - (intOf v9).toNat)
     case atStart => exact ⟨0, Nat.zero_le _, rfl, Below.refl _ _⟩
     case round =>
      obtain ⟨k, hk, rfl, hb⟩ := hrel
      obtain ⟨Y, rfl⟩ : ∃ Y, Y = wr := ⟨_, rfl⟩
      have hx := (hb.block _ (Cel.lt HX1.out)).trans HX1.out
      have hy := (hb.block _ (Cel.lt HX2.out)).trans HX2.out
      replace hx : Cel Y W1.heap.size 49 [.string (str u.s.name), .int .i64 u.s.tag, .slice u.A2 sl u.k2, .slice u.A3 ml u.k3, .int .i64 u.s.time, .int .i64 u.s.try_, .int .i64 u.s.els] := hx
      replace hy : Cel Y (W1.heap.size + 1) 49 [.string (str u.s.name), .int .i64 u.s.tag, .slice v.A2 sl v.k2, .slice v.A3 ml v.k3, .int .i64 u.s.time, .int .i64 u.s.try_, .int .i64 u.s.els] := hy
      have p3 := hx.cell 3
      have q3 := hy.cell 3
      have HBY := Lib.hid hb
      rcases Nat.lt_or_ge k ml with hkl | hkl
      ·obtain ⟨a, ha⟩ : ∃ a, u.cas[k]? = some a := ⟨_, List.getElem?_eq_getElem (by have := congrArg List.length (HG1.out.arms u HU.out).2; rw [List.length_map] at this; rw [this, ← HML.out]; exact hkl)⟩
       obtain ⟨b, hb', hbc⟩ := map_get (((HG1.out.arms u HU.out).2).trans ((HVS.out ▸ (HG2.out.arms v HV.out).2).symm)) ha
       have hG1 := HG1.out.below hTX hb
       have hG2 := HG2.out.below hTX hb
       obtain ⟨a5, e5, g0, g1, g2⟩ := hG1.arm HU.out ha
       obtain ⟨b5, e6, h0, h1, h2⟩ := hG2.arm HV.out hb'
       rw [hbc] at h0 h1 h2
       have ta := hG1.tx u HU.out a (List.mem_of_getElem? ha)
       have tb := hG2.tx v HV.out b (List.mem_of_getElem? hb')
       rw [hbc] at tb
       rw [e5] at p3
       rw [e6] at q3
       have s1 := ta.str (Nat.le_trans hTX hb.size) a.k
       have s2 := tb.str (Nat.le_trans hTX hb.size) b.k
       clear ta tb hG1 hG2 hb hb' ha hbc hx hy e5 e6
       generalize a.c.pat.length = pl at *
       generalize str a.c.pat = sp at *
       generalize a.c.var = av at *
       generalize a.c.to = at' at *
       go_wp2_with fail
       go_quiet (fail)
       go_wp2_with fail
       exact ⟨⟨k + 1, hkl, by rw [show ((k + 1 : Nat) : Int) = (k : Int) + 1 by omega], lbelow_drew HBY.out nq⟩, by simp [intOf]; omega⟩
      ·obtain rfl : ml = k := by omega
       clear hb hx hy
       go_wp2_with fail
       exact ⟨⟨i + 1, hlt, by rw [show ((i + 1 : Nat) : Int) = (i : Int) + 1 by omega], HB.out.trans ((HBX.out.trans (HBY.out.mono HBX.out.size)).mono HB.out.size)⟩, by simp [intOf]; omega⟩
    ·obtain rfl : i = n := by omega
     clear hb hc1 hc2
     go_wp2_with fail
     go_ret
     exact ⟨rfl, HB2.out.trans (HB.out.mono HB2.out.size)⟩
end Go.Proofs.YteohlpmojfjjdaaGreat.Chk
end
