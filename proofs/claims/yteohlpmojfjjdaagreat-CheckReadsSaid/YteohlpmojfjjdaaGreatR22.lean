/-
Texts: ChkComp ChkFew
-/
import Derived.Test.YteohlpmojfjjdaaGreatR0
import Derived.Test.YteohlpmojfjjdaaGreatR1
import Derived.Test.YteohlpmojfjjdaaGreatR2
import Derived.Test.YteohlpmojfjjdaaGreatR4
import Derived.Test.YteohlpmojfjjdaaGreatR7
import Derived.Test.YteohlpmojfjjdaaGreatR13
import Derived.Test.YteohlpmojfjjdaaGreatR14
import Derived.Test.YteohlpmojfjjdaaGreatR20
import Derived.Test.YteohlpmojfjjdaaGreatR21
import Derived.WalkKit
import Derived.ProofKit
import Derived.OpenShut
import Derived.Deep.Slices
import Derived.Deep.Fields
import Derived.ChangeSame
import Derived.Test.YteohlpmojfjjdaaGreatRows
set_option linter.unusedVariables false
set_option linter.unusedSimpArgs false
set_option maxRecDepth 100000
set_option maxHeartbeats 8000000
section
namespace Go.Proofs.YteohlpmojfjjdaaGreat.Chk
open Go.RowKit Go.Proofs.YteohlpmojfjjdaaGreat.Ord
open Lex (Tx Cr cr_ry lbelow_drew)
open Vars (scell Ons)
open Book (Tx.frm)
theorem load_abook {w : World} {g : Nat} {x0 x1 x2 : Value} (h : Cel w g 30 [x0, x1, x2]) : (loadVar 30 ⟨g, 0, none⟩).run Tryz.prog w = .ok (.agg #[x0, x1, x2]) w :=
 run_loadVar_mid (P := Tryz.prog) w g 0 30 [x0, x1, x2] _ (fun j v hv => by rw [Nat.zero_add, h.cell j, hv]) Tryz.underlying30 rfl (by kernel_rfl)
def fw3 (w : World) (g : Nat) (a b c : Value) : World := ((w.setCell ⟨g, 0, none⟩ a).setCell ⟨g, 1, none⟩ b).setCell ⟨g, 2, none⟩ c
theorem fw3_cel {w : World} {g : Nat} {t : TypeId} {x y z a b c : Value} (h : Cel w g t [x, y, z]) : Cel (fw3 w g a b c) g t [a, b, c] := ((h.set 0 a).set 1 b).set 2 c
theorem fw3_frm (w : World) (g : Nat) (a b c : Value) : Frm [g] w (fw3 w g a b c) := (((Frm.refl [g] w).set (p := ⟨g, 0, none⟩) (by simp) a).set (p := ⟨g, 1, none⟩) (by simp) b).set (p := ⟨g, 2, none⟩) (by simp) c
theorem Gbk.step {w : World} {T : Nat} {A : Option Addr} {vs : List Gs} (h : Gbk w T A vs) {i : Nat} {v : Gs} (hi : vs[i]? = some v) : ∃ ad, A = some ad ∧
  w.cell? (ad.add (i * 9)) = some (.int .i64 v.g.at_) ∧ w.cell? ⟨(ad.add (i * 9)).block, (ad.add (i * 9)).off + 1, none⟩ = some (.string (str v.g.name)) ∧ w.cell? ⟨(ad.add (i * 9)).block, (ad.add (i * 9)).off + 2, none⟩ = some (.int .i64 v.g.tag) ∧
  w.cell? ⟨(ad.add (i * 9)).block, (ad.add (i * 9)).off + 3, none⟩ = some (.bool v.g.sends) ∧ w.cell? ⟨(ad.add (i * 9)).block, (ad.add (i * 9)).off + 4, none⟩ = some (.slice v.A4 v.g.send.length v.c4) ∧ w.cell? ⟨(ad.add (i * 9)).block, (ad.add (i * 9)).off + 5, none⟩ = some (.slice v.A5 v.g.arms.length v.c5) ∧
  w.cell? ⟨(ad.add (i * 9)).block, (ad.add (i * 9)).off + 6, none⟩ = some (.int .i64 v.g.time) ∧ w.cell? ⟨(ad.add (i * 9)).block, (ad.add (i * 9)).off + 7, none⟩ = some (.int .i64 v.g.try_) ∧ w.cell? ⟨(ad.add (i * 9)).block, (ad.add (i * 9)).off + 8, none⟩ = some (.string (str v.g.els)) := by
 obtain ⟨ad, rfl, hc⟩ := h.cell hi
 refine ⟨ad, rfl, hc 0 _ rfl, ?_, ?_, ?_, ?_, ?_, ?_, ?_, ?_⟩
 all_goals rw [add_at9 _ _ _ (by decide)]
 ·exact hc 1 _ rfl
 ·exact hc 2 _ rfl
 ·exact hc 3 _ rfl
 ·exact hc 4 _ rfl
 ·exact hc 5 _ rfl
 ·exact hc 6 _ rfl
 ·exact hc 7 _ rfl
 ·exact hc 8 _ rfl
theorem Gbk.arm {w : World} {T : Nat} {A : Option Addr} {vs : List Gs} (h : Gbk w T A vs) {i : Nat} {v : Gs} (hi : vs[i]? = some v) {j : Nat} {a : Ga} (hj : v.avs[j]? = some a) : ∃ ad, v.A5 = some ad ∧
  w.cell? ⟨(ad.add (j * 4)).block, (ad.add (j * 4)).off + 1, none⟩ = some (.slice a.A a.g.pat.length a.c) ∧ w.cell? ⟨(ad.add (j * 4)).block, (ad.add (j * 4)).off + 2, none⟩ = some (.string (str a.g.as_)) ∧ w.cell? ⟨(ad.add (j * 4)).block, (ad.add (j * 4)).off + 3, none⟩ = some (.string (str a.g.go)) := by
 obtain ⟨ad, h5, hc⟩ := h.acell hi hj
 refine ⟨ad, h5, ?_, ?_, ?_⟩
 all_goals rw [add_at9 _ _ _ (by decide)]
 ·exact hc 1 _ rfl
 ·exact hc 2 _ rfl
 ·exact hc 3 _ rfl
theorem frm_cell {w w' : World} {g : Nat} {p : Addr} {v : Value} (hf : Frm [g] w w') (h : w.cell? p = some v) (hne : p.block ≠ g) : w'.cell? p = some v := (World.cell?_of_block (hf.block _ (cell_lt h) (by simp; exact hne))).trans h
theorem Below.cel {D : Nat} {w w' : World} (h : Below D w w') {g : Nat} {t : TypeId} {cs : List Value} (hc : Cel w g t cs) (hg : g < D) : Cel w' g t cs := (h.block _ hg).trans hc
theorem Co.begin {w V : World} {g T : Nat} {bm : Int} {A : Option Addr} {n c : Nat} {ns : List (List B)} {Av : Option Addr} {cv : Nat} (h1 : Cel V w.heap.size 38 [.int .i64 bm, .slice A n c]) (h2 : Cel V (w.heap.size + 1) 30 [.slice none 0 0, .slice none 0 0, .int .i64 0])
  (h3 : Cel V g 30 [.slice none 0 0, .slice Av ns.length cv, .int .i64 bm]) (h4 : w.heap.size + 1 < g) (h5 : Below w.heap.size w V) (h6 : Ry 9 V Av (ns.map scell)) : Co w V g T bm A n c ns Av cv none 0 [] :=
 ⟨h1, h2, h3, h4, h5, World.ownsRow_nil _ _ _ _, by simp, h6⟩
theorem compile_bad {b : GBook} {z p : Int} (h : check b = (z, p)) (hz : z ≠ 0) : compile b = .error (z, p) := by unfold compile; rw [h, if_pos hz]
theorem compile_ok {b : GBook} {p : Int} (h : check b = (0, p)) : compile b = .ok ⟨b.steps.map (cStep b), varsOf b, b.most⟩ := by unfold compile; rw [h, if_neg (by simp)]
theorem compile_ (w : World) (T : Nat) (A : Option Addr) (n c : Nat) (vs : List Gs) (h : Gbk w T A vs) (hT : T ≤ w.heap.size) (hl : vs.length = n) (hn : n ≤ 50000) (hs : sumA vs ≤ 50000) (most : Int) (hcap : ∀ v ∈ vs, v.g.send.length ≤ v.c4 ∧ v.g.send.length ≤ 100000 ∧ v.g.arms.length ≤ 50000) :
  Calls Tryz.prog 9 #[.agg #[.int .i64 most, .slice A n c]] w (CmSays w T (compile ⟨most, vs.map (·.g)⟩)) := by
 obtain ⟨w1, hw1⟩ : ∃ w1, w1 = w.alloc (.cells #[.int .i64 most, .slice A n c] 38) := ⟨_, rfl⟩
 have hb1 : Below w.heap.size w w1 := by rw [hw1]; exact (Below.refl _ _).alloc (Nat.le_refl _) _
 have hs1 : w1.heap.size = w.heap.size + 1 := by rw [hw1]; simp
 have hc1 : Cel w1 w.heap.size 38 [.int .i64 most, .slice A n c] := by rw [hw1]; exact Cel.new w _ _
 obtain ⟨w2, hw2⟩ : ∃ w2, w2 = w1.alloc (.cells #[.slice none 0 0, .slice none 0 0, .int .i64 0] 30) := ⟨_, rfl⟩
 have hb12 : Below w1.heap.size w1 w2 := by rw [hw2]; exact (Below.refl _ _).alloc (Nat.le_refl _) _
 have hc2 : Cel w2 (w.heap.size + 1) 30 [.slice none 0 0, .slice none 0 0, .int .i64 0] := by rw [hw2, ← hs1]; exact Cel.new w1 _ _
 have hb2 : Below w.heap.size w w2 := hb1.trans (hb12.mono hb1.size)
 have HC1 := Lib.hid ((hb12.block _ hc1.lt).trans hc1)
 have HC2 := Lib.hid hc2
 have HB2 := Lib.hid hb2
 have H := Lib.hid h
 have HL := Lib.hid hl
 obtain ⟨b, hb⟩ : ∃ b : GBook, b = ⟨most, vs.map (·.g)⟩ := ⟨_, rfl⟩
 have con := check_ w2 T A n c vs (h.below hT hb2) (Nat.le_trans hT hb2.size) hl hn hs most hcap
 have HVR := Lib.hid (fun V (hV : Below w.heap.size w V) => vars_ V T A n c vs (h.below hT hV) (Nat.le_trans hT hV.size) hl hn hs most)
 have HTG := Lib.hid (fun V (hV : Below w.heap.size w V) nm => target_ V T A n c vs (h.below hT hV) (Nat.le_trans hT hV.size) hl (by omega) most nm)
 have HST := Lib.hid (show b.steps = vs.map (·.g) by rw [hb])
 have HMO := Lib.hid (show b.most = most by rw [hb])
 rw [← hb] at con HVR HTG ⊢
 obtain ⟨⟨z, p⟩, hzp⟩ : ∃ q, q = check b := ⟨_, rfl⟩
 rw [← hzp] at con
 have HCK := Lib.hid hzp.symm
 have hcapm : ∀ v ∈ vs, v.g.arms.length ≤ 50000 := fun v hv => (hcap v hv).2.2
 have HCAP := Lib.hid hcapm
 rw [hw1] at hw2
 clear h hb1 hb12 hs1 hc1 hc2 hb2 hl hb hzp hcap hcapm hw1
 go_enter Tryz.func9, Tryz.ntmps9
 go_wp2_with fail
 rw [← hw2]
 clear hw2
 refine con.mono ?_
 clear con
 rintro e w3 ⟨rfl, hb3⟩
 have HB3 := Lib.hid (HB2.out.trans (hb3.mono HB2.out.size))
 have HBC := Lib.hid (show Cel w3 w.heap.size 38 [.int .i64 most, .slice A n c] from (hb3.block _ (Cel.lt HC1.out)).trans HC1.out)
 have HRC := Lib.hid (show Cel w3 (w.heap.size + 1) 30 [.slice none 0 0, .slice none 0 0, .int .i64 0] from (hb3.block _ HC2.out.lt).trans HC2.out)
 clear hb3 HC1 HC2 HB2
 by_cases hz : z = 0
 rotate_left
 ·have hzd : (z == 0) = false := by simpa using hz
  have HE := Lib.hid (compile_bad HCK.out hz)
  have HZ := Lib.hid hz
  have r0 := HRC.out.cell 0
  have r1 := HRC.out.cell 1
  have r2 := HRC.out.cell 2
  have l0 := HRC.out.free 0
  have l1 := HRC.out.free 1
  have l2 := HRC.out.free 2
  have HC3 := Lib.hid (fw3_cel (a := .slice none 0 0) (b := .slice none 0 0) (c := .int .i64 0) HRC.out)
  have HF3 := Lib.hid (fw3_frm w3 (w.heap.size + 1) (.slice none 0 0) (.slice none 0 0) (.int .i64 0))
  clear hz
  unfold fw3 at HC3 HF3
  go_wp2_with fail
  refine bodyPost_ret (v := .tuple #[.agg #[.slice none 0 0, .slice none 0 0, .int .i64 0], .int .i64 p, .int .i64 z]) (Lex.results_at3 2 30 3 4 Tryz.results9 ⟨w.heap.size + 1, 0, none⟩ rfl _ _ _ rfl rfl (load_abook HC3.out)) rfl ?_
  refine ⟨HB3.out.trans (HF3.out.below HB3.out.size (by intro q hq; rw [List.mem_singleton.1 hq]; omega)), ?_⟩
  rw [HE.out]
  exact ⟨HZ.out, rfl⟩
 subst hz
 have HE := Lib.hid (compile_ok HCK.out)
 clear HCK
 obtain ⟨ns, hns⟩ : ∃ ns, ns = varsOf b := ⟨_, rfl⟩
 rw [← hns] at HVR HE
 have HNS := Lib.hid hns
 clear hns
 go_upto_region 4 with fail
 go_cut [7] from 23 to 27 (fun s7 wx => ∃ (g : Nat) (Av : Option Addr) (cv : Nat), s7 = .pointer (some ⟨g, 0, none⟩) ∧ Co w wx g T most A n c ns Av cv none 0 [] ∧ ns.length ≤ 50000)
 case first =>
  refine wp_region_N [] (Below w3.heap.size w3) (by kernel_rfl) ?_
  have hH : Below w3.heap.size w3 w3.drew := (Below.refl _ _).drew
  refine tk_ 0 (.agg #[.int .i64 most, .slice A n c]) [] rfl hH ?_ ?_
  ·intro V hV; have c0 := (HBC.out.below hV HBC.out.lt).cell 0; have c1 := (HBC.out.below hV HBC.out.lt).cell 1; go_simp
  try simp only [Act.put, lay_]
  refine tk_ 2 (.pointer (some ⟨w.heap.size, 0, none⟩)) [] rfl hH ?_ ?_
  ·intro V hV; go_simp
  try simp only [Act.put, lay_]
  refine tk_ 3 (.int .i64 most) [] rfl hH ?_ ?_
  ·intro V hV; have c0 := (HBC.out.below hV HBC.out.lt).cell 0; go_simp
  try simp only [Act.put, lay_]
  refine wpAnyN_two (i := 1) (j := 5) (by kernel_rfl) rfl rfl (fun K hK => ?_) (fun K hK => ?_)
  ·have con5 := HVR.out w3.drew (HB3.out.trans (hH.mono HB3.out.size))
   go_simp
   refine con5.mono ?_
   rintro e w5 ⟨Av, cv, rfl, ho5, hb5, hl5⟩
   go_wp2_with fail
   have hH5 : Below w3.heap.size w3 w5 := hH.trans hb5
   refine hK.out _ _ (.inr hH5) ?_
   clear hK K con5 hH
   have hH := hH5
   try simp only [Act.put, lay_]
   refine tk_ 4 (.agg #[.slice none 0 0, .slice Av ns.length cv, .int .i64 most]) [] rfl hH ?_ ?_
   ·intro V hV; go_simp
   try simp only [Act.put, lay_]
   have hc6 := Cel.new w5 30 [.slice none 0 0, .slice Av ns.length cv, .int .i64 most]
   have hb6 : Below w5.heap.size w5 (w5.alloc (.cells #[.slice none 0 0, .slice Av ns.length cv, .int .i64 most] 30)) := (Below.refl _ _).alloc (Nat.le_refl _) _
   have hb60 : Below w5.heap.size w5 (w5.alloc (.cells #[.slice none 0 0, .slice none 0 0, .int .i64 0] 30)) := (Below.refl _ _).alloc (Nat.le_refl _) _
   refine wpAnyN_one (i := 5) (by kernel_rfl) rfl (fun K hK => ?_)
   go_simp
   refine hK.out _ _ (.inr (hH5.trans (hb60.mono hH5.size))) ?_
   clear hK K
   try simp only [Act.put, lay_]
   refine wpAnyN_one (i := 6) (by kernel_rfl) rfl (fun K hK => ?_)
   go_simp
   refine hK.out _ _ (.inr (hH5.trans (hb6.mono hH5.size))) ?_
   clear hK K
   try simp only [Act.put, lay_]
   refine wpAnyN_done (by kernel_rfl) ?_ _
   have hbw5 := hH5
   have HCO := Lib.hid (show Co w (w5.alloc (.cells #[.slice none 0 0, .slice Av ns.length cv, .int .i64 most] 30)) w5.heap.size T most A n c ns Av cv none 0 [] from
    Co.begin (Below.cel hb6 (Below.cel hbw5 HBC.out HBC.out.lt) (Cel.lt (Below.cel hbw5 HBC.out HBC.out.lt))) (Below.cel hb6 (Below.cel hbw5 HRC.out HRC.out.lt) (Cel.lt (Below.cel hbw5 HRC.out HRC.out.lt))) hc6 (Nat.lt_of_lt_of_le HRC.out.lt hH5.size) ((HB3.out.trans (hH5.mono HB3.out.size)).trans (hb6.mono (Nat.le_trans HB3.out.size hH5.size))) ((Ry.of_own ho5 (by decide)).below hb6))
   clear ho5 hb5 hH5 hc6 hb6 hb60 hbw5
   go_wp2_with fail
   go_meet
   case rel => exact ⟨w5.heap.size, Av, cv, rfl, HCO.out, hl5⟩
  ·have hb4 : Below w3.heap.size w3 (w3.drew.alloc (.cells #[.slice none 0 0, .slice none 0 0, .int .i64 0] 30)) := hH.alloc (Nat.le_refl _) _
   have hc4 : Cel (w3.drew.alloc (.cells #[.slice none 0 0, .slice none 0 0, .int .i64 0] 30)) w3.heap.size 30 [.slice none 0 0, .slice none 0 0, .int .i64 0] := Cel.new w3.drew _ _
   go_simp
   refine hK.out _ _ (.inr hb4) ?_
   clear hK K
   try simp only [Act.put, lay_]
   have con5 := HVR.out _ (HB3.out.trans (hb4.mono HB3.out.size))
   refine wpAnyN_one (i := 1) (by kernel_rfl) rfl (fun K hK => ?_)
   go_simp
   refine con5.mono ?_
   rintro e w5 ⟨Av, cv, rfl, ho5, hb5, hl5⟩
   go_wp2_with fail
   have hc5 : Cel w5 w3.heap.size 30 [.slice none 0 0, .slice none 0 0, .int .i64 0] := (hb5.block _ hc4.lt).trans hc4
   have hH : Below w3.heap.size w3 w5 := hb4.trans (hb5.mono hb4.size)
   refine hK.out _ _ (.inr hH) ?_
   clear hK K con5
   try simp only [Act.put, lay_]
   refine tk_ 4 (.agg #[.slice none 0 0, .slice Av ns.length cv, .int .i64 most]) [] rfl hH ?_ ?_
   ·intro V hV; go_simp
   try simp only [Act.put, lay_]
   have k0 := hc5.cell 0
   have k1 := hc5.cell 1
   have k2 := hc5.cell 2
   have f0 := hc5.free 0
   have f1 := hc5.free 1
   have f2 := hc5.free 2
   have hc6 := fw3_cel (a := .slice none 0 0) (b := .slice Av ns.length cv) (c := .int .i64 most) hc5
   have hf6 := fw3_frm w5 w3.heap.size (.slice none 0 0) (.slice Av ns.length cv) (.int .i64 most)
   have hb6 : Below w3.heap.size w3 (fw3 w5 w3.heap.size (.slice none 0 0) (.slice Av ns.length cv) (.int .i64 most)) := hH.trans (hf6.below hH.size (by intro q hq; rw [List.mem_singleton.1 hq]; exact Nat.le_refl _))
   have HCO := Lib.hid (show Co w (fw3 w5 w3.heap.size (.slice none 0 0) (.slice Av ns.length cv) (.int .i64 most)) w3.heap.size T most A n c ns Av cv none 0 [] from
    Co.begin (Below.cel hb6 HBC.out HBC.out.lt) (Below.cel hb6 HRC.out HRC.out.lt) hc6 HRC.out.lt (HB3.out.trans (hb6.mono HB3.out.size)) ((Ry.of_own ho5 (by decide)).frm hf6 (fun k hk => by rw [List.mem_singleton.1 hk]; exact Cel.not_ty hc5 (by decide))))
   unfold fw3 at HCO hb6
   refine wpAnyN_one (i := 6) (by kernel_rfl) rfl (fun K hK => ?_)
   go_simp
   refine hK.out _ _ (.inr hb6) ?_
   clear hK K
   try simp only [Act.put, lay_]
   refine wpAnyN_done (by kernel_rfl) ?_ _
   clear ho5 hb5 hc5 hc6 hf6 hb6 hH hb4 hc4 k0 k1 k2 f0 f1 f2
   go_wp2_with fail
   go_meet
   case rel => exact ⟨w3.heap.size, Av, cv, rfl, HCO.out, hl5⟩
 case rest =>
  obtain ⟨g, Av, cv, rfl, hco, hns5⟩ := hcut
  obtain ⟨W4, hW4⟩ : ∃ W4, W4 = wc := ⟨_, rfl⟩
  rw [← hW4] at hco ⊢
  clear hW4
  have HCO := Lib.hid hco
  clear hco HBC HRC HB3
  have hTw := hT
  go_wp2_with fail
  go_loopw [8] (fun v8 wr => ∃ (i : Nat) (As : Option Addr) (cs : Nat) (out : List Cs), i ≤ n ∧ v8 = .int .i64 (i : Int) ∧ out.length = i ∧ Co w wr g T most A n c ns Av cv As cs out ∧ Hid (out.map (·.s) = (b.steps.take i).map (cStep b))) (fun v8 _ => n - (intOf v8).toNat)
  case atStart => exact ⟨0, none, 0, [], Nat.zero_le _, rfl, rfl, HCO.out, Lib.hid (by simp)⟩
  case round =>
   clear HCO
   obtain ⟨i, As, cs, out, hi, rfl, holn, hco, HO⟩ := hrel
   obtain ⟨W0, rfl⟩ : ∃ W0, W0 = wr := ⟨_, rfl⟩
   have HCO := Lib.hid hco
   have b1 := hco.bc.cell 1
   have b0 := hco.bc.cell 0
   have lb := hco.bc.lt
   have hT0 : T ≤ W0.heap.size := Nat.le_trans hT hco.bel.size
   have HLN := Lib.hid holn
   clear hco holn
   rcases Nat.lt_or_ge i n with hlt | hge
   ·obtain ⟨v, hv⟩ : ∃ v, vs[i]? = some v := ⟨_, List.getElem?_eq_getElem (by rw [HL.out]; exact hlt)⟩
    have hG := H.out.below hTw HCO.out.bel
    obtain ⟨ad, rfl, x0, x1, x2, x3, x4, x5, x6, x7, x8⟩ := hG.step hv
    have lx : (ad.add (i * 9)).block < W0.heap.size := cell_lt x0
    have HV := Lib.hid hv
    have HAV := Lib.hid ((hG.arms v (List.mem_of_getElem? hv)).2)
    have HSE := Lib.hid (hG.send v (List.mem_of_getElem? hv))
    have ham := HCAP.out v (List.mem_of_getElem? hv)
    obtain ⟨W1, hW1⟩ : ∃ W1, W1 = W0.alloc (.cells #[.int .i64 v.g.at_, .string (str v.g.name), .int .i64 v.g.tag, .bool v.g.sends, .slice v.A4 v.g.send.length v.c4, .slice v.A5 v.g.arms.length v.c5, .int .i64 v.g.time, .int .i64 v.g.try_, .string (str v.g.els)] 67) := ⟨_, rfl⟩
    have hbW1 : Below W0.heap.size W0 W1 := by rw [hW1]; exact (Below.refl _ _).alloc (Nat.le_refl _) _
    have hsW1 : W1.heap.size = W0.heap.size + 1 := by rw [hW1]; simp
    have hcW1 : Cel W1 W0.heap.size 67 v.cells := by rw [hW1]; exact Cel.new W0 _ _
    obtain ⟨W2, hW2⟩ : ∃ W2, W2 = W1.alloc (.cells #[.string (str v.g.name), .int .i64 v.g.tag, .slice v.A4 v.g.send.length v.c4, .slice none 0 0, .int .i64 v.g.time, .int .i64 v.g.try_, .int .i64 0] 49) := ⟨_, rfl⟩
    have hbW2 : Below W1.heap.size W1 W2 := by rw [hW2]; exact (Below.refl _ _).alloc (Nat.le_refl _) _
    have hcW2 : Cel W2 (W0.heap.size + 1) 49 (xcells v 0 none 0 0) := by rw [hW2, ← hsW1]; exact Cel.new W1 _ _
    have HCI2 := Lib.hid (show Ci W0 W2 T v 0 none 0 [] from ⟨(hbW2.block _ hcW1.lt).trans hcW1, hcW2, hbW1.trans (hbW2.mono hbW1.size), World.ownsRow_nil _ _ _ _, by simp⟩)
    have con := HTG.out W2 (HCO.out.bel.trans (HCI2.out.bel.mono HCO.out.bel.size)) v.g.els
    obtain ⟨⟨t1, t2⟩, ht⟩ : ∃ t, t = target b v.g.els := ⟨_, rfl⟩
    rw [← ht] at con
    have HTE := Lib.hid (show (target b v.g.els).1 = t1 by rw [← ht])
    rw [hW1] at hW2
    clear hv hG hbW1 hsW1 hcW1 hbW2 hcW2 ht hW1
    obtain ⟨m, hm⟩ : ∃ m, m = v.g.arms.length := ⟨_, rfl⟩
    rw [← hm] at x5 hW2 ham
    have HM := Lib.hid hm
    clear hm
    go_wp2_with fail
    rw [← hW2]
    clear hW2
    refine con.mono ?_
    clear con
    rintro e W3 ⟨rfl, hb3⟩
    have hci3 := HCI2.out.below hT0 hb3
    have k6 : W3.cell? ⟨W0.heap.size + 1, 6, none⟩ = some (.int .i64 0) := hci3.xc.cell 6
    have f6 := hci3.xc.free 6
    obtain ⟨W4, hW4⟩ : ∃ W4, W4 = W3.setCell ⟨W0.heap.size + 1, 6, none⟩ (.int .i64 t1) := ⟨_, rfl⟩
    have HCI := Lib.hid (show Ci W0 W4 T v t1 none 0 [] by
     have hf : Frm [W0.heap.size + 1] W3 W4 := by rw [hW4]; exact (Frm.refl _ W3).set (by simp) _
     refine ⟨(hf.block _ hci3.sc.lt (by simp)).trans hci3.sc, ?_, hci3.bel.trans (hf.below hci3.bel.size (by intro q hq; rw [List.mem_singleton.1 hq]; omega)), World.ownsRow_nil _ _ _ _, by simp⟩
     rw [hW4]
     exact hci3.xc.set 6 (.int .i64 t1))
    clear hci3 hb3 HCI2 x0 x1 x2 x3 x4 x5 x6 x7 x8 b0 b1 lx
    go_wp2_with fail
    rw [← hW4]
    clear hW4 k6 f6
    go_loopw [11] (fun v11 wr => ∃ (k : Nat) (A3 : Option Addr) (k3 : Nat) (cas : List Ca), k ≤ m ∧ v11 = .int .i64 (k : Int) ∧ cas.length = k ∧ Ci W0 wr T v t1 A3 k3 cas ∧ Hid (cas.map (·.c) = (v.g.arms.take k).map (cArm b))) (fun v11 _ => m - (intOf v11).toNat)
    case atStart => exact ⟨0, none, 0, [], Nat.zero_le _, rfl, rfl, HCI.out, Lib.hid (by simp)⟩
    case round =>
     clear HCI
     obtain ⟨k, A3, k3, cas, hk, rfl, hcln, hci, HK⟩ := hrel
     obtain ⟨V0, rfl⟩ : ∃ V0, V0 = wr := ⟨_, rfl⟩
     have hcov := HCO.out.below hT hci.bel
     have HCOV := Lib.hid hcov
     have HCI := Lib.hid hci
     have HCLN := Lib.hid hcln
     have k5 : V0.cell? ⟨W0.heap.size, 5, none⟩ = some (.slice v.A5 m v.c5) := by rw [HM.out]; exact hci.sc.cell 5
     have hT1 : T ≤ V0.heap.size := Nat.le_trans hT0 hci.bel.size
     have l5 := hci.sc.lt
     have lg := hcov.oc.lt
     rcases Nat.lt_or_ge k m with hkm | hkm
     ·obtain ⟨a, ha⟩ : ∃ a, v.avs[k]? = some a := ⟨_, List.getElem?_eq_getElem (by have := congrArg List.length HAV.out; rw [List.length_map] at this; rw [this, ← HM.out]; exact hkm)⟩
      obtain ⟨bd, h5, y1, y2, y3⟩ := (H.out.below hTw hcov.bel).arm HV.out ha
      have hpt := (H.out.below hTw hcov.bel).pats v (List.mem_of_getElem? HV.out) a (List.mem_of_getElem? ha)
      rw [h5] at k5
      have kg := hcov.oc.cell 1
      have b0 := hcov.bc.cell 0
      have b1 := hcov.bc.cell 1
      have HPT := Lib.hid hpt
      have HA := Lib.hid ha
      have HATF := Lib.hid (fun V (hV : Below V0.heap.size V0 V) => at_ V Av ns.length cv ns (cr_ry (hcov.nms.below hV)) rfl (by omega) a.g.as_)
      obtain ⟨tv, htv⟩ : ∃ tv, tv = atOf ns a.g.as_ := ⟨_, rfl⟩
      rw [← htv] at HATF
      have HTV := Lib.hid htv
      obtain ⟨pl, hpl⟩ : ∃ pl, pl = a.g.pat.length := ⟨_, rfl⟩
      rw [← hpl] at y1
      have HPL := Lib.hid hpl
      obtain ⟨sas, hsas⟩ : ∃ q, q = str a.g.as_ := ⟨_, rfl⟩
      rw [← hsas] at y2 HATF
      have HSAS := Lib.hid hsas
      have lbw := hcov.bc.lt
      clear hcov hci hcln h5 hpt ha htv hpl hsas
      go_upto_region 14 with fail
      go_cut [12] from 66 to 81 (fun s12 wx => s12 = .pointer (some ⟨V0.heap.size, 0, none⟩) ∧ Cel wx V0.heap.size 54 [.slice a.A pl a.c, .int .i64 tv, .int .i64 0] ∧ Below V0.heap.size V0 wx)
      case first =>
       refine wp_region_N [] (Below V0.heap.size V0) (by kernel_rfl) ?_
       have hH : Below V0.heap.size V0 V0.drew := (Below.refl _ _).drew
       refine tk_ 0 (.pointer (some ⟨W0.heap.size, 5, none⟩)) [] rfl hH ?_ ?_
       ·intro V hV; go_simp
       try simp only [Act.put, lay_]
       refine tk_ 1 (.slice (some bd) m v.c5) [] rfl hH ?_ ?_
       ·intro V hV; have c := (hV.cell (cell_lt k5)).trans k5; go_simp
       try simp only [Act.put, lay_]
       refine tk_ 2 (.int .i64 (k : Int)) [] rfl hH ?_ ?_
       ·intro V hV; go_simp
       try simp only [Act.put, lay_]
       refine tk_ 3 (.pointer (some (bd.add (k * 4)))) [] rfl hH ?_ ?_
       ·intro V hV; go_simp
       try simp only [Act.put, lay_]
       refine tk_ 4 (.pointer (some ⟨(bd.add (k * 4)).block, (bd.add (k * 4)).off + 1, none⟩)) [] rfl hH ?_ ?_
       ·intro V hV; go_simp
       try simp only [Act.put, lay_]
       refine tk_ 5 (.slice a.A pl a.c) [] rfl hH ?_ ?_
       ·intro V hV; have c := (hV.cell (cell_lt y1)).trans y1; go_simp
       try simp only [Act.put, lay_]
       refine tk_ 6 (.pointer (some ⟨g, 1, none⟩)) [] rfl hH ?_ ?_
       ·intro V hV; go_simp
       try simp only [Act.put, lay_]
       refine tk_ 7 (.slice Av ns.length cv) [] rfl hH ?_ ?_
       ·intro V hV; have c := (hV.cell (cell_lt kg)).trans kg; go_simp
       try simp only [Act.put, lay_]
       refine tk_ 8 (.pointer (some ⟨W0.heap.size, 5, none⟩)) [] rfl hH ?_ ?_
       ·intro V hV; go_simp
       try simp only [Act.put, lay_]
       refine tk_ 9 (.slice (some bd) m v.c5) [] rfl hH ?_ ?_
       ·intro V hV; have c := (hV.cell (cell_lt k5)).trans k5; go_simp
       try simp only [Act.put, lay_]
       refine tk_ 10 (.int .i64 (k : Int)) [] rfl hH ?_ ?_
       ·intro V hV; go_simp
       try simp only [Act.put, lay_]
       refine tk_ 11 (.pointer (some (bd.add (k * 4)))) [] rfl hH ?_ ?_
       ·intro V hV; go_simp
       try simp only [Act.put, lay_]
       refine tk_ 12 (.pointer (some ⟨(bd.add (k * 4)).block, (bd.add (k * 4)).off + 2, none⟩)) [] rfl hH ?_ ?_
       ·intro V hV; go_simp
       try simp only [Act.put, lay_]
       refine tk_ 13 (.string sas) [] rfl hH ?_ ?_
       ·intro V hV; have c := (hV.cell (cell_lt y2)).trans y2; go_simp
       try simp only [Act.put, lay_]
       have hbz : Below V0.heap.size V0 (V0.drew.alloc (.cells #[.slice none 0 0, .int .i64 0, .int .i64 0] 54)) := hH.alloc (Nat.le_refl _) _
       have hbf : Below V0.heap.size V0 (V0.drew.alloc (.cells #[.slice a.A pl a.c, .int .i64 tv, .int .i64 0] 54)) := hH.alloc (Nat.le_refl _) _
       have HCF := Lib.hid (show Cel (V0.drew.alloc (.cells #[.slice a.A pl a.c, .int .i64 tv, .int .i64 0] 54)) V0.heap.size 54 [.slice a.A pl a.c, .int .i64 tv, .int .i64 0] from Cel.new V0.drew _ _)
       have HBF := Lib.hid hbf
       refine wpAnyN_two (i := 14) (j := 16) (by kernel_rfl) rfl rfl (fun K hK => ?_) (fun K hK => ?_)
       ·have con6 := HATF.out V0.drew hH
        go_simp
        refine con6.mono ?_
        rintro e w6 ⟨rfl, rfl⟩
        go_wp2_with fail
        refine hK.out _ _ (.inr hH) ?_
        clear hK K con6
        try simp only [Act.put, lay_]
        refine tk_ 15 (.agg #[.slice a.A pl a.c, .int .i64 tv, .int .i64 0]) [] rfl hH ?_ ?_
        ·intro V hV; go_simp
        try simp only [Act.put, lay_]
        refine wpAnyN_one (i := 16) (by kernel_rfl) rfl (fun K hK => ?_)
        go_simp
        refine hK.out _ _ (.inr hbz) ?_
        clear hK K
        try simp only [Act.put, lay_]
        refine wpAnyN_one (i := 17) (by kernel_rfl) rfl (fun K hK => ?_)
        go_simp
        refine hK.out _ _ (.inr hbf) ?_
        clear hK K
        try simp only [Act.put, lay_]
        refine wpAnyN_done (by kernel_rfl) ?_ _
        clear hH hbz hbf
        go_wp2_with fail
        go_meet
        case rel => exact ⟨rfl, HCF.out, HBF.out⟩
       ·go_simp
        refine hK.out _ _ (.inr hbz) ?_
        clear hK K
        try simp only [Act.put, lay_]
        have con6 := HATF.out _ hbz
        refine wpAnyN_one (i := 14) (by kernel_rfl) rfl (fun K hK => ?_)
        go_simp
        refine con6.mono ?_
        rintro e w6 ⟨rfl, rfl⟩
        go_wp2_with fail
        refine hK.out _ _ (.inr hbz) ?_
        clear hK K con6
        have hH := hbz
        try simp only [Act.put, lay_]
        refine tk_ 15 (.agg #[.slice a.A pl a.c, .int .i64 tv, .int .i64 0]) [] rfl hH ?_ ?_
        ·intro V hV; go_simp
        try simp only [Act.put, lay_]
        refine wpAnyN_one (i := 17) (by kernel_rfl) rfl (fun K hK => ?_)
        go_simp
        refine hK.out _ _ (.inr hbf) ?_
        clear hK K
        try simp only [Act.put, lay_]
        refine wpAnyN_done (by kernel_rfl) ?_ _
        clear hH hbz hbf
        go_wp2_with fail
        go_meet
        case rel => exact ⟨rfl, HCF.out, HBF.out⟩
      case rest =>
       obtain ⟨rfl, hca, hbv⟩ := hcut
       obtain ⟨V1, hV1⟩ : ∃ V1, V1 = wc := ⟨_, rfl⟩
       rw [← hV1] at hca hbv ⊢
       clear hV1
       have c5 := (hbv.cell (cell_lt k5)).trans k5
       have z3 := (hbv.cell (cell_lt y3)).trans y3
       have d0 := (hbv.cell (cell_lt b0)).trans b0
       have d1 := (hbv.cell (cell_lt b1)).trans b1
       have n0 : w.heap.size ≠ V0.heap.size := Nat.ne_of_lt (cell_lt b0)
       have n5 : W0.heap.size ≠ V0.heap.size := Nat.ne_of_lt (cell_lt k5)
       have n3 : (bd.add (k * 4)).block ≠ V0.heap.size := by have := cell_lt (p := ⟨(bd.add (k * 4)).block, (bd.add (k * 4)).off + 3, none⟩) y3; exact Nat.ne_of_lt this
       have HBV := Lib.hid hbv
       obtain ⟨sgo, hsgo⟩ : ∃ q, q = str a.g.go := ⟨_, rfl⟩
       rw [← hsgo] at z3
       obtain ⟨⟨tg, tb⟩, htg⟩ : ∃ q, q = target b a.g.go := ⟨_, rfl⟩
       have con7 := HTG.out V1.drew (((HCOV.out.bel.trans (hbv.mono HCOV.out.bel.size))).drew) a.g.go
       rw [← htg, ← hsgo] at con7
       have HTGO := Lib.hid (show (target b a.g.go).1 = tg by rw [← htg])
       clear k5 y1 y2 y3 b0 b1 kg hbv htg hsgo l5 lg lbw
       go_wp2_with fail
       refine wp_region_N [] (fun V => V.cell? ⟨w.heap.size, 0, none⟩ = some (.int .i64 most) ∧ V.cell? ⟨w.heap.size, 1, none⟩ = some (.slice (some ad) n c) ∧ V.cell? ⟨W0.heap.size, 5, none⟩ = some (.slice (some bd) m v.c5) ∧ V.cell? ⟨(bd.add (k * 4)).block, (bd.add (k * 4)).off + 3, none⟩ = some (.string sgo)) (by kernel_rfl) ?_
       have hH : (fun V => V.cell? ⟨w.heap.size, 0, none⟩ = some (.int .i64 most) ∧ V.cell? ⟨w.heap.size, 1, none⟩ = some (.slice (some ad) n c) ∧ V.cell? ⟨W0.heap.size, 5, none⟩ = some (.slice (some bd) m v.c5) ∧ V.cell? ⟨(bd.add (k * 4)).block, (bd.add (k * 4)).off + 3, none⟩ = some (.string sgo)) V1.drew := ⟨d0, d1, c5, z3⟩
       refine tk_ 0 (.agg #[.int .i64 most, .slice (some ad) n c]) [] rfl hH ?_ ?_
       ·intro V hV; obtain ⟨q0, q1, q2, q3⟩ := hV; go_simp
       try simp only [Act.put, lay_]
       refine tk_ 1 (.pointer (some ⟨W0.heap.size, 5, none⟩)) [] rfl hH ?_ ?_
       ·intro V hV; go_simp
       try simp only [Act.put, lay_]
       refine tk_ 2 (.slice (some bd) m v.c5) [] rfl hH ?_ ?_
       ·intro V hV; obtain ⟨q0, q1, q2, q3⟩ := hV; go_simp
       try simp only [Act.put, lay_]
       refine tk_ 3 (.int .i64 (k : Int)) [] rfl hH ?_ ?_
       ·intro V hV; go_simp
       try simp only [Act.put, lay_]
       refine tk_ 4 (.pointer (some (bd.add (k * 4)))) [] rfl hH ?_ ?_
       ·intro V hV; go_simp
       try simp only [Act.put, lay_]
       refine tk_ 5 (.pointer (some ⟨(bd.add (k * 4)).block, (bd.add (k * 4)).off + 3, none⟩)) [] rfl hH ?_ ?_
       ·intro V hV; go_simp
       try simp only [Act.put, lay_]
       refine tk_ 6 (.string sgo) [] rfl hH ?_ ?_
       ·intro V hV; obtain ⟨q0, q1, q2, q3⟩ := hV; go_simp
       try simp only [Act.put, lay_]
       refine wpAnyN_one (i := 7) (by kernel_rfl) rfl (fun K hK => ?_)
       go_simp
       refine con7.mono ?_
       rintro e V2 ⟨rfl, hb2⟩
       go_wp2_with fail
       replace hb2 : Below V1.heap.size V1 V2 := (Below.refl V1.heap.size V1).drew.trans hb2
       have hS2 : (fun V => V.cell? ⟨w.heap.size, 0, none⟩ = some (.int .i64 most) ∧ V.cell? ⟨w.heap.size, 1, none⟩ = some (.slice (some ad) n c) ∧ V.cell? ⟨W0.heap.size, 5, none⟩ = some (.slice (some bd) m v.c5) ∧ V.cell? ⟨(bd.add (k * 4)).block, (bd.add (k * 4)).off + 3, none⟩ = some (.string sgo)) V2 := ⟨(hb2.cell (cell_lt d0)).trans d0, (hb2.cell (cell_lt d1)).trans d1, (hb2.cell (cell_lt c5)).trans c5, (hb2.cell (cell_lt z3)).trans z3⟩
       refine hK.out _ _ (.inr hS2) ?_
       have hca2 := (hb2.block _ (Cel.lt hca)).trans hca
       replace hca2 : Cel V2 V0.heap.size 54 [.slice a.A pl a.c, .int .i64 tv, .int .i64 0] := hca2
       clear hK K con7 hH hca
       have hH := hS2
       try simp only [Act.put, lay_]
       refine tk_ 8 (.tuple #[.int .i64 tg, .bool tb]) [] rfl hH ?_ ?_
       ·intro V hV; go_simp
       try simp only [Act.put, lay_]
       refine tk_ 9 (.int .i64 tg) [] rfl hH ?_ ?_
       ·intro V hV; go_simp
       try simp only [Act.put, lay_]
       refine tk_ 10 (.bool tb) [] rfl hH ?_ ?_
       ·intro V hV; go_simp
       try simp only [Act.put, lay_]
       refine tk_ 11 (.pointer (some ⟨V0.heap.size, 2, none⟩)) [] rfl hH ?_ ?_
       ·intro V hV; go_simp
       try simp only [Act.put, lay_]
       have k2 := hca2.cell 2
       have f2 := hca2.free 2
       have hf3 : Frm [V0.heap.size] V2 (V2.setCell ⟨V0.heap.size, 2, none⟩ (.int .i64 tg)) := (Frm.refl _ V2).set (by simp) _
       have hS3 : (fun V => V.cell? ⟨w.heap.size, 0, none⟩ = some (.int .i64 most) ∧ V.cell? ⟨w.heap.size, 1, none⟩ = some (.slice (some ad) n c) ∧ V.cell? ⟨W0.heap.size, 5, none⟩ = some (.slice (some bd) m v.c5) ∧ V.cell? ⟨(bd.add (k * 4)).block, (bd.add (k * 4)).off + 3, none⟩ = some (.string sgo)) (V2.setCell ⟨V0.heap.size, 2, none⟩ (.int .i64 tg)) := ⟨frm_cell hf3 hS2.1 n0, frm_cell hf3 hS2.2.1 n0, frm_cell hf3 hS2.2.2.1 n5, frm_cell hf3 hS2.2.2.2 n3⟩
       obtain ⟨V3, hV3⟩ : ∃ V3, V3 = V2.setCell ⟨V0.heap.size, 2, none⟩ (.int .i64 tg) := ⟨_, rfl⟩
       have hca3 : Cel V3 V0.heap.size 54 [.slice a.A pl a.c, .int .i64 tv, .int .i64 tg] := by rw [hV3]; exact hca2.set 2 (.int .i64 tg)
       have hb03 : Below V0.heap.size V0 V3 := by rw [hV3]; exact (HBV.out.trans (hb2.mono HBV.out.size)).trans (hf3.below (Nat.le_trans HBV.out.size hb2.size) (by intro q hq; rw [List.mem_singleton.1 hq]; exact Nat.le_refl _))
       refine wpAnyN_one (i := 12) (by kernel_rfl) rfl (fun K hK => ?_)
       go_simp
       refine hK.out _ _ (.inr hS3) ?_
       rw [← hV3]
       clear hK K
       try simp only [Act.put, lay_]
       refine wpAnyN_done (by kernel_rfl) ?_ _
       have hci3 := HCI.out.below hT0 hb03
       have m3 : V3.cell? ⟨W0.heap.size + 1, 3, none⟩ = some (.slice A3 cas.length k3) := hci3.xc.cell 3
       have q0 := hca3.cell 0
       have q1 := hca3.cell 1
       have q2 := hca3.cell 2
       have la := hca3.lt
       have lx1 := hci3.xc.lt
       have hb34 : Below V3.heap.size V3 (V3.alloc (.cells #[.slice a.A pl a.c, .int .i64 tv, .int .i64 tg] 54)) := (Below.refl _ _).alloc (Nat.le_refl _) _
       have HCI4 := Lib.hid (hci3.below hT0 hb34)
       have HSRC := Lib.hid (Ry.src (m := 1) (Ry.of_cel (Cel.new V3 54 [.slice a.A pl a.c, .int .i64 tv, .int .i64 tg])) (by simp))
       have HTX4 := Lib.hid ((HPT.out.below hT1 hb03).below (Nat.le_trans hT1 hb03.size) hb34)
       have hs4 : W0.heap.size ≤ (V3.alloc (.cells #[.slice a.A pl a.c, .int .i64 tv, .int .i64 tg] 54)).heap.size := HCI4.out.bel.size
       have hcl : cas.length ≤ 50000 := by rw [HCLN.out]; omega
       obtain ⟨xa, hxa⟩ : ∃ xa : Ca, xa = ⟨⟨a.g.pat, tv, tg⟩, a.A, a.c⟩ := ⟨_, rfl⟩
       have HXC := Lib.hid (show xa.cells = [.slice a.A pl a.c, .int .i64 tv, .int .i64 tg] by rw [hxa, HPL.out]; rfl)
       have HXT := Lib.hid (show Tx (V3.alloc (.cells #[.slice a.A pl a.c, .int .i64 tv, .int .i64 tg] 54)) T xa.A xa.c.pat by rw [hxa]; exact HTX4.out)
       have HK2 := Lib.hid (show (cas ++ [xa]).map (·.c) = (v.g.arms.take (k + 1)).map (cArm b) by
        have ha2 : v.g.arms[k]? = some a.g := by rw [← HAV.out, List.getElem?_map, HA.out]; rfl
        rw [List.take_add_one, ha2, List.map_append, List.map_append, HK.out, hxa]
        show _ ++ [_] = _ ++ [cArm b a.g]
        unfold cArm
        rw [HTGO.out, ← HNS.out, ← HTV.out])
       clear hV3 hca3 hb03 hci3 hb34 hS2 hS3 hH hca2 hf3 k2 f2 hb2 c5 z3 d0 d1 n0 n5 n3 hxa
       go_wp2_with ((at_builtin; refine wpList_append_any _ rfl _ _ 47 rfl W0.heap.size 54 rowCa (.slice A3 cas.length k3) cas.length (caflat cas) rfl HCI4.out.own (some ⟨V3.heap.size, 0, none⟩) 1 1 [.slice a.A pl a.c, .int .i64 tv, .int .i64 tg] rfl rfl HSRC.out (by intro u hu; simp at hu; rcases hu with rfl | rfl | rfl <;> rfl) (cas.length + 1) _ rfl rfl (by unfold maxLen; omega) (by omega) hs4 ?_; intro A8 c8 w8 ho8 hg8 _; rw [← HXC.out] at ho8; obtain ⟨hx8, hci8⟩ := HCI4.out.arm hT0 HXT.out hg8 ho8; have k8 : w8.cell? ⟨W0.heap.size + 1, 3, none⟩ = some (.slice A3 cas.length k3) := hx8.cell 3; have f8 := hx8.free 3; have HCI8 := Lib.hid hci8; clear ho8 hg8 hx8 hci8))
       exact ⟨⟨k + 1, A8, c8, cas ++ [xa], hkm, by rw [show ((k + 1 : Nat) : Int) = (k : Int) + 1 by omega], by rw [List.length_append, HCLN.out]; rfl, HCI8.out, HK2⟩, by simp [intOf]; omega⟩
     ·obtain rfl : k = m := by omega
      clear hcln
      have m0 := hcov.oc.cell 0
      have hcx := hci.xc
      have q0 : V0.cell? ⟨W0.heap.size + 1, 0, none⟩ = some (.string (str v.g.name)) := hcx.cell 0
      have q1 : V0.cell? ⟨W0.heap.size + 1, 1, none⟩ = some (.int .i64 v.g.tag) := hcx.cell 1
      have q2 : V0.cell? ⟨W0.heap.size + 1, 2, none⟩ = some (.slice v.A4 v.g.send.length v.c4) := hcx.cell 2
      have q3 : V0.cell? ⟨W0.heap.size + 1, 3, none⟩ = some (.slice A3 cas.length k3) := hcx.cell 3
      have q4 : V0.cell? ⟨W0.heap.size + 1, 4, none⟩ = some (.int .i64 v.g.time) := hcx.cell 4
      have q5 : V0.cell? ⟨W0.heap.size + 1, 5, none⟩ = some (.int .i64 v.g.try_) := hcx.cell 5
      have q6 : V0.cell? ⟨W0.heap.size + 1, 6, none⟩ = some (.int .i64 t1) := hcx.cell 6
      have lx1 := hcx.lt
      have lg1 := hcov.oc.lt
      obtain ⟨V4, hV4⟩ : ∃ V4, V4 = V0.alloc (.cells #[.string (str v.g.name), .int .i64 v.g.tag, .slice v.A4 v.g.send.length v.c4, .slice A3 cas.length k3, .int .i64 v.g.time, .int .i64 v.g.try_, .int .i64 t1] 49) := ⟨_, rfl⟩
      have hb34 : Below V0.heap.size V0 V4 := by rw [hV4]; exact (Below.refl _ _).alloc (Nat.le_refl _) _
      have HCO4 := Lib.hid (hcov.below hT hb34)
      have HSRC := Lib.hid (show Src V4 (some ⟨V0.heap.size, 0, none⟩) 1 [.string (str v.g.name), .int .i64 v.g.tag, .slice v.A4 v.g.send.length v.c4, .slice A3 cas.length k3, .int .i64 v.g.time, .int .i64 v.g.try_, .int .i64 t1] by rw [hV4]; exact Ry.src (m := 1) (Ry.of_cel (Cel.new V0 49 [.string (str v.g.name), .int .i64 v.g.tag, .slice v.A4 v.g.send.length v.c4, .slice A3 cas.length k3, .int .i64 v.g.time, .int .i64 v.g.try_, .int .i64 t1])) (by simp))
      have hs4 : w.heap.size ≤ V4.heap.size := HCO4.out.bel.size
      have hol : out.length ≤ 50000 := by rw [HLN.out]; omega
      obtain ⟨xs, hxs⟩ : ∃ xs : Cs, xs = ⟨cStep b v.g, v.A4, v.c4, A3, k3, cas⟩ := ⟨_, rfl⟩
      have hca : cas.map (·.c) = (cStep b v.g).arms := by rw [HK.out, HM.out, List.take_length]; rfl
      have hcn : (cStep b v.g).arms.length = cas.length := by rw [← hca, List.length_map]
      have HXC := Lib.hid (show xs.cells = [.string (str v.g.name), .int .i64 v.g.tag, .slice v.A4 v.g.send.length v.c4, .slice A3 cas.length k3, .int .i64 v.g.time, .int .i64 v.g.try_, .int .i64 t1] by
       rw [hxs]
       unfold Cs.cells
       dsimp only
       rw [hcn]
       unfold cStep
       dsimp only
       rw [HTE.out])
      have HXT := Lib.hid (show CParts V4 T xs by
       rw [hxs]
       exact ⟨((HSE.out.below hT0 hci.bel).below hT1 hb34), (Ry.of_own hci.own (by decide)).below hb34, hca, fun u hu => (hci.tx u hu).below hT1 hb34⟩)
      have HO2 := Lib.hid (show (out ++ [xs]).map (·.s) = (b.steps.take (i + 1)).map (cStep b) by
       have ha2 : b.steps[i]? = some v.g := by rw [HST.out, List.getElem?_map, HV.out]; rfl
       rw [List.take_add_one, ha2, List.map_append, List.map_append, HO.out, hxs]
       rfl)
      rw [hV4] at HCO4 HXT hs4
      have HSRC := Lib.hid (show Src (V0.alloc (.cells #[.string (str v.g.name), .int .i64 v.g.tag, .slice v.A4 v.g.send.length v.c4, .slice A3 cas.length k3, .int .i64 v.g.time, .int .i64 v.g.try_, .int .i64 t1] 49)) (some ⟨V0.heap.size, 0, none⟩) 1 [.string (str v.g.name), .int .i64 v.g.tag, .slice v.A4 v.g.send.length v.c4, .slice A3 cas.length k3, .int .i64 v.g.time, .int .i64 v.g.try_, .int .i64 t1] by rw [← hV4]; exact HSRC.out)
      clear hV4 hb34 hcov hci hcx hca hcn hxs
      go_wp2_with ((at_builtin; refine wpList_append_any _ rfl _ _ 27 rfl w.heap.size 49 rowCs (.slice As out.length cs) out.length (csflat out) rfl HCO4.out.own (some ⟨V0.heap.size, 0, none⟩) 1 1 [.string (str v.g.name), .int .i64 v.g.tag, .slice v.A4 v.g.send.length v.c4, .slice A3 cas.length k3, .int .i64 v.g.time, .int .i64 v.g.try_, .int .i64 t1] rfl rfl HSRC.out (by intro u hu; simp at hu; rcases hu with rfl | rfl | rfl | rfl | rfl | rfl | rfl <;> rfl) (out.length + 1) _ rfl rfl (by unfold maxLen; omega) (by omega) hs4 ?_; intro A8 c8 w8 ho8 hg8 _; rw [← HXC.out] at ho8; obtain ⟨hx8, hco8⟩ := HCO4.out.step hT HXT.out hg8 ho8; have k8 : w8.cell? ⟨g, 0, none⟩ = some (.slice As out.length cs) := hx8.cell 0; have f8 := hx8.free 0; have HCO8 := Lib.hid hco8; clear ho8 hg8 hx8 hco8))
      exact ⟨⟨i + 1, A8, c8, out ++ [xs], hlt, by rw [show ((i + 1 : Nat) : Int) = (i : Int) + 1 by omega], by rw [List.length_append, HLN.out]; rfl, HCO8.out, HO2⟩, by simp [intOf]; omega⟩
   ·obtain rfl : i = n := by omega
    have hrc := HCO.out.rc
    have hoc := HCO.out.oc
    have q0 := hoc.cell 0
    have q1 := hoc.cell 1
    have q2 := hoc.cell 2
    have r0 := hrc.cell 0
    have r1 := hrc.cell 1
    have r2 := hrc.cell 2
    have l0 := hrc.free 0
    have l1 := hrc.free 1
    have l2 := hrc.free 2
    have HC3 := Lib.hid (fw3_cel (a := .slice As out.length cs) (b := .slice Av ns.length cv) (c := .int .i64 most) hrc)
    have HF3 := Lib.hid (fw3_frm W0 (w.heap.size + 1) (.slice As out.length cs) (.slice Av ns.length cv) (.int .i64 most))
    have HNT := Lib.hid (show ∀ t', t' ≠ 30 → ∀ k ∈ [w.heap.size + 1], ∀ o fz, W0.heap[k]? ≠ some (Obj.cells o t' fz) from fun t' ht k hk => by rw [List.mem_singleton.1 hk]; exact Cel.not_ty hrc (Ne.symm ht))
    have HOB := Lib.hid (show out.map (·.s) = b.steps.map (cStep b) by rw [HO.out, List.take_of_length_le (by rw [HST.out, List.length_map, HL.out]; exact Nat.le_refl _)])
    unfold fw3 at HC3 HF3
    clear hrc hoc
    go_wp2_with fail
    refine bodyPost_ret (v := .tuple #[.agg #[.slice As out.length cs, .slice Av ns.length cv, .int .i64 most], .int .i64 0, .int .i64 0]) (Lex.results_at3 2 30 3 4 Tryz.results9 ⟨w.heap.size + 1, 0, none⟩ rfl _ _ _ rfl rfl (load_abook HC3.out)) rfl ?_
    refine ⟨HCO.out.bel.trans (HF3.out.below HCO.out.bel.size (by intro q hq; rw [List.mem_singleton.1 hq]; omega)), ?_⟩
    rw [HE.out]
    have hln : (b.steps.map (cStep b)).length = out.length := by rw [← HOB.out, List.length_map]
    refine ⟨As, cs, Av, cv, out, ?_, ⟨(Ry.of_own HCO.out.own (by decide)).frm HF3.out (HNT.out _ (by decide)), fun u hu => (HCO.out.parts u hu).frm HF3.out fun k hk => ⟨by rw [List.mem_singleton.1 hk]; omega, HNT.out _ (by decide) k hk, HNT.out _ (by decide) k hk⟩⟩, HOB.out, HCO.out.nms.frm HF3.out (HNT.out _ (by decide))⟩
    dsimp only
    rw [hln, HMO.out]
end Go.Proofs.YteohlpmojfjjdaaGreat.Chk
end
section
namespace Go.Proofs.YteohlpmojfjjdaaGreat.Chk
open Go.RowKit
open Lex (Tx Cr cr_ry)
theorem str_size (a : List (BitVec 8)) : (str a).size = a.length := by show ((a.map UInt8.ofBitVec).toArray).size = _; simp
end Go.Proofs.YteohlpmojfjjdaaGreat.Chk
end
