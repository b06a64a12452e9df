/-
Texts: LexSmall LexRun LexMake LexEither LexBetween
-/
import Derived.Test.YteohlpmojfjjdaaGreatT0
import Derived.Test.YteohlpmojfjjdaaGreatT2
import Derived.Test.YteohlpmojfjjdaaGreatT3
import Derived.Test.YteohlpmojfjjdaaGreatT5
import Derived.Test.YteohlpmojfjjdaaGreatT7
import Derived.Test.YteohlpmojfjjdaaGreatT8
import Derived.Test.YteohlpmojfjjdaaGreatT11
import Derived.BigQuiet
import Derived.LoopN
set_option linter.unusedVariables false
set_option linter.unusedSimpArgs false
set_option maxRecDepth 100000
set_option maxHeartbeats 4000000
section
namespace Go.Proofs.YteohlpmojfjjdaaGreat.Lex
open Go.RowKit Go.Proofs.YteohlpmojfjjdaaGreat.Ord
theorem lbelow_drewN {B : Nat} {w w1 : World} (h : Below B w w1) (n : Nat) : Below B w (w1.drewN n) := ⟨h.os, h.tape, h.output, h.size, h.block⟩
section
variable {w : World} {D K g : Nat} {E : Value} {q : Nat} {z : Int} {us : List Tv} {x : Tv}
def FlFail (w : World) (D K g : Nat) (E : Value) (p i : Int) (us xs : List Tv) (e : Ending) (w' : World) : Prop := e = .returned .nilFunc ∧ Mc w' D K g E p i us xs ∧ Chl D w w'
theorem fail_ {p : Int} {xs : List Tv} (h : Mc w D K g E p z us xs) (i : Int) : Calls Tryz.prog 86 #[.pointer (some ⟨g, 0, none⟩), .int .i64 i] w (FlFail w D K g E p i us xs) := by
 obtain ⟨A, c, hc, ho⟩ := h.mem
 have k3 := Cel.cell hc 3
 have f3 := Cel.free hc 3
 have HW := Lib.hid (h.wrong i)
 clear h hc ho
 go_enter Tryz.func86, Tryz.ntmps86
 go_wp2_with fail
 go_ret
 exact ⟨rfl, HW.out.1, HW.out.2⟩
theorem last_ {p : Int} {r : Nat} (h : Ml w D K g E p z us x r) (hm : us.length ≤ 100000) : Calls Tryz.prog 147 #[.pointer (some ⟨g, 0, none⟩)] w fun e w' => e = .returned (.pointer (some ⟨r, us.length * 4, none⟩)) ∧ Below w.heap.size w w' := by
 obtain ⟨c, hc, ho⟩ := h.row
 have k1 := Cel.cell hc 1
 change _ = some (Value.slice (some ⟨r, 0, none⟩) (us.length + 1) c) at k1
 generalize us.length = m at *
 clear h hc ho
 go_enter Tryz.func147, Tryz.ntmps147
 go_wp2_with fail
 go_quiet (fail)
 go_wp2_with fail
 go_ret
 exact ⟨rfl, lbelow_drewN (Below.refl _ _) _⟩
def BeSays (w : World) (D K g : Nat) (E : Value) (q : Nat) (z k : Int) (us : List Tv) (e : Ending) (w' : World) : Prop := e = .returned (.tuple #[]) ∧ Mc w' D K g E (q : Int) z us [⟨⟨⟨k, 0, []⟩, q⟩, none, 0⟩] ∧ Chl D w w'
def StB (g : Nat) (v : Value) (q : Nat) (V : World) : Prop := V.cell? ⟨g, 1, none⟩ = some v ∧ V.cell? ⟨g, 2, none⟩ = some (.int .i64 (q : Int))
theorem begin_ (h : Mc w D K g E (q : Int) z us []) (k : Int) (hm : us.length ≤ 100000) : Calls Tryz.prog 79 #[.pointer (some ⟨g, 0, none⟩), .int .i64 k] w (BeSays w D K g E q z k us) := by
 obtain ⟨A, c, hc, ho⟩ := h.mem
 rw [List.length_nil, Nat.add_zero] at hc ho
 rw [List.append_nil] at ho
 obtain ⟨m, hml⟩ : ∃ m, m = us.length := ⟨_, rfl⟩
 rw [← hml] at hc ho hm
 have hD : D ≤ w.heap.size := Nat.le_trans h.low h.top
 have hb1 : Below w.heap.size w ((w.drew.alloc (.cells #[.int .i64 k, .int .i64 (q : Int), .int .i64 0, .slice none 0 0] 103))) := (((Below.refl w.heap.size w).drew).alloc (Nat.le_refl _) _)
 have hc1 := Cel.below hc hb1 (Cel.lt hc)
 have HO1 := Lib.hid (own_frm (l := []) ho (Frm.of_below hb1) (by simp))
 have HC1 := Lib.hid hc1
 have HM1 := Lib.hid (h.below hb1)
 have HB1 := Lib.hid hb1
 have hH : StB g (.slice A m c) q w.drew := ⟨Cel.cell hc 1, Cel.cell hc 2⟩
 have hH1 : StB g (.slice A m c) q (w.drew.alloc (.cells #[.int .i64 k, .int .i64 (q : Int), .int .i64 0, .slice none 0 0] 103)) := ⟨Cel.cell hc1 1, Cel.cell hc1 2⟩
 have hsrc := Lib.hid (Ry.src (m := 1) (Ry.of_cel (Cel.new w.drew 103 [.int .i64 k, .int .i64 (q : Int), .int .i64 0, .slice none 0 0])) (by simp))
 have HML := Lib.hid hml
 clear h hc ho hb1 hc1 hml
 go_enter Tryz.func79, Tryz.ntmps79
 go_wp2_with fail
 refine wp_region_N [15] (StB g (.slice A m c) q) (by kernel_rfl) ?_
 refine tk_ 0 (.pointer (some ⟨g, 0, none⟩)) [15] rfl hH ?_ ?_
 ·intro V hV; go_simp
 try simp only [Act.put, lay_]
 refine tk_ 1 (.pointer (some ⟨g, 0, none⟩)) [15] rfl hH ?_ ?_
 ·intro V hV; go_simp
 try simp only [Act.put, lay_]
 refine tk_ 2 (.pointer (some ⟨g, 0, none⟩)) [15] rfl hH ?_ ?_
 ·intro V hV; go_simp
 try simp only [Act.put, lay_]
 refine tk_ 3 (.pointer (some ⟨g, 1, none⟩)) [15] rfl hH ?_ ?_
 ·intro V hV; go_simp
 try simp only [Act.put, lay_]
 refine tk_ 4 (.slice A m c) [15] rfl hH ?_ ?_
 ·intro V hV; obtain ⟨k1, k2⟩ := hV; go_simp
 try simp only [Act.put, lay_]
 refine tk_ 5 (.int .i64 k) [15] rfl hH ?_ ?_
 ·intro V hV; go_simp
 try simp only [Act.put, lay_]
 refine tk_ 6 (.pointer (some ⟨g, 0, none⟩)) [15] rfl hH ?_ ?_
 ·intro V hV; go_simp
 try simp only [Act.put, lay_]
 refine tk_ 7 (.pointer (some ⟨g, 0, none⟩)) [15] rfl hH ?_ ?_
 ·intro V hV; go_simp
 try simp only [Act.put, lay_]
 refine tk_ 8 (.pointer (some ⟨g, 2, none⟩)) [15] rfl hH ?_ ?_
 ·intro V hV; go_simp
 try simp only [Act.put, lay_]
 refine tk_ 9 (.int .i64 (q : Int)) [15] rfl hH ?_ ?_
 ·intro V hV; obtain ⟨k1, k2⟩ := hV; go_simp
 try simp only [Act.put, lay_]
 refine tk_ 10 (.agg #[.int .i64 k, .int .i64 (q : Int), .int .i64 0, .slice none 0 0]) [15] rfl hH ?_ ?_
 ·intro V hV; go_simp
 try simp only [Act.put, lay_]
 refine wpAnyN_one (i := 11) (by kernel_rfl) rfl (fun K hK => ?_)
 go_simp
 refine hK.out _ _ (.inr hH1) ?_
 clear hK K
 try simp only [Act.put, lay_]
 refine wpAnyN_one (i := 12) (by kernel_rfl) rfl (fun K hK => ?_)
 rw [if_pos (by rfl)]
 refine wp_append_any _ _ _ 72 rfl D 103 rowPtk (.slice A m c) m (tflat us) rfl HO1.out (some ⟨w.drew.heap.size, 0, none⟩) 1 1 [.int .i64 k, .int .i64 (q : Int), .int .i64 0, .slice none 0 0] rfl rfl hsrc.out (by intro u hu; simp at hu; rcases hu with rfl | rfl | rfl | rfl <;> rfl) (m + 1) _ rfl rfl (by unfold maxLen; omega) (by omega) (Nat.le_trans hD HB1.out.size) ?_
 intro A8 c8 w8 ho8 hg8 _
 obtain ⟨hc8, hm8, hch⟩ := HM1.out.pushed (x := ⟨⟨⟨k, 0, []⟩, q⟩, none, 0⟩) (by rw [← HML.out]; exact HC1.out) (by rw [← HML.out]; exact HO1.out) rfl rfl rfl (by rw [← HML.out]; exact hg8) (by rw [← HML.out]; exact ho8)
 have HC8 := Lib.hid ((Chl.of_below (D := D) HB1.out).trans hch)
 rw [← HML.out] at hc8 hm8 HC8
 have HM8 := Lib.hid hm8
 have k8 := Cel.cell hc8 1
 have f8 := Cel.free hc8 1
 refine hK.out _ _ (.inr ⟨k8, Cel.cell hc8 2⟩) ?_
 have hH8 : StB g (.slice A m c) q w8 := ⟨k8, Cel.cell hc8 2⟩
 clear hK K hm8 hch hg8 ho8 hc8
 try simp only [Act.put, lay_]
 refine wpAnyN_one (i := 13) (by kernel_rfl) rfl (fun K hK => ?_)
 go_simp
 refine hK.out _ _ (.inr hH8) ?_
 clear hK K
 try simp only [Act.put, lay_]
 refine wpAnyN_one (i := 14) (by kernel_rfl) rfl (fun K hK => ?_)
 go_simp
 refine hK.out _ _ (.inr hH8) ?_
 clear hK K
 try simp only [Act.put, lay_]
 refine wpAnyN_one (i := 15) (by kernel_rfl) rfl (fun K hK => ?_)
 go_simp
 refine hK.out _ _ (.inl (by decide)) ?_
 clear hK K
 try simp only [Act.put, lay_]
 refine wpAnyN_done (by kernel_rfl) ?_ _
 go_wp2_with fail
 go_end0
 exact ⟨rfl, HM8.out, HC8.out⟩
def more (x : Tv) (b : BitVec 8) (A : Option Addr) (c : Nat) : Tv := ⟨⟨⟨x.t.t.kind, x.t.t.n, x.t.t.text ++ [b]⟩, x.t.at_⟩, A, c⟩
def AdSays (w : World) (D K g : Nat) (E : Value) (p z : Int) (us : List Tv) (x : Tv) (b : BitVec 8) (r : Nat) (v : Value) (e : Ending) (w' : World) : Prop := e = .returned v ∧ ∃ A c, Ml w' D K g E p z us (more x b A c) r ∧ Chl D w w'
theorem text_grew {w1 w2 : World} {p : Int} {r m : Nat} {A' : Option Addr} {c' : Nat} {b : BitVec 8} (h : Ml w1 D K g E p z us x r) (hm : x.t.t.text.length = m) (hg : w1.grownBy w2 (Value.slice x.A m x.c).ownBlock) (ho : Owb w2 K A' (m + 1) c' (x.t.t.text ++ [b])) :
  w2.cell? ⟨r, us.length * 4 + 3, none⟩ = some (.slice x.A m x.c) ∧ w2.frozen? ⟨r, us.length * 4 + 3, none⟩ = false ∧
  Ml (w2.setCell ⟨r, us.length * 4 + 3, none⟩ (.slice A' (m + 1) c')) D K g E p z us (more x b A' c') r ∧ Chl D w1 (w2.setCell ⟨r, us.length * 4 + 3, none⟩ (.slice A' (m + 1) c')) := by
 subst hm
 have := h.grew hg (by rw [List.length_append]; exact ho)
 rw [List.length_append] at this
 exact this
theorem add_ {p : Int} {r : Nat} (h : Ml w D K g E p z us x r) (b : BitVec 8) (hm : us.length ≤ 100000) (hl : x.t.t.text.length ≤ 100000) : Calls Tryz.prog 122 #[.pointer (some ⟨g, 0, none⟩), v8 b] w (AdSays w D K g E p z us x b r (.tuple #[])) := by
 have con := last_ h hm
 obtain ⟨⟨⟨xk, xn, t⟩, xa⟩, xA, xc⟩ := x
 have HH := Lib.hid h
 have hl : t.length ≤ 100000 := hl
 generalize hml : t.length = m at *
 have HML := Lib.hid hml
 obtain ⟨n, hn⟩ : ∃ n, n = us.length := ⟨_, rfl⟩
 have HN := Lib.hid hn
 rw [← hn] at con hm
 clear h hml hn
 go_enter Tryz.func122, Tryz.ntmps122
 go_wp2_with fail
 refine con.mono ?_
 clear con
 rintro e w1 ⟨rfl, hb⟩
 have hM := HH.out.below hb
 have k0 : w1.cell? ⟨r, n * 4 + 3, none⟩ = some (.slice xA m xc) := by rw [HN.out, ← HML.out]; exact hM.at_ (i := 3) (by decide) rfl
 have hb1 : Below w1.heap.size w1 (w1.alloc (.cells #[v8 b] 5)) := (Below.refl _ _).alloc (Nat.le_refl _) _
 have HO1 := Lib.hid (show Owb (w1.alloc (.cells #[v8 b] 5)) K xA m xc t by rw [← HML.out]; exact (hM.below hb1).mc.new _ (List.mem_singleton.2 rfl))
 have HM1 := Lib.hid (hM.below hb1)
 have HB1 := Lib.hid hb1
 have HBW := Lib.hid (hb.trans (hb1.mono hb.size))
 have HK := Lib.hid hM.mc.top
 clear hM hb1 hb
 go_wp2_with ((at_builtin; refine wpList_append_bs _ rfl _ _ 41 rfl K 5 rowB (.slice xA m xc) m t rfl HO1.out (w1.heap.size + 1) (some ⟨w1.heap.size, 0, none⟩) 1 1 [b] rfl (lit_one w1 b) (m + 1) (t ++ [b]) rfl rfl (by omega) (Nat.le_trans HK.out HB1.out.size) ?_; intro A3 c3 w3 o3 g3 _; obtain ⟨k3, f3, hm3, hc3⟩ := text_grew HM1.out HML.out g3 o3; rw [← HN.out] at k3 f3 hm3 hc3; have HM3 := Lib.hid hm3; have HC3 := Lib.hid hc3; clear o3 g3 hm3 hc3))
 go_end0
 exact ⟨rfl, A3, c3, HM3.out, (Chl.of_below HBW.out).trans HC3.out⟩
end
end Go.Proofs.YteohlpmojfjjdaaGreat.Lex
end
section
namespace Go.Proofs.YteohlpmojfjjdaaGreat.Lex
open Go.RowKit
section
variable {w : World} {D K g : Nat} {E : Value} {p z : Int} {us : List Tv} {x : Tv}
theorem word_more {r : Nat} (h : Ml w D K g E p z us x r) (b : BitVec 8) (hm : us.length ≤ 100000) (ok : Bool) (hok : ok = decide (x.t.t.text.length + 1 ≤ 20)) (hl : x.t.t.text.length ≤ 100000) :
  Calls Tryz.prog 118 #[.pointer (some ⟨r, us.length * 4, none⟩), v8 b] w (AdSays w D K g E p z us x b r (.bool ok)) := by
 obtain ⟨⟨⟨xk, xn, t⟩, xa⟩, xA, xc⟩ := x
 have HH := Lib.hid h
 replace hok : ok = decide (t.length + 1 ≤ 20) := hok
 replace hl : t.length ≤ 100000 := hl
 generalize hml : t.length = m at *
 have HOK := Lib.hid hok
 have HML := Lib.hid hml
 obtain ⟨n, hn⟩ : ∃ n, n = us.length := ⟨_, rfl⟩
 have HN := Lib.hid hn
 rw [← hn] at hm ⊢
 have k0 : w.cell? ⟨r, n * 4 + 3, none⟩ = some (.slice xA m xc) := by rw [HN.out, ← HML.out]; exact h.at_ (i := 3) (by decide) rfl
 have hb1 : Below w.heap.size w (w.alloc (.cells #[v8 b] 5)) := (Below.refl _ _).alloc (Nat.le_refl _) _
 have HO1 := Lib.hid (show Owb (w.alloc (.cells #[v8 b] 5)) K xA m xc t by rw [← HML.out]; exact (h.below hb1).mc.new _ (List.mem_singleton.2 rfl))
 have HM1 := Lib.hid (h.below hb1)
 have HB1 := Lib.hid hb1
 have HK := Lib.hid h.mc.top
 clear h hml hn hb1 hok
 go_enter Tryz.func118, Tryz.ntmps118
 go_wp2_with ((at_builtin; refine wpList_append_bs _ rfl _ _ 41 rfl K 5 rowB (.slice xA m xc) m t rfl HO1.out (w.heap.size + 1) (some ⟨w.heap.size, 0, none⟩) 1 1 [b] rfl (lit_one w b) (m + 1) (t ++ [b]) rfl rfl (by omega) (Nat.le_trans HK.out HB1.out.size) ?_; intro A3 c3 w3 o3 g3 _; obtain ⟨k3, f3, hm3, hc3⟩ := text_grew HM1.out HML.out g3 o3; rw [← HN.out] at k3 f3 hm3 hc3; have HM3 := Lib.hid hm3; have HC3 := Lib.hid hc3; clear o3 g3 hm3 hc3))
 go_ret
 refine ⟨?_, A3, c3, HM3.out, (Chl.of_below HB1.out).trans HC3.out⟩
 show Ending.returned (Value.bool (decide ((m : Int) + 1 ≤ 20))) = _
 congr 2
 rw [HOK.out]
 exact decide_eq_decide.2 (by omega)
theorem Ml.other {r dg : Nat} {cs : List Value} (h : Ml w D K g E p z us x r) (hd : Cel w dg 3 cs) (u : Value) : Ml (w.setCell ⟨dg, 0, none⟩ u) D K g E p z us x r := by
 obtain ⟨c, hc, ho⟩ := h.row
 have hf : Frm [dg] w (w.setCell ⟨dg, 0, none⟩ u) := (Frm.refl [dg] w).set (by simp) _
 have hc2 : Pcc (w.setCell ⟨dg, 0, none⟩ u) g E (some ⟨r, 0, none⟩) (us.length + 1) c p z := Cel.frm hc hf (by simp; exact Cel.ne hc hd (by decide))
 have ho2 := own_frm ho hf (fun k hk => by rw [List.mem_singleton.1 hk]; exact own_ty_ne ho hd (by decide))
 exact ⟨⟨h.mc.low, Nat.le_trans h.mc.top hf.size, h.mc.gD, ⟨_, c, hc2, ho2⟩, fun v hv => (h.mc.old v hv).set _ (.inr (Cel.not_ty hd (by decide))), fun v hv => own_frm (h.mc.new v hv) hf (fun k hk => by rw [List.mem_singleton.1 hk]; exact own_ty_ne (h.mc.new v hv) hd (by decide))⟩, c, hc2, ho2⟩
def withN (x : Tv) (n : Int) : Tv := ⟨⟨⟨x.t.t.kind, n, x.t.t.text⟩, x.t.at_⟩, x.A, x.c⟩
def NuSays (w : World) (D K g : Nat) (E : Value) (p z : Int) (us : List Tv) (x : Tv) (n : Int) (r dg d : Nat) (ok : Bool) (e : Ending) (w' : World) : Prop := e = .returned (.bool ok) ∧ Ml w' D K g E p z us (withN x n) r ∧ Cel w' dg 3 [.int .i64 (d : Int)] ∧ Chl D w w'
theorem num_facts {r dg d : Nat} (h : Ml w D K g E p z us x r) (hD : D ≤ dg) (hd : Cel w dg 3 [.int .i64 (d : Int)]) (N : Int) (ok : Bool) (n : Nat) (hn : n = us.length) (dv dv1 : Int) (e0 : dv = (d : Int)) (e1 : dv1 = (d : Int) + 1) :
  w.cell? ⟨dg, 0, none⟩ = some (.int .i64 dv) ∧ w.frozen? ⟨dg, 0, none⟩ = false ∧ w.cell? ⟨r, n * 4 + 2, none⟩ = some (.int .i64 x.t.t.n) ∧ (w.setCell ⟨dg, 0, none⟩ (.int .i64 dv1)).cell? ⟨r, n * 4 + 2, none⟩ = some (.int .i64 x.t.t.n) ∧ (w.setCell ⟨dg, 0, none⟩ (.int .i64 dv1)).frozen? ⟨r, n * 4 + 2, none⟩ = false ∧
  ((w.setCell ⟨dg, 0, none⟩ (.int .i64 dv1)).setCell ⟨r, n * 4 + 2, none⟩ (.int .i64 N)).cell? ⟨r, n * 4 + 2, none⟩ = some (.int .i64 N) ∧
  NuSays w D K g E p z us x N r dg (d + 1) ok (.returned (.bool ok)) ((w.setCell ⟨dg, 0, none⟩ (.int .i64 dv1)).setCell ⟨r, n * 4 + 2, none⟩ (.int .i64 N)) := by
 subst hn; subst e0; subst e1
 obtain ⟨W1, hW1⟩ : ∃ W1, W1 = w.setCell ⟨dg, 0, none⟩ (.int .i64 ((d : Int) + 1)) := ⟨_, rfl⟩
 have hM1 : Ml W1 D K g E p z us x r := by rw [hW1]; exact h.other hd _
 have hD1 : Cel W1 dg 3 [.int .i64 ((d + 1 : Nat) : Int)] := by rw [hW1]; have := Cel.set hd 0 (.int .i64 ((d : Int) + 1)); rwa [show ((d : Int) + 1) = ((d + 1 : Nat) : Int) by omega] at this ⊢
 have hC1 : Chl D w W1 := by rw [hW1]; exact Chl.set _ hD hd (.inr (.inr (.inr rfl)))
 obtain ⟨hM2, hC2⟩ := hM1.put (i := 2) (u := .int .i64 N) (y := withN x N) (by decide) rfl (hM1.mc.new x (List.mem_singleton.2 rfl))
 rw [← hW1]
 obtain ⟨c, hc, ho⟩ := hM1.row
 refine ⟨Cel.cell hd 0, Cel.free hd 0, h.at_ (i := 2) (by decide) rfl, hM1.at_ (i := 2) (by decide) rfl, hM1.free _, hM2.at_ (i := 2) (by decide) rfl, rfl, hM2, Cel.far hD1 (fun e => own_ty_ne ho hD1 (by decide) (by rw [e]; rfl)) _, hC1.trans hC2⟩
theorem num_more {r dg d : Nat} (h : Ml w D K g E p z us x r) (b : BitVec 8) (hb : digit b = true) (hD : D ≤ dg) (hd : Cel w dg 3 [.int .i64 (d : Int)]) (hd1 : d ≤ 100000) (hm : us.length ≤ 100000) (hn0 : 0 ≤ x.t.t.n) (hn1 : x.t.t.n ≤ 9999) (ok : Bool) (hok : ok = (!(decide (0 < d) && decide (x.t.t.n = 0)) && decide (10 * x.t.t.n + ((b.toNat : Int) - 48) ≤ 9999))) :
  Calls Tryz.prog 120 #[.pointer (some ⟨r, us.length * 4, none⟩), v8 b, .pointer (some ⟨dg, 0, none⟩)] w (NuSays w D K g E p z us x (10 * x.t.t.n + ((b.toNat : Int) - 48)) r dg (d + 1) ok) := by
 obtain ⟨hb1, hb2⟩ := digit_iff.1 hb
 obtain ⟨n, hn⟩ : ∃ n, n = us.length := ⟨_, rfl⟩
 have HF := Lib.hid (fun N => num_facts h hD hd N ok n hn)
 rw [← hn] at hm ⊢
 obtain ⟨xn, hxn⟩ : ∃ xn, xn = x.t.t.n := ⟨_, rfl⟩
 rw [← hxn] at HF hok hn0 hn1 ⊢
 have HOK := Lib.hid hok
 clear h hd hok hb hn hxn
 obtain ⟨N, hN⟩ : ∃ N, N = 10 * xn + ((b.toNat : Int) - 48) := ⟨_, rfl⟩
 rw [← hN] at HOK ⊢
 by_cases hx : xn = 0
 ·subst hx
  have eN : N = (b.toNat : Int) - 48 := by omega
  rw [eN] at HOK ⊢
  clear hN eN
  by_cases h0 : 0 < d
  ·obtain ⟨k0, f0, k1, k2, f2, k3, hend⟩ := HF.out ((b.toNat : Int) - 48) (d : Int) ((d : Int) + 1) rfl rfl
   have hf : ok = false := by rw [HOK.out]; simp [h0]
   have HEND := Lib.hid hend
   subst hf
   clear HOK hend HF
   go_enter Tryz.func120, Tryz.ntmps120
   go_wp2_with fail
   go_ret
   exact HEND.out
  ·obtain ⟨k0, f0, k1, k2, f2, k3, hend⟩ := HF.out ((b.toNat : Int) - 48) 0 1 (by omega) (by omega)
   have hf : ok = decide ((b.toNat : Int) - 48 ≤ 9999) := by rw [HOK.out]; simp [h0]
   have HEND := Lib.hid hend
   subst hf
   clear HOK hend HF h0
   go_enter Tryz.func120, Tryz.ntmps120
   go_wp2_with fail
   go_ret
   exact HEND.out
 ·have eN : N = xn * 10 + ((b.toNat : Int) - 48) := by omega
  rw [eN] at HOK ⊢
  clear hN eN
  have hxb : (xn == 0) = false := by simpa using hx
  have hf : ok = decide (xn * 10 + ((b.toNat : Int) - 48) ≤ 9999) := by rw [HOK.out]; simp [hx]
  subst hf
  by_cases h0 : 0 < d
  ·obtain ⟨k0, f0, k1, k2, f2, k3, hend⟩ := HF.out (xn * 10 + ((b.toNat : Int) - 48)) (d : Int) ((d : Int) + 1) rfl rfl
   have HEND := Lib.hid hend
   clear HOK hend HF hx
   go_enter Tryz.func120, Tryz.ntmps120
   go_wp2_with fail
   go_ret
   exact HEND.out
  ·obtain ⟨k0, f0, k1, k2, f2, k3, hend⟩ := HF.out (xn * 10 + ((b.toNat : Int) - 48)) 0 1 (by omega) (by omega)
   have HEND := Lib.hid hend
   clear HOK hend HF hx h0
   go_enter Tryz.func120, Tryz.ntmps120
   go_wp2_with fail
   go_ret
   exact HEND.out
def RuSaysF (w : World) (D K g : Nat) (E : Value) (p z : Int) (us : List Tv) (q : Nat) (r : Nat) (M : Value) (ok : Bool) (R : Tv → World → Prop) (e : Ending) (w' : World) : Prop :=
 if ok then e = .returned M ∧ (∃ y, R y w' ∧ Ml w' D K g E p z us y r) ∧ Chl D w w' else e = .returned .nilFunc ∧ (∃ y, Mc w' D K g E p (q : Int) us [y]) ∧ Chl D w w'
theorem run_fit {r p2 p3 p4 kf kg : Nat} {M : Value} {cf cg : Array Value} {R : Tv → World → Prop} (h : Ml w D K g E p z us x r) (b : BitVec 8) (hm : us.length ≤ 100000) (ok : Bool)
  (h2 : Cel w p2 133 [.func (.func kf) #[] cf]) (h3 : Cel w p3 175 [.func (.func kg) #[] cg]) (h4 : Cel w p4 99 [M])
  (hF : ∀ args W, (callFunc kf args).run Tryz.prog W = .ok (.enter kf args) W) (conF : Calls Tryz.prog kf (#[v8 b] ++ cf) w fun e w' => e = .returned (.bool true) ∧ w' = w)
  (hG : ∀ args W, (callFunc kg args).run Tryz.prog W = .ok (.enter kg args) W)
  (conG : ∀ W, Below w.heap.size w W → Calls Tryz.prog kg (#[.pointer (some ⟨r, us.length * 4, none⟩), v8 b] ++ cg) W fun e w' => e = .returned (.bool ok) ∧ (∃ y, (y.t.at_ = x.t.at_ ∧ R y w') ∧ Ml w' D K g E p z us y r) ∧ Chl D W w') :
  Calls Tryz.prog 146 #[.pointer (some ⟨g, 0, none⟩), v8 b, .pointer (some ⟨p2, 0, none⟩), .pointer (some ⟨p3, 0, none⟩), .pointer (some ⟨p4, 0, none⟩)] w (RuSaysF w D K g E p z us x.t.at_ r M ok R) := by
 have conl := last_ h hm
 have k2 := Cel.cell h2 0
 have H3 := Lib.hid h3
 have H4 := Lib.hid h4
 have HG := Lib.hid conG
 obtain ⟨n, hn⟩ : ∃ n, n = us.length := ⟨_, rfl⟩
 rw [← hn] at conl HG
 have HN := Lib.hid hn
 have hml : n ≤ 100000 := by omega
 clear h h2 h3 h4 conG hn hm
 go_enter Tryz.func146, Tryz.ntmps146
 go_wp2_with fail
 refine conF.mono ?_
 clear conF
 rintro e w1 ⟨rfl, rfl⟩
 go_wp2_with fail
 refine conl.mono ?_
 clear conl k2
 rintro e w2 ⟨rfl, hb⟩
 have conG := HG.out w2 hb
 have k3 := Cel.cell (Cel.below H3.out hb (Cel.lt H3.out)) 0
 have HC2 := Lib.hid (Chl.of_below (D := D) hb)
 clear hb HG
 go_wp2_with fail
 refine conG.mono ?_
 clear conG k3
 rintro e w3 ⟨rfl, ⟨y, ⟨hy, hR⟩, hM⟩, hC⟩
 have HC3 := Lib.hid (HC2.out.trans hC)
 have k4 := Cel.cell (Cel.chl H4.out HC3.out (by simp [Lob])) 0
 cases ok
 ·have ka : w3.cell? ⟨r, n * 4 + 1, none⟩ = some (.int .i64 (y.t.at_ : Int)) := by rw [HN.out]; exact hM.at_ (i := 1) (by decide) rfl
  have con := fail_ hM.mc (x.t.at_ : Int)
  rw [hy] at ka
  clear hM hC hR hy
  go_wp2_with fail
  refine con.mono ?_
  clear con
  rintro e w4 ⟨rfl, hM4, hC4⟩
  go_wp2_with fail
  go_ret
  exact ⟨rfl, ⟨y, hM4⟩, HC3.out.trans hC4⟩
 ·have HM := Lib.hid hM
  have HR := Lib.hid hR
  clear hM hC hR hy
  go_wp2_with fail
  go_ret
  exact ⟨rfl, ⟨y, HR.out, HM.out⟩, HC3.out⟩
theorem run_not {p2 kf : Nat} {cf : Array Value} {a3 a4 : Value} {Post : Ending → World → Prop} (b : BitVec 8)
  (h2 : Cel w p2 133 [.func (.func kf) #[] cf]) (hF : ∀ args W, (callFunc kf args).run Tryz.prog W = .ok (.enter kf args) W) (conF : Calls Tryz.prog kf (#[v8 b] ++ cf) w fun e w' => e = .returned (.bool false) ∧ w' = w)
  (con : Calls Tryz.prog 34 #[.pointer (some ⟨g, 0, none⟩), v8 b] w fun e w' => (∃ v, e = .returned v) ∧ Post e w') :
  Calls Tryz.prog 146 #[.pointer (some ⟨g, 0, none⟩), v8 b, .pointer (some ⟨p2, 0, none⟩), a3, a4] w Post := by
 have k2 := Cel.cell h2 0
 clear h2
 go_enter Tryz.func146, Tryz.ntmps146
 go_wp2_with fail
 refine conF.mono ?_
 clear conF
 rintro e w1 ⟨rfl, rfl⟩
 go_wp2_with fail
 refine con.mono ?_
 clear con
 rintro e w2 ⟨⟨v, rfl⟩, hp⟩
 have HP := Lib.hid hp
 clear hp
 go_wp2_with fail
 exact HP.out
end
end Go.Proofs.YteohlpmojfjjdaaGreat.Lex
end
section
namespace Go.Proofs.YteohlpmojfjjdaaGreat.Lex
open Go.RowKit
abbrev fv (k : Nat) : Value := .func (.func k) #[] #[]
abbrev fp (k g : Nat) : Value := .func (.func k) #[] #[.pointer (some ⟨g, 0, none⟩)]
abbrev f3 (k a b c : Nat) : Value := .func (.func k) #[] #[.pointer (some ⟨a, 0, none⟩), .pointer (some ⟨b, 0, none⟩), .pointer (some ⟨c, 0, none⟩)]
theorem hmf : ∀ (fn : Fn) (first cap : Array Value) (w : World), (Instr.makeFunc fn first cap).run Tryz.prog w = .ok (.func fn first cap) w := fun _ _ _ _ => rfl
theorem letter_ (w : World) : Calls Tryz.prog 77 #[] w fun e w' => e = .returned (fv 115) ∧ w' = w := by
 go_enter Tryz.func77, Tryz.ntmps77
 go_wp2_with fail
 go_ret
 exact ⟨rfl, rfl⟩
theorem digit_ (w : World) : Calls Tryz.prog 81 #[] w fun e w' => e = .returned (fv 119) ∧ w' = w := by
 go_enter Tryz.func81, Tryz.ntmps81
 go_wp2_with fail
 go_ret
 exact ⟨rfl, rfl⟩
theorem among_ (w : World) (s : ByteArray) : Calls Tryz.prog 73 #[.string s] w fun e w' => e = .returned (fp 113 w.heap.size) ∧ w' = w.alloc (.cells #[.string s] 9) := by
 have hm := hmf
 go_enter Tryz.func73, Tryz.ntmps73
 go_wp2_with fail
 go_ret
 exact ⟨rfl, rfl⟩
theorem either_ (w : World) (A : Option Addr) (n c : Nat) : Calls Tryz.prog 116 #[.slice A n c] w fun e w' => e = .returned (fp 145 w.heap.size) ∧ w' = w.alloc (.cells #[.slice A n c] 209) := by
 have hm := hmf
 go_enter Tryz.func116, Tryz.ntmps116
 go_wp2_with fail
 go_ret
 exact ⟨rfl, rfl⟩
theorem run_store_fn {P : Program} (w : World) (a : Addr) (fn : Fn) (x y : Array Value) (m : Mode) : (store a (.func fn x y) m).run P w = stored P w a (.func fn x y) m := run_store P w a (.func fn x y) m rfl
def RnSays (w : World) (F G : Value) (e : Ending) (w' : World) : Prop := e = .returned (f3 146 w.heap.size (w.heap.size + 1) (w.heap.size + 1 + 1)) ∧ Below w.heap.size w w' ∧
 Cel w' w.heap.size 133 [F] ∧ Cel w' (w.heap.size + 1) 175 [G] ∧ Cel w' (w.heap.size + 1 + 1) 99 [f3 146 w.heap.size (w.heap.size + 1) (w.heap.size + 1 + 1)]
theorem run_ (w : World) (kf kg : Nat) (cf cg : Array Value) : Calls Tryz.prog 117 #[.func (.func kf) #[] cf, .func (.func kg) #[] cg] w (RnSays w (.func (.func kf) #[] cf) (.func (.func kg) #[] cg)) := by
 have hm := hmf
 have hst := fun (W : World) (a : Addr) (fn : Fn) (x y : Array Value) (m : Mode) => run_store_fn (P := Tryz.prog) W a fn x y m
 have h1 : Cel (w.alloc (.cells #[.func (.func kf) #[] cf] 133)) w.heap.size 133 [.func (.func kf) #[] cf] := Cel.new w _ [.func (.func kf) #[] cf]
 have h2 := Cel.new (w.alloc (.cells #[.func (.func kf) #[] cf] 133)) 175 [.func (.func kg) #[] cg]
 rw [show (w.alloc (.cells #[.func (.func kf) #[] cf] 133)).heap.size = w.heap.size + 1 by simp] at h2
 obtain ⟨v, hv⟩ : ∃ v, v = f3 146 w.heap.size (w.heap.size + 1) (w.heap.size + 1 + 1) := ⟨_, rfl⟩
 have h3 := Cel.new ((w.alloc (.cells #[.func (.func kf) #[] cf] 133)).alloc (.cells #[.func (.func kg) #[] cg] 175)) 99 [v]
 rw [show ((w.alloc (.cells #[.func (.func kf) #[] cf] 133)).alloc (.cells #[.func (.func kg) #[] cg] 175)).heap.size = w.heap.size + 1 + 1 by simp] at h3
 have hb : Below w.heap.size w _ := ((((Below.refl w.heap.size w).alloc (Nat.le_refl _) (.cells #[.func (.func kf) #[] cf] 133)).alloc (by simp) (.cells #[.func (.func kg) #[] cg] 175)).alloc (by simp; omega) (.cells #[v] 99))
 have HEND := Lib.hid (show RnSays w (.func (.func kf) #[] cf) (.func (.func kg) #[] cg) (.returned v) _ from ⟨by rw [hv], hb, (h1.alloc _).alloc _, h2.alloc _, by rw [← hv]; exact h3⟩)
 rw [hv] at HEND
 clear h3 hb hv v
 clear h1 h2
 go_enter Tryz.func117, Tryz.ntmps117
 go_wp2_with fail
 go_ret
 exact HEND.out
def Wv (w : World) (v : Value) : Prop := ∃ p2 p3 p4 tv ta sa, v = f3 146 p2 p3 p4 ∧ Cel w p2 133 [fp 145 tv] ∧ Cel w p3 175 [fv 118] ∧ Cel w p4 99 [v] ∧
 Cel w tv 209 [.slice (some ⟨ta, 0, none⟩) 3 3] ∧ Cel w ta 133 [fv 115, fv 119, fp 113 sa] ∧ Cel w sa 9 [.string ⟨#[95]⟩]
def Nv (w : World) (D d : Nat) (v : Value) : Prop := ∃ p2 p3 p4 dg, v = f3 146 p2 p3 p4 ∧ Cel w p2 133 [fv 119] ∧ Cel w p3 175 [fp 120 dg] ∧ Cel w p4 99 [v] ∧ D ≤ dg ∧ Cel w dg 3 [.int .i64 (d : Int)]
def En (w : World) (E : Value) : Prop := ∃ eb a0 a1 a2, E = .slice (some ⟨eb, 0, none⟩) 5 5 ∧ Cel w a0 9 [.string ⟨#[9, 10, 13, 32]⟩] ∧ Cel w a1 9 [.string ⟨#[35]⟩] ∧ Cel w a2 9 [.string ⟨#[34]⟩] ∧
 Cel w eb 136 [fp 113 a0, fv 74, fp 113 a1, fv 75, fv 115, fv 78, fv 119, fv 82, fp 113 a2, fv 84]
theorem Wv.chl {D : Nat} {w w' : World} {v : Value} (h : Wv w v) (hc : Chl D w w') : Wv w' v := by
 obtain ⟨p2, p3, p4, tv, ta, sa, e, h1, h2, h3, h4, h5, h6⟩ := h
 exact ⟨p2, p3, p4, tv, ta, sa, e, Cel.chl h1 hc (by simp [Lob]), Cel.chl h2 hc (by simp [Lob]), Cel.chl h3 hc (by simp [Lob]), Cel.chl h4 hc (by simp [Lob]), Cel.chl h5 hc (by simp [Lob]), Cel.chl h6 hc (by simp [Lob])⟩
theorem En.chl {D : Nat} {w w' : World} {E : Value} (h : En w E) (hc : Chl D w w') : En w' E := by
 obtain ⟨eb, a0, a1, a2, e, h1, h2, h3, h4⟩ := h
 exact ⟨eb, a0, a1, a2, e, Cel.chl h1 hc (by simp [Lob]), Cel.chl h2 hc (by simp [Lob]), Cel.chl h3 hc (by simp [Lob]), Cel.chl h4 hc (by simp [Lob])⟩
theorem word_ (w : World) : Calls Tryz.prog 80 #[] w fun e w' => ∃ v, e = .returned v ∧ Wv w' v ∧ Below w.heap.size w w' := by
 have c1 := fun W => letter_ W
 have c2 := fun W => digit_ W
 have c3 := fun W => among_ W ⟨#[95]⟩
 have c4 := fun W A n c => either_ W A n c
 have c5 := fun W kf kg cf cg => run_ W kf kg cf cg
 go_enter Tryz.func80, Tryz.ntmps80
 go_wp2_with fail
 refine (c1 _).mono ?_
 rintro e w1 ⟨rfl, rfl⟩
 go_wp2_with fail
 refine (c2 _).mono ?_
 rintro e w2 ⟨rfl, rfl⟩
 go_wp2_with fail
 refine (c3 _).mono ?_
 rintro e w3 ⟨rfl, rfl⟩
 have h1 := Cel.new w2 9 [.string ⟨#[95]⟩]
 have h2 := Cel.new (w2.alloc (.cells #[.string ⟨#[95]⟩] 9)) 133 [fv 115, fv 119, fp 113 w2.heap.size]
 rw [show (w2.alloc (.cells #[.string ⟨#[95]⟩] 9)).heap.size = w2.heap.size + 1 by simp] at h2
 have hb : Below w2.heap.size w2 _ := ((Below.refl w2.heap.size w2).alloc (Nat.le_refl _) (.cells #[.string ⟨#[95]⟩] 9)).alloc (by simp) (.cells #[fv 115, fv 119, fp 113 w2.heap.size] 133)
 have h1 := Cel.alloc h1 (.cells #[fv 115, fv 119, fp 113 w2.heap.size] 133)
 obtain ⟨W, hW⟩ : ∃ W, W = (w2.alloc (.cells #[.string ⟨#[95]⟩] 9)).alloc (.cells #[fv 115, fv 119, fp 113 w2.heap.size] 133) := ⟨_, rfl⟩
 have con := c4 W (some ⟨w2.heap.size + 1, 0, none⟩) 3 3
 have H1 := Lib.hid (show Cel W _ _ _ from hW ▸ h1)
 have H2 := Lib.hid (show Cel W _ _ _ from hW ▸ h2)
 have HB := Lib.hid (show Below w2.heap.size w2 W from hW ▸ hb)
 have C5 := Lib.hid c5
 rw [hW] at con
 have HW := Lib.hid hW
 clear h1 h2 hb hW c1 c2 c3 c4 c5
 go_wp2_with fail
 refine con.mono ?_
 clear con
 rintro e w4 ⟨rfl, rfl⟩
 rw [← HW.out]
 have con := C5.out (W.alloc (.cells #[.slice (some ⟨w2.heap.size + 1, 0, none⟩) 3 3] 209)) 145 118 #[.pointer (some ⟨W.heap.size, 0, none⟩)] #[]
 have h3 := Cel.new W 209 [.slice (some ⟨w2.heap.size + 1, 0, none⟩) 3 3]
 have hb3 : Below W.heap.size W (W.alloc (.cells #[.slice (some ⟨w2.heap.size + 1, 0, none⟩) 3 3] 209)) := (Below.refl _ _).alloc (Nat.le_refl _) _
 have H3 := Lib.hid h3
 have HB3 := Lib.hid hb3
 clear h3 hb3
 go_wp2_with fail
 refine con.mono ?_
 rintro e w5 ⟨rfl, hb, r1, r2, r3⟩
 have HEND := Lib.hid (show Wv w5 _ ∧ Below w2.heap.size w2 w5 from ⟨⟨_, _, _, W.heap.size, w2.heap.size + 1, w2.heap.size, rfl, r1, r2, r3, Cel.below H3.out hb (Cel.lt H3.out), Cel.below (Cel.below H2.out HB3.out (Cel.lt H2.out)) hb (Cel.lt (Cel.below H2.out HB3.out (Cel.lt H2.out))), Cel.below (Cel.below H1.out HB3.out (Cel.lt H1.out)) hb (Cel.lt (Cel.below H1.out HB3.out (Cel.lt H1.out)))⟩, HB.out.trans ((HB3.out.mono HB.out.size).trans (hb.mono (Nat.le_trans HB.out.size HB3.out.size)))⟩)
 rw [show (W.alloc (.cells #[.slice (some ⟨w2.heap.size + 1, 0, none⟩) 3 3] 209)).heap.size = W.heap.size + 1 by simp] at HEND
 clear r1 r2 r3 hb con
 go_wp2_with fail
 go_ret
 exact ⟨_, rfl, HEND.out⟩
theorem number_ (w : World) (D : Nat) (hD : D ≤ w.heap.size) : Calls Tryz.prog 83 #[] w fun e w' => ∃ v, e = .returned v ∧ Nv w' D 0 v ∧ Below w.heap.size w w' := by
 have hm := hmf
 have c2 := fun W => digit_ W
 have c5 := fun W kf kg cf cg => run_ W kf kg cf cg
 go_enter Tryz.func83, Tryz.ntmps83
 go_wp2_with fail
 refine (c2 _).mono ?_
 rintro e w2 ⟨rfl, rfl⟩
 go_wp2_with fail
 refine (c5 _ _ _ _ _).mono ?_
 have hd := Cel.new w 3 [.int .i64 0]
 have hb0 : Below w.heap.size w (w.alloc (.cells #[.int .i64 0] 3)) := (Below.refl _ _).alloc (Nat.le_refl _) _
 rintro e w3 ⟨rfl, hb, h1, h2, h3⟩
 have HEND := Lib.hid (show Nv w3 D 0 _ ∧ Below w.heap.size w w3 from ⟨⟨_, _, _, w.heap.size, rfl, h1, h2, h3, hD, Cel.below hd hb (Cel.lt hd)⟩, hb0.trans (hb.mono hb0.size)⟩)
 rw [show (w.alloc (.cells #[.int .i64 0] 3)).heap.size = w.heap.size + 1 by simp] at HEND
 clear h1 h2 h3 hb hd hb0
 go_wp2_with fail
 go_ret
 exact ⟨_, rfl, HEND.out⟩
def w0e (w : World) : World := ((w.alloc (.cells #[.string ⟨#[9, 10, 13, 32]⟩] 9)).alloc (.cells #[.string ⟨#[35]⟩] 9)).alloc (.cells #[.string ⟨#[34]⟩] 9)
theorem ents_made (w : World) : En ((((w.alloc (.cells #[.string ⟨#[9, 10, 13, 32]⟩] 9)).alloc (.cells #[.string ⟨#[35]⟩] 9)).alloc (.cells #[.string ⟨#[34]⟩] 9)).alloc (.cells #[fp 113 w.heap.size, fv 74, fp 113 (w.heap.size + 1), fv 75, fv 115, fv 78, fv 119, fv 82, fp 113 (w.heap.size + 1 + 1), fv 84] 136))
  (.slice (some ⟨w.heap.size + 1 + 1 + 1, 0, none⟩) 5 5) ∧ Below w.heap.size w ((((w.alloc (.cells #[.string ⟨#[9, 10, 13, 32]⟩] 9)).alloc (.cells #[.string ⟨#[35]⟩] 9)).alloc (.cells #[.string ⟨#[34]⟩] 9)).alloc (.cells #[fp 113 w.heap.size, fv 74, fp 113 (w.heap.size + 1), fv 75, fv 115, fv 78, fv 119, fv 82, fp 113 (w.heap.size + 1 + 1), fv 84] 136)) := by
 have h0 := Cel.new w 9 [.string ⟨#[9, 10, 13, 32]⟩]
 have h1 := Cel.new (w.alloc (.cells #[.string ⟨#[9, 10, 13, 32]⟩] 9)) 9 [.string ⟨#[35]⟩]
 have s1 : (w.alloc (.cells #[.string ⟨#[9, 10, 13, 32]⟩] 9)).heap.size = w.heap.size + 1 := by simp
 rw [s1] at h1
 have h2 := Cel.new ((w.alloc (.cells #[.string ⟨#[9, 10, 13, 32]⟩] 9)).alloc (.cells #[.string ⟨#[35]⟩] 9)) 9 [.string ⟨#[34]⟩]
 have s2 : ((w.alloc (.cells #[.string ⟨#[9, 10, 13, 32]⟩] 9)).alloc (.cells #[.string ⟨#[35]⟩] 9)).heap.size = w.heap.size + 1 + 1 := by simp
 rw [s2] at h2
 have h3 := Cel.new (w0e w) 136 [fp 113 w.heap.size, fv 74, fp 113 (w.heap.size + 1), fv 75, fv 115, fv 78, fv 119, fv 82, fp 113 (w.heap.size + 1 + 1), fv 84]
 rw [show (w0e w).heap.size = w.heap.size + 1 + 1 + 1 by simp [w0e]] at h3
 exact ⟨⟨_, _, _, _, rfl, ((h0.alloc _).alloc _).alloc _, (h1.alloc _).alloc _, h2.alloc _, h3⟩, ((((Below.refl w.heap.size w).alloc (Nat.le_refl _) _).alloc (by simp) _).alloc (by simp; omega) _).alloc (by simp; omega) _⟩
theorem entrances_ (w : World) : Calls Tryz.prog 33 #[] w fun e w' => ∃ E, e = .returned E ∧ En w' E ∧ Below w.heap.size w w' := by
 have c1 := fun W => letter_ W
 have c2 := fun W => digit_ W
 have c3 := fun W s => among_ W s
 go_enter Tryz.func33, Tryz.ntmps33
 go_wp2_with fail
 refine (c3 _ _).mono ?_
 rintro e w1 ⟨rfl, rfl⟩
 go_wp2_with fail
 refine (c3 _ _).mono ?_
 rintro e w2 ⟨rfl, rfl⟩
 go_wp2_with fail
 refine (c1 _).mono ?_
 rintro e w3 ⟨rfl, rfl⟩
 go_wp2_with fail
 refine (c2 _).mono ?_
 rintro e w4 ⟨rfl, rfl⟩
 go_wp2_with fail
 refine (c3 _ _).mono ?_
 rintro e w5 ⟨rfl, rfl⟩
 have HEND := Lib.hid (ents_made w)
 clear c1 c2 c3
 go_wp2_with fail
 go_ret
 exact ⟨_, rfl, HEND.out⟩
end Go.Proofs.YteohlpmojfjjdaaGreat.Lex
end
section
namespace Go.Proofs.YteohlpmojfjjdaaGreat.Lex
open Go.RowKit
theorem peither {w : World} {tv ta sa : Nat} (h1 : Cel w tv 209 [.slice (some ⟨ta, 0, none⟩) 3 3]) (h2 : Cel w ta 133 [fv 115, fv 119, fp 113 sa]) (h3 : Cel w sa 9 [.string ⟨#[95]⟩]) (b : BitVec 8) :
  Calls Tryz.prog 145 #[v8 b, .pointer (some ⟨tv, 0, none⟩)] w fun e w' => e = .returned (.bool (within b)) ∧ w' = w := by
 have k0 := Cel.cell h1 0
 have t0 := Cel.cell h2 0
 have t1 := Cel.cell h2 1
 have t2 := Cel.cell h2 2
 have c1 := pletter w b
 have c2 := pdigit w b
 have c3 := pamong w sa ⟨#[95]⟩ b (Cel.cell h3 0)
 rw [among_low] at c3
 have HW := Lib.hid (show within b = (letter b || digit b || decide (b = 95#8)) from rfl)
 clear h1 h2 h3
 cases hl : letter b
 ·rw [hl] at c1 HW
  cases hd : digit b
  ·rw [hd] at c2 HW
   cases h5 : decide (b = 95#8)
   ·rw [h5] at c3 HW
    have HX := Lib.hid (show within b = false from HW.out)
    clear HW hl hd h5
    go_enter Tryz.func145, Tryz.ntmps145
    go_wp2_with fail
    refine wp_loop_rounds 4 ?_
    rw [rounds_succ]; go_wp2_with fail
    refine c1.mono ?_
    rintro e w1 ⟨rfl, rfl⟩
    go_wp2_with fail
    rw [rounds_succ]; go_wp2_with fail
    refine c2.mono ?_
    rintro e w1 ⟨rfl, rfl⟩
    go_wp2_with fail
    rw [rounds_succ]; go_wp2_with fail
    refine c3.mono ?_
    rintro e w1 ⟨rfl, rfl⟩
    go_wp2_with fail
    rw [rounds_succ]; go_wp2_with fail
    go_ret
    exact ⟨by rw [HX.out]; rfl, rfl⟩
   ·rw [h5] at c3 HW
    have HX := Lib.hid (show within b = true from HW.out)
    clear HW hl hd h5
    go_enter Tryz.func145, Tryz.ntmps145
    go_wp2_with fail
    refine wp_loop_rounds 4 ?_
    rw [rounds_succ]; go_wp2_with fail
    refine c1.mono ?_
    rintro e w1 ⟨rfl, rfl⟩
    go_wp2_with fail
    rw [rounds_succ]; go_wp2_with fail
    refine c2.mono ?_
    rintro e w1 ⟨rfl, rfl⟩
    go_wp2_with fail
    rw [rounds_succ]; go_wp2_with fail
    refine c3.mono ?_
    rintro e w1 ⟨rfl, rfl⟩
    go_wp2_with fail
    go_ret
    exact ⟨by rw [HX.out]; rfl, rfl⟩
  ·rw [hd] at c2 HW
   have HX := Lib.hid (show within b = true from HW.out)
   clear HW hl hd c3
   go_enter Tryz.func145, Tryz.ntmps145
   go_wp2_with fail
   refine wp_loop_rounds 4 ?_
   rw [rounds_succ]; go_wp2_with fail
   refine c1.mono ?_
   rintro e w1 ⟨rfl, rfl⟩
   go_wp2_with fail
   rw [rounds_succ]; go_wp2_with fail
   refine c2.mono ?_
   rintro e w1 ⟨rfl, rfl⟩
   go_wp2_with fail
   go_ret
   exact ⟨by rw [HX.out]; rfl, rfl⟩
 ·rw [hl] at c1 HW
  have HX := Lib.hid (show within b = true by rw [HW.out]; rfl)
  clear HW hl c2 c3
  go_enter Tryz.func145, Tryz.ntmps145
  go_wp2_with fail
  refine wp_loop_rounds 4 ?_
  rw [rounds_succ]; go_wp2_with fail
  refine c1.mono ?_
  rintro e w1 ⟨rfl, rfl⟩
  go_wp2_with fail
  go_ret
  exact ⟨by rw [HX.out]; rfl, rfl⟩
end Go.Proofs.YteohlpmojfjjdaaGreat.Lex
end
section
namespace Go.Proofs.YteohlpmojfjjdaaGreat.Lex
open Go.RowKit
def Fits (w : World) (eb : Nat) (kf ke : Nat → Nat) (cf : Nat → Array Value) : Prop := ∀ i, i < 5 → w.cell? ⟨eb, i * 2, none⟩ = some (.func (.func (kf i)) #[] (cf i)) ∧ w.cell? ⟨eb, i * 2 + 1, none⟩ = some (fv (ke i))
theorem between_at {w : World} {g eb k : Nat} {A : Option Addr} {m c : Nat} {p z : Int} {kf ke : Nat → Nat} {cf : Nat → Array Value} {Post : Ending → World → Prop} (b : BitVec 8) (hk : k ≤ 5) (hc : Pcc w g (.slice (some ⟨eb, 0, none⟩) 5 5) A m c p z) (hf : Fits w eb kf ke cf)
  (hF : ∀ i, i < 5 → ∀ args W, (callFunc (kf i) args).run Tryz.prog W = .ok (.enter (kf i) args) W) (hE : ∀ i, i < 5 → ∀ args W, (callFunc (ke i) args).run Tryz.prog W = .ok (.enter (ke i) args) W)
  (conF : ∀ i, i < 5 → i ≤ k → ∀ W, Below w.heap.size w W → Calls Tryz.prog (kf i) (#[v8 b] ++ cf i) W fun e w' => e = .returned (.bool (decide (i = k))) ∧ w' = W)
  (conE : k < 5 → ∀ W, Below w.heap.size w W → Calls Tryz.prog (ke k) #[.pointer (some ⟨g, 0, none⟩), v8 b] W fun e w' => (∃ v, e = .returned v) ∧ Post e w')
  (con5 : k = 5 → ∀ W, Below w.heap.size w W → Calls Tryz.prog 86 #[.pointer (some ⟨g, 0, none⟩), .int .i64 p] W fun e w' => (∃ v, e = .returned v) ∧ Post e w') :
  Calls Tryz.prog 34 #[.pointer (some ⟨g, 0, none⟩), v8 b] w Post := by
 have k0 := Cel.cell hc 0
 have HC := Lib.hid hc
 have HFT := Lib.hid hf
 have CF := Lib.hid conF
 have CE := Lib.hid conE
 have C5 := Lib.hid con5
 have RF := Lib.hid hF
 have RE := Lib.hid hE
 have hst := fun (W : World) (a : Addr) (fn : Fn) (x y : Array Value) (m : Mode) => run_store_fn (P := Tryz.prog) W a fn x y m
 clear hc hf conF conE con5 hF hE
 go_enter Tryz.func34, Tryz.ntmps34
 go_wp2_with fail
 go_loopw [12] (fun v12 wr => ∃ i : Nat, i ≤ k ∧ v12 = .int .i64 (i : Int) ∧ Below w.heap.size w wr) (fun v12 _ => 6 - (intOf v12).toNat)
 case atStart => exact ⟨0, Nat.zero_le _, rfl, Below.refl _ _⟩
 case round =>
  obtain ⟨i, hi, rfl, hb⟩ := hrel
  obtain ⟨W0, rfl⟩ : ∃ W0, W0 = wr := ⟨_, rfl⟩
  have HB := Lib.hid hb
  rcases Nat.lt_or_ge i 5 with h5 | h5
  ·obtain ⟨f0, f1⟩ := HFT.out i h5
   have f0 := (hb.cell (cell_lt f0)).trans f0
   have f1 := (hb.cell (cell_lt f1)).trans f1
   have rf := RF.out i h5
   have re := RE.out i h5
   have hlt : decide ((i : Int) < 5) = true := by simp; omega
   clear hb
   have hb2 : Below W0.heap.size W0 (W0.alloc (.cells #[.func (.func (kf i)) #[] (cf i), fv (ke i)] 136)) := (Below.refl _ _).alloc (Nat.le_refl _) _
   have hbw : Below w.heap.size w (W0.alloc (.cells #[.func (.func (kf i)) #[] (cf i), fv (ke i)] 136)) := HB.out.trans (hb2.mono HB.out.size)
   have con := CF.out i h5 hi _ hbw
   rcases Nat.lt_or_ge i k with hik | hik
   ·rw [show decide (i = k) = false by simp; omega] at con
    have HBW := Lib.hid hbw
    clear hb2 hbw re
    go_wp2_with fail
    refine con.mono ?_
    clear con
    rintro e w2 ⟨rfl, rfl⟩
    go_wp2_with fail
    exact ⟨⟨i + 1, hik, by rw [show ((i + 1 : Nat) : Int) = (i : Int) + 1 by omega], HBW.out⟩, by simp [intOf]; omega⟩
   ·obtain rfl : i = k := by omega
    rw [show decide (i = i) = true by simp] at con
    have con2 := CE.out h5 _ hbw
    clear hb2 hbw
    go_wp2_with fail
    refine con.mono ?_
    clear con
    rintro e w2 ⟨rfl, rfl⟩
    go_wp2_with fail
    refine con2.mono ?_
    clear con2
    rintro e w3 ⟨⟨v, rfl⟩, hp⟩
    have HP := Lib.hid hp
    clear hp
    go_wp2_with fail
    exact HP.out
  ·obtain rfl : i = 5 := by omega
   obtain rfl : k = 5 := by omega
   have con := C5.out rfl W0 hb
   have k2 := Cel.cell (Cel.below HC.out hb (Cel.lt HC.out)) 2
   clear hb
   go_wp2_with fail
   refine con.mono ?_
   clear con
   rintro e w3 ⟨⟨v, rfl⟩, hp⟩
   have HP := Lib.hid hp
   clear hp
   go_wp2_with fail
   exact HP.out
end Go.Proofs.YteohlpmojfjjdaaGreat.Lex
end
