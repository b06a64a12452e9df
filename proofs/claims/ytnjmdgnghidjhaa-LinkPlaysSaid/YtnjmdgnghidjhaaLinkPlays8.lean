/-
Texts: PeerPmeet PeerPtake
-/
import Derived.Test.YtnjmdgnghidjhaaLinkPlays0
import Derived.Test.YtnjmdgnghidjhaaLinkPlays1
import Derived.Test.YtnjmdgnghidjhaaLinkPlays2
import Derived.Test.YtnjmdgnghidjhaaLinkPlays7
set_option linter.unusedVariables false
set_option linter.unusedSimpArgs false
set_option maxRecDepth 100000
set_option maxHeartbeats 4000000
namespace Go.Proofs.Ytnjmdgnghidjhaa.Ord
end Go.Proofs.Ytnjmdgnghidjhaa.Ord
section
namespace Go.Proofs.Ytnjmdgnghidjhaa.Peer
open Go.RowKit Go.Proofs.Ytnjmdgnghidjhaa.Ord
open Lex (Tx fw4 fw4_cel fw4_frm)
open Rec (Vt Tvs Trow txt)
theorem mono_below {w0 w w' : World} {K : Nat} {l : List Nat} (hb : Below K w0 w) (hK : K ≤ w0.heap.size) (hf : Frm l w w') (hl : ∀ q ∈ l, K ≤ q) : Below K w0 w' := hb.trans (hf.below (Nat.le_trans hK hb.size) hl)
theorem answer_ (w : World) (K g T : Nat) (AR : Option Addr) (nR cR : Nat) (vs : List Rl) (hR : ∀ V, Below K w V → Rls V T AR vs) (hT : T ≤ K) (hK : K ≤ w.heap.size) (hKg : K ≤ g) (hl : vs.length = nR) (hn : nR ≤ 100000) (p : Pe) (f : Fv) (h : Fd w K g AR nR cR p f)
  (A : Option Addr) (c : Nat) (x : List B) (hx : Bs w w.heap.size A x.length x) (hsz : p.log.length ≤ 10000000 ∧ ∀ v ∈ vs, v.r.out.length ≤ 1000000) :
  Calls Try.prog 34 #[.pointer (some ⟨g, 0, none⟩), .slice A x.length c] w fun e w' => e = .returned (.tuple #[]) ∧ Below K w w' ∧ ∃ f', Fd w' K g AR nR cR (ansR (vs.map (·.r)) p x) f' := by
 obtain ⟨Q, hQ⟩ : ∃ Q, Q = ansR (vs.map (·.r)) p x := ⟨_, rfl⟩
 rw [← hQ]
 have HQ := Lib.hid hQ
 have HRF := Lib.hid hR
 have HL := Lib.hid hl
 have HF := Lib.hid h
 have HX := Lib.hid hx
 have HSZ := Lib.hid hsz
 have k4 : w.cell? ⟨g, 4, none⟩ = some (.slice AR nR cR) := h.cel.cell 4
 clear hQ hR hl h hx hsz
 go_enter Try.func34, Try.ntmps34
 go_wp2_with fail
 go_loopw [11] (fun v11 wr => ∃ (i : Nat), i ≤ nR ∧ v11 = .int .i64 (i : Int) ∧ Below w.heap.size w wr ∧ Hid (meets (vs.map (·.r)) p.state x = meets ((vs.map (·.r)).drop i) p.state x)) (fun v11 _ => nR - (intOf v11).toNat)
 case atStart => exact ⟨0, Nat.zero_le _, rfl, Below.refl _ _, Lib.hid (by rw [List.drop_zero])⟩
 case round =>
  clear k4
  obtain ⟨i, hi, rfl, hb, HD⟩ := hrel
  obtain ⟨V1, hV1⟩ : ∃ V1, V1 = wr := ⟨_, rfl⟩
  rw [← hV1] at hb ⊢
  clear hV1
  have HB1 := Lib.hid hb
  rcases Nat.lt_or_ge i nR with hlt | hge
  ·obtain ⟨v, hv⟩ : ∃ v, vs[i]? = some v := ⟨_, List.getElem?_eq_getElem (by rw [HL.out]; exact hlt)⟩
   obtain ⟨ad, rfl, a0, a1, a2, a3, _, _⟩ := HRF.out V1 (hb.mono hK) i v hv
   obtain ⟨W, hW⟩ : ∃ W, W = (V1.alloc (.cells #[.int .i64 v.r.state, .slice v.A1 v.r.line.length v.c1, .slice v.A2 v.r.out.length v.c2, .int .i64 v.r.next] 55)).drew := ⟨_, rfl⟩
   have hbf : Below V1.heap.size V1 W := by rw [hW]; exact ((Below.refl _ _).alloc (Nat.le_refl _) _).drew
   have hcr : Cel W V1.heap.size 55 [.int .i64 v.r.state, .slice v.A1 v.r.line.length v.c1, .slice v.A2 v.r.out.length v.c2, .int .i64 v.r.next] := by rw [hW]; exact (Cel.new V1 55 [.int .i64 v.r.state, .slice v.A1 v.r.line.length v.c1, .slice v.A2 v.r.out.length v.c2, .int .i64 v.r.next]).drew
   have hbw : Below w.heap.size w W := hb.trans (hbf.mono hb.size)
   have HFW := Lib.hid (HF.out.below hbw)
   have HC := Lib.hid (show Cel W g 72 [.int .i64 p.state, .slice f.PA p.part.length f.pc, .slice f.LA p.log.length f.lc, .slice f.A p.lines.length f.c, .slice (some ad) nR cR] from (HF.out.below hbw).cel)
   have HCR := Lib.hid hcr
   have HBW := Lib.hid hbw
   have HV := Lib.hid hv
   have HD1 := Lib.hid (show (vs.map (·.r)).drop i = v.r :: (vs.map (·.r)).drop (i + 1) from drop_rl (by rw [List.getElem?_map, hv]; rfl))
   obtain ⟨tb, htb⟩ : ∃ b, b = decide (v.r.line = x) := ⟨_, rfl⟩
   have HTB := Lib.hid htb
   have HT := Lib.hid (show Tx W T v.A1 v.r.line ∧ Tx W T v.A2 v.r.out by obtain ⟨_, _, _, _, _, _, h1, h2⟩ := HRF.out W (hbw.mono hK) i v hv; exact ⟨h1, h2⟩)
   have HTW := Lib.hid (show T ≤ W.heap.size from Nat.le_trans hT (Nat.le_trans hK hbw.size))
   have HXW := Lib.hid (show Bs W W.heap.size A x.length x from (HX.out.below hbw).more hbw.size)
   clear hv hbw hcr htb
   go_upto_region 3 with fail
   refine wp_region_N [] (fun V => Below W.heap.size W V) (by kernel_rfl) ?_
   rw [← hW]
   have hH : Below W.heap.size W W := Below.refl _ _
   clear hW a0 a1 a2 a3 hb
   refine tk_ 0 (.pointer (some ⟨V1.heap.size, 0, none⟩)) [] rfl hH ?_ ?_
   ·intro V hV; go_simp
   try simp only [Act.put, lay_]
   refine tk_ 1 (.int .i64 v.r.state) [] rfl hH ?_ ?_
   ·intro V hV; have hc := HCR.out.below hV HCR.out.lt; have k0 : V.cell? ⟨V1.heap.size, 0, none⟩ = some (.int .i64 v.r.state) := hc.cell 0; clear hc; go_simp
   try simp only [Act.put, lay_]
   refine tk_ 2 (.pointer (some ⟨g, 0, none⟩)) [] rfl hH ?_ ?_
   ·intro V hV; go_simp
   try simp only [Act.put, lay_]
   refine tk_ 3 (.pointer (some ⟨g, 0, none⟩)) [] rfl hH ?_ ?_
   ·intro V hV; go_simp
   try simp only [Act.put, lay_]
   refine tk_ 4 (.pointer (some ⟨g, 0, none⟩)) [] rfl hH ?_ ?_
   ·intro V hV; go_simp
   try simp only [Act.put, lay_]
   refine tk_ 5 (.pointer (some ⟨g, 0, none⟩)) [] rfl hH ?_ ?_
   ·intro V hV; go_simp
   try simp only [Act.put, lay_]
   refine tk_ 6 (.int .i64 p.state) [] rfl hH ?_ ?_
   ·intro V hV; have hc := HC.out.below hV HC.out.lt; have k0 : V.cell? ⟨g, 0, none⟩ = some (.int .i64 p.state) := hc.cell 0; clear hc; go_simp
   try simp only [Act.put, lay_]
   cases hz7 : (v.r.state == p.state) with
   | true =>
    refine tk_ 7 (.bool true) [] rfl hH ?_ ?_
    ·intro V hV; go_simp
    try simp only [Act.put, lay_]
    refine tk_ 8 (.bool true) [] rfl hH ?_ ?_
    ·intro V hV; go_simp
    try simp only [Act.put, lay_]
    refine tk_ 9 (.pointer (some ⟨V1.heap.size, 1, none⟩)) [] rfl hH ?_ ?_
    ·intro V hV; go_simp
    try simp only [Act.put, lay_]
    refine tk_ 10 (.slice v.A1 v.r.line.length v.c1) [] rfl hH ?_ ?_
    ·intro V hV; have hc := HCR.out.below hV HCR.out.lt; have k0 : V.cell? ⟨V1.heap.size, 1, none⟩ = some (.slice v.A1 v.r.line.length v.c1) := hc.cell 1; clear hc; go_simp
    try simp only [Act.put, lay_]
    refine tk_ 11 (.slice A x.length c) [] rfl hH ?_ ?_
    ·intro V hV; go_simp
    try simp only [Act.put, lay_]
    refine wpAnyN_one (i := 12) (by kernel_rfl) rfl (fun Kq hKq => ?_)
    go_simp
    refine ((show Calls Try.prog 35 #[.slice v.A1 v.r.line.length v.c1, .slice A x.length c] W (fun e w' => e = .returned (.bool tb) ∧ W = w') by rw [HTB.out]; exact equal_ W v.A1 A v.c1 c v.r.line x (HT.out.1.bs HTW.out) HXW.out)).mono ?_
    rintro e V2 ⟨rfl, rfl⟩
    go_wp2_with fail
    refine hKq.out _ _ (.inr hH) ?_
    clear hKq Kq
    try simp only [Act.put, lay_]
    cases tb with
    | true =>
     refine tk_ 13 (.bool true) [] rfl hH ?_ ?_
     ·intro V hV; go_simp
     try simp only [Act.put, lay_]
     refine wpAnyN_done (by kernel_rfl) ?_ _
     go_wp2_with fail
     refine wp_region_N [12] (fun V => Cel V g 72 [.int .i64 p.state, .slice f.PA p.part.length f.pc, .slice f.LA p.log.length f.lc, .slice f.A p.lines.length f.c, .slice (some ad) nR cR] ∧ Cel V V1.heap.size 55 [.int .i64 v.r.state, .slice v.A1 v.r.line.length v.c1, .slice v.A2 v.r.out.length v.c2, .int .i64 v.r.next]) (by kernel_rfl) ?_
     clear hH
     have HS1 := Lib.hid (show ∀ V, (Cel V g 72 [.int .i64 p.state, .slice f.PA p.part.length f.pc, .slice f.LA p.log.length f.lc, .slice f.A p.lines.length f.c, .slice (some ad) nR cR] ∧ Cel V V1.heap.size 55 [.int .i64 v.r.state, .slice v.A1 v.r.line.length v.c1, .slice v.A2 v.r.out.length v.c2, .int .i64 v.r.next]) → Cel V g 72 [.int .i64 p.state, .slice f.PA p.part.length f.pc, .slice f.LA p.log.length f.lc, .slice f.A p.lines.length f.c, .slice (some ad) nR cR] from fun V h => h.1)
     have HS2 := Lib.hid (show ∀ V, (Cel V g 72 [.int .i64 p.state, .slice f.PA p.part.length f.pc, .slice f.LA p.log.length f.lc, .slice f.A p.lines.length f.c, .slice (some ad) nR cR] ∧ Cel V V1.heap.size 55 [.int .i64 v.r.state, .slice v.A1 v.r.line.length v.c1, .slice v.A2 v.r.out.length v.c2, .int .i64 v.r.next]) → Cel V V1.heap.size 55 [.int .i64 v.r.state, .slice v.A1 v.r.line.length v.c1, .slice v.A2 v.r.out.length v.c2, .int .i64 v.r.next] from fun V h => h.2)
     have hH : Cel W.drew g 72 [.int .i64 p.state, .slice f.PA p.part.length f.pc, .slice f.LA p.log.length f.lc, .slice f.A p.lines.length f.c, .slice (some ad) nR cR] ∧ Cel W.drew V1.heap.size 55 [.int .i64 v.r.state, .slice v.A1 v.r.line.length v.c1, .slice v.A2 v.r.out.length v.c2, .int .i64 v.r.next] := ⟨HC.out.drew, HCR.out.drew⟩
     refine tk_ 0 (.pointer (some ⟨g, 0, none⟩)) [12] rfl hH ?_ ?_
     ·intro V hV; go_simp
     try simp only [Act.put, lay_]
     refine tk_ 1 (.pointer (some ⟨g, 0, none⟩)) [12] rfl hH ?_ ?_
     ·intro V hV; go_simp
     try simp only [Act.put, lay_]
     refine tk_ 2 (.pointer (some ⟨g, 0, none⟩)) [12] rfl hH ?_ ?_
     ·intro V hV; go_simp
     try simp only [Act.put, lay_]
     refine tk_ 3 (.pointer (some ⟨g, 0, none⟩)) [12] rfl hH ?_ ?_
     ·intro V hV; go_simp
     try simp only [Act.put, lay_]
     refine tk_ 4 (.pointer (some ⟨g, 2, none⟩)) [12] rfl hH ?_ ?_
     ·intro V hV; go_simp
     try simp only [Act.put, lay_]
     refine tk_ 5 (.slice f.LA p.log.length f.lc) [12] rfl hH ?_ ?_
     ·intro V hV; have hc := HS1.out V hV; have k0 : V.cell? ⟨g, 2, none⟩ = some (.slice f.LA p.log.length f.lc) := hc.cell 2; clear hc; go_simp
     try simp only [Act.put, lay_]
     refine tk_ 6 (.pointer (some ⟨V1.heap.size, 2, none⟩)) [12] rfl hH ?_ ?_
     ·intro V hV; go_simp
     try simp only [Act.put, lay_]
     refine tk_ 7 (.slice v.A2 v.r.out.length v.c2) [12] rfl hH ?_ ?_
     ·intro V hV; have hc := HS2.out V hV; have k0 : V.cell? ⟨V1.heap.size, 2, none⟩ = some (.slice v.A2 v.r.out.length v.c2) := hc.cell 2; clear hc; go_simp
     try simp only [Act.put, lay_]
     refine wpAnyN_one (i := 8) (by kernel_rfl) rfl (fun Kq hKq => ?_)
     rw [if_pos (by rfl)]
     refine wp_append_bs _ _ _ 37 rfl K 5 bytesP (.slice f.LA p.log.length f.lc) p.log.length p.log rfl HFW.out.drew.lg W.heap.size v.A2 v.r.out.length v.c2 v.r.out rfl (HT.out.2.bs HTW.out) (by have h1 := HSZ.out.1; have h2 := HSZ.out.2 v (List.mem_of_getElem? HV.out); omega) (Nat.le_trans hK HBW.out.size) ?_
     intro A8 c8 w8 ho8 hg8 hn8
     rw [ob_own] at hg8
     rw [ob_own, ob_own] at hn8
     have HNE := Lib.hid (show V1.heap.size ≠ g from fun e => by have := HCR.out; rw [e] at this; exact HC.out.ne this (by decide) rfl)
     have hH8 : Cel w8 g 72 [.int .i64 p.state, .slice f.PA p.part.length f.pc, .slice f.LA p.log.length f.lc, .slice f.A p.lines.length f.c, .slice (some ad) nR cR] ∧ Cel w8 V1.heap.size 55 [.int .i64 v.r.state, .slice v.A1 v.r.line.length v.c1, .slice v.A2 v.r.out.length v.c2, .int .i64 v.r.next] := ⟨HC.out.drew.grown hg8 HFW.out.lg_g, HCR.out.drew.grown hg8 (fun e => by rw [← ob_own f.LA p.log.length f.lc] at e; exact own_ty_ne HFW.out.lg HCR.out (by decide) e)⟩
     have HR8 := Lib.hid hH8.2
     have HO8 := Lib.hid ho8
     have HG8 := Lib.hid hg8
     have HN8 := Lib.hid hn8
     clear ho8 hg8 hn8
     refine hKq.out _ _ (.inr hH8) ?_
     clear hKq Kq
     try simp only [Act.put, lay_]
     clear hH
     have hH := hH8
     refine tk_ 9 (.pointer (some ⟨g, 0, none⟩)) [10, 11, 12] rfl hH ?_ ?_
     ·intro V hV; go_simp
     try simp only [Act.put, lay_]
     refine tk_ 10 (.pointer (some ⟨g, 0, none⟩)) [11, 12] rfl hH ?_ ?_
     ·intro V hV; go_simp
     try simp only [Act.put, lay_]
     refine tk_ 11 (.pointer (some ⟨g, 2, none⟩)) [12] rfl hH ?_ ?_
     ·intro V hV; go_simp
     try simp only [Act.put, lay_]
     have k2 := hH8.1.cell 2
     have f2 := hH8.1.free 2
     refine wpAnyN_one (i := 12) (by kernel_rfl) rfl (fun Kq hKq => ?_)
     go_simp
     refine hKq.out _ _ (.inl (by decide)) ?_
     clear hKq Kq k2 f2
     try simp only [Act.put, lay_]
     refine wpAnyN_done (by kernel_rfl) ?_ _
     obtain ⟨V5, hV5⟩ : ∃ V5, V5 = w8.setCell ⟨g, 2, none⟩ (.slice A8 (p.log.length + v.r.out.length) c8) := ⟨_, rfl⟩
     rw [← hV5]
     have r3 : V5.cell? ⟨V1.heap.size, 3, none⟩ = some (.int .i64 v.r.next) := by rw [hV5]; exact (HR8.out.far (by exact HNE.out) _).cell 3
     have hg5 := hH8.1.set 2 (.slice A8 (p.log.length + v.r.out.length) c8)
     rw [← hV5] at hg5
     have c0 := hg5.cell 0
     have f0 := hg5.free 0
     have HV5 := Lib.hid hV5
     clear hV5 hg5 hH
     go_wp2_with fail
     refine bodyPost_ret (results_none rfl _ _ _) rfl ?_
     have hfd := HFW.out.drew.says v.r.next v.r.out (by rw [List.length_append]) HO8.out HG8.out HN8.out
     rw [← HV5.out] at hfd
     refine ⟨rfl, ?_, { f with LA := A8, lc := c8 }, ?_⟩
     ·exact (mono_below (mono_below (HBW.out.mono hK).drew hK ((Frm.refl (ob f.LA).toList _).grown HG8.out (fun q e _ => by simp [e])) (fun q hq => HFW.out.lg_ge q (by simpa using hq))) hK (show Frm [g] w8 _ by rw [HV5.out]; exact ((Frm.refl [g] w8).set (p := ⟨g, 2, none⟩) (by simp) _).set (p := ⟨g, 0, none⟩) (by simp) _) (by simp; exact hKg))
     ·rw [HQ.out]
      unfold ansR
      rw [HD.out, HD1.out, meets_hit ⟨by simpa using hz7, by simpa using HTB.out.symm⟩]
      exact hfd
    | false =>
     refine tk_ 13 (.bool false) [] rfl hH ?_ ?_
     ·intro V hV; go_simp
     try simp only [Act.put, lay_]
     refine wpAnyN_done (by kernel_rfl) ?_ _
     go_wp2_with fail
     exact ⟨⟨i + 1, hlt, by rw [show ((i + 1 : Nat) : Int) = (i : Int) + 1 by omega], HBW.out, Lib.hid (by rw [HD.out, HD1.out, meets_miss (by intro h; have := HTB.out; simp [h.2] at this)])⟩, by simp [intOf]; omega⟩
   | false =>
    refine tk_ 7 (.bool false) [] rfl hH ?_ ?_
    ·intro V hV; go_simp
    try simp only [Act.put, lay_]
    refine tk_ 8 (.bool false) [] rfl hH ?_ ?_
    ·intro V hV; go_simp
    try simp only [Act.put, lay_]
    refine wpAnyN_take (i := 9) (v := undef) [] (by kernel_rfl) rfl (by kernel_rfl) (by kernel_rfl) (by kernel_rfl) (fun _ _ _ h => h) (Or.inr ⟨by rfl, rfl⟩) hH ?_
    try simp only [Act.put, lay_]
    refine wpAnyN_take (i := 10) (v := undef) [] (by kernel_rfl) rfl (by kernel_rfl) (by kernel_rfl) (by kernel_rfl) (fun _ _ _ h => h) (Or.inr ⟨by rfl, rfl⟩) hH ?_
    try simp only [Act.put, lay_]
    refine wpAnyN_take (i := 11) (v := undef) [] (by kernel_rfl) rfl (by kernel_rfl) (by kernel_rfl) (by kernel_rfl) (fun _ _ _ h => h) (Or.inr ⟨by rfl, rfl⟩) hH ?_
    try simp only [Act.put, lay_]
    refine wpAnyN_take (i := 12) (v := undef) [] (by kernel_rfl) rfl (by kernel_rfl) (by kernel_rfl) (by kernel_rfl) (fun _ _ _ h => h) (Or.inr ⟨by rfl, rfl⟩) hH ?_
    try simp only [Act.put, lay_]
    refine tk_ 13 (.bool false) [] rfl hH ?_ ?_
    ·intro V hV; go_simp
    try simp only [Act.put, lay_]
    refine wpAnyN_done (by kernel_rfl) ?_ _
    go_wp2_with fail
    exact ⟨⟨i + 1, hlt, by rw [show ((i + 1 : Nat) : Int) = (i : Int) + 1 by omega], HBW.out, Lib.hid (by rw [HD.out, HD1.out, meets_miss (by have h1 := hz7; intro h; simp [h.1] at h1)])⟩, by simp [intOf]; omega⟩
  ·obtain rfl : i = nR := by omega
   go_wp2_with fail
   go_end0
   refine ⟨rfl, HB1.out.mono hK, f, ?_⟩
   rw [HQ.out]
   unfold ansR
   rw [HD.out, List.drop_of_length_le (by rw [List.length_map, HL.out]; exact Nat.le_refl _)]
   exact HF.out.below HB1.out
end Go.Proofs.Ytnjmdgnghidjhaa.Peer
end
section
namespace Go.Proofs.Ytnjmdgnghidjhaa.Peer
open Go.RowKit Go.Proofs.Ytnjmdgnghidjhaa.Ord
open Lex (Tx fw4 fw4_cel fw4_frm b_ne)
open Rec (Vt Tvs Trow txt)
theorem below_grown {w0 w w' : World} {K : Nat} {A : Option Addr} (hb : Below K w0 w) (hK : K ≤ w0.heap.size) (hg : w.grownBy w' (ob A)) (hl : ∀ q, ob A = some q → K ≤ q) : Below K w0 w' :=
 mono_below (l := (ob A).toList) hb hK ((Frm.refl _ w).grown hg (fun q e _ => by simp [e])) (fun q hq => hl q (by simpa using hq))
theorem complete_ (w : World) (K g T : Nat) (AR : Option Addr) (nR cR : Nat) (vs : List Rl) (hR : ∀ V, Below K w V → Rls V T AR vs) (hT : T ≤ K) (hK : K ≤ w.heap.size) (hKg : K ≤ g) (hl : vs.length = nR) (hn : nR ≤ 100000) (p : Pe) (f : Fv) (h : Fd w K g AR nR cR p f)
  (hsz : p.log.length ≤ 10000000 ∧ (∀ v ∈ vs, v.r.out.length ≤ 1000000) ∧ p.part.length ≤ 400 ∧ p.lines.length ≤ 1000000) :
  Calls Try.prog 33 #[.pointer (some ⟨g, 0, none⟩)] w fun e w' => e = .returned (.tuple #[]) ∧ Below K w w' ∧ ∃ f', Fd w' K g AR nR cR (lineR (vs.map (·.r)) p p.part) f' := by
 rw [line_ans]
 have HRF := Lib.hid hR
 have HL := Lib.hid hl
 have HF := Lib.hid h
 have HSZ := Lib.hid hsz
 have k1 : w.cell? ⟨g, 1, none⟩ = some (.slice f.PA p.part.length f.pc) := h.cel.cell 1
 have k3 : w.cell? ⟨g, 3, none⟩ = some (.slice f.A p.lines.length f.c) := h.cel.cell 3
 obtain ⟨W, hW⟩ : ∃ W, W = w.alloc (.cells #[.slice f.PA p.part.length f.pc] 37) := ⟨_, rfl⟩
 have hbW : Below w.heap.size w W := by rw [hW]; exact (Below.refl _ _).alloc (Nat.le_refl _) _
 have HBW := Lib.hid hbW
 have HFW := Lib.hid (h.below hbW)
 have HSX := Lib.hid (show Src W (some ⟨w.heap.size, 0, none⟩) 1 [.slice f.PA p.part.length f.pc] by rw [hW]; exact Ry.src (m := 1) (Ry.of_cel (Cel.new w 37 [.slice f.PA p.part.length f.pc])) (by simp))
 have HWE := Lib.hid hW
 have HOW := Lib.hid HFW.out.ls
 have hKW : K ≤ W.heap.size := Nat.le_trans hK hbW.size
 have HUN := Lib.hid (show f.us.length = p.lines.length by have := congrArg List.length h.tx; unfold txt at this; simpa using this)
 rw [hW] at HOW HSX hKW
 clear hR hl h hsz hW hbW
 go_enter Try.func33, Try.ntmps33
 go_wp2_with ((at_builtin; refine wpList_append_any _ rfl _ _ 47 rfl K 37 rowLn (.slice f.A p.lines.length f.c) p.lines.length (f.us.map Vt.cell) rfl HOW.out (some ⟨w.heap.size, 0, none⟩) 1 1 [.slice f.PA p.part.length f.pc] rfl rfl HSX.out (by intro u hu; rw [List.mem_singleton.1 hu]; rfl) (p.lines.length + 1) _ rfl rfl (by have := HSZ.out.2.2.2; unfold maxLen; omega) (by have := HSZ.out.2.2.2; omega) hKW ?_; intro A5 c5 w5 ho5 hg5 hn5; rw [← HWE.out] at hg5 hn5; rw [ob_own] at hg5; rw [ob_own, ob_own] at hn5; have hc5 := HFW.out.cel.grown hg5 HFW.out.ls_g; have q1 := hc5.cell 1; have q3 := hc5.cell 3; have f1 := hc5.free 1; have f3 := hc5.free 3; have HC5 := Lib.hid hc5; have HO5 := Lib.hid ho5; have HG5 := Lib.hid hg5; have HN5 := Lib.hid hn5; clear ho5 hg5 hn5 hc5))
 have hfd := HFW.out.line HSZ.out.2.2.1 HO5.out HG5.out HN5.out
 obtain ⟨V6, hV6⟩ : ∃ V6, V6 = (w5.setCell ⟨g, 3, none⟩ (.slice A5 (p.lines.length + 1) c5)).setCell ⟨g, 1, none⟩ (.slice none 0 0) := ⟨_, rfl⟩
 rw [← hV6] at hfd ⊢
 have hb6 : Below K w V6 := by
  have h1 : Below K w w5 := below_grown (HBW.out.mono hK) hK HG5.out HFW.out.ls_ge
  exact mono_below h1 hK (show Frm [g] w5 V6 by rw [hV6]; exact ((Frm.refl [g] w5).set (p := ⟨g, 3, none⟩) (by simp) _).set (p := ⟨g, 1, none⟩) (by simp) _) (by simp; exact hKg)
 have hx : Bs V6 V6.heap.size f.PA p.part.length p.part := (hfd.by_ (⟨f.PA, f.pc, p.part⟩ : Vt) (by simp)).1.low
 have con := answer_ V6 K g T AR nR cR vs (fun V h => HRF.out V (hb6.trans h)) hT (Nat.le_trans hK hb6.size) hKg HL.out hn _ _ hfd f.PA f.pc p.part hx ⟨HSZ.out.1, HSZ.out.2.1⟩
 have HB6 := Lib.hid hb6
 clear hV6 hb6 hx hfd q1 q3 f1 f3
 refine con.mono ?_
 rintro e w7 ⟨rfl, hb7, f', hf'⟩
 have H7 := Lib.hid hf'
 have HB7 := Lib.hid hb7
 clear con hf' hb7
 go_wp2_with fail
 go_end0
 exact ⟨rfl, HB6.out.trans HB7.out, f', H7.out⟩
theorem receive_ (w : World) (K g T : Nat) (AR : Option Addr) (nR cR : Nat) (vs : List Rl) (hR : ∀ V, Below K w V → Rls V T AR vs) (hT : T ≤ K) (hK : K ≤ w.heap.size) (hKg : K ≤ g) (hl : vs.length = nR) (hn : nR ≤ 100000) (p : Pe) (f : Fv) (h : Fd w K g AR nR cR p f)
  (hsz : p.log.length ≤ 10000000 ∧ (∀ v ∈ vs, v.r.out.length ≤ 1000000) ∧ p.part.length ≤ 400 ∧ p.lines.length ≤ 1000000) (x : B) :
  Calls Try.prog 32 #[.pointer (some ⟨g, 0, none⟩), v8 x] w fun e w' => e = .returned (.tuple #[]) ∧ Below K w w' ∧ ∃ f', Fd w' K g AR nR cR (byteR (vs.map (·.r)) p x) f' := by
 by_cases h10 : x = 10#8
 ·subst h10
  have con := complete_ w K g T AR nR cR vs hR hT hK hKg hl hn p f h hsz
  have e0 : byteR (vs.map (·.r)) p 10#8 = lineR (vs.map (·.r)) p p.part := by unfold byteR; rw [if_pos (show (10#8 : B) = 10 from rfl)]
  rw [e0]
  clear hR hl h hsz
  go_enter Try.func32, Try.ntmps32
  go_wp2_with fail
  refine con.mono ?_
  rintro e w7 ⟨rfl, hb7, f', hf'⟩
  have H7 := Lib.hid hf'
  have HB7 := Lib.hid hb7
  clear con hf' hb7
  go_wp2_with fail
  go_end0
  exact ⟨rfl, HB7.out, f', H7.out⟩
 ·have e10 : ((x.toNat : Int) == 10) = false := b_ne (k := 10) (by decide) h10
  have HF := Lib.hid h
  by_cases h21 : x = 21#8
  ·subst h21
   have e0 : byteR (vs.map (·.r)) p 21#8 = ⟨p.state, [], p.log, p.lines⟩ := byte_kill _ _
   rw [e0]
   have k1 : w.cell? ⟨g, 1, none⟩ = some (.slice f.PA p.part.length f.pc) := h.cel.cell 1
   have f1 := h.cel.free 1
   clear hR hl h hsz h10
   go_enter Try.func32, Try.ntmps32
   go_wp2_with fail
   go_end0
   exact ⟨rfl, mono_below (Below.refl _ _) hK ((Frm.refl [g] w).set (p := ⟨g, 1, none⟩) (by simp) _) (by simp; exact hKg), _, HF.out.kill⟩
  ·have e21 : ((x.toNat : Int) == 21) = false := b_ne (k := 21) (by decide) h21
   have k1 : w.cell? ⟨g, 1, none⟩ = some (.slice f.PA p.part.length f.pc) := h.cel.cell 1
   by_cases hlp : p.part.length < 300
   ·have e0 : byteR (vs.map (·.r)) p x = ⟨p.state, p.part ++ [x], p.log, p.lines⟩ := by unfold byteR; rw [if_neg (show ¬ x = (10 : B) from h10), if_neg (show ¬ x = (21 : B) from h21), if_pos hlp]
    have hi3 : ((p.part.length : Int) < 300) := by omega
    have hd3 : decide ((p.part.length : Int) < 300) = true := decide_eq_true hi3
    rw [e0]
    obtain ⟨W, hW⟩ : ∃ W, W = w.alloc (.cells #[v8 x] 5) := ⟨_, rfl⟩
    have hbW : Below w.heap.size w W := by rw [hW]; exact (Below.refl _ _).alloc (Nat.le_refl _) _
    have HBW := Lib.hid hbW
    have HFW := Lib.hid (h.below hbW)
    have HSX := Lib.hid (show Bs W (w.heap.size + 1) (some ⟨w.heap.size, 0, none⟩) 1 [x] by rw [hW]; exact Bs.lit w 5 (0, 0) #[v8 x] [x] rfl 1 rfl)
    have HWE := Lib.hid hW
    have HOW := Lib.hid HFW.out.pt
    have hKW : K ≤ W.heap.size := Nat.le_trans hK hbW.size
    rw [hW] at HOW HSX hKW
    clear hR hl h hsz h10 h21 hW hbW
    go_enter Try.func32, Try.ntmps32
    go_wp2_with ((at_builtin; refine wpList_append_bs _ rfl _ _ 37 rfl K 5 bytesP (.slice f.PA p.part.length f.pc) p.part.length p.part rfl HOW.out (w.heap.size + 1) (some ⟨w.heap.size, 0, none⟩) 1 1 [x] rfl HSX.out (p.part.length + 1) (p.part ++ [x]) rfl rfl (by omega) hKW ?_; intro A5 c5 w5 ho5 hg5 hn5; rw [← HWE.out] at hg5 hn5; rw [ob_own] at hg5; rw [ob_own, ob_own] at hn5; have hc5 := HFW.out.cel.grown hg5 HFW.out.pt_g; have q1 := hc5.cell 1; have f1 := hc5.free 1; have HO5 := Lib.hid ho5; have HG5 := Lib.hid hg5; have HN5 := Lib.hid hn5; clear ho5 hg5 hn5 hc5))
    go_end0
    exact ⟨rfl, mono_below (below_grown (HBW.out.mono hK) hK HG5.out HFW.out.pt_ge) hK ((Frm.refl [g] w5).set (p := ⟨g, 1, none⟩) (by simp) _) (by simp; exact hKg), _, HFW.out.more x HO5.out HG5.out HN5.out⟩
   ·have e0 : byteR (vs.map (·.r)) p x = p := by unfold byteR; rw [if_neg (show ¬ x = (10 : B) from h10), if_neg (show ¬ x = (21 : B) from h21), if_neg hlp]
    have hi3 : ¬ ((p.part.length : Int) < 300) := by omega
    have hd3 : decide ((p.part.length : Int) < 300) = false := decide_eq_false hi3
    rw [e0]
    clear hR hl h hsz h10 h21
    go_enter Try.func32, Try.ntmps32
    go_wp2_with fail
    go_end0
    exact ⟨rfl, Below.refl _ _, f, HF.out⟩
end Go.Proofs.Ytnjmdgnghidjhaa.Peer
end
