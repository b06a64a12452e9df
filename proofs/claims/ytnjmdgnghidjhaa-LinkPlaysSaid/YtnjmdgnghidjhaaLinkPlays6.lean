/-
Layer 18: the walk of LinkPlays. (Written by gen_linkplays.py.)
-/
import Derived.Test.YtnjmdgnghidjhaaLinkPlays0
import Derived.Test.YtnjmdgnghidjhaaLinkPlays1
import Derived.Test.YtnjmdgnghidjhaaLinkPlays2
import Derived.Test.YtnjmdgnghidjhaaLinkPlays3
import Derived.Test.YtnjmdgnghidjhaaLinkPlays4
import Derived.Test.YtnjmdgnghidjhaaLinkPlays5
set_option linter.unusedVariables false
set_option linter.unusedSimpArgs false
set_option maxRecDepth 100000
set_option maxHeartbeats 8000000
namespace Go.Proofs.Ytnjmdgnghidjhaa.Ord
end Go.Proofs.Ytnjmdgnghidjhaa.Ord
namespace Go.Proofs.Ytnjmdgnghidjhaa.Peer
open Go.RowKit Go.Proofs.Ytnjmdgnghidjhaa.Ord
open Lex (Tx)
open Rec (Vt Tvs Trow txt)
abbrev LP := World → List Nat → Nat → List Ru → Lk → Prop
structure Lst (P : LP) (w w6 : World) (l0 l : List Nat) (g g2 : Nat) (AR : Option Addr) (n c : Nat) (ys : List Rl) (W : World) (q : Lk) : Prop where
 fr : Frm (g2 :: l0) w6 W
 hl : ∀ k ∈ l, k ∈ l0 ∨ w6.heap.size ≤ k
 p : P W l g (ys.map (·.r)) q
 lk : ∃ AL nl k, Lkm W g2 (.slice AR n c) q.p AL nl k (q.at : Int)
structure Lpl (w w6 : World) (l0 : List Nat) (g2 D : Nat) (AR : Option Addr) (n c : Nat) (ys : List Rl) : Prop where
 lo : ∀ k ∈ l0, w.heap.size ≤ k ∧ k < D ∧ ∀ o fz, w6.heap[k]? ≠ some (Obj.cells o 5 fz)
 ge : D ≤ g2
 base : w.heap.size ≤ D
 low : Below w.heap.size w w6
 cel : ∃ cs, Cel w6 g2 36 cs
 ro : Rro w6 D AR n c ys
section
variable {P : LP} {w w6 : World} {l0 l l' : List Nat} {g g2 D : Nat} {AR : Option Addr} {n c : Nat} {ys : List Rl} {W V V2 : World} {q q' : Lk}
theorem Lpl.not (h : Lpl w w6 l0 g2 D AR n c ys) (hl : ∀ k ∈ l, k ∈ l0 ∨ w6.heap.size ≤ k) : g2 ∉ l := fun hm => by
 obtain ⟨cs, hc⟩ := h.cel
 have := hc.lt
 have := h.ge
 rcases hl _ hm with hm | hm
 ·have := (h.lo _ hm).2.1; omega
 ·omega
theorem Lpl.below (h : Lpl w w6 l0 g2 D AR n c ys) (hf : Frm (g2 :: l0) w6 W) : Below w.heap.size w W := h.low.trans (hf.below h.low.size (by
 intro k hk
 rcases List.mem_cons.1 hk with rfl | hk
 ·exact Nat.le_trans h.base h.ge
 ·exact (h.lo k hk).1))
theorem Lpl.rro (h : Lpl w w6 l0 g2 D AR n c ys) (hf : Frm (g2 :: l0) w6 W) : Rro W D AR n c ys := by
 obtain ⟨cs, hc⟩ := h.cel
 have hu : ∀ k ∈ g2 :: l0, ∀ o fz, w6.heap[k]? ≠ some (Obj.cells o 5 fz) := by
  intro k hk
  rcases List.mem_cons.1 hk with rfl | hk
  ·exact hc.not_ty (by decide)
  ·exact (h.lo k hk).2.2
 refine ⟨own_frm h.ro.own hf (fun k hk e => ?_), h.ro.len, fun v hv => ⟨(h.ro.tx v hv).1.keep fun k cs fz hb => hf.block k (Array.getElem?_eq_some_iff.1 hb).1 (fun hm => hu k hm cs fz hb), (h.ro.tx v hv).2.keep fun k cs fz hb => hf.block k (Array.getElem?_eq_some_iff.1 hb).1 (fun hm => hu k hm cs fz hb)⟩⟩
 rcases List.mem_cons.1 hk with rfl | hk
 ·exact own_not_ty h.ro.own (e := 61) (t' := 36) (by decide) k _ _ e hc
 ·have := own_ge h.ro.own k e
  have := (h.lo k hk).2.1
  omega
theorem Lst.below (HC : LinkC P) (h : Lst P w w6 l0 l g g2 AR n c ys W q) (hb : Below W.heap.size W V) : Lst P w w6 l0 l g g2 AR n c ys V q := by
 obtain ⟨AL, nl, k, hk⟩ := h.lk
 exact ⟨h.fr.trans (Frm.of_below hb), h.hl, HC.below h.p hb, ⟨AL, nl, k, hk.below hb⟩⟩
structure Lmid (P : LP) (w w6 : World) (l0 l : List Nat) (g g2 : Nat) (AR : Option Addr) (n c : Nat) (ys : List Rl) (V : World) (q q' : Lk) : Prop where
 fr : Frm (g2 :: l0) w6 V
 hl : ∀ k ∈ l, k ∈ l0 ∨ w6.heap.size ≤ k
 p : P V l g (ys.map (·.r)) q'
 lk : ∃ AL nl k, Lkm V g2 (.slice AR n c) q.p AL nl k (q.at : Int)
theorem Lst.mid (HC : LinkC P) (h : Lst P w w6 l0 l g g2 AR n c ys W q) (hp : Lpl w w6 l0 g2 D AR n c ys) (hf : Frm l W V) (hl : ∀ k ∈ l', k ∈ l ∨ W.heap.size ≤ k) (hP : P V l' g (ys.map (·.r)) q') : Lmid P w w6 l0 l' g g2 AR n c ys V q q' := by
 obtain ⟨AL, nl, k, hk⟩ := h.lk
 refine ⟨⟨hf.os.trans h.fr.os, hf.tape.trans h.fr.tape, hf.output.trans h.fr.output, Nat.le_trans h.fr.size hf.size, fun k hk hn => (hf.block k (Nat.lt_of_lt_of_le hk h.fr.size) (fun hm => ?_)).trans (h.fr.block k hk hn)⟩, fun k hk => ?_, hP, ⟨AL, nl, k, hk.frm hf (hp.not h.hl) fun k hk => HC.kind h.p k hk⟩⟩
 ·rcases h.hl k hm with hm | hm
  ·exact hn (List.mem_cons_of_mem _ hm)
  ·omega
 ·rcases hl k hk with hk | hk
  ·exact h.hl k hk
  ·exact .inr (Nat.le_trans h.fr.size hk)
theorem Lmid.step (HC : LinkC P) (h : Lmid P w w6 l0 l g g2 AR n c ys V q q') (hp : Lpl w w6 l0 g2 D AR n c ys) (hd : DlSays V g2 (.slice AR n c) q' V2) : Lst P w w6 l0 l g g2 AR n c ys V2 q' := by
 obtain ⟨hf, AL, nl, k, hk⟩ := hd
 obtain ⟨_, _, _, hk0⟩ := h.lk
 exact ⟨h.fr.trans (hf.mono (by intro k hk _; simp at hk; simp [hk])), h.hl, HC.frm h.p hk0.cel (hp.not h.hl) hf, ⟨AL, nl, k, hk⟩⟩
end
theorem rfew_map {vs ys : List Rl} {n : Nat} (h : Rfew vs n) (hl : ys.length = n) (he : ys.map (·.r) = vs.map (·.r)) : Rfew ys n := ⟨hl, h.2.1, fun y hy => by
 have : y.r ∈ vs.map (·.r) := by rw [← he]; exact List.mem_map.2 ⟨y, hy, rfl⟩
 obtain ⟨v, hv, e⟩ := List.mem_map.1 this
 rw [← e]
 exact h.2.2 v hv⟩
theorem mono_g {w w' : World} {l : List Nat} {g2 : Nat} (h : Frm l w w') : Frm (g2 :: l) w w' := h.mono (by intro k hk _; exact List.mem_cons_of_mem _ hk)
theorem mono_1 {w w' : World} {l : List Nat} {g2 : Nat} (h : Frm [g2] w w') : Frm (g2 :: l) w w' := h.mono (by intro k hk _; simp at hk; simp [hk])
theorem lplays_walk {P : LP} (HC : LinkC P) (HKN : Knows18) (w : World) (AR : Option Addr) (n c : Nat) (vs : List Rl) (hr : Rls w w.heap.size AR vs) (hl : vs.length = n) (hn : n ≤ maxLen) (hf : ∀ v ∈ vs, v.r.line.length ≤ maxLen ∧ v.r.out.length ≤ maxLen)
  (AD : Option Addr) (m d : Nat) (ds : List Dd) (hd : Dds w w.heap.size AD ds) (hdl : ds.length = m) (hdm : m ≤ maxLen) (hdf : ∀ x ∈ ds, x.line.length ≤ x.c ∧ x.line.length ≤ maxLen) :
  Calls Try.prog 3 #[.slice AR n c, .slice AD m d] w fun e w' => e = .returned (.bool true) ∧ Below w.heap.size w w' := by
 obtain ⟨T, hT⟩ : ∃ T, T = w.heap.size := ⟨_, rfl⟩
 rw [← hT] at hr hd
 have hTw : T ≤ w.heap.size := by omega
 have HCC := Lib.hid HC
 have HTW := Lib.hid (show ∀ V, Below w.heap.size w V → T ≤ V.heap.size from fun V h => Nat.le_trans hTw h.size)
 have HR := Lib.hid (show ∀ V, Below w.heap.size w V → Rls V T AR vs from fun V h => hr.below hTw h)
 have HD := Lib.hid (show ∀ V, Below w.heap.size w V → Dds V T AD ds from fun V h => hd.below hTw h)
 have HDF := Lib.hid hdf
 have HDL := Lib.hid hdl
 have HL := Lib.hid hl
 have KN := Lib.hid (show ∀ W : World, Below w.heap.size w W → Calls Try.prog 7 #[] W fun e w' => e = .returned (.bool true) ∧ Below w.heap.size w w' from fun W hW => (HKN W).mono fun e w' h => ⟨h.1, hW.trans (h.2.mono hW.size)⟩)
 have con := fewRules w T AR n c vs hr hTw hl hn hf
 have CON2 := Lib.hid (fun W => fun h : Below w.heap.size w W => fewDeeds W T AD m d ds (hd.below hTw h) hdl hdm (fun x hx => (hdf x hx).2))
 unfold maxLen at hdm
 clear HC HKN hr hd hl hf hdf hdl hT hTw
 go_enter Try.func3, Try.ntmps3
 go_wp2_with fail
 refine con.mono ?_
 clear con
 rintro e w2 ⟨b1, rfl, hb2, hx1⟩
 have HB2 := Lib.hid hb2
 have HX1 := Lib.hid hx1
 clear hb2 hx1
 cases b1 with
 | false =>
  go_wp2_with fail
  refine (KN.out _ HB2.out).mono ?_
  rintro e wk ⟨rfl, hbk⟩
  have HBK := Lib.hid hbk
  clear hbk
  go_wp2_with fail
  go_ret
  exact ⟨rfl, HBK.out⟩
 | true =>
  have con := CON2.out w2 HB2.out
  go_wp2_with fail
  refine con.mono ?_
  clear con
  rintro e w3 ⟨b2, rfl, hb3, hx2⟩
  have HB3 := Lib.hid (HB2.out.trans (hb3.mono HB2.out.size))
  have HX2 := Lib.hid hx2
  clear hb3 hx2 HB2
  cases b2 with
  | false =>
   go_wp2_with fail
   refine (KN.out _ HB3.out).mono ?_
   rintro e wk ⟨rfl, hbk⟩
   have HBK := Lib.hid hbk
   clear hbk
   go_wp2_with fail
   go_ret
   exact ⟨rfl, HBK.out⟩
  | true =>
   obtain ⟨q1, q2⟩ := HX1.out (by first | rfl | trivial)
   obtain ⟨q3, q4⟩ := HX2.out (by first | rfl | trivial)
   have HRF : Hid (Rfew vs n) := Lib.hid ⟨HL.out, q1, q2⟩
   have HXL := Lib.hid q4
   clear q1 q2 q4 HX1 HX2
   have con := HCC.out.new w3 T AR n c vs (HR.out _ HB3.out) (HTW.out _ HB3.out) HRF.out
   go_wp2_with fail
   refine con.mono ?_
   clear con
   rintro e w4 ⟨l, g, rfl, hlg, hp4, hb4⟩
   have HB4 := Lib.hid (HB3.out.trans (hb4.mono HB3.out.size))
   have HLG := Lib.hid (show ∀ k ∈ l, w.heap.size ≤ k ∧ k < w4.heap.size ∧ ∀ o fz, w4.heap[k]? ≠ some (Obj.cells o 5 fz) from fun k hk => ⟨Nat.le_trans HB3.out.size (hlg k hk).1, (hlg k hk).2⟩)
   have HP4 := Lib.hid hp4
   clear hlg hp4 hb4 HB3
   have con := rules_ w4 T AR n c vs (HR.out _ HB4.out) (HTW.out _ HB4.out) HL.out (by have := HRF.out.2.1; omega) (fun v hv => by have := HRF.out.2.2 v hv; omega)
   go_wp2_with fail
   refine con.mono ?_
   clear con
   rintro e w5 ⟨A', c', ys, rfl, hro, hys, hb5⟩
   obtain ⟨W6, hW6⟩ : ∃ W, W = w5.alloc (.cells #[.slice A' n c', .int .i64 0, .string ⟨#[]⟩, .string ⟨#[]⟩, .slice none 0 0, .int .i64 0] 36) := ⟨_, rfl⟩
   have hb6 : Below w5.heap.size w5 W6 := by rw [hW6]; exact (Below.refl _ _).alloc (Nat.le_refl _) _
   have HPL : Hid (Lpl w W6 l w5.heap.size w4.heap.size A' n c' ys) := Lib.hid ⟨fun k hk => ⟨(HLG.out k hk).1, (HLG.out k hk).2.1, fun o fz => by rw [(hb5.trans (hb6.mono hb5.size)).block k (HLG.out k hk).2.1]; exact (HLG.out k hk).2.2 o fz⟩, hb5.size, HB4.out.size, (HB4.out.trans (hb5.mono HB4.out.size)).trans (hb6.mono (Nat.le_trans HB4.out.size hb5.size)), ⟨_, by rw [hW6]; exact Cel.new w5 _ _⟩, hro.below hb6⟩
   have HYF : Hid (Rfew ys n) := Lib.hid (rfew_map HRF.out hro.len hys)
   have HST : Hid (Lst P w W6 l l g w5.heap.size A' n c' ys W6 lk0) := Lib.hid ⟨Frm.refl _ _, fun k hk => .inl hk, by rw [hys]; exact HCC.out.below (HCC.out.below HP4.out hb5) hb6, ⟨none, 0, 0, ⟨by rw [hW6]; exact Cel.new w5 _ _, Ry.nil_, rfl⟩⟩⟩
   clear hro hys hb5 hb6 HP4 HB4 HLG
   go_upto_region 7 with fail
   rw [← hW6]
   clear hW6
   obtain ⟨l0, hl0⟩ : ∃ l0, l0 = l := ⟨_, rfl⟩
   obtain ⟨w6, hw6⟩ : ∃ w6, w6 = W6 := ⟨_, rfl⟩
   rw [← hl0, ← hw6] at HPL
   replace HST : Hid (Lst P w w6 l0 l g w5.heap.size A' n c' ys W6 lk0) := by rw [hl0, hw6]; exact HST
   clear hl0 hw6
   generalize w5.heap.size = g2 at *
   generalize w4.heap.size = D at *
   go_wp2_with fail
   go_loopw [7] (fun v7 wr => ∃ (i : Nat) (l : List Nat) (q : Lk), i ≤ m ∧ v7 = .int .i64 (i : Int) ∧ Hid (Lst P w w6 l0 l g g2 A' n c' ys wr q) ∧ Hid (Lsi i q)) (fun v7 _ => m - (intOf v7).toNat)
   case atStart => exact ⟨0, l, lk0, Nat.zero_le _, rfl, HST, Lib.hid lsi0⟩
   case round =>
    clear HST l
    obtain ⟨i, l, q, hi, rfl, HST, HSI⟩ := hrel
    obtain ⟨W, hW⟩ : ∃ W, W = wr := ⟨_, rfl⟩
    rw [← hW] at HST ⊢
    clear hW
    rcases Nat.lt_or_ge i m with hlt | hge
    rotate_left
    ·obtain rfl : i = m := by omega
     have HB := Lib.hid (HPL.out.below HST.out.fr)
     go_wp2_with fail
     refine (KN.out _ HB.out).mono ?_
     rintro e wk ⟨rfl, hbk⟩
     have HBK := Lib.hid hbk
     clear hbk
     go_wp2_with fail
     go_ret
     exact ⟨rfl, HBK.out⟩
    obtain ⟨x, hx⟩ : ∃ x, ds[i]? = some x := ⟨_, List.getElem?_eq_getElem (by rw [HDL.out]; exact hlt)⟩
    obtain ⟨ad, hAD, a0, a1, a2, _⟩ := HD.out _ (HPL.out.below HST.out.fr) i x hx
    have hxm := List.mem_of_getElem? hx
    have HXB := Lib.hid (show ∀ V, Below w.heap.size w V → Bs V V.heap.size x.A x.line.length x.line from fun V h => by
     obtain ⟨_, _, _, _, _, ht⟩ := HD.out _ h i x hx
     exact Lex.Tx.bs ht (HTW.out _ h))
    have HXC := Lib.hid (HDF.out x hxm).1
    have HXS := Lib.hid (HXL.out x hxm)
    have HSM := Lib.hid (HSI.out.sm (by omega))
    obtain ⟨W8, hW8⟩ : ∃ V, V = W.alloc (.cells #[.int .i64 x.what, .int .i64 x.k, .slice x.A x.line.length x.c] 39) := ⟨_, rfl⟩
    have hb8 : Below W.heap.size W W8 := by rw [hW8]; exact (Below.refl _ _).alloc (Nat.le_refl _) _
    have hc8 : Cel W8 W.heap.size 39 [.int .i64 x.what, .int .i64 x.k, .slice x.A x.line.length x.c] := by rw [hW8]; exact Cel.new W _ _
    have HS8 := Lib.hid (HST.out.below HCC.out hb8)
    have HG8 : Hid (W.heap.size ≠ g2 ∧ W.heap.size ∉ l) := Lib.hid (by
     obtain ⟨_, _, _, hk⟩ := HST.out.lk
     have h1 := hk.cel.lt
     refine ⟨by omega, fun hm => ?_⟩
     have := HCC.out.own HST.out.p _ hm
     omega)
    have HC8 := Lib.hid hc8
    have k0 := hc8.cell 0
    have k1 := hc8.cell 1
    have k2 := hc8.cell 2
    change _ = some (Value.int .i64 x.what) at k0
    change _ = some (Value.int .i64 x.k) at k1
    change _ = some (Value.slice x.A x.line.length x.c) at k2
    subst hAD
    clear hx hxm hb8 hc8 HST
    go_upto_region 11 with fail
    rw [← hW8]
    clear hW8 a0 a1 a2
    generalize W.heap.size = g8 at *
    cases z0 : (x.what == 0) with
    | true =>
     obtain ⟨b, hb⟩ : ∃ b, b = (sendR (ys.map (·.r)) q x.line x.k).2 := ⟨_, rfl⟩
     have E := Lib.hid hb
     clear hb
     go_upto_region 13 with fail
     obtain ⟨W9, hW9⟩ : ∃ V, V = W8.drew := ⟨_, rfl⟩
     have HS9 := Lib.hid (show Lst P w w6 l0 l g g2 A' n c' ys W9 q by rw [hW9]; exact HS8.out.below HCC.out (Below.refl _ _).drew)
     have HXL9 := Lib.hid (show ∀ V, Frm (g2 :: l) W9 V → Cel V g8 39 [.int .i64 x.what, .int .i64 x.k, .slice x.A x.line.length x.c] from fun V hV => (show Cel W9 g8 39 _ by rw [hW9]; exact HC8.out.drew).frm hV (by
      intro hm
      rcases List.mem_cons.1 hm with hm | hm
      ·exact HG8.out.1 hm
      ·exact HG8.out.2 hm))
     refine wp_region_N [] (fun V => Frm (g2 :: l) W9 V) (by kernel_rfl) ?_
     rw [← hW9]
     have hH : Frm (g2 :: l) W9 W9 := Frm.refl _ _
     clear hW9 k0 k1 k2
     refine tk_ 0 (.pointer (some ⟨g, 0, none⟩)) [] rfl hH ?_ ?_
     ·intro V hV; go_simp
     try simp only [Act.put, lay_]
     refine tk_ 1 (.pointer (some ⟨g8, 2, none⟩)) [] rfl hH ?_ ?_
     ·intro V hV; go_simp
     try simp only [Act.put, lay_]
     refine tk_ 2 (.slice x.A x.line.length x.c) [] rfl hH ?_ ?_
     ·intro V hV; have hc := HXL9.out V hV; have k0 : V.cell? ⟨g8, 2, none⟩ = some (.slice x.A x.line.length x.c) := hc.cell 2; clear hc; go_simp
     try simp only [Act.put, lay_]
     refine tk_ 3 (.pointer (some ⟨g8, 1, none⟩)) [] rfl hH ?_ ?_
     ·intro V hV; go_simp
     try simp only [Act.put, lay_]
     refine tk_ 4 (.int .i64 x.k) [] rfl hH ?_ ?_
     ·intro V hV; have hc := HXL9.out V hV; have k0 : V.cell? ⟨g8, 1, none⟩ = some (.int .i64 x.k) := hc.cell 1; clear hc; go_simp
     try simp only [Act.put, lay_]
     refine tk_ 6 (.pointer (some ⟨g2, 0, none⟩)) [] rfl hH ?_ ?_
     ·intro V hV; go_simp
     try simp only [Act.put, lay_]
     refine tk_ 7 (.pointer (some ⟨g8, 2, none⟩)) [] rfl hH ?_ ?_
     ·intro V hV; go_simp
     try simp only [Act.put, lay_]
     refine tk_ 8 (.slice x.A x.line.length x.c) [] rfl hH ?_ ?_
     ·intro V hV; have hc := HXL9.out V hV; have k0 : V.cell? ⟨g8, 2, none⟩ = some (.slice x.A x.line.length x.c) := hc.cell 2; clear hc; go_simp
     try simp only [Act.put, lay_]
     refine tk_ 9 (.pointer (some ⟨g8, 1, none⟩)) [] rfl hH ?_ ?_
     ·intro V hV; go_simp
     try simp only [Act.put, lay_]
     refine tk_ 10 (.int .i64 x.k) [] rfl hH ?_ ?_
     ·intro V hV; have hc := HXL9.out V hV; have k0 : V.cell? ⟨g8, 1, none⟩ = some (.int .i64 x.k) := hc.cell 1; clear hc; go_simp
     try simp only [Act.put, lay_]
     refine wpAnyN_one (i := 5) (by kernel_rfl) rfl (fun Kq hKq => ?_)
     go_simp
     refine ((show Calls Try.prog 10 #[pp g 0, .slice x.A x.line.length x.c, .int .i64 x.k] _ (fun e w' => ∃ l', e = .returned (.bool b) ∧ Frm l W9 w' ∧ (∀ k ∈ l', k ∈ l ∨ W9.heap.size ≤ k) ∧ P w' l' g (ys.map (·.r)) (sendR (ys.map (·.r)) q x.line x.k).1) by rw [E.out]; exact HCC.out.send _ l g (ys.map (·.r)) q HS9.out.p (pfew_of HYF.out) HSM.out x.A x.line.length x.c x.line (HXB.out _ (HPL.out.below HS9.out.fr)) HXC.out HXS.out x.k)).mono ?_
     rintro e V1 ⟨l2, rfl, hf1, hl1, hp1⟩
     have HM1 := Lib.hid (HS9.out.mid HCC.out HPL.out hf1 hl1 hp1)
     replace hH := mono_g (g2 := g2) hf1
     clear hf1 hl1 hp1
     go_wp2_with fail
     refine hKq.out _ _ (.inr hH) ?_
     clear hKq Kq
     try simp only [Act.put, lay_]
     refine wpAnyN_one (i := 11) (by kernel_rfl) rfl (fun Kq hKq => ?_)
     go_simp
     refine ((show Calls Try.prog 11 #[pp g2 0, .slice x.A x.line.length x.c, .int .i64 x.k] _ (fun e w' => e = .returned (.bool b) ∧ DlSays V1 g2 (.slice A' n c') (sendR (ys.map (·.r)) q x.line x.k).1 w') by obtain ⟨AL, nl, k, hk⟩ := HM1.out.lk; rw [E.out]; exact dsend_ _ (HPL.out.rro HM1.out.fr) HYF.out HSM.out hk (HXB.out _ (HPL.out.below HM1.out.fr)) HXS.out x.k)).mono ?_
     rintro e V2 ⟨rfl, hd2⟩
     have HS2 := Lib.hid (HM1.out.step HCC.out HPL.out hd2)
     replace hH := hH.trans (mono_1 hd2.1)
     clear hd2
     go_wp2_with fail
     refine hKq.out _ _ (.inr hH) ?_
     clear hKq Kq
     try simp only [Act.put, lay_]
     refine tk_ 12 (.bool false) [] rfl hH ?_ ?_
     ·intro V hV; go_simp
     try simp only [Act.put, lay_]
     refine wpAnyN_done (by kernel_rfl) ?_ _
     clear hH HM1 HXL9
     go_upto_region 21 with fail
     obtain ⟨lz, vz, WT, hWT, HSZ⟩ : ∃ (lz : List Nat) (qz : Lk) (V : World), V = World.drew _ ∧ Hid (Lst P w w6 l0 lz g g2 A' n c' ys V qz ∧ Lsi (i + 1) qz) := ⟨l2, (sendR (ys.map (·.r)) q x.line x.k).1, _, rfl, Lib.hid ⟨HS2.out.below HCC.out (Below.refl _ _).drew, HSI.out.send HYF.out HXS.out x.k⟩⟩
     refine wp_region_N [] (fun V => Below WT.heap.size WT V) (by kernel_rfl) ?_
     rw [← hWT]
     have hH : Below WT.heap.size WT WT := Below.refl _ _
     clear hWT
     obtain ⟨AZ, nz, kz, hkz⟩ := HSZ.out.1.lk
     have HZC := Lib.hid hkz.cel
     have HZL := Lib.hid hkz.lns
     have HZN := Lib.hid hkz.len
     have HZM := Lib.hid (HSZ.out.2.sm (by omega))
     clear hkz
     refine tk_ 0 (.pointer (some ⟨g, 0, none⟩)) [] rfl hH ?_ ?_
     ·intro V hV; go_simp
     try simp only [Act.put, lay_]
     refine tk_ 3 (.pointer (some ⟨g2, 0, none⟩)) [] rfl hH ?_ ?_
     ·intro V hV; go_simp
     try simp only [Act.put, lay_]
     refine tk_ 4 (.pointer (some ⟨g2, 0, none⟩)) [] rfl hH ?_ ?_
     ·intro V hV; go_simp
     try simp only [Act.put, lay_]
     refine tk_ 5 (.pointer (some ⟨g2, 1, none⟩)) [] rfl hH ?_ ?_
     ·intro V hV; go_simp
     try simp only [Act.put, lay_]
     refine tk_ 6 (.agg #[.int .i64 vz.p.state, .string (str vz.p.part), .string (str vz.p.log), .slice AZ nz kz]) [] rfl hH ?_ ?_
     ·intro V hV; have hc := HZC.out.below hV HZC.out.lt; have k0 : V.cell? ⟨g2, 1, none⟩ = some (.int .i64 vz.p.state) := hc.cell 1; have k1 : V.cell? ⟨g2, 2, none⟩ = some (.string (str vz.p.part)) := hc.cell 2; have k2 : V.cell? ⟨g2, 3, none⟩ = some (.string (str vz.p.log)) := hc.cell 3; have k3 : V.cell? ⟨g2, 4, none⟩ = some (.slice AZ nz kz) := hc.cell 4; clear hc; go_simp
     try simp only [Act.put, lay_]
     refine wpAnyN_one (i := 1) (by kernel_rfl) rfl (fun Kq hKq => ?_)
     go_simp
     refine (HCC.out.peer _ lz g (ys.map (·.r)) vz (HCC.out.below HSZ.out.1.p hH) HZM.out).mono ?_
     rintro e V1 ⟨v, rfl, hb, hdk, hvm⟩
     have hvl : v.ls.length ≤ 5000 := by
      have q1 : v.m.lines.length = v.ls.length := by show (txt v.ls).length = _; unfold txt; rw [List.length_map]
      rw [hvm] at q1
      have := HZM.out.2.2.1
      omega
     have con2 := as17v V1 V1.heap.size v hdk (Nat.le_refl _) (by omega)
     rw [show v.s = vz.p.state by rw [← hvm]; rfl, show v.pt = vz.p.part by rw [← hvm]; rfl, show v.lg = vz.p.log by rw [← hvm]; rfl, show v.ls.length = nz by rw [← HZN.out, ← hvm]; show _ = (txt v.ls).length; unfold txt; rw [List.length_map]] at con2
     have HTX := Lib.hid (show txt v.ls = vz.p.lines by rw [← hvm]; rfl)
     replace hH := hH.trans (hb.mono hH.size)
     clear hb hdk hvm hvl
     go_wp2_with fail
     refine hKq.out _ _ (.inr hH) ?_
     clear hKq Kq
     try simp only [Act.put, lay_]
     refine wpAnyN_one (i := 2) (by kernel_rfl) rfl (fun Kq hKq => ?_)
     go_simp
     refine (con2).mono ?_
     rintro e V2 ⟨AY, cy, rfl, hly, hb⟩
     rw [HTX.out] at hly
     have HLY := Lib.hid hly
     replace hH := hH.trans (hb.mono hH.size)
     clear hb hly con2
     go_wp2_with fail
     refine hKq.out _ _ (.inr hH) ?_
     clear hKq Kq
     try simp only [Act.put, lay_]
     refine wpAnyN_one (i := 7) (by kernel_rfl) rfl (fun Kq hKq => ?_)
     go_simp
     refine (same17p _ vz.p AY AZ nz cy kz HLY.out (Ry.below HZL.out hH) HZN.out (by have := HZM.out.2.2.1; have := HZN.out; omega)).mono ?_
     rintro e V3 ⟨rfl, hb⟩
     replace hH := hH.trans (hb.mono hH.size)
     clear hb
     go_wp2_with fail
     refine hKq.out _ _ (.inr hH) ?_
     clear hKq Kq
     try simp only [Act.put, lay_]
     refine tk_ 8 (.bool false) [] rfl hH ?_ ?_
     ·intro V hV; go_simp
     try simp only [Act.put, lay_]
     refine wpAnyN_done (by kernel_rfl) ?_ _
     go_wp2_with fail
     exact ⟨⟨i + 1, lz, vz, by omega, by rw [show ((i + 1 : Nat) : Int) = (i : Int) + 1 by omega], Lib.hid (HSZ.out.1.below HCC.out hH), Lib.hid HSZ.out.2⟩, by simp [intOf]; omega⟩
    | false =>
     cases z1 : (x.what == 1) with
     | true =>
      obtain ⟨q', hq'⟩ : ∃ q', q' = (readR q x.k).1 := ⟨_, rfl⟩
      obtain ⟨os, hos⟩ : ∃ os, os = (readR q x.k).2 := ⟨_, rfl⟩
      have EQ := Lib.hid hq'
      have EO := Lib.hid hos
      clear hq' hos
      go_upto_region 16 with fail
      obtain ⟨W9, hW9⟩ : ∃ V, V = W8.drew := ⟨_, rfl⟩
      have HS9 := Lib.hid (show Lst P w w6 l0 l g g2 A' n c' ys W9 q by rw [hW9]; exact HS8.out.below HCC.out (Below.refl _ _).drew)
      have HXL9 := Lib.hid (show ∀ V, Frm (g2 :: l) W9 V → Cel V g8 39 [.int .i64 x.what, .int .i64 x.k, .slice x.A x.line.length x.c] from fun V hV => (show Cel W9 g8 39 _ by rw [hW9]; exact HC8.out.drew).frm hV (by
       intro hm
       rcases List.mem_cons.1 hm with hm | hm
       ·exact HG8.out.1 hm
       ·exact HG8.out.2 hm))
      refine wp_region_N [] (fun V => Frm (g2 :: l) W9 V) (by kernel_rfl) ?_
      rw [← hW9]
      have hH : Frm (g2 :: l) W9 W9 := Frm.refl _ _
      clear hW9 k0 k1 k2
      refine tk_ 0 (.pointer (some ⟨g, 0, none⟩)) [] rfl hH ?_ ?_
      ·intro V hV; go_simp
      try simp only [Act.put, lay_]
      refine tk_ 1 (.pointer (some ⟨g8, 1, none⟩)) [] rfl hH ?_ ?_
      ·intro V hV; go_simp
      try simp only [Act.put, lay_]
      refine tk_ 2 (.int .i64 x.k) [] rfl hH ?_ ?_
      ·intro V hV; have hc := HXL9.out V hV; have k0 : V.cell? ⟨g8, 1, none⟩ = some (.int .i64 x.k) := hc.cell 1; clear hc; go_simp
      try simp only [Act.put, lay_]
      refine tk_ 5 (.pointer (some ⟨g2, 0, none⟩)) [] rfl hH ?_ ?_
      ·intro V hV; go_simp
      try simp only [Act.put, lay_]
      refine tk_ 6 (.pointer (some ⟨g8, 1, none⟩)) [] rfl hH ?_ ?_
      ·intro V hV; go_simp
      try simp only [Act.put, lay_]
      refine tk_ 7 (.int .i64 x.k) [] rfl hH ?_ ?_
      ·intro V hV; have hc := HXL9.out V hV; have k0 : V.cell? ⟨g8, 1, none⟩ = some (.int .i64 x.k) := hc.cell 1; clear hc; go_simp
      try simp only [Act.put, lay_]
      refine wpAnyN_one (i := 3) (by kernel_rfl) rfl (fun Kq hKq => ?_)
      go_simp
      refine ((show Calls Try.prog 12 #[pp g 0, .int .i64 x.k] _ (fun e w' => ∃ A c, e = .returned (.slice A os.length c) ∧ By w' A os.length os ∧ Frm l _ w' ∧ P w' l g (ys.map (·.r)) q') by rw [EQ.out, EO.out]; exact HCC.out.read _ l g (ys.map (·.r)) q HS9.out.p HSM.out x.k)).mono ?_
      rintro e V1 ⟨A3, c3, rfl, hby, hf1, hp1⟩
      have HBY := Lib.hid hby
      have HM1 := Lib.hid (HS9.out.mid HCC.out HPL.out hf1 (fun k hk => .inl hk) hp1)
      replace hH := mono_g (g2 := g2) hf1
      clear hf1 hp1 hby
      go_wp2_with fail
      refine hKq.out _ _ (.inr hH) ?_
      clear hKq Kq
      try simp only [Act.put, lay_]
      obtain ⟨_, _, _, hk1⟩ := HM1.out.lk
      have HG2 := Lib.hid hk1.cel
      clear hk1
      refine wpAnyN_more (S' := fun V => Frm [g2] V1 V) (fun V h => hH.trans (mono_1 h)) _ _ _ _ ?_
      have HXL9 := Lib.hid (show ∀ V, Frm [g2] V1 V → Cel V g8 39 [.int .i64 x.what, .int .i64 x.k, .slice x.A x.line.length x.c] from fun V h => HXL9.out V (hH.trans (mono_1 h)))
      have hH : Frm [g2] V1 V1 := Frm.refl _ _
      refine tk_ 4 (.string (str os)) [] rfl hH ?_ ?_
      ·intro V hV; have hcv := tx_str (show Tx V 0 A3 os from .inr (HBY.out.keep fun k cs fz hk => hV.block k (Array.getElem?_eq_some_iff.1 hk).1 (fun hm => by simp at hm; subst hm; exact HG2.out.not_ty (by decide) cs fz hk))) (Nat.zero_le _) c3; go_simp
      try simp only [Act.put, lay_]
      refine wpAnyN_one (i := 8) (by kernel_rfl) rfl (fun Kq hKq => ?_)
      go_simp
      refine ((show Calls Try.prog 13 #[pp g2 0, .int .i64 x.k] _ (fun e w' => ∃ A c, e = .returned (.slice A os.length c) ∧ By w' A os.length os ∧ DlSays V1 g2 (.slice A' n c') q' w') by obtain ⟨AL, nl, k, hk⟩ := HM1.out.lk; rw [EQ.out, EO.out]; exact dread_ _ HSM.out hk x.k)).mono ?_
      rintro e V2 ⟨A4, c4, rfl, hbz, hd2⟩
      have HBZ := Lib.hid hbz
      have HS2 := Lib.hid (HM1.out.step HCC.out HPL.out hd2)
      replace hH := hd2.1
      clear hd2 hbz
      go_wp2_with fail
      refine hKq.out _ _ (.inr hH) ?_
      clear hKq Kq
      try simp only [Act.put, lay_]
      refine wpAnyN_more (S' := fun V => Below V2.heap.size V2 V) (fun V h => hH.trans (Frm.of_below h)) _ _ _ _ ?_
      have hH : Below V2.heap.size V2 V2 := Below.refl _ _
      refine tk_ 9 (.string (str os)) [] rfl hH ?_ ?_
      ·intro V hV; have hcv := tx_str (show Tx V 0 A4 os from .inr (HBZ.out.below hV)) (Nat.zero_le _) c4; go_simp
      try simp only [Act.put, lay_]
      refine tk_ 10 (.bool false) [] rfl hH ?_ ?_
      ·intro V hV; have zs : ((str os).toList == (str os).toList) = true := (by simp); go_simp
      try simp only [Act.put, lay_]
      refine wpAnyN_done (by kernel_rfl) ?_ _
      clear hH HM1 HXL9
      go_upto_region 21 with fail
      obtain ⟨lz, vz, WT, hWT, HSZ⟩ : ∃ (lz : List Nat) (qz : Lk) (V : World), V = World.drew _ ∧ Hid (Lst P w w6 l0 lz g g2 A' n c' ys V qz ∧ Lsi (i + 1) qz) := ⟨l, q', _, rfl, Lib.hid ⟨HS2.out.below HCC.out (Below.refl _ _).drew, (by rw [EQ.out]; exact HSI.out.read x.k)⟩⟩
      refine wp_region_N [] (fun V => Below WT.heap.size WT V) (by kernel_rfl) ?_
      rw [← hWT]
      have hH : Below WT.heap.size WT WT := Below.refl _ _
      clear hWT
      obtain ⟨AZ, nz, kz, hkz⟩ := HSZ.out.1.lk
      have HZC := Lib.hid hkz.cel
      have HZL := Lib.hid hkz.lns
      have HZN := Lib.hid hkz.len
      have HZM := Lib.hid (HSZ.out.2.sm (by omega))
      clear hkz
      refine tk_ 0 (.pointer (some ⟨g, 0, none⟩)) [] rfl hH ?_ ?_
      ·intro V hV; go_simp
      try simp only [Act.put, lay_]
      refine tk_ 3 (.pointer (some ⟨g2, 0, none⟩)) [] rfl hH ?_ ?_
      ·intro V hV; go_simp
      try simp only [Act.put, lay_]
      refine tk_ 4 (.pointer (some ⟨g2, 0, none⟩)) [] rfl hH ?_ ?_
      ·intro V hV; go_simp
      try simp only [Act.put, lay_]
      refine tk_ 5 (.pointer (some ⟨g2, 1, none⟩)) [] rfl hH ?_ ?_
      ·intro V hV; go_simp
      try simp only [Act.put, lay_]
      refine tk_ 6 (.agg #[.int .i64 vz.p.state, .string (str vz.p.part), .string (str vz.p.log), .slice AZ nz kz]) [] rfl hH ?_ ?_
      ·intro V hV; have hc := HZC.out.below hV HZC.out.lt; have k0 : V.cell? ⟨g2, 1, none⟩ = some (.int .i64 vz.p.state) := hc.cell 1; have k1 : V.cell? ⟨g2, 2, none⟩ = some (.string (str vz.p.part)) := hc.cell 2; have k2 : V.cell? ⟨g2, 3, none⟩ = some (.string (str vz.p.log)) := hc.cell 3; have k3 : V.cell? ⟨g2, 4, none⟩ = some (.slice AZ nz kz) := hc.cell 4; clear hc; go_simp
      try simp only [Act.put, lay_]
      refine wpAnyN_one (i := 1) (by kernel_rfl) rfl (fun Kq hKq => ?_)
      go_simp
      refine (HCC.out.peer _ lz g (ys.map (·.r)) vz (HCC.out.below HSZ.out.1.p hH) HZM.out).mono ?_
      rintro e V1 ⟨v, rfl, hb, hdk, hvm⟩
      have hvl : v.ls.length ≤ 5000 := by
       have q1 : v.m.lines.length = v.ls.length := by show (txt v.ls).length = _; unfold txt; rw [List.length_map]
       rw [hvm] at q1
       have := HZM.out.2.2.1
       omega
      have con2 := as17v V1 V1.heap.size v hdk (Nat.le_refl _) (by omega)
      rw [show v.s = vz.p.state by rw [← hvm]; rfl, show v.pt = vz.p.part by rw [← hvm]; rfl, show v.lg = vz.p.log by rw [← hvm]; rfl, show v.ls.length = nz by rw [← HZN.out, ← hvm]; show _ = (txt v.ls).length; unfold txt; rw [List.length_map]] at con2
      have HTX := Lib.hid (show txt v.ls = vz.p.lines by rw [← hvm]; rfl)
      replace hH := hH.trans (hb.mono hH.size)
      clear hb hdk hvm hvl
      go_wp2_with fail
      refine hKq.out _ _ (.inr hH) ?_
      clear hKq Kq
      try simp only [Act.put, lay_]
      refine wpAnyN_one (i := 2) (by kernel_rfl) rfl (fun Kq hKq => ?_)
      go_simp
      refine (con2).mono ?_
      rintro e V2 ⟨AY, cy, rfl, hly, hb⟩
      rw [HTX.out] at hly
      have HLY := Lib.hid hly
      replace hH := hH.trans (hb.mono hH.size)
      clear hb hly con2
      go_wp2_with fail
      refine hKq.out _ _ (.inr hH) ?_
      clear hKq Kq
      try simp only [Act.put, lay_]
      refine wpAnyN_one (i := 7) (by kernel_rfl) rfl (fun Kq hKq => ?_)
      go_simp
      refine (same17p _ vz.p AY AZ nz cy kz HLY.out (Ry.below HZL.out hH) HZN.out (by have := HZM.out.2.2.1; have := HZN.out; omega)).mono ?_
      rintro e V3 ⟨rfl, hb⟩
      replace hH := hH.trans (hb.mono hH.size)
      clear hb
      go_wp2_with fail
      refine hKq.out _ _ (.inr hH) ?_
      clear hKq Kq
      try simp only [Act.put, lay_]
      refine tk_ 8 (.bool false) [] rfl hH ?_ ?_
      ·intro V hV; go_simp
      try simp only [Act.put, lay_]
      refine wpAnyN_done (by kernel_rfl) ?_ _
      go_wp2_with fail
      exact ⟨⟨i + 1, lz, vz, by omega, by rw [show ((i + 1 : Nat) : Int) = (i : Int) + 1 by omega], Lib.hid (HSZ.out.1.below HCC.out hH), Lib.hid HSZ.out.2⟩, by simp [intOf]; omega⟩
     | false =>
      cases z2 : (x.what == 2) with
      | true =>
       obtain ⟨q', hq'⟩ : ∃ q', q' = (attachR q x.k).1 := ⟨_, rfl⟩
       obtain ⟨ez, hez⟩ : ∃ z, z = (attachR q x.k).2 := ⟨_, rfl⟩
       have EQ := Lib.hid hq'
       have EO := Lib.hid hez
       clear hq' hez
       go_upto_region 19 with fail
       obtain ⟨W9, hW9⟩ : ∃ V, V = W8.drew := ⟨_, rfl⟩
       have HS9 := Lib.hid (show Lst P w w6 l0 l g g2 A' n c' ys W9 q by rw [hW9]; exact HS8.out.below HCC.out (Below.refl _ _).drew)
       have HXL9 := Lib.hid (show ∀ V, Frm (g2 :: l) W9 V → Cel V g8 39 [.int .i64 x.what, .int .i64 x.k, .slice x.A x.line.length x.c] from fun V hV => (show Cel W9 g8 39 _ by rw [hW9]; exact HC8.out.drew).frm hV (by
        intro hm
        rcases List.mem_cons.1 hm with hm | hm
        ·exact HG8.out.1 hm
        ·exact HG8.out.2 hm))
       refine wp_region_N [] (fun V => Frm (g2 :: l) W9 V) (by kernel_rfl) ?_
       rw [← hW9]
       have hH : Frm (g2 :: l) W9 W9 := Frm.refl _ _
       clear hW9 k0 k1 k2
       refine tk_ 0 (.pointer (some ⟨g, 0, none⟩)) [] rfl hH ?_ ?_
       ·intro V hV; go_simp
       try simp only [Act.put, lay_]
       refine tk_ 1 (.pointer (some ⟨g8, 1, none⟩)) [] rfl hH ?_ ?_
       ·intro V hV; go_simp
       try simp only [Act.put, lay_]
       refine tk_ 2 (.int .i64 x.k) [] rfl hH ?_ ?_
       ·intro V hV; have hc := HXL9.out V hV; have k0 : V.cell? ⟨g8, 1, none⟩ = some (.int .i64 x.k) := hc.cell 1; clear hc; go_simp
       try simp only [Act.put, lay_]
       refine tk_ 4 (.pointer (some ⟨g2, 0, none⟩)) [] rfl hH ?_ ?_
       ·intro V hV; go_simp
       try simp only [Act.put, lay_]
       refine tk_ 5 (.pointer (some ⟨g8, 1, none⟩)) [] rfl hH ?_ ?_
       ·intro V hV; go_simp
       try simp only [Act.put, lay_]
       refine tk_ 6 (.int .i64 x.k) [] rfl hH ?_ ?_
       ·intro V hV; have hc := HXL9.out V hV; have k0 : V.cell? ⟨g8, 1, none⟩ = some (.int .i64 x.k) := hc.cell 1; clear hc; go_simp
       try simp only [Act.put, lay_]
       refine wpAnyN_one (i := 3) (by kernel_rfl) rfl (fun Kq hKq => ?_)
       go_simp
       refine ((show Calls Try.prog 14 #[pp g 0, .int .i64 x.k] _ (fun e w' => e = .returned (.int .i64 ez) ∧ Frm l _ w' ∧ P w' l g (ys.map (·.r)) q') by rw [EQ.out, EO.out]; exact HCC.out.attach _ l g (ys.map (·.r)) q HS9.out.p HSM.out x.k)).mono ?_
       rintro e V1 ⟨rfl, hf1, hp1⟩
       have HM1 := Lib.hid (HS9.out.mid HCC.out HPL.out hf1 (fun k hk => .inl hk) hp1)
       replace hH := mono_g (g2 := g2) hf1
       clear hf1 hp1
       go_wp2_with fail
       refine hKq.out _ _ (.inr hH) ?_
       clear hKq Kq
       try simp only [Act.put, lay_]
       refine wpAnyN_one (i := 7) (by kernel_rfl) rfl (fun Kq hKq => ?_)
       go_simp
       refine ((show Calls Try.prog 15 #[pp g2 0, .int .i64 x.k] _ (fun e w' => e = .returned (.int .i64 ez) ∧ DlSays V1 g2 (.slice A' n c') q' w') by obtain ⟨AL, nl, k, hk⟩ := HM1.out.lk; rw [EQ.out, EO.out]; exact dattach_ _ HSM.out hk x.k)).mono ?_
       rintro e V2 ⟨rfl, hd2⟩
       have HS2 := Lib.hid (HM1.out.step HCC.out HPL.out hd2)
       replace hH := hH.trans (mono_1 hd2.1)
       clear hd2
       go_wp2_with fail
       refine hKq.out _ _ (.inr hH) ?_
       clear hKq Kq
       try simp only [Act.put, lay_]
       refine tk_ 8 (.bool false) [] rfl hH ?_ ?_
       ·intro V hV; go_simp
       try simp only [Act.put, lay_]
       refine wpAnyN_done (by kernel_rfl) ?_ _
       clear hH HM1 HXL9
       go_upto_region 21 with fail
       obtain ⟨lz, vz, WT, hWT, HSZ⟩ : ∃ (lz : List Nat) (qz : Lk) (V : World), V = World.drew _ ∧ Hid (Lst P w w6 l0 lz g g2 A' n c' ys V qz ∧ Lsi (i + 1) qz) := ⟨l, q', _, rfl, Lib.hid ⟨HS2.out.below HCC.out (Below.refl _ _).drew, (by rw [EQ.out]; exact HSI.out.attach x.k)⟩⟩
       refine wp_region_N [] (fun V => Below WT.heap.size WT V) (by kernel_rfl) ?_
       rw [← hWT]
       have hH : Below WT.heap.size WT WT := Below.refl _ _
       clear hWT
       obtain ⟨AZ, nz, kz, hkz⟩ := HSZ.out.1.lk
       have HZC := Lib.hid hkz.cel
       have HZL := Lib.hid hkz.lns
       have HZN := Lib.hid hkz.len
       have HZM := Lib.hid (HSZ.out.2.sm (by omega))
       clear hkz
       refine tk_ 0 (.pointer (some ⟨g, 0, none⟩)) [] rfl hH ?_ ?_
       ·intro V hV; go_simp
       try simp only [Act.put, lay_]
       refine tk_ 3 (.pointer (some ⟨g2, 0, none⟩)) [] rfl hH ?_ ?_
       ·intro V hV; go_simp
       try simp only [Act.put, lay_]
       refine tk_ 4 (.pointer (some ⟨g2, 0, none⟩)) [] rfl hH ?_ ?_
       ·intro V hV; go_simp
       try simp only [Act.put, lay_]
       refine tk_ 5 (.pointer (some ⟨g2, 1, none⟩)) [] rfl hH ?_ ?_
       ·intro V hV; go_simp
       try simp only [Act.put, lay_]
       refine tk_ 6 (.agg #[.int .i64 vz.p.state, .string (str vz.p.part), .string (str vz.p.log), .slice AZ nz kz]) [] rfl hH ?_ ?_
       ·intro V hV; have hc := HZC.out.below hV HZC.out.lt; have k0 : V.cell? ⟨g2, 1, none⟩ = some (.int .i64 vz.p.state) := hc.cell 1; have k1 : V.cell? ⟨g2, 2, none⟩ = some (.string (str vz.p.part)) := hc.cell 2; have k2 : V.cell? ⟨g2, 3, none⟩ = some (.string (str vz.p.log)) := hc.cell 3; have k3 : V.cell? ⟨g2, 4, none⟩ = some (.slice AZ nz kz) := hc.cell 4; clear hc; go_simp
       try simp only [Act.put, lay_]
       refine wpAnyN_one (i := 1) (by kernel_rfl) rfl (fun Kq hKq => ?_)
       go_simp
       refine (HCC.out.peer _ lz g (ys.map (·.r)) vz (HCC.out.below HSZ.out.1.p hH) HZM.out).mono ?_
       rintro e V1 ⟨v, rfl, hb, hdk, hvm⟩
       have hvl : v.ls.length ≤ 5000 := by
        have q1 : v.m.lines.length = v.ls.length := by show (txt v.ls).length = _; unfold txt; rw [List.length_map]
        rw [hvm] at q1
        have := HZM.out.2.2.1
        omega
       have con2 := as17v V1 V1.heap.size v hdk (Nat.le_refl _) (by omega)
       rw [show v.s = vz.p.state by rw [← hvm]; rfl, show v.pt = vz.p.part by rw [← hvm]; rfl, show v.lg = vz.p.log by rw [← hvm]; rfl, show v.ls.length = nz by rw [← HZN.out, ← hvm]; show _ = (txt v.ls).length; unfold txt; rw [List.length_map]] at con2
       have HTX := Lib.hid (show txt v.ls = vz.p.lines by rw [← hvm]; rfl)
       replace hH := hH.trans (hb.mono hH.size)
       clear hb hdk hvm hvl
       go_wp2_with fail
       refine hKq.out _ _ (.inr hH) ?_
       clear hKq Kq
       try simp only [Act.put, lay_]
       refine wpAnyN_one (i := 2) (by kernel_rfl) rfl (fun Kq hKq => ?_)
       go_simp
       refine (con2).mono ?_
       rintro e V2 ⟨AY, cy, rfl, hly, hb⟩
       rw [HTX.out] at hly
       have HLY := Lib.hid hly
       replace hH := hH.trans (hb.mono hH.size)
       clear hb hly con2
       go_wp2_with fail
       refine hKq.out _ _ (.inr hH) ?_
       clear hKq Kq
       try simp only [Act.put, lay_]
       refine wpAnyN_one (i := 7) (by kernel_rfl) rfl (fun Kq hKq => ?_)
       go_simp
       refine (same17p _ vz.p AY AZ nz cy kz HLY.out (Ry.below HZL.out hH) HZN.out (by have := HZM.out.2.2.1; have := HZN.out; omega)).mono ?_
       rintro e V3 ⟨rfl, hb⟩
       replace hH := hH.trans (hb.mono hH.size)
       clear hb
       go_wp2_with fail
       refine hKq.out _ _ (.inr hH) ?_
       clear hKq Kq
       try simp only [Act.put, lay_]
       refine tk_ 8 (.bool false) [] rfl hH ?_ ?_
       ·intro V hV; go_simp
       try simp only [Act.put, lay_]
       refine wpAnyN_done (by kernel_rfl) ?_ _
       go_wp2_with fail
       exact ⟨⟨i + 1, lz, vz, by omega, by rw [show ((i + 1 : Nat) : Int) = (i : Int) + 1 by omega], Lib.hid (HSZ.out.1.below HCC.out hH), Lib.hid HSZ.out.2⟩, by simp [intOf]; omega⟩
      | false =>
       go_upto_region 21 with fail
       obtain ⟨lz, vz, WT, hWT, HSZ⟩ : ∃ (lz : List Nat) (qz : Lk) (V : World), V = World.drew _ ∧ Hid (Lst P w w6 l0 lz g g2 A' n c' ys V qz ∧ Lsi (i + 1) qz) := ⟨l, q, _, rfl, Lib.hid ⟨HS8.out.below HCC.out (Below.refl _ _).drew, HSI.out.up⟩⟩
       refine wp_region_N [] (fun V => Below WT.heap.size WT V) (by kernel_rfl) ?_
       rw [← hWT]
       have hH : Below WT.heap.size WT WT := Below.refl _ _
       clear hWT k0 k1 k2
       obtain ⟨AZ, nz, kz, hkz⟩ := HSZ.out.1.lk
       have HZC := Lib.hid hkz.cel
       have HZL := Lib.hid hkz.lns
       have HZN := Lib.hid hkz.len
       have HZM := Lib.hid (HSZ.out.2.sm (by omega))
       clear hkz
       refine tk_ 0 (.pointer (some ⟨g, 0, none⟩)) [] rfl hH ?_ ?_
       ·intro V hV; go_simp
       try simp only [Act.put, lay_]
       refine tk_ 3 (.pointer (some ⟨g2, 0, none⟩)) [] rfl hH ?_ ?_
       ·intro V hV; go_simp
       try simp only [Act.put, lay_]
       refine tk_ 4 (.pointer (some ⟨g2, 0, none⟩)) [] rfl hH ?_ ?_
       ·intro V hV; go_simp
       try simp only [Act.put, lay_]
       refine tk_ 5 (.pointer (some ⟨g2, 1, none⟩)) [] rfl hH ?_ ?_
       ·intro V hV; go_simp
       try simp only [Act.put, lay_]
       refine tk_ 6 (.agg #[.int .i64 vz.p.state, .string (str vz.p.part), .string (str vz.p.log), .slice AZ nz kz]) [] rfl hH ?_ ?_
       ·intro V hV; have hc := HZC.out.below hV HZC.out.lt; have k0 : V.cell? ⟨g2, 1, none⟩ = some (.int .i64 vz.p.state) := hc.cell 1; have k1 : V.cell? ⟨g2, 2, none⟩ = some (.string (str vz.p.part)) := hc.cell 2; have k2 : V.cell? ⟨g2, 3, none⟩ = some (.string (str vz.p.log)) := hc.cell 3; have k3 : V.cell? ⟨g2, 4, none⟩ = some (.slice AZ nz kz) := hc.cell 4; clear hc; go_simp
       try simp only [Act.put, lay_]
       refine wpAnyN_one (i := 1) (by kernel_rfl) rfl (fun Kq hKq => ?_)
       go_simp
       refine (HCC.out.peer _ lz g (ys.map (·.r)) vz (HCC.out.below HSZ.out.1.p hH) HZM.out).mono ?_
       rintro e V1 ⟨v, rfl, hb, hdk, hvm⟩
       have hvl : v.ls.length ≤ 5000 := by
        have q1 : v.m.lines.length = v.ls.length := by show (txt v.ls).length = _; unfold txt; rw [List.length_map]
        rw [hvm] at q1
        have := HZM.out.2.2.1
        omega
       have con2 := as17v V1 V1.heap.size v hdk (Nat.le_refl _) (by omega)
       rw [show v.s = vz.p.state by rw [← hvm]; rfl, show v.pt = vz.p.part by rw [← hvm]; rfl, show v.lg = vz.p.log by rw [← hvm]; rfl, show v.ls.length = nz by rw [← HZN.out, ← hvm]; show _ = (txt v.ls).length; unfold txt; rw [List.length_map]] at con2
       have HTX := Lib.hid (show txt v.ls = vz.p.lines by rw [← hvm]; rfl)
       replace hH := hH.trans (hb.mono hH.size)
       clear hb hdk hvm hvl
       go_wp2_with fail
       refine hKq.out _ _ (.inr hH) ?_
       clear hKq Kq
       try simp only [Act.put, lay_]
       refine wpAnyN_one (i := 2) (by kernel_rfl) rfl (fun Kq hKq => ?_)
       go_simp
       refine (con2).mono ?_
       rintro e V2 ⟨AY, cy, rfl, hly, hb⟩
       rw [HTX.out] at hly
       have HLY := Lib.hid hly
       replace hH := hH.trans (hb.mono hH.size)
       clear hb hly con2
       go_wp2_with fail
       refine hKq.out _ _ (.inr hH) ?_
       clear hKq Kq
       try simp only [Act.put, lay_]
       refine wpAnyN_one (i := 7) (by kernel_rfl) rfl (fun Kq hKq => ?_)
       go_simp
       refine (same17p _ vz.p AY AZ nz cy kz HLY.out (Ry.below HZL.out hH) HZN.out (by have := HZM.out.2.2.1; have := HZN.out; omega)).mono ?_
       rintro e V3 ⟨rfl, hb⟩
       replace hH := hH.trans (hb.mono hH.size)
       clear hb
       go_wp2_with fail
       refine hKq.out _ _ (.inr hH) ?_
       clear hKq Kq
       try simp only [Act.put, lay_]
       refine tk_ 8 (.bool false) [] rfl hH ?_ ?_
       ·intro V hV; go_simp
       try simp only [Act.put, lay_]
       refine wpAnyN_done (by kernel_rfl) ?_ _
       go_wp2_with fail
       exact ⟨⟨i + 1, lz, vz, by omega, by rw [show ((i + 1 : Nat) : Int) = (i : Int) + 1 by omega], Lib.hid (HSZ.out.1.below HCC.out hH), Lib.hid HSZ.out.2⟩, by simp [intOf]; omega⟩
end Go.Proofs.Ytnjmdgnghidjhaa.Peer
