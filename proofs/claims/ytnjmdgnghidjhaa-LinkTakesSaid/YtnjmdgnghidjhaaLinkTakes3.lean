/-
Texts: LinkTakesW LinkKnows
-/
import Derived.Test.YtnjmdgnghidjhaaLinkTakes0
import Derived.Test.YtnjmdgnghidjhaaLinkTakes1
import Derived.Test.YtnjmdgnghidjhaaLinkTakes2
set_option linter.unusedVariables false
set_option linter.unusedSimpArgs false
set_option maxRecDepth 100000
set_option maxHeartbeats 8000000
namespace Go.Proofs.Ytnjmdgnghidjhaa.Ord
end Go.Proofs.Ytnjmdgnghidjhaa.Ord
section
namespace Go.Proofs.Ytnjmdgnghidjhaa.Peer
open Go.RowKit Go.Proofs.Ytnjmdgnghidjhaa.Ord
open Lex (Tx)
open Rec (Vt Tvs Trow txt)
def Lno (q : Lk) : Prop := q.p.log = [] ∧ q.p.lines = []
theorem Lno.part {q : Lk} (h : Lno q) (rs : List Ru) {x : List B} (hx : cleanR x = true) {room : Int} (hr : room < ((wire x).length : Int)) : (sendR rs q x room).2 = false ∧ Lno (sendR rs q x room).1 := by
 refine ⟨decide_eq_false (by omega), ?_⟩
 have hl := wire_len x
 by_cases h0 : room < 0
 ·have e : room.toNat = 0 := by omega
  show (feedR rs q.p ((wire x).take room.toNat)).log = [] ∧ (feedR rs q.p ((wire x).take room.toNat)).lines = []
  rw [e, List.take_zero, feed_nil]
  exact h
 ·obtain ⟨_, h2, h3⟩ := wire_part (rs := rs) (p := q.p) (fun c hc => (clean_mem hx c hc).1) (n := room.toNat) (by omega)
  exact ⟨h2.trans h.1, h3.trans h.2⟩
theorem Lno.whole {q : Lk} (h : Lno q) (rs : List Ru) {x : List B} (hx : cleanR x = true) (hl : x.length ≤ 300) {room : Int} (hr : ((wire x).length : Int) ≤ room) : (sendR rs q x room).2 = true ∧ (sendR rs q x room).1.p.lines = [x] := by
 refine ⟨decide_eq_true hr, ?_⟩
 have hw := wire_len x
 show (feedR rs q.p ((wire x).take room.toNat)).lines = _
 rw [wire_all (by omega), wire_takes rs q.p hx hl, line_lines]
 show q.p.lines ++ [x] = _
 rw [h.2]
 rfl
theorem dvm_nil {v : Dvm} {p : Pe} (hv : v.m = p) (h1 : p.log = []) (h2 : p.lines = []) : v.lg.length = 0 ∧ v.ls.length = 0 := by
 subst hv
 refine ⟨by rw [show v.lg = [] from h1]; rfl, ?_⟩
 have := congrArg List.length (show txt v.ls = [] from h2)
 unfold txt at this
 rw [List.length_map] at this
 exact this
theorem dvm_one {v : Dvm} {p : Pe} {x : List B} (hv : v.m = p) (h2 : p.lines = [x]) : ∃ u, v.ls = [u] ∧ u.t = x := by
 subst hv
 have h : txt v.ls = [x] := h2
 unfold txt at h
 rcases hl : v.ls with _ | ⟨u, _ | ⟨u2, r⟩⟩
 ·rw [hl] at h; cases h
 ·rw [hl] at h; exact ⟨u, rfl, by simpa using h⟩
 ·rw [hl] at h; simp at h
theorem ltakes_walk {P : LP} (HC : LinkC P) (HKN : Knows18) (w : World) (AR : Option Addr) (n c : Nat) (vs : List Rl) (hr : Rls w w.heap.size AR vs) (hl : vs.length = n) (hn : n ≤ maxLen) (hf : ∀ v ∈ vs, v.r.line.length ≤ maxLen ∧ v.r.out.length ≤ maxLen)
  (AA : Option Addr) (m ca : Nat) (ls : List Vt) (ha : Tvs w w.heap.size AA ls) (hal : ls.length = m) (ham : m ≤ maxLen) (hac : ∀ v ∈ ls, v.t.length ≤ v.c)
  (AB : Option Addr) (mb cb : Nat) (bs : List B) (hb : Bs w w.heap.size AB mb bs) (hbm : mb ≤ maxLen) (AL : Option Addr) (k cl : Nat) (xs : List B) (hx : Bs w w.heap.size AL k xs) (hkm : k ≤ cl ∧ k ≤ maxLen) (room : Int) (hroom : -9223372036854775808 ≤ room ∧ room < 9223372036854775808) :
  Calls Try.prog 4 #[.slice AR n c, .slice AA m ca, .slice AB mb cb, .slice AL k cl, .int .i64 room] w fun e w' => e = .returned (.bool true) ∧ Below w.heap.size w w' := by
 obtain ⟨T, hT⟩ : ∃ T, T = w.heap.size := ⟨_, rfl⟩
 rw [← hT] at hr ha hb hx
 have hTw : T ≤ w.heap.size := by omega
 have HCC := Lib.hid HC
 have HKN0 := Lib.hid HKN
 have HTW := Lib.hid (show ∀ V, Below w.heap.size w V → T ≤ V.heap.size from fun V h => Nat.le_trans hTw h.size)
 have HR := Lib.hid (show ∀ V, Below w.heap.size w V → Rls V T AR vs from fun V h => hr.below hTw h)
 have HA := Lib.hid (show ∀ V, Below w.heap.size w V → Tvs V T AA ls from fun V h => ha.below hTw h)
 have HAB := Lib.hid (show ∀ V, Below w.heap.size w V → Bs V T AB mb bs from fun V h => hb.below (h.mono hTw))
 have HXS := Lib.hid (show ∀ V, Below w.heap.size w V → Bs V T AL k xs from fun V h => hx.below (h.mono hTw))
 have HAL := Lib.hid hal
 have HAC := Lib.hid hac
 have HL := Lib.hid hl
 have HKL := Lib.hid hkm
 have HRM := Lib.hid hroom
 have KN := Lib.hid (show ∀ W : World, Below w.heap.size w W → Calls Try.prog 7 #[] W fun e w' => e = .returned (.bool true) ∧ Below w.heap.size w w' from fun W hW => (HKN W).mono fun e w' h => ⟨h.1, hW.trans (h.2.mono hW.size)⟩)
 have con := fewRules w T AR n c vs hr hTw hl hn hf
 have hkm2 := hkm.2
 unfold maxLen at ham hbm hkm2
 clear HC HKN hr ha hb hx hal hac hl hkm hf hT hTw hroom
 go_enter Try.func4, Try.ntmps4
 go_wp2_with fail
 refine con.mono ?_
 clear con
 rintro e w2 ⟨b1, rfl, hb2, hx1⟩
 have HB2 := Lib.hid hb2
 have HX1 := Lib.hid hx1
 clear hb2 hx1
 cases b1 with
 | false =>
  go_wp2_with fail
  refine (KN.out _ HB2.out).mono ?_
  rintro e wk ⟨rfl, hbk⟩
  have HBK := Lib.hid hbk
  clear hbk
  go_wp2_with fail
  go_ret
  exact ⟨rfl, HBK.out⟩
 | true =>
  by_cases h10 : 10 < m
  ·have d10 : decide ((10 : Int) < (m : Int)) = true := by simp; omega
   go_wp2_with fail
   refine (KN.out _ HB2.out).mono ?_
   rintro e wk ⟨rfl, hbk⟩
   have HBK := Lib.hid hbk
   clear hbk
   go_wp2_with fail
   go_ret
   exact ⟨rfl, HBK.out⟩
  have d10 : decide ((10 : Int) < (m : Int)) = false := by simp; omega
  by_cases h100 : 100 < k
  ·have d100 : decide ((100 : Int) < (k : Int)) = true := by simp; omega
   go_wp2_with fail
   refine (KN.out _ HB2.out).mono ?_
   rintro e wk ⟨rfl, hbk⟩
   have HBK := Lib.hid hbk
   clear hbk
   go_wp2_with fail
   go_ret
   exact ⟨rfl, HBK.out⟩
  have d100 : decide ((100 : Int) < (k : Int)) = false := by simp; omega
  have con := clean18 w2 T AL k cl xs (HXS.out _ HB2.out) (HTW.out _ HB2.out) (by omega)
  obtain ⟨bc, hbc⟩ : ∃ b, b = cleanR xs := ⟨_, rfl⟩
  rw [← hbc] at con
  have HCL := Lib.hid hbc
  clear hbc
  go_wp2_with fail
  refine con.mono ?_
  clear con
  rintro e w3 ⟨rfl, hb3⟩
  have HB3 := Lib.hid (HB2.out.trans (hb3.mono HB2.out.size))
  clear hb3 HB2
  cases bc with
  | false =>
   go_wp2_with fail
   refine (KN.out _ HB3.out).mono ?_
   rintro e wk ⟨rfl, hbk⟩
   have HBK := Lib.hid hbk
   clear hbk
   go_wp2_with fail
   go_ret
   exact ⟨rfl, HBK.out⟩
  | true =>
   obtain ⟨q1, q2⟩ := HX1.out (by first | rfl | trivial)
   have HRF : Hid (Rfew vs n) := Lib.hid ⟨HL.out, q1, q2⟩
   clear q1 q2 HX1
   have con := HCC.out.new w3 T AR n c vs (HR.out _ HB3.out) (HTW.out _ HB3.out) HRF.out
   go_wp2_with fail
   refine con.mono ?_
   clear con
   rintro e w4 ⟨l, g, rfl, hlg, hp4, hb4⟩
   have HB4 := Lib.hid (HB3.out.trans (hb4.mono HB3.out.size))
   have HLG := Lib.hid (show ∀ j ∈ l, w.heap.size ≤ j from fun j hj => Nat.le_trans HB3.out.size (hlg j hj).1)
   have HP4 := Lib.hid hp4
   have HNO : Hid (Lno lk0) := Lib.hid ⟨rfl, rfl⟩
   clear hlg hp4 hb4 HB3 d10 d100
   go_wp2_with fail
   go_loopw [12] (fun v12 wr => ∃ (i : Nat) (l : List Nat) (q : Lk), i ≤ m ∧ v12 = .int .i64 (i : Int) ∧ Hid (∀ j ∈ l, w.heap.size ≤ j) ∧ Hid (Below w.heap.size w wr) ∧ Hid (P wr l g (vs.map (·.r)) q) ∧ Hid (Lno q) ∧ Hid (Lsi i q)) (fun v12 _ => m - (intOf v12).toNat)
   case atStart => exact ⟨0, l, lk0, Nat.zero_le _, rfl, HLG, HB4, HP4, HNO, Lib.hid lsi0⟩
   case round =>
    clear HB4 HP4 HNO HLG l
    obtain ⟨i, l, q, hi, rfl, HLG, HB, HP, HNO, HSI⟩ := hrel
    obtain ⟨W, hW⟩ : ∃ W, W = wr := ⟨_, rfl⟩
    rw [← hW] at HB HP ⊢
    clear hW
    have HSM := Lib.hid (HSI.out.sm (by omega))
    by_cases hcont : i < m ∧ i < mb
    case pos =>
     obtain ⟨hi1, hi2⟩ := hcont
     obtain ⟨u, hu⟩ : ∃ u, ls[i]? = some u := ⟨_, List.getElem?_eq_getElem (by rw [HAL.out]; exact hi1)⟩
     have hum := List.mem_of_getElem? hu
     obtain ⟨ad, hAA, k0⟩ := (HA.out _ HB.out).cr i u hu
     change _ = some (Value.slice u.A u.t.length u.c) at k0
     obtain ⟨ad2, hAB, _, k1⟩ := Bp.at_ (HAB.out _ HB.out).bp hi2
     have hul := ((HA.out _ HB.out).tx u hum).2
     unfold maxLen at hul
     have HUT := Lib.hid (show ∀ V, Below w.heap.size w V → Bs V V.heap.size u.A u.t.length u.t from fun V h => Lex.Tx.bs ((HA.out _ h).tx u hum).1 (HTW.out _ h))
     have HUC := Lib.hid (HAC.out u hum)
     obtain ⟨y, hy⟩ : ∃ y, y = bs.getD i 0#8 := ⟨_, rfl⟩
     rw [← hy] at k1
     subst hAA hAB
     clear hu hum hy
     obtain ⟨ul, hule⟩ : ∃ ul, ul = u.t.length := ⟨_, rfl⟩
     rw [← hule] at k0 hul
     have HUL := Lib.hid hule
     clear hule
     by_cases h1 : 100 < ul
     ·have d1 : decide ((100 : Int) < (ul : Int)) = true := by simp; omega
      go_wp2_with fail
      refine (KN.out _ HB.out).mono ?_
      rintro e wk ⟨rfl, hbk⟩
      have HBK := Lib.hid hbk
      clear hbk
      go_wp2_with fail
      go_ret
      exact ⟨rfl, HBK.out⟩
     have d1 : decide ((100 : Int) < (ul : Int)) = false := by simp; omega
     have con := clean18 W W.heap.size u.A ul u.c u.t (by rw [HUL.out]; exact HUT.out _ HB.out) (Nat.le_refl _) (by omega)
     obtain ⟨bd, hbd⟩ : ∃ b, b = cleanR u.t := ⟨_, rfl⟩
     rw [← hbd] at con
     have HCU := Lib.hid hbd
     clear hbd
     go_wp2_with fail
     refine con.mono ?_
     clear con
     rintro e W1 ⟨rfl, hb1⟩
     have HB1 := Lib.hid (HB.out.trans (hb1.mono HB.out.size))
     have HP1 := Lib.hid (HCC.out.below HP.out hb1)
     replace k0 := (hb1.cell (cell_lt k0)).trans k0
     replace k1 := (hb1.cell (cell_lt k1)).trans k1
     clear hb1
     cases bd with
     | false =>
      go_wp2_with fail
      refine (KN.out _ HB1.out).mono ?_
      rintro e wk ⟨rfl, hbk⟩
      have HBK := Lib.hid hbk
      clear hbk
      go_wp2_with fail
      go_ret
      exact ⟨rfl, HBK.out⟩
     | true =>
      go_upto_region 11 with fail
      obtain ⟨W9, hW9⟩ : ∃ V, V = W1.drew := ⟨_, rfl⟩
      have HB9 := Lib.hid (show Below w.heap.size w W9 by rw [hW9]; exact HB1.out.drew)
      have HP9 := Lib.hid (show P W9 l g (vs.map (·.r)) q by rw [hW9]; exact HCC.out.below HP1.out (Below.refl _ _).drew)
      have HK0 := Lib.hid (show ∀ V, Below W9.heap.size W9 V → V.cell? (ad.add i) = some (.slice u.A ul u.c) from fun V hV => (hV.cell (cell_lt (show W9.cell? _ = _ by rw [hW9]; exact k0))).trans (by rw [hW9]; exact k0))
      have HK1 := Lib.hid (show ∀ V, Below W9.heap.size W9 V → V.cell? (ad2.add i) = some (v8 y) from fun V hV => (hV.cell (cell_lt (show W9.cell? _ = _ by rw [hW9]; exact k1))).trans (by rw [hW9]; exact k1))
      obtain ⟨rm, hrm⟩ : ∃ rm, rm = ((y.toNat : Int)).tmod ((ul : Int) + 2) := ⟨_, rfl⟩
      have HRMD := Lib.hid hrm
      have HRB := Lib.hid (show rm < (ul : Int) + 2 by rw [hrm]; exact Int.tmod_lt_of_pos _ (by omega))
      have hpos : ((ul : Int) + 2) ≠ 0 := by omega
      clear hrm k0 k1 d1
      refine wp_region_N [17] (fun V => Below W9.heap.size W9 V) (by kernel_rfl) ?_
      rw [← hW9]
      have hH : Below W9.heap.size W9 W9 := Below.refl _ _
      clear hW9
      refine tk_ 0 (.pointer (some ⟨g, 0, none⟩)) [17] rfl hH ?_ ?_
      ·intro V hV; go_simp
      try simp only [Act.put, lay_]
      refine tk_ 1 (.slice (some ad) m ca) [3, 4, 17] rfl hH ?_ ?_
      ·intro V hV; go_simp
      try simp only [Act.put, lay_]
      refine tk_ 2 (.int .i64 (i : Int)) [3, 4, 17] rfl hH ?_ ?_
      ·intro V hV; go_simp
      try simp only [Act.put, lay_]
      refine tk_ 3 (.pointer (some (ad.add i))) [4, 17] rfl hH ?_ ?_
      ·intro V hV; go_simp
      try simp only [Act.put, lay_]
      refine tk_ 4 (.slice u.A ul u.c) [17] rfl hH ?_ ?_
      ·intro V hV; have q0 := HK0.out V hV; go_simp
      try simp only [Act.put, lay_]
      refine tk_ 5 (.slice (some ad2) mb cb) [7, 8, 9, 16, 17] rfl hH ?_ ?_
      ·intro V hV; go_simp
      try simp only [Act.put, lay_]
      refine tk_ 6 (.int .i64 (i : Int)) [7, 8, 9, 16, 17] rfl hH ?_ ?_
      ·intro V hV; go_simp
      try simp only [Act.put, lay_]
      refine tk_ 7 (.pointer (some (ad2.add i))) [8, 9, 16, 17] rfl hH ?_ ?_
      ·intro V hV; go_simp
      try simp only [Act.put, lay_]
      refine tk_ 8 (.int .u8 (y.toNat : Int)) [9, 16, 17] rfl hH ?_ ?_
      ·intro V hV; have q1 := HK1.out V hV; unfold v8 at q1; go_simp
      try simp only [Act.put, lay_]
      refine tk_ 9 (.int .i64 (y.toNat : Int)) [16, 17] rfl hH ?_ ?_
      ·intro V hV; have hw : IntKind.i64.wrap (y.toNat : Int) = (y.toNat : Int) := (by have := y.isLt; rw [IntKind.wrap_i64]; omega); go_simp
      try simp only [Act.put, lay_]
      refine tk_ 10 (.slice (some ad) m ca) [12, 13, 14, 15, 16, 17] rfl hH ?_ ?_
      ·intro V hV; go_simp
      try simp only [Act.put, lay_]
      refine tk_ 11 (.int .i64 (i : Int)) [12, 13, 14, 15, 16, 17] rfl hH ?_ ?_
      ·intro V hV; go_simp
      try simp only [Act.put, lay_]
      refine tk_ 12 (.pointer (some (ad.add i))) [13, 14, 15, 16, 17] rfl hH ?_ ?_
      ·intro V hV; go_simp
      try simp only [Act.put, lay_]
      refine tk_ 13 (.slice u.A ul u.c) [14, 15, 16, 17] rfl hH ?_ ?_
      ·intro V hV; have q0 := HK0.out V hV; go_simp
      try simp only [Act.put, lay_]
      refine tk_ 14 (.int .i64 (ul : Int)) [15, 16, 17] rfl hH ?_ ?_
      ·intro V hV; go_simp
      try simp only [Act.put, lay_]
      refine tk_ 15 (.int .i64 ((ul : Int) + 2)) [16, 17] rfl hH ?_ ?_
      ·intro V hV; have hw : IntKind.i64.wrap ((ul : Int) + 2) = (ul : Int) + 2 := (by rw [IntKind.wrap_i64]; omega); go_simp
      try simp only [Act.put, lay_]
      refine tk_ 16 (.int .i64 rm) [17] rfl hH ?_ ?_
      ·intro V hV; rw [HRMD.out]; have hy := y.isLt; go_simp
      try simp only [Act.put, lay_]
      refine wpAnyN_one (i := 17) (by kernel_rfl) rfl (fun Kq hKq => ?_)
      go_simp
      refine (HCC.out.send _ l g (vs.map (·.r)) q HP9.out (pfew_of HRF.out) HSM.out u.A ul u.c u.t (by rw [HUL.out]; exact HUT.out _ HB9.out) (by rw [HUL.out]; exact HUC.out) (by omega) rm).mono ?_
      rintro e V1 ⟨l2, rfl, hf1, hl1, hp1⟩
      have hno := HNO.out.part (vs.map (·.r)) HCU.out.symm (room := rm) (by have q1 := HRB.out; rw [wire_len]; have q2 := HUL.out; omega)
      rw [hno.1]
      have HNO2 := Lib.hid hno.2
      have HSI2 := Lib.hid (HSI.out.send HRF.out (x := u.t) (by rw [← HUL.out]; omega) rm)
      have HB2 := Lib.hid (HB9.out.trans (hf1.below HB9.out.size HLG.out))
      have HP2 := Lib.hid hp1
      have HLG2 := Lib.hid (show ∀ j ∈ l2, w.heap.size ≤ j from fun j hj => (hl1 j hj).elim (HLG.out j) (fun h => Nat.le_trans HB9.out.size h))
      clear hno hf1 hl1 hp1
      go_wp2_with fail
      refine hKq.out _ _ (.inl (by simp)) ?_
      clear hKq Kq
      refine wpAnyN_done (by kernel_rfl) ?_ _
      clear hH
      go_wp2_with fail
      exact ⟨⟨i + 1, l2, _, by omega, by rw [show ((i + 1 : Nat) : Int) = (i : Int) + 1 by omega], HLG2, HB2, HP2, HNO2, HSI2⟩, by simp [intOf]; omega⟩
    have hcf : m ≤ i ∨ (i < m ∧ mb ≤ i) := by omega
    have con := HCC.out.peer W l g (vs.map (·.r)) q HP.out HSM.out
    clear hcont
    rcases hcf with hcf | ⟨hcf, hcf2⟩
    ·go_wp2_with fail
     refine con.mono ?_
     clear con
     rintro e W1 ⟨v, rfl, hb1, hdk, hvm⟩
     obtain ⟨hv1, hv2⟩ := dvm_nil hvm HNO.out.1 HNO.out.2
     unfold Dvm.cells
     rw [hv1, hv2]
     clear hvm hv1 hv2 hdk
     obtain ⟨W2, hW2⟩ : ∃ V, V = W1.alloc (.cells ([.int .i64 v.s, .slice v.PA v.pt.length v.pc, .slice v.LA 0 v.lc, .slice v.A 0 v.c] : List Value).toArray 49) := ⟨_, rfl⟩
     have hb2 : Below W1.heap.size W1 W2 := by rw [hW2]; exact (Below.refl _ _).alloc (Nat.le_refl _) _
     have hc2 : Cel W2 W1.heap.size 49 [.int .i64 v.s, .slice v.PA v.pt.length v.pc, .slice v.LA 0 v.lc, .slice v.A 0 v.c] := by rw [hW2]; exact Cel.new W1 _ _
     have hb02 : Below W.heap.size W W2 := hb1.trans (hb2.mono hb1.size)
     have HB2 := Lib.hid (HB.out.trans (hb02.mono HB.out.size))
     have HP2 := Lib.hid (HCC.out.below HP.out hb02)
     have k2 := hc2.cell 2
     have k3 := hc2.cell 3
     change _ = some (Value.slice v.LA 0 v.lc) at k2
     change _ = some (Value.slice v.A 0 v.c) at k3
     obtain ⟨b, hb⟩ : ∃ b, b = (sendR (vs.map (·.r)) q xs room).2 := ⟨_, rfl⟩
     have HBE := Lib.hid hb
     have con := HCC.out.send W2 l g (vs.map (·.r)) q HP2.out (pfew_of HRF.out) HSM.out AL k cl xs ((HXS.out _ HB2.out).more (HTW.out _ HB2.out)) HKL.out.1 (by omega) room
     rw [← hb] at con
     have w1 : wrap64 ((k : Int) + 2) = (k : Int) + 2 := by unfold wrap64; omega
     clear hb1 hb2 hc2 hb02 hb
     go_upto_region 14 with fail
     rw [← hW2]
     clear hW2
     generalize W1.heap.size = gp at *
     go_wp2_with fail
     refine con.mono ?_
     clear con k2 k3
     rintro e W3 ⟨l3, rfl, hf3, _, hp3⟩
     have HB3 := Lib.hid (HB2.out.trans (hf3.below HB2.out.size HLG.out))
     have HP3 := Lib.hid hp3
     obtain ⟨q', hq'⟩ : ∃ q', q' = (sendR (vs.map (·.r)) q xs room).1 := ⟨_, rfl⟩
     rw [← hq'] at HP3
     have HSM' := Lib.hid (show Lsm q' by rw [hq']; exact (HSI.out.send HRF.out (by rw [(HXS.out _ HB2.out).len]; omega) room).sm (by omega))
     have HQE := Lib.hid hq'
     have HWL := Lib.hid (show ((wire xs).length : Int) = (k : Int) + 2 by rw [wire_len, (HXS.out _ HB2.out).len]; omega)
     clear hf3 hp3 hq'
     have con := HCC.out.peer W3 l3 g (vs.map (·.r)) q' HP3.out HSM'.out
     go_wp2_with fail
     refine con.mono ?_
     clear con
     rintro e W4 ⟨v2, rfl, hb4, hdk, hvm⟩
     have HVM := Lib.hid hvm
     have HDK := Lib.hid hdk
     have HB4 := Lib.hid (HB3.out.trans (hb4.mono HB3.out.size))
     clear hb4 hdk hvm
     unfold Dvm.cells
     obtain ⟨W5, hW5⟩ : ∃ V, V = W4.alloc (.cells ([.int .i64 v2.s, .slice v2.PA v2.pt.length v2.pc, .slice v2.LA v2.lg.length v2.lc, .slice v2.A v2.ls.length v2.c] : List Value).toArray 49) := ⟨_, rfl⟩
     have hb5 : Below W4.heap.size W4 W5 := by rw [hW5]; exact (Below.refl _ _).alloc (Nat.le_refl _) _
     have hc5 : Cel W5 W4.heap.size 49 [.int .i64 v2.s, .slice v2.PA v2.pt.length v2.pc, .slice v2.LA v2.lg.length v2.lc, .slice v2.A v2.ls.length v2.c] := by rw [hW5]; exact Cel.new W4 _ _
     have HB5 := Lib.hid (HB4.out.trans (hb5.mono HB4.out.size))
     have HD5 := Lib.hid (HDK.out.below (Nat.le_refl _) hb5)
     have HZ5 := Lib.hid hb5.size
     have HC5 := Lib.hid hc5
     clear hb5 hc5 HDK
     go_upto_region 18 with fail
     rw [← hW5]
     clear hW5
     generalize W4.heap.size = g5 at *
     by_cases hlt : room < (k : Int) + 2
     ·have hno := HNO.out.part (vs.map (·.r)) HCL.out.symm (room := room) (by rw [HWL.out]; exact hlt)
      obtain rfl : b = false := by rw [HBE.out]; exact hno.1
      obtain ⟨hv1, hv2⟩ := dvm_nil HVM.out (by rw [HQE.out]; exact hno.2.1) (by rw [HQE.out]; exact hno.2.2)
      have d2 : decide ((k : Int) + 2 ≤ room) = false := by simp; omega
      have k2 : W5.cell? ⟨g5, 2, none⟩ = some (.slice v2.LA 0 v2.lc) := by rw [← hv1]; exact HC5.out.cell 2
      have k3 : W5.cell? ⟨g5, 3, none⟩ = some (.slice v2.A 0 v2.c) := by rw [← hv2]; exact HC5.out.cell 3
      clear hno hv1 hv2 hlt
      go_wp2_with fail
      refine (KN.out _ HB5.out).mono ?_
      rintro e wk ⟨rfl, hbk⟩
      have HBK := Lib.hid hbk
      clear hbk k2 k3
      go_wp2_with fail
      go_ret
      exact ⟨rfl, HBK.out⟩
     ·have hge2 : (k : Int) + 2 ≤ room := by omega
      have hyes := HNO.out.whole (vs.map (·.r)) HCL.out.symm (by rw [(HXS.out _ HB2.out).len]; omega) (room := room) (by rw [HWL.out]; exact hge2)
      obtain rfl : b = true := by rw [HBE.out]; exact hyes.1
      obtain ⟨u, hu, hut⟩ := dvm_one HVM.out (by rw [HQE.out]; exact hyes.2)
      have d2 : decide ((k : Int) + 2 ≤ room) = true := by simp; omega
      have hlen : v2.ls.length = 1 := by rw [hu]; rfl
      obtain ⟨ad, hA2, hcell⟩ := HD5.out.ls.cr 0 u (by rw [hu]; rfl)
      rw [hlen, hA2] at HC5
      have HTX := Lib.hid (show Tx W5 g5 u.A u.t from (HD5.out.ls.tx u (by rw [hu]; simp)).1)
      have HXL := Lib.hid (show ∀ V, Below W5.heap.size W5 V → Bs V V.heap.size AL k xs from fun V hV => (HXS.out V (HB5.out.trans (hV.mono HB5.out.size))).more (HTW.out _ (HB5.out.trans (hV.mono HB5.out.size))))
      have hz : ad.add 0 = ad := by unfold Addr.add; simp
      rw [hz] at hcell
      have hcell2 : W5.cell? ad = some (.slice u.A k u.c) := by
       have q1 : u.cell = .slice u.A k u.c := by unfold Vt.cell; rw [hut, (HXS.out _ HB2.out).len]
       rw [← q1]; exact hcell
      have HUT := Lib.hid hut
      have HKX := Lib.hid (show xs.length = k from (HXS.out _ HB2.out).len)
      clear hyes hu hut hlen hA2 hcell hge2 hlt HD5 hz
      go_upto_region 22 with fail
      obtain ⟨W9, hW9⟩ : ∃ V, V = W5.drew := ⟨_, rfl⟩
      have hb9 : Below W5.heap.size W5 W9 := by rw [hW9]; exact (Below.refl _ _).drew
      have HB9 := Lib.hid (HB5.out.trans (hb9.mono HB5.out.size))
      have HC9 := Lib.hid (HC5.out.below hb9 HC5.out.lt)
      have HK9 := Lib.hid (show ∀ V, Below W9.heap.size W9 V → V.cell? ad = some (.slice u.A k u.c) from fun V hV => ((hb9.trans (hV.mono hb9.size)).cell (cell_lt hcell2)).trans hcell2)
      have HT9 := Lib.hid (show ∀ V, Below W9.heap.size W9 V → (convert 37 9 (.slice u.A k u.c)).run Try.prog V = .ok (.string (str xs)) V from fun V hV => by
       have q1 := tx_str (HTX.out.below (by have := HZ5.out; omega) (hb9.trans (hV.mono hb9.size))) (by have := HZ5.out; have := hb9.size; have := hV.size; omega) u.c
       rw [HUT.out, HKX.out] at q1
       exact q1)
      have HT8 := Lib.hid (show ∀ V, Below W9.heap.size W9 V → (convert 37 9 (.slice AL k cl)).run Try.prog V = .ok (.string (str xs)) V from fun V hV => by
       have q1 := tx_str (T := V.heap.size) (A := AL) (t := xs) (.inl (by rw [HKX.out]; exact HXL.out V (hb9.trans (hV.mono hb9.size)))) (Nat.le_refl _) cl
       rw [HKX.out] at q1
       exact q1)
      clear hb9 hcell2 d2
      refine wp_region_N [] (fun V => Below W9.heap.size W9 V) (by kernel_rfl) ?_
      rw [← hW9]
      have hH : Below W9.heap.size W9 W9 := Below.refl _ _
      clear hW9
      refine tk_ 0 (.pointer (some ⟨g5, 3, none⟩)) [] rfl hH ?_ ?_
      ·intro V hV; go_simp
      try simp only [Act.put, lay_]
      refine tk_ 1 (.slice (some ad) 1 v2.c) [] rfl hH ?_ ?_
      ·intro V hV; have hc := HC9.out.below hV HC9.out.lt; have k0 : V.cell? ⟨g5, 3, none⟩ = some (.slice (some ad) 1 v2.c) := hc.cell 3; clear hc; go_simp
      try simp only [Act.put, lay_]
      refine tk_ 2 (.int .i64 1) [] rfl hH ?_ ?_
      ·intro V hV; go_simp
      try simp only [Act.put, lay_]
      refine tk_ 3 (.bool true) [] rfl hH ?_ ?_
      ·intro V hV; go_simp
      try simp only [Act.put, lay_]
      refine tk_ 4 (.bool true) [] rfl hH ?_ ?_
      ·intro V hV; go_simp
      try simp only [Act.put, lay_]
      refine tk_ 5 (.pointer (some ⟨g5, 3, none⟩)) [] rfl hH ?_ ?_
      ·intro V hV; go_simp
      try simp only [Act.put, lay_]
      refine tk_ 6 (.slice (some ad) 1 v2.c) [] rfl hH ?_ ?_
      ·intro V hV; have hc := HC9.out.below hV HC9.out.lt; have k0 : V.cell? ⟨g5, 3, none⟩ = some (.slice (some ad) 1 v2.c) := hc.cell 3; clear hc; go_simp
      try simp only [Act.put, lay_]
      refine tk_ 7 (.pointer (some ad)) [] rfl hH ?_ ?_
      ·intro V hV; go_simp
      try simp only [Act.put, lay_]
      refine tk_ 8 (.slice u.A k u.c) [] rfl hH ?_ ?_
      ·intro V hV; have q0 := HK9.out V hV; go_simp
      try simp only [Act.put, lay_]
      refine tk_ 9 (.string (str xs)) [] rfl hH ?_ ?_
      ·intro V hV; have q0 := HT9.out V hV; go_simp
      try simp only [Act.put, lay_]
      refine tk_ 10 (.slice AL k cl) [] rfl hH ?_ ?_
      ·intro V hV; go_simp
      try simp only [Act.put, lay_]
      refine tk_ 11 (.string (str xs)) [] rfl hH ?_ ?_
      ·intro V hV; have q0 := HT8.out V hV; go_simp
      try simp only [Act.put, lay_]
      refine tk_ 12 (.bool true) [] rfl hH ?_ ?_
      ·intro V hV; have zs : ((str xs).toList == (str xs).toList) = true := (by simp); go_simp
      try simp only [Act.put, lay_]
      refine tk_ 13 (.bool true) [] rfl hH ?_ ?_
      ·intro V hV; go_simp
      try simp only [Act.put, lay_]
      refine tk_ 14 (.bool true) [] rfl hH ?_ ?_
      ·intro V hV; go_simp
      try simp only [Act.put, lay_]
      refine wpAnyN_one (i := 15) (by kernel_rfl) rfl (fun Kq hKq => ?_)
      go_simp
      refine (HKN0.out _).mono ?_
      rintro e wk ⟨rfl, hbk⟩
      replace hH := hH.trans (hbk.mono hH.size)
      have HBK := Lib.hid (HB9.out.trans (hH.mono HB9.out.size))
      clear hbk
      go_wp2_with fail
      refine hKq.out _ _ (.inr hH) ?_
      clear hKq Kq
      try simp only [Act.put, lay_]
      refine tk_ 16 (.bool true) [] rfl hH ?_ ?_
      ·intro V hV; go_simp
      try simp only [Act.put, lay_]
      refine tk_ 17 (.bool true) [] rfl hH ?_ ?_
      ·intro V hV; go_simp
      try simp only [Act.put, lay_]
      refine wpAnyN_done (by kernel_rfl) ?_ _
      clear hH
      go_wp2_with fail
      go_ret
      exact ⟨rfl, HBK.out⟩
    ·go_wp2_with fail
     refine con.mono ?_
     clear con
     rintro e W1 ⟨v, rfl, hb1, hdk, hvm⟩
     obtain ⟨hv1, hv2⟩ := dvm_nil hvm HNO.out.1 HNO.out.2
     unfold Dvm.cells
     rw [hv1, hv2]
     clear hvm hv1 hv2 hdk
     obtain ⟨W2, hW2⟩ : ∃ V, V = W1.alloc (.cells ([.int .i64 v.s, .slice v.PA v.pt.length v.pc, .slice v.LA 0 v.lc, .slice v.A 0 v.c] : List Value).toArray 49) := ⟨_, rfl⟩
     have hb2 : Below W1.heap.size W1 W2 := by rw [hW2]; exact (Below.refl _ _).alloc (Nat.le_refl _) _
     have hc2 : Cel W2 W1.heap.size 49 [.int .i64 v.s, .slice v.PA v.pt.length v.pc, .slice v.LA 0 v.lc, .slice v.A 0 v.c] := by rw [hW2]; exact Cel.new W1 _ _
     have hb02 : Below W.heap.size W W2 := hb1.trans (hb2.mono hb1.size)
     have HB2 := Lib.hid (HB.out.trans (hb02.mono HB.out.size))
     have HP2 := Lib.hid (HCC.out.below HP.out hb02)
     have k2 := hc2.cell 2
     have k3 := hc2.cell 3
     change _ = some (Value.slice v.LA 0 v.lc) at k2
     change _ = some (Value.slice v.A 0 v.c) at k3
     obtain ⟨b, hb⟩ : ∃ b, b = (sendR (vs.map (·.r)) q xs room).2 := ⟨_, rfl⟩
     have HBE := Lib.hid hb
     have con := HCC.out.send W2 l g (vs.map (·.r)) q HP2.out (pfew_of HRF.out) HSM.out AL k cl xs ((HXS.out _ HB2.out).more (HTW.out _ HB2.out)) HKL.out.1 (by omega) room
     rw [← hb] at con
     have w1 : wrap64 ((k : Int) + 2) = (k : Int) + 2 := by unfold wrap64; omega
     clear hb1 hb2 hc2 hb02 hb
     go_upto_region 14 with fail
     rw [← hW2]
     clear hW2
     generalize W1.heap.size = gp at *
     go_wp2_with fail
     refine con.mono ?_
     clear con k2 k3
     rintro e W3 ⟨l3, rfl, hf3, _, hp3⟩
     have HB3 := Lib.hid (HB2.out.trans (hf3.below HB2.out.size HLG.out))
     have HP3 := Lib.hid hp3
     obtain ⟨q', hq'⟩ : ∃ q', q' = (sendR (vs.map (·.r)) q xs room).1 := ⟨_, rfl⟩
     rw [← hq'] at HP3
     have HSM' := Lib.hid (show Lsm q' by rw [hq']; exact (HSI.out.send HRF.out (by rw [(HXS.out _ HB2.out).len]; omega) room).sm (by omega))
     have HQE := Lib.hid hq'
     have HWL := Lib.hid (show ((wire xs).length : Int) = (k : Int) + 2 by rw [wire_len, (HXS.out _ HB2.out).len]; omega)
     clear hf3 hp3 hq'
     have con := HCC.out.peer W3 l3 g (vs.map (·.r)) q' HP3.out HSM'.out
     go_wp2_with fail
     refine con.mono ?_
     clear con
     rintro e W4 ⟨v2, rfl, hb4, hdk, hvm⟩
     have HVM := Lib.hid hvm
     have HDK := Lib.hid hdk
     have HB4 := Lib.hid (HB3.out.trans (hb4.mono HB3.out.size))
     clear hb4 hdk hvm
     unfold Dvm.cells
     obtain ⟨W5, hW5⟩ : ∃ V, V = W4.alloc (.cells ([.int .i64 v2.s, .slice v2.PA v2.pt.length v2.pc, .slice v2.LA v2.lg.length v2.lc, .slice v2.A v2.ls.length v2.c] : List Value).toArray 49) := ⟨_, rfl⟩
     have hb5 : Below W4.heap.size W4 W5 := by rw [hW5]; exact (Below.refl _ _).alloc (Nat.le_refl _) _
     have hc5 : Cel W5 W4.heap.size 49 [.int .i64 v2.s, .slice v2.PA v2.pt.length v2.pc, .slice v2.LA v2.lg.length v2.lc, .slice v2.A v2.ls.length v2.c] := by rw [hW5]; exact Cel.new W4 _ _
     have HB5 := Lib.hid (HB4.out.trans (hb5.mono HB4.out.size))
     have HD5 := Lib.hid (HDK.out.below (Nat.le_refl _) hb5)
     have HZ5 := Lib.hid hb5.size
     have HC5 := Lib.hid hc5
     clear hb5 hc5 HDK
     go_upto_region 18 with fail
     rw [← hW5]
     clear hW5
     generalize W4.heap.size = g5 at *
     by_cases hlt : room < (k : Int) + 2
     ·have hno := HNO.out.part (vs.map (·.r)) HCL.out.symm (room := room) (by rw [HWL.out]; exact hlt)
      obtain rfl : b = false := by rw [HBE.out]; exact hno.1
      obtain ⟨hv1, hv2⟩ := dvm_nil HVM.out (by rw [HQE.out]; exact hno.2.1) (by rw [HQE.out]; exact hno.2.2)
      have d2 : decide ((k : Int) + 2 ≤ room) = false := by simp; omega
      have k2 : W5.cell? ⟨g5, 2, none⟩ = some (.slice v2.LA 0 v2.lc) := by rw [← hv1]; exact HC5.out.cell 2
      have k3 : W5.cell? ⟨g5, 3, none⟩ = some (.slice v2.A 0 v2.c) := by rw [← hv2]; exact HC5.out.cell 3
      clear hno hv1 hv2 hlt
      go_wp2_with fail
      refine (KN.out _ HB5.out).mono ?_
      rintro e wk ⟨rfl, hbk⟩
      have HBK := Lib.hid hbk
      clear hbk k2 k3
      go_wp2_with fail
      go_ret
      exact ⟨rfl, HBK.out⟩
     ·have hge2 : (k : Int) + 2 ≤ room := by omega
      have hyes := HNO.out.whole (vs.map (·.r)) HCL.out.symm (by rw [(HXS.out _ HB2.out).len]; omega) (room := room) (by rw [HWL.out]; exact hge2)
      obtain rfl : b = true := by rw [HBE.out]; exact hyes.1
      obtain ⟨u, hu, hut⟩ := dvm_one HVM.out (by rw [HQE.out]; exact hyes.2)
      have d2 : decide ((k : Int) + 2 ≤ room) = true := by simp; omega
      have hlen : v2.ls.length = 1 := by rw [hu]; rfl
      obtain ⟨ad, hA2, hcell⟩ := HD5.out.ls.cr 0 u (by rw [hu]; rfl)
      rw [hlen, hA2] at HC5
      have HTX := Lib.hid (show Tx W5 g5 u.A u.t from (HD5.out.ls.tx u (by rw [hu]; simp)).1)
      have HXL := Lib.hid (show ∀ V, Below W5.heap.size W5 V → Bs V V.heap.size AL k xs from fun V hV => (HXS.out V (HB5.out.trans (hV.mono HB5.out.size))).more (HTW.out _ (HB5.out.trans (hV.mono HB5.out.size))))
      have hz : ad.add 0 = ad := by unfold Addr.add; simp
      rw [hz] at hcell
      have hcell2 : W5.cell? ad = some (.slice u.A k u.c) := by
       have q1 : u.cell = .slice u.A k u.c := by unfold Vt.cell; rw [hut, (HXS.out _ HB2.out).len]
       rw [← q1]; exact hcell
      have HUT := Lib.hid hut
      have HKX := Lib.hid (show xs.length = k from (HXS.out _ HB2.out).len)
      clear hyes hu hut hlen hA2 hcell hge2 hlt HD5 hz
      go_upto_region 22 with fail
      obtain ⟨W9, hW9⟩ : ∃ V, V = W5.drew := ⟨_, rfl⟩
      have hb9 : Below W5.heap.size W5 W9 := by rw [hW9]; exact (Below.refl _ _).drew
      have HB9 := Lib.hid (HB5.out.trans (hb9.mono HB5.out.size))
      have HC9 := Lib.hid (HC5.out.below hb9 HC5.out.lt)
      have HK9 := Lib.hid (show ∀ V, Below W9.heap.size W9 V → V.cell? ad = some (.slice u.A k u.c) from fun V hV => ((hb9.trans (hV.mono hb9.size)).cell (cell_lt hcell2)).trans hcell2)
      have HT9 := Lib.hid (show ∀ V, Below W9.heap.size W9 V → (convert 37 9 (.slice u.A k u.c)).run Try.prog V = .ok (.string (str xs)) V from fun V hV => by
       have q1 := tx_str (HTX.out.below (by have := HZ5.out; omega) (hb9.trans (hV.mono hb9.size))) (by have := HZ5.out; have := hb9.size; have := hV.size; omega) u.c
       rw [HUT.out, HKX.out] at q1
       exact q1)
      have HT8 := Lib.hid (show ∀ V, Below W9.heap.size W9 V → (convert 37 9 (.slice AL k cl)).run Try.prog V = .ok (.string (str xs)) V from fun V hV => by
       have q1 := tx_str (T := V.heap.size) (A := AL) (t := xs) (.inl (by rw [HKX.out]; exact HXL.out V (hb9.trans (hV.mono hb9.size)))) (Nat.le_refl _) cl
       rw [HKX.out] at q1
       exact q1)
      clear hb9 hcell2 d2
      refine wp_region_N [] (fun V => Below W9.heap.size W9 V) (by kernel_rfl) ?_
      rw [← hW9]
      have hH : Below W9.heap.size W9 W9 := Below.refl _ _
      clear hW9
      refine tk_ 0 (.pointer (some ⟨g5, 3, none⟩)) [] rfl hH ?_ ?_
      ·intro V hV; go_simp
      try simp only [Act.put, lay_]
      refine tk_ 1 (.slice (some ad) 1 v2.c) [] rfl hH ?_ ?_
      ·intro V hV; have hc := HC9.out.below hV HC9.out.lt; have k0 : V.cell? ⟨g5, 3, none⟩ = some (.slice (some ad) 1 v2.c) := hc.cell 3; clear hc; go_simp
      try simp only [Act.put, lay_]
      refine tk_ 2 (.int .i64 1) [] rfl hH ?_ ?_
      ·intro V hV; go_simp
      try simp only [Act.put, lay_]
      refine tk_ 3 (.bool true) [] rfl hH ?_ ?_
      ·intro V hV; go_simp
      try simp only [Act.put, lay_]
      refine tk_ 4 (.bool true) [] rfl hH ?_ ?_
      ·intro V hV; go_simp
      try simp only [Act.put, lay_]
      refine tk_ 5 (.pointer (some ⟨g5, 3, none⟩)) [] rfl hH ?_ ?_
      ·intro V hV; go_simp
      try simp only [Act.put, lay_]
      refine tk_ 6 (.slice (some ad) 1 v2.c) [] rfl hH ?_ ?_
      ·intro V hV; have hc := HC9.out.below hV HC9.out.lt; have k0 : V.cell? ⟨g5, 3, none⟩ = some (.slice (some ad) 1 v2.c) := hc.cell 3; clear hc; go_simp
      try simp only [Act.put, lay_]
      refine tk_ 7 (.pointer (some ad)) [] rfl hH ?_ ?_
      ·intro V hV; go_simp
      try simp only [Act.put, lay_]
      refine tk_ 8 (.slice u.A k u.c) [] rfl hH ?_ ?_
      ·intro V hV; have q0 := HK9.out V hV; go_simp
      try simp only [Act.put, lay_]
      refine tk_ 9 (.string (str xs)) [] rfl hH ?_ ?_
      ·intro V hV; have q0 := HT9.out V hV; go_simp
      try simp only [Act.put, lay_]
      refine tk_ 10 (.slice AL k cl) [] rfl hH ?_ ?_
      ·intro V hV; go_simp
      try simp only [Act.put, lay_]
      refine tk_ 11 (.string (str xs)) [] rfl hH ?_ ?_
      ·intro V hV; have q0 := HT8.out V hV; go_simp
      try simp only [Act.put, lay_]
      refine tk_ 12 (.bool true) [] rfl hH ?_ ?_
      ·intro V hV; have zs : ((str xs).toList == (str xs).toList) = true := (by simp); go_simp
      try simp only [Act.put, lay_]
      refine tk_ 13 (.bool true) [] rfl hH ?_ ?_
      ·intro V hV; go_simp
      try simp only [Act.put, lay_]
      refine tk_ 14 (.bool true) [] rfl hH ?_ ?_
      ·intro V hV; go_simp
      try simp only [Act.put, lay_]
      refine wpAnyN_one (i := 15) (by kernel_rfl) rfl (fun Kq hKq => ?_)
      go_simp
      refine (HKN0.out _).mono ?_
      rintro e wk ⟨rfl, hbk⟩
      replace hH := hH.trans (hbk.mono hH.size)
      have HBK := Lib.hid (HB9.out.trans (hH.mono HB9.out.size))
      clear hbk
      go_wp2_with fail
      refine hKq.out _ _ (.inr hH) ?_
      clear hKq Kq
      try simp only [Act.put, lay_]
      refine tk_ 16 (.bool true) [] rfl hH ?_ ?_
      ·intro V hV; go_simp
      try simp only [Act.put, lay_]
      refine tk_ 17 (.bool true) [] rfl hH ?_ ?_
      ·intro V hV; go_simp
      try simp only [Act.put, lay_]
      refine wpAnyN_done (by kernel_rfl) ?_ _
      clear hH
      go_wp2_with fail
      go_ret
      exact ⟨rfl, HBK.out⟩
end Go.Proofs.Ytnjmdgnghidjhaa.Peer
end
section
namespace Go.Proofs.Ytnjmdgnghidjhaa.Peer
open Go.RowKit Go.Proofs.Ytnjmdgnghidjhaa.Ord
open Lex (Tx)
open Rec (Vt Tvs Trow txt)
def hiB : List B := [104#8, 105#8]
def lk1 : Lk := ⟨⟨0, hiB, [], []⟩, 0⟩
theorem sent1 : sendR [] lk0 hiB 3 = (lk1, false) := by rfl
theorem att1 : attachR lk1 0 = (lk1, 0) := by rfl
theorem lsm0 : Lsm lk0 := (Lsi.sm lsi0 (Nat.zero_le _))
theorem lsm1 : Lsm lk1 := Lsi.sm (Lsi.send lsi0 (vs := []) (n := 0) ⟨rfl, Nat.zero_le _, fun v hv => absurd hv List.not_mem_nil⟩ (x := hiB) (by decide) 3) (by decide)
theorem knows18 {P : World → List Nat → Nat → List Ru → Lk → Prop} (HC : LinkC P) : Knows18 := fun w => by
 have HCC := Lib.hid HC
 have con := HC.new w 0 none 0 0 [] rls_nil (Nat.zero_le _) ⟨rfl, by decide, by simp⟩
 clear HC
 go_enter Try.func7, Try.ntmps7
 go_wp2_with fail
 refine con.mono ?_
 clear con
 rintro e w1 ⟨l, g, rfl, hlg, hp, hb⟩
 obtain ⟨w2, hw2⟩ : ∃ W, W = mk w1 hiB := ⟨_, rfl⟩
 have c1 : (convert 37 37 (.slice (some ⟨w1.heap.size, 0, none⟩) 2 2)).run Try.prog (w1.alloc (.cells #[.int .u8 104, .int .u8 105] 5)) = .ok (.slice (some ⟨w1.heap.size, 0, none⟩) 2 2) w2 := by rw [hw2]; exact mk_cv w1 hiB _ 2 rfl
 have hb2 : Below w1.heap.size w1 w2 := by rw [hw2]; exact mk_below _ _
 have ht2 : Tx w2 w2.heap.size (some ⟨w1.heap.size, 0, none⟩) hiB := by rw [hw2]; exact mk_tx _ _
 have HB2 := Lib.hid (hb.trans (hb2.mono hb.size))
 have HLG := Lib.hid (show ∀ k ∈ l, w.heap.size ≤ k from fun k hk => (hlg k hk).1)
 have HP2 := Lib.hid (HCC.out.below hp hb2)
 have con := HCC.out.send w2 l g [] lk0 HP2.out ⟨by decide, by simp⟩ lsm0 (some ⟨w1.heap.size, 0, none⟩) 2 2 hiB (Lex.Tx.bs ht2 (Nat.le_refl _)) (Nat.le_refl _) (by decide) 3
 rw [sent1] at con
 clear hp hb hlg hb2 ht2 hw2
 go_wp2_with fail
 refine con.mono ?_
 clear con c1
 rintro e w3 ⟨l3, rfl, hf3, hl3, hp3⟩
 have HB3 := Lib.hid (HB2.out.trans (hf3.below HB2.out.size HLG.out))
 have HP3 := Lib.hid hp3
 replace HLG := Lib.hid (show ∀ k ∈ l3, w.heap.size ≤ k from fun k hk => (hl3 k hk).elim (HLG.out k) (fun h => Nat.le_trans HB2.out.size h))
 clear hf3 hp3 hl3 HB2 HP2
 have con := HCC.out.peer w3 l3 g [] lk1 HP3.out lsm1
 go_wp2_with fail
 refine con.mono ?_
 clear con
 rintro e w4 ⟨v, rfl, hb4, hdk, hvm⟩
 obtain ⟨s, pt, lg, ls, PA, pc, LA, lc, A, c⟩ := v
 have h1 : s = 0 := congrArg Pe.state hvm
 have h2 : pt = hiB := congrArg Pe.part hvm
 have h3 : lg = [] := congrArg Pe.log hvm
 have h4 : txt ls = [] := congrArg Pe.lines hvm
 have h5 : ls = [] := by unfold txt at h4; simpa using h4
 subst h1 h2 h3 h5
 unfold Dvm.cells
 dsimp only
 obtain ⟨w5, hw5⟩ : ∃ W, W = w4.alloc (.cells ([.int .i64 0, .slice PA hiB.length pc, .slice LA 0 lc, .slice A 0 c] : List Value).toArray 49) := ⟨_, rfl⟩
 have hb5 : Below w4.heap.size w4 w5 := by rw [hw5]; exact (Below.refl _ _).alloc (Nat.le_refl _) _
 have hc5 : Cel w5 w4.heap.size 49 [.int .i64 0, .slice PA hiB.length pc, .slice LA 0 lc, .slice A 0 c] := by rw [hw5]; exact Cel.new w4 _ _
 have k1 : w5.cell? ⟨w4.heap.size, 1, none⟩ = some (.slice PA 2 pc) := hc5.cell 1
 have k3 : w5.cell? ⟨w4.heap.size, 3, none⟩ = some (.slice A 0 c) := hc5.cell 3
 have HB5 := Lib.hid (HB3.out.trans ((hb4.trans (hb5.mono hb4.size)).mono HB3.out.size))
 have HP5 := Lib.hid (HCC.out.below HP3.out (hb4.trans (hb5.mono hb4.size)))
 have hcv : (convert 37 9 (.slice PA 2 pc)).run Try.prog w5 = .ok (.string (str hiB)) w5 := tx_str (hdk.pt.below (Nat.le_refl _) hb5) hb5.size pc
 have zs : ((str hiB).toList == [104, 105]) = true := by rw [Book.str_toList]; rfl
 have con := HCC.out.nsend w5 9
 clear hb4 hdk hvm hb5 hc5 HB3 HP3 h4
 go_upto_region 7 with fail
 rw [← hw5]
 clear hw5
 go_wp2_with fail
 refine con.mono ?_
 clear con k1 k3 hcv
 rintro e w6 ⟨rfl, hb6⟩
 have HB6 := Lib.hid (HB5.out.trans (hb6.mono HB5.out.size))
 have HP6 := Lib.hid (HCC.out.below HP5.out hb6)
 clear hb6
 have con := HCC.out.nattach w6 0
 go_wp2_with fail
 refine con.mono ?_
 clear con
 rintro e w7 ⟨rfl, hb7⟩
 have HB7 := Lib.hid (HB6.out.trans (hb7.mono HB6.out.size))
 have HP7 := Lib.hid (HCC.out.below HP6.out hb7)
 clear hb7
 have con := HCC.out.attach w7 l3 g [] lk1 HP7.out lsm1 0
 rw [att1] at con
 go_wp2_with fail
 refine con.mono ?_
 clear con
 rintro e w8 ⟨rfl, hf8, hp8⟩
 have HB8 := Lib.hid (HB7.out.trans (hf8.below HB7.out.size HLG.out))
 clear hf8 hp8
 go_wp2_with fail
 go_ret
 exact ⟨rfl, HB8.out⟩
end Go.Proofs.Ytnjmdgnghidjhaa.Peer
end
