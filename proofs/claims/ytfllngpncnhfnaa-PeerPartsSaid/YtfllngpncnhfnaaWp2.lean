/-
Texts: PeerAs PeerFew PeerSame LinkSend PeerPsays PeerFeedsW OrdersTwo
-/
import Derived.Test.YtfllngpncnhfnaaWp0
import Derived.Test.YtfllngpncnhfnaaWp1
import Derived.BigQuiet
import Derived.Deep.CutRange
import Derived.Deep.MidRow
set_option linter.unusedVariables false
set_option linter.unusedSimpArgs false
set_option maxRecDepth 100000
set_option maxHeartbeats 4000000
namespace Go.Proofs.Ytfllngpncnhfnaa.Ord
end Go.Proofs.Ytfllngpncnhfnaa.Ord
section
namespace Go.Proofs.Ytfllngpncnhfnaa.Peer
open Go.RowKit Go.Proofs.Ytfllngpncnhfnaa.Ord
open Lex (Tx fw4 fw4_cel fw4_frm)
open Vars (scell rowStr)
open Rec (Vt Tvs txt)
theorem tx_str {w : World} {T : Nat} {A : Option Addr} {t : List B} (h : Tx w T A t) (hT : T ≤ w.heap.size) (c : Nat) : (convert 23 9 (.slice A t.length c)).run Try.prog w = .ok (.string (str t)) w :=
 (Bs.bp (h.bs hT)).string c Try.underlying23 Try.underlying5 Try.underlying9
def AsSays (w : World) (s : Int) (pt lg : List B) (n : Nat) (ls : List Vt) (e : Ending) (w' : World) : Prop := ∃ A' c', e = .returned (.agg #[.int .i64 s, .string (str pt), .string (str lg), .slice A' n c']) ∧ Lnr w' A' (txt ls) ∧ Below w.heap.size w w'
theorem as17 (w : World) (T : Nat) (s : Int) (PA : Option Addr) (pc : Nat) (pt : List B) (LA : Option Addr) (lc : Nat) (lg : List B) (A : Option Addr) (n c : Nat) (ls : List Vt) (hp : Tx w T PA pt) (hg : Tx w T LA lg) (hls : Tvs w T A ls) (hT : T ≤ w.heap.size) (hl : ls.length = n) (hn : n ≤ 100000) :
  Calls Try.prog 8 #[.agg #[.int .i64 s, .slice PA pt.length pc, .slice LA lg.length lc, .slice A n c]] w (AsSays w s pt lg n ls) := by
 obtain ⟨w0, hw0⟩ : ∃ w0, w0 = (w.alloc (.cells #[.int .i64 s, .slice PA pt.length pc, .slice LA lg.length lc, .slice A n c] 26)).alloc (.cells #[.int .i64 0, .string ⟨#[]⟩, .string ⟨#[]⟩, .slice none 0 0] 32) := ⟨_, rfl⟩
 have hs0 : w0.heap.size = w.heap.size + 1 + 1 := by rw [hw0]; simp
 have hb0 : Below w.heap.size w w0 := by rw [hw0]; exact ((Below.refl _ _).alloc (Nat.le_refl _) _).alloc (by simp) _
 have hci : Cel w0 w.heap.size 26 [.int .i64 s, .slice PA pt.length pc, .slice LA lg.length lc, .slice A n c] := by rw [hw0]; exact (Cel.new w 26 [.int .i64 s, .slice PA pt.length pc, .slice LA lg.length lc, .slice A n c]).alloc _
 have hcr : Cel w0 (w.heap.size + 1) 32 [.int .i64 0, .string ⟨#[]⟩, .string ⟨#[]⟩, .slice none 0 0] := by
  have := Cel.new (w.alloc (.cells #[.int .i64 s, .slice PA pt.length pc, .slice LA lg.length lc, .slice A n c] 26)) 32 [.int .i64 0, .string ⟨#[]⟩, .string ⟨#[]⟩, .slice none 0 0]
  rw [World.size_alloc] at this
  rw [hw0]; exact this
 obtain ⟨w1, hw1⟩ : ∃ w1, w1 = w0.alloc (.cells #[.int .i64 s, .string (str pt), .string (str lg), .slice none 0 0] 32) := ⟨_, rfl⟩
 have hb1 : Below w0.heap.size w0 w1 := by rw [hw1]; exact (Below.refl _ _).alloc (Nat.le_refl _) _
 have hco : Cel w1 (w.heap.size + 1 + 1) 32 [.int .i64 s, .string (str pt), .string (str lg), .slice none 0 0] := by
  rw [hw1, ← hs0]; exact Cel.new w0 _ _
 have k0 := hci.cell 0
 have k1 := hci.cell 1
 have k2 := hci.cell 2
 have y1 := tx_str (hp.below hT hb0) (Nat.le_trans hT hb0.size) pc
 have y2 := tx_str (hg.below hT hb0) (Nat.le_trans hT hb0.size) lc
 have HB2 := Lib.hid (hb0.trans (hb1.mono hb0.size))
 have HI2 := Lib.hid (Cel.below hci hb1 hci.lt)
 have HR2 := Lib.hid (Cel.below hcr hb1 hcr.lt)
 have HC2 := Lib.hid hco
 have HLS := Lib.hid hls
 have HL := Lib.hid hl
 have HW0 := Lib.hid hw0
 have HW1 := Lib.hid hw1
 have HS0 := Lib.hid hs0
 clear hp hg hls hl hw1 hb1 hb0 hci hcr hco hw0
 go_enter Try.func8, Try.ntmps8
 go_upto_region 1 with fail
 rw [← HW0.out]
 go_upto_region 2 with fail
 rw [← HW1.out]
 clear k0 k1 k2 y1 y2 HW0 HW1
 go_wp2_with fail
 go_loopw [4] (fun v4 wr => ∃ (i : Nat) (A5 : Option Addr) (c5 : Nat), i ≤ n ∧ v4 = .int .i64 (i : Int) ∧ Below w.heap.size w wr ∧ Cel wr w.heap.size 26 [.int .i64 s, .slice PA pt.length pc, .slice LA lg.length lc, .slice A n c] ∧ Cel wr (w.heap.size + 1) 32 [.int .i64 0, .string ⟨#[]⟩, .string ⟨#[]⟩, .slice none 0 0] ∧ Cel wr (w.heap.size + 1 + 1) 32 [.int .i64 s, .string (str pt), .string (str lg), .slice A5 i c5] ∧ wr.ownsRow w.heap.size 9 1 (.slice A5 i c5) i (((txt ls).take i).map scell)) (fun v4 _ => n - (intOf v4).toNat)
 case atStart => exact ⟨0, none, 0, Nat.zero_le _, rfl, HB2.out, HI2.out, HR2.out, HC2.out, World.ownsRow_nil _ _ _ _⟩
 case round =>
  clear HB2 HI2 HR2 HC2
  obtain ⟨i, A5, c5, hi, rfl, hb, hci, hcr, hco, hro⟩ := hrel
  obtain ⟨V0, hV0⟩ : ∃ V0, V0 = wr := ⟨_, rfl⟩
  rw [← hV0] at hb hci hcr hco hro ⊢
  clear hV0
  have HB := Lib.hid hb
  have HCI := Lib.hid hci
  have HCR := Lib.hid hcr
  have HCO := Lib.hid hco
  have HRO := Lib.hid hro
  have HT0 := Lib.hid (Nat.le_trans hT hb.size)
  have k3 := hci.cell 3
  rcases Nat.lt_or_ge i n with hlt | hge
  ·obtain ⟨v, hv⟩ : ∃ v, ls[i]? = some v := ⟨_, List.getElem?_eq_getElem (by rw [HL.out]; exact hlt)⟩
   have hls2 := HLS.out.below hT hb
   obtain ⟨ad, rfl, a0⟩ := hls2.cr i v hv
   have htx := (hls2.tx v (List.mem_of_getElem? hv)).1
   change _ = some (Value.slice v.A v.t.length v.c) at a0
   have HV := Lib.hid hv
   have HTX := Lib.hid htx
   have HA0 := Lib.hid a0
   have hH : Below V0.heap.size V0 V0.drew := (Below.refl _ _).drew
   clear hb hci hcr hco hro hls2 htx hv
   go_upto_region 5 with fail
   refine wp_region_N [9, 10, 11] (Below V0.heap.size V0) (by kernel_rfl) ?_
   refine tk_ 0 (.pointer (some ⟨w.heap.size + 1 + 1, 3, none⟩)) [1, 9, 10, 11] rfl hH ?_ ?_
   ·intro V hV; go_simp
   try simp only [Act.put, lay_]
   refine tk_ 1 (.slice A5 i c5) [9, 10, 11] rfl hH ?_ ?_
   ·intro V hV; have hc := Cel.below HCO.out hV HCO.out.lt; have q3 := hc.cell 3; change _ = some (Value.slice A5 i c5) at q3; go_simp
   try simp only [Act.put, lay_]
   refine tk_ 2 (.pointer (some ⟨w.heap.size, 3, none⟩)) [3, 5, 6, 7, 8, 9, 10, 11] rfl hH ?_ ?_
   ·intro V hV; go_simp
   try simp only [Act.put, lay_]
   refine tk_ 3 (.slice (some ad) n c) [5, 6, 7, 8, 9, 10, 11] rfl hH ?_ ?_
   ·intro V hV; have hc := Cel.below HCI.out hV HCI.out.lt; have q3 := hc.cell 3; change _ = some (Value.slice (some ad) n c) at q3; go_simp
   try simp only [Act.put, lay_]
   refine tk_ 4 (.int .i64 (i : Int)) [5, 6, 7, 8, 9, 10, 11] rfl hH ?_ ?_
   ·intro V hV; go_simp
   try simp only [Act.put, lay_]
   refine tk_ 5 (.pointer (some (ad.add i))) [6, 7, 8, 9, 10, 11] rfl hH ?_ ?_
   ·intro V hV; go_simp
   try simp only [Act.put, lay_]
   refine tk_ 6 (.slice v.A v.t.length v.c) [7, 8, 9, 10, 11] rfl hH ?_ ?_
   ·intro V hV; have b0 := (hV.cell (cell_lt HA0.out)).trans HA0.out; go_simp
   try simp only [Act.put, lay_]
   refine tk_ 7 (.string (str v.t)) [8, 9, 10, 11] rfl hH ?_ ?_
   ·intro V hV; have y := tx_str (HTX.out.below HT0.out hV) (Nat.le_trans HT0.out hV.size) v.c; go_simp
   try simp only [Act.put, lay_]
   refine wpAnyN_one (i := 8) (by kernel_rfl) rfl (fun K hK => ?_)
   go_simp
   have hH6 : Below V0.heap.size V0 (V0.drew.alloc (.cells #[.string (str v.t)] 9)) := hH.alloc (Nat.le_refl _) _
   have HB6 := Lib.hid (HB.out.trans (hH6.mono HB.out.size))
   have HRO6 := Lib.hid (own_frm (l := []) HRO.out (Frm.of_below hH6) (by simp))
   have HCI6 := Lib.hid (Cel.below HCI.out hH6 HCI.out.lt)
   have HCR6 := Lib.hid (Cel.below HCR.out hH6 HCR.out.lt)
   have HCO6 := Lib.hid (Cel.below HCO.out hH6 HCO.out.lt)
   have HSRC := Lib.hid (show Src (V0.drew.alloc (.cells #[.string (str v.t)] 9)) (some ⟨V0.heap.size, 0, none⟩) 1 [.string (str v.t)] from Ry.src (m := 1) (Ry.of_cel (Cel.new V0.drew 9 [.string (str v.t)])) (by simp))
   refine hK.out _ _ (.inr hH6) ?_
   clear hK K hH hH6
   try simp only [Act.put, lay_]
   refine wpAnyN_one (i := 9) (by kernel_rfl) rfl (fun K hK => ?_)
   rw [if_pos (by rfl)]
   refine wp_append_any _ _ _ 30 rfl w.heap.size 9 rowStr (.slice A5 i c5) i (((txt ls).take i).map scell) rfl HRO6.out (some ⟨V0.heap.size, 0, none⟩) 1 1 [.string (str v.t)] rfl rfl HSRC.out (by intro u hu; rw [List.mem_singleton.1 hu]; rfl) (i + 1) (((txt ls).take (i + 1)).map scell) rfl (by rw [List.take_add_one, show (txt ls)[i]? = some v.t by unfold Rec.txt; rw [List.getElem?_map, HV.out]; rfl, List.map_append]; rfl) (by unfold maxLen; omega) (by omega) HB6.out.size ?_
   intro A8 c8 w8 ho8 hg8 _
   have HB8 := Lib.hid (below_ownP HRO6.out HB6.out (Nat.le_refl _) hg8)
   have HRO8 := Lib.hid ho8
   have HCI8 := Lib.hid (Cel.grown HCI6.out hg8 (own_ty_ne HRO6.out HCI6.out (by decide)))
   have HCR8 := Lib.hid (Cel.grown HCR6.out hg8 (own_ty_ne HRO6.out HCR6.out (by decide)))
   have hco8 := Cel.grown HCO6.out hg8 (own_ty_ne HRO6.out HCO6.out (by decide))
   have q3 := hco8.cell 3
   have f3 := hco8.free 3
   change _ = some (Value.slice A5 i c5) at q3
   have HCO8 := Lib.hid hco8
   have HF9 := Lib.hid ((Frm.refl [w.heap.size + 1 + 1] w8).set (p := ⟨w.heap.size + 1 + 1, 3, none⟩) (by simp) (.slice A8 (i + 1) c8))
   clear ho8 hg8 hco8
   refine hK.out _ _ (.inl (by decide)) ?_
   clear hK K
   try simp only [Act.put, lay_]
   refine wpAnyN_one (i := 10) (by kernel_rfl) rfl (fun K hK => ?_)
   go_simp
   refine hK.out _ _ (.inl (by decide)) ?_
   clear hK K
   try simp only [Act.put, lay_]
   refine wpAnyN_one (i := 11) (by kernel_rfl) rfl (fun K hK => ?_)
   go_simp
   refine hK.out _ _ (.inl (by decide)) ?_
   clear hK K q3 f3
   try simp only [Act.put, lay_]
   refine wpAnyN_done (by kernel_rfl) ?_ _
   go_wp2_with fail
   exact ⟨⟨i + 1, A8, c8, hlt, by rw [show ((i + 1 : Nat) : Int) = (i : Int) + 1 by omega], HB8.out.trans (HF9.out.below HB8.out.size (by intro r hr; rw [List.mem_singleton.1 hr]; omega)), Cel.frm HCI8.out HF9.out (by simp; omega), Cel.frm HCR8.out HF9.out (by simp), HCO8.out.set 3 _, own_frm HRO8.out HF9.out (fun r hr => by rw [List.mem_singleton.1 hr]; exact own_ty_ne HRO8.out HCO8.out (by decide))⟩, by simp [intOf]; omega⟩
  ·obtain rfl : i = n := by omega
   have HE := Lib.hid (show (txt ls).take i = txt ls from List.take_of_length_le (by unfold Rec.txt; rw [List.length_map, HL.out]; exact Nat.le_refl _))
   have q0 := hco.cell 0
   have q1 := hco.cell 1
   have q2 := hco.cell 2
   have q3 := hco.cell 3
   have r0 := hcr.cell 0
   have r1 := hcr.cell 1
   have r2 := hcr.cell 2
   have r3 := hcr.cell 3
   have f0 := hcr.free 0
   have f1 := hcr.free 1
   have f2 := hcr.free 2
   have f3 := hcr.free 3
   have HC6 := Lib.hid (fw4_cel (a := .int .i64 s) (b := .string (str pt)) (c := .string (str lg)) (d := .slice A5 i c5) hcr)
   have HF6 := Lib.hid (fw4_frm V0 (w.heap.size + 1) (.int .i64 s) (.string (str pt)) (.string (str lg)) (.slice A5 i c5))
   unfold fw4 at HC6 HF6
   clear hb hci hcr hco hro
   go_wp2_with fail
   refine bodyPost_ret (v := .agg #[.int .i64 s, .string (str pt), .string (str lg), .slice A5 i c5]) (results_atP 2 32 Try.results8 ⟨w.heap.size + 1, 0, none⟩ rfl _ (load_peer HC6.out)) rfl ?_
   refine ⟨A5, c5, rfl, ?_, HB.out.trans (HF6.out.below HB.out.size (by intro q hq; rw [List.mem_singleton.1 hq]; omega))⟩
   have := HRO.out
   rw [HE.out] at this
   exact (Ry.of_own this (by decide)).frm HF6.out fun q hq => by rw [List.mem_singleton.1 hq]; exact Cel.not_ty HCR.out (by decide)
end Go.Proofs.Ytfllngpncnhfnaa.Peer
end
section
namespace Go.Proofs.Ytfllngpncnhfnaa.Peer
open Go.RowKit
open Lex (Tx b_ne)
open Rec (Vt Tvs txt)
def LessSays (w : World) (P : Prop) (e : Ending) (w' : World) : Prop := ∃ b, e = .returned (.bool b) ∧ Below w.heap.size w w' ∧ (b = true → P)
theorem take_allP {α : Type} {l : List α} {i : Nat} {x : α} (h : l[i]? = some x) {P : α → Prop} (h1 : ∀ y ∈ l.take i, P y) (h2 : P x) : ∀ y ∈ l.take (i + 1), P y := by
 rw [List.take_add_one, h]
 intro y hy
 rcases List.mem_append.1 hy with hy | hy
 ·exact h1 y hy
 ·simp at hy; subst hy; exact h2
theorem fewRules (w : World) (T : Nat) (A : Option Addr) (n c : Nat) (vs : List Rl) (h : Rls w T A vs) (hT : T ≤ w.heap.size) (hl : vs.length = n) (hn : n ≤ maxLen) (hm : ∀ v ∈ vs, v.r.line.length ≤ maxLen ∧ v.r.out.length ≤ maxLen) :
  Calls Try.prog 5 #[.slice A n c] w (LessSays w (n ≤ 20 ∧ ∀ v ∈ vs, v.r.line.length ≤ 60 ∧ v.r.out.length ≤ 60)) := by
 unfold maxLen at hn hm
 have HR := Lib.hid h
 have HL := Lib.hid hl
 have HM := Lib.hid hm
 clear h hl hm
 go_enter Try.func5, Try.ntmps5
 go_wp2_with fail
 go_loopw [3] (fun v3 wr => ∃ (i : Nat), i ≤ n ∧ v3 = .int .i64 (i : Int) ∧ Below w.heap.size w wr ∧ Hid (∀ v ∈ vs.take i, v.r.line.length ≤ 60 ∧ v.r.out.length ≤ 60)) (fun v3 _ => n - (intOf v3).toNat)
 case atStart => exact ⟨0, Nat.zero_le _, rfl, Below.refl _ _, Lib.hid (by simp)⟩
 case round =>
  obtain ⟨i, hi, rfl, hb, HK⟩ := hrel
  obtain ⟨V, hV⟩ : ∃ V, V = wr := ⟨_, rfl⟩
  rw [← hV] at hb ⊢
  clear hV
  have HB := Lib.hid hb
  rcases Nat.lt_or_ge i n with hlt | hge
  ·obtain ⟨v, hv⟩ : ∃ v, vs[i]? = some v := ⟨_, List.getElem?_eq_getElem (by rw [HL.out]; exact hlt)⟩
   obtain ⟨ad, rfl, _, a1, a2, _⟩ := (HR.out.below hT hb) i v hv
   obtain ⟨hm1, hm2⟩ := HM.out v (List.mem_of_getElem? hv)
   obtain ⟨k1, hk1⟩ : ∃ k, k = v.r.line.length := ⟨_, rfl⟩
   obtain ⟨k2, hk2⟩ : ∃ k, k = v.r.out.length := ⟨_, rfl⟩
   rw [← hk1] at a1 hm1
   rw [← hk2] at a2 hm2
   have HN := Lib.hid (fun (h1 : k1 ≤ 60) (h2 : k2 ≤ 60) => take_allP hv (P := fun v => v.r.line.length ≤ 60 ∧ v.r.out.length ≤ 60) HK.out (by rw [← hk1, ← hk2]; exact ⟨h1, h2⟩))
   generalize v.A1 = A1 at *
   generalize v.c1 = c1 at *
   generalize v.A2 = A2 at *
   generalize v.c2 = c2 at *
   clear hb hv hk1 hk2
   by_cases h1 : 60 < k1
   ·have z1 : (60 : Int) < (k1 : Int) := by omega
    clear h1
    go_wp2_with fail
    go_ret
    exact ⟨false, rfl, HB.out, fun h => by cases h⟩
   ·have z1 : decide ((60 : Int) < (k1 : Int)) = false := by simp; omega
    by_cases h2 : 60 < k2
    ·have z2 : (60 : Int) < (k2 : Int) := by omega
     clear h1 h2
     go_wp2_with fail
     go_ret
     exact ⟨false, rfl, HB.out, fun h => by cases h⟩
    ·have z2 : decide ((60 : Int) < (k2 : Int)) = false := by simp; omega
     have HN2 := Lib.hid (HN.out (by omega) (by omega))
     clear h1 h2
     go_wp2_with fail
     exact ⟨⟨i + 1, by omega, by rw [show ((i + 1 : Nat) : Int) = (i : Int) + 1 by omega], HB.out, HN2⟩, by simp [intOf]; omega⟩
  ·have HN := Lib.hid (show ∀ v ∈ vs, v.r.line.length ≤ 60 ∧ v.r.out.length ≤ 60 from fun v hv => HK.out v (by rw [List.take_of_length_le (by rw [HL.out]; exact hge)]; exact hv))
   have zi : decide ((i : Int) < (n : Int)) = false := by simp; omega
   clear hb
   by_cases h1 : n ≤ 20
   ·have HALL := Lib.hid (And.intro h1 HN.out)
    have z1 : decide ((n : Int) ≤ 20) = true := by simp; omega
    clear h1
    go_wp2_with fail
    go_ret
    exact ⟨true, rfl, HB.out, fun _ => HALL.out⟩
   ·have z1 : decide ((n : Int) ≤ 20) = false := by simp; omega
    go_wp2_with fail
    go_ret
    exact ⟨false, rfl, HB.out, fun h => by cases h⟩
theorem fewPeer (w : World) (T : Nat) (s : Int) (PA : Option Addr) (np pc : Nat) (LA : Option Addr) (nlg lc : Nat) (A : Option Addr) (n c : Nat) (ls : List Vt) (hls : Tvs w T A ls) (hT : T ≤ w.heap.size) (hl : ls.length = n) (hn : n ≤ maxLen) (hp : np ≤ maxLen) (hg : nlg ≤ maxLen) :
  Calls Try.prog 6 #[.agg #[.int .i64 s, .slice PA np pc, .slice LA nlg lc, .slice A n c]] w (LessSays w (n ≤ 20 ∧ np ≤ 400 ∧ nlg ≤ 500 ∧ ∀ v ∈ ls, v.t.length ≤ 300)) := by
 unfold maxLen at hn hp hg
 obtain ⟨w1, hw1⟩ : ∃ w1, w1 = w.alloc (.cells #[.int .i64 s, .slice PA np pc, .slice LA nlg lc, .slice A n c] 26) := ⟨_, rfl⟩
 have hb1 : Below w.heap.size w w1 := by rw [hw1]; exact (Below.refl _ _).alloc (Nat.le_refl _) _
 have hc1 : Cel w1 w.heap.size 26 [.int .i64 s, .slice PA np pc, .slice LA nlg lc, .slice A n c] := by rw [hw1]; exact Cel.new w _ _
 have k1 := hc1.cell 1
 have k2 := hc1.cell 2
 have k3 := hc1.cell 3
 have HB1 := Lib.hid hb1
 have HLS := Lib.hid (hls.below hT hb1)
 have HL := Lib.hid hl
 clear hls hb1 hc1 hl
 go_enter Try.func6, Try.ntmps6
 go_wp2_with fail
 rw [← hw1]
 clear hw1
 go_loopw [3] (fun v3 wr => ∃ (i : Nat), i ≤ n ∧ v3 = .int .i64 (i : Int) ∧ w1 = wr ∧ Hid (∀ v ∈ ls.take i, v.t.length ≤ 300)) (fun v3 _ => n - (intOf v3).toNat)
 case atStart => exact ⟨0, Nat.zero_le _, rfl, rfl, Lib.hid (by simp)⟩
 case round =>
  obtain ⟨i, hi, rfl, rfl, HK⟩ := hrel
  rcases Nat.lt_or_ge i n with hlt | hge
  ·obtain ⟨v, hv⟩ : ∃ v, ls[i]? = some v := ⟨_, List.getElem?_eq_getElem (by rw [HL.out]; exact hlt)⟩
   obtain ⟨ad, rfl, a0⟩ := HLS.out.cr i v hv
   have hml := (HLS.out.tx v (List.mem_of_getElem? hv)).2
   unfold maxLen at hml
   change _ = some (Value.slice v.A v.t.length v.c) at a0
   obtain ⟨m, hm⟩ : ∃ m, m = v.t.length := ⟨_, rfl⟩
   rw [← hm] at a0 hml
   have HN := Lib.hid (fun (h1 : m ≤ 300) => take_allP hv (P := fun v => v.t.length ≤ 300) HK.out (by rw [← hm]; exact h1))
   generalize v.A = A1 at *
   generalize v.c = c1 at *
   clear hv hm
   by_cases h1 : 300 < m
   ·have z1 : (300 : Int) < (m : Int) := by omega
    clear h1
    go_wp2_with fail
    go_ret
    exact ⟨false, rfl, HB1.out, fun h => by cases h⟩
   ·have z1 : decide ((300 : Int) < (m : Int)) = false := by simp; omega
    have HN2 := Lib.hid (HN.out (by omega))
    clear h1
    go_wp2_with fail
    exact ⟨⟨i + 1, by omega, by rw [show ((i + 1 : Nat) : Int) = (i : Int) + 1 by omega], by trivial, HN2⟩, by simp [intOf]; omega⟩
  ·have HN := Lib.hid (show ∀ v ∈ ls, v.t.length ≤ 300 from fun v hv => HK.out v (by rw [List.take_of_length_le (by rw [HL.out]; exact hge)]; exact hv))
   have zi : decide ((i : Int) < (n : Int)) = false := by simp; omega
   by_cases h1 : n ≤ 20
   ·have z1 : (n : Int) ≤ 20 := by omega
    by_cases h2 : np ≤ 400
    ·have z2 : (np : Int) ≤ 400 := by omega
     by_cases h3 : nlg ≤ 500
     ·have z3 : decide ((nlg : Int) ≤ 500) = true := by simp; omega
      have HALL := Lib.hid (And.intro h1 (And.intro h2 (And.intro h3 HN.out)))
      clear h1 h2 h3
      go_wp2_with fail
      go_ret
      exact ⟨true, rfl, HB1.out, fun _ => HALL.out⟩
     ·have z3 : decide ((nlg : Int) ≤ 500) = false := by simp; omega
      clear h1 h2 h3
      go_wp2_with fail
      go_ret
      exact ⟨false, rfl, HB1.out, fun h => by cases h⟩
    ·have z2 : decide ((np : Int) ≤ 400) = false := by simp; omega
     clear h1 h2
     go_wp2_with fail
     go_ret
     exact ⟨false, rfl, HB1.out, fun h => by cases h⟩
   ·have z1 : decide ((n : Int) ≤ 20) = false := by simp; omega
    clear h1
    go_wp2_with fail
    go_ret
    exact ⟨false, rfl, HB1.out, fun h => by cases h⟩
end Go.Proofs.Ytfllngpncnhfnaa.Peer
end
section
namespace Go.Proofs.Ytfllngpncnhfnaa.Peer
open Go.RowKit
def Lns (w : World) (A : Option Addr) (ls : List ByteArray) : Prop := ∀ i x, ls[i]? = some x → ∃ ad, A = some ad ∧ w.cell? (ad.add i) = some (.string x)
theorem Lns.below {w w' : World} {A : Option Addr} {ls : List ByteArray} (h : Lns w A ls) (hb : Below w.heap.size w w') : Lns w' A ls := fun i x hi => by
 obtain ⟨ad, e, hc⟩ := h i x hi
 exact ⟨ad, e, (hb.cell (cell_lt hc)).trans hc⟩
theorem same17 (w : World) (s : Int) (pt lg : ByteArray) (A1 A2 : Option Addr) (n c1 c2 : Nat) (ls : List ByteArray) (h1 : Lns w A1 ls) (h2 : Lns w A2 ls) (hl : ls.length = n) (hn : n ≤ maxLen) :
  Calls Try.prog 10 #[.agg #[.int .i64 s, .string pt, .string lg, .slice A1 n c1], .agg #[.int .i64 s, .string pt, .string lg, .slice A2 n c2]] w fun e w' => e = .returned (.bool true) ∧ Below w.heap.size w w' := by
 unfold maxLen at hn
 obtain ⟨w1, hw1⟩ : ∃ w1, w1 = (w.alloc (.cells #[.int .i64 s, .string pt, .string lg, .slice A1 n c1] 32)).alloc (.cells #[.int .i64 s, .string pt, .string lg, .slice A2 n c2] 32) := ⟨_, rfl⟩
 have hb1 : Below w.heap.size w w1 := by rw [hw1]; exact ((Below.refl _ _).alloc (Nat.le_refl _) _).alloc (by simp) _
 have ca : Cel w1 w.heap.size 32 [.int .i64 s, .string pt, .string lg, .slice A1 n c1] := by rw [hw1]; exact (Cel.new w _ _).alloc _
 have cb : Cel w1 (w.heap.size + 1) 32 [.int .i64 s, .string pt, .string lg, .slice A2 n c2] := by rw [hw1]; exact (by simpa using Cel.new (w.alloc (.cells #[.int .i64 s, .string pt, .string lg, .slice A1 n c1] 32)) 32 [.int .i64 s, .string pt, .string lg, .slice A2 n c2])
 have p0 := ca.cell 0
 have p1 := ca.cell 1
 have p2 := ca.cell 2
 have p3 := ca.cell 3
 have q0 := cb.cell 0
 have q1 := cb.cell 1
 have q2 := cb.cell 2
 have q3 := cb.cell 3
 have HB1 := Lib.hid hb1
 have CA := Lib.hid ca
 have CB := Lib.hid cb
 have H1 := Lib.hid (h1.below hb1)
 have H2 := Lib.hid (h2.below hb1)
 have HL := Lib.hid hl
 clear hb1 ca cb h1 h2 hl
 go_enter Try.func10, Try.ntmps10
 go_wp2_with fail
 rw [← hw1]
 clear hw1
 go_wp2_with fail
 clear p0 p1 p2 p3 q0 q1 q2 q3
 go_loopw [5] (fun v5 wr => ∃ (i : Nat), i ≤ n ∧ v5 = .int .i64 (i : Int) ∧ Hid (Below w1.heap.size w1 wr)) (fun v5 _ => n - (intOf v5).toNat)
 case atStart => exact ⟨0, Nat.zero_le _, rfl, Lib.hid (Below.refl _ _)⟩
 case round =>
  obtain ⟨i, hi, rfl, HB⟩ := hrel
  have p3 := (CA.out.below HB.out CA.out.lt).cell 3
  have q3 := (CB.out.below HB.out CB.out.lt).cell 3
  rcases Nat.lt_or_ge i n with hlt | hge
  ·obtain ⟨x, hx⟩ : ∃ x, ls[i]? = some x := ⟨_, List.getElem?_eq_getElem (by rw [HL.out]; exact hlt)⟩
   obtain ⟨a1, rfl, e1⟩ := H1.out.below HB.out i x hx
   obtain ⟨a2, rfl, e2⟩ := H2.out.below HB.out i x hx
   clear hx
   go_wp2_with fail
   go_quiet (fail)
   obtain ⟨W0, hW0⟩ : ∃ W0, W0 = wr.drewN nq := ⟨_, rfl⟩
   rw [← hW0]
   have HB0 := Lib.hid (show Below w1.heap.size w1 W0 by rw [hW0]; exact ⟨HB.out.os, HB.out.tape, HB.out.output, HB.out.size, HB.out.block⟩)
   clear hW0
   go_wp2_with fail
   exact ⟨⟨i + 1, by omega, by rw [show ((i + 1 : Nat) : Int) = (i : Int) + 1 by omega], HB0⟩, by simp [intOf]; omega⟩
  ·have zi : decide ((i : Int) < (n : Int)) = false := by simp; omega
   go_wp2_with fail
   go_ret
   exact ⟨rfl, HB1.out.trans (HB.out.mono HB1.out.size)⟩
end Go.Proofs.Ytfllngpncnhfnaa.Peer
end
section
namespace Go.Proofs.Ytfllngpncnhfnaa.Peer
open Go.RowKit Go.Proofs.Ytfllngpncnhfnaa.Ord
open Lex (Owb Tx)
theorem tx_frm {w w' : World} {T g : Nat} {A : Option Addr} {t : List B} (h : Tx w T A t) (hf : Frm [g] w w') (hT : T ≤ g) (hg : ∀ o fz, w.heap[g]? ≠ some (Obj.cells o 5 fz)) (hTw : T ≤ w.heap.size) : Tx w' T A t := by
 rcases h with h | h
 ·exact .inl (h.keep fun p hp => World.cell?_of_block (hf.block p.block (by omega) (by simp; omega)))
 ·exact .inr (h.keep fun k cs fz hk => hf.block k (Array.getElem?_eq_some_iff.1 hk).1 (by intro e; rw [List.mem_singleton.1 e] at hk; exact hg _ _ hk))
end Go.Proofs.Ytfllngpncnhfnaa.Peer
end
section
namespace Go.Proofs.Ytfllngpncnhfnaa.Peer
open Go.RowKit Go.Proofs.Ytfllngpncnhfnaa.Ord
open Lex (Tx)
open Rec (Vt Tvs Trow txt)
open Vars (scell)
structure Dvm where
 s : Int
 pt : List B
 lg : List B
 ls : List Vt
 PA : Option Addr
 pc : Nat
 LA : Option Addr
 lc : Nat
 A : Option Addr
 c : Nat
def Dvm.cells (v : Dvm) : List Value := [.int .i64 v.s, .slice v.PA v.pt.length v.pc, .slice v.LA v.lg.length v.lc, .slice v.A v.ls.length v.c]
def Dvm.m (v : Dvm) : Pe := ⟨v.s, v.pt, v.lg, txt v.ls⟩
structure Dok (w : World) (T : Nat) (v : Dvm) : Prop where
 pt : Tx w T v.PA v.pt
 lg : Tx w T v.LA v.lg
 ls : Tvs w T v.A v.ls
 row : Trow w T v.A v.ls
theorem Dok.below {w w' : World} {T : Nat} {v : Dvm} (h : Dok w T v) (hT : T ≤ w.heap.size) (hb : Below w.heap.size w w') : Dok w' T v := ⟨h.pt.below hT hb, h.lg.below hT hb, h.ls.below hT hb, h.row.below hb⟩
theorem Dok.frm {w w' : World} {T g : Nat} {v : Dvm} {t : TypeId} {cs : List Value} (h : Dok w T v) (hT : T ≤ w.heap.size) (hf : Frm [g] w w') (hg : T ≤ g) (hc : Cel w g t cs) (h1 : t ≠ 5) (h2 : t ≠ 23) : Dok w' T v := by
 obtain ⟨q1, q2⟩ := h.ls.frm h.row hf (fun q hq => by simp at hq; subst hq; exact ⟨hg, hc.not_ty h1, hc.not_ty h2⟩)
 exact ⟨tx_frm h.pt hf hg (hc.not_ty h1) hT, tx_frm h.lg hf hg (hc.not_ty h1) hT, q1, q2⟩
def PfSays (w : World) (T : Nat) (p : Pe) (e : Ending) (w' : World) : Prop := ∃ v : Dvm, e = .returned (.agg v.cells.toArray) ∧ Below w.heap.size w w' ∧ Dok w' T v ∧ v.m = p
def Rfew (vs : List Rl) (n : Nat) : Prop := vs.length = n ∧ n ≤ 20 ∧ ∀ v ∈ vs, v.r.line.length ≤ 60 ∧ v.r.out.length ≤ 60
def Dfew (v : Dvm) : Prop := v.pt.length ≤ 400 ∧ v.lg.length ≤ 1000000 ∧ v.ls.length ≤ 10000 ∧ ∀ l ∈ v.ls, l.t.length ≤ 400
def PFeed : Prop := ∀ (w : World) (T : Nat), T ≤ w.heap.size → ∀ (AR : Option Addr) (n c : Nat) (vs : List Rl), Rls w T AR vs → Rfew vs n → ∀ v : Dvm, Dok w T v → Dfew v → ∀ (D : Nat) (AB : Option Addr) (m cb : Nat) (bs : List B), Bs w D AB m bs → D ≤ w.heap.size → m ≤ cb → m ≤ 1000 →
 Calls Try.prog 9 #[.slice AR n c, .agg v.cells.toArray, .slice AB m cb] w (PfSays w T (feedR (vs.map (·.r)) v.m bs))
def Knows17 : Prop := ∀ w : World, Calls Try.prog 7 #[] w fun e w' => e = .returned (.bool true) ∧ Below w.heap.size w w'
theorem lns_of {w : World} {A : Option Addr} {ls : List (List B)} (h : Lnr w A ls) : Lns w A (ls.map str) := fun i x hi => by
 have hne : ls.map scell ≠ [] := fun e => by
  have := congrArg List.length e
  simp at this
  rw [this] at hi
  simp at hi
 obtain ⟨ad, e, _, hc⟩ := h hne
 refine ⟨ad, e, ?_⟩
 rw [List.getElem?_map] at hi
 cases hl : ls[i]? with
 | none => rw [hl] at hi; cases hi
 | some l =>
  rw [hl] at hi
  injection hi with hi
  subst hi
  exact hc i _ (by rw [List.getElem?_map, hl]; rfl)
theorem as17v (w : World) (T : Nat) (v : Dvm) (h : Dok w T v) (hT : T ≤ w.heap.size) (hn : v.ls.length ≤ 100000) :
  Calls Try.prog 8 #[.agg v.cells.toArray] w (AsSays w v.s v.pt v.lg v.ls.length v.ls) := as17 w T v.s v.PA v.pc v.pt v.LA v.lc v.lg v.A v.ls.length v.c v.ls h.pt h.lg h.ls hT rfl hn
theorem same17p (w : World) (p : Pe) (A1 A2 : Option Addr) (n c1 c2 : Nat) (h1 : Lnr w A1 p.lines) (h2 : Lnr w A2 p.lines) (hl : p.lines.length = n) (hn : n ≤ 100000) :
  Calls Try.prog 10 #[.agg #[.int .i64 p.state, .string (str p.part), .string (str p.log), .slice A1 n c1], .agg #[.int .i64 p.state, .string (str p.part), .string (str p.log), .slice A2 n c2]] w fun e w' => e = .returned (.bool true) ∧ Below w.heap.size w w' :=
 same17 w p.state (str p.part) (str p.log) A1 A2 n c1 c2 (p.lines.map str) (lns_of h1) (lns_of h2) (by rw [List.length_map]; exact hl) (by unfold maxLen; omega)
theorem feed_dfew {vs : List Rl} {n : Nat} (hr : Rfew vs n) {p : Pe} (hp : p.part.length ≤ 400) (bs : List B) (hl : ∀ l ∈ p.lines, l.length ≤ 400) :
  (feedR (vs.map (·.r)) p bs).part.length ≤ 400 ∧ (feedR (vs.map (·.r)) p bs).log.length ≤ p.log.length + 60 * bs.length ∧ (feedR (vs.map (·.r)) p bs).lines.length ≤ p.lines.length + bs.length ∧ ∀ l ∈ (feedR (vs.map (·.r)) p bs).lines, l.length ≤ 400 := by
 induction bs generalizing p with
 | nil => exact ⟨hp, by simp [feed_nil], by simp [feed_nil], hl⟩
 | cons c bs ih =>
  rw [feed_cons]
  have hk : ∀ r ∈ vs.map (·.r), r.out.length ≤ 60 := fun r hr' => by
   obtain ⟨v, hv, rfl⟩ := List.mem_map.1 hr'
   exact (hr.2.2 v hv).2
  obtain ⟨b1, b2, b3⟩ := byte_sizes (rs := vs.map (·.r)) (p := p) (c := c) hk
  have b4 : ∀ l ∈ (byteR (vs.map (·.r)) p c).lines, l.length ≤ 400 := by
   intro l hm
   unfold byteR at hm
   split at hm
   ·unfold lineR at hm
    split at hm
    ·rcases List.mem_append.1 hm with hm | hm
     ·exact hl l hm
     ·simp at hm; rw [hm]; exact hp
    ·rcases List.mem_append.1 hm with hm | hm
     ·exact hl l hm
     ·simp at hm; rw [hm]; exact hp
   ·split at hm
    ·exact hl l hm
    ·split at hm <;> exact hl l hm
  obtain ⟨q1, q2, q3, q4⟩ := ih (p := byteR (vs.map (·.r)) p c) (by omega) b4
  refine ⟨q1, ?_, ?_, q4⟩
  ·rw [List.length_cons]; omega
  ·rw [List.length_cons]; omega
end Go.Proofs.Ytfllngpncnhfnaa.Peer
end
section
namespace Go.Proofs.Ytfllngpncnhfnaa.Peer
open Go.RowKit Go.Proofs.Ytfllngpncnhfnaa.Ord
open Lex (Tx)
open Rec (Vt Tvs Trow txt)
open Vars (scell)
theorem cells4 {w : World} {g : Nat} {t : TypeId} {v : Dvm} (h : Cel w g t v.cells) : w.cell? ⟨g, 0, none⟩ = some (.int .i64 v.s) ∧ w.cell? ⟨g, 1, none⟩ = some (.slice v.PA v.pt.length v.pc) ∧ w.cell? ⟨g, 2, none⟩ = some (.slice v.LA v.lg.length v.lc) ∧ w.cell? ⟨g, 3, none⟩ = some (.slice v.A v.ls.length v.c) := ⟨h.cell 0, h.cell 1, h.cell 2, h.cell 3⟩
end Go.Proofs.Ytfllngpncnhfnaa.Peer
end
section
namespace Go.Proofs.Ytfllngpncnhfnaa.Ord
open Go.RowKit
section
variable {P : Program} {ops : Array Oper} {Q : Exit → Act → World → Prop} {md : Region.Mode} {S : World → Prop} {N : List Nat}
theorem wpAnyN_two {i j : Nat} {oi oj : Oper} {fuel : Nat} {listed : Array Bool} {a : Act} {w : World} (hr : Region.ready md ops listed = [i, j]) (hi : ops[i]? = some oi) (hj : ops[j]? = some oj)
  (h1 : ∀ K' : Act → World → Prop, Shut (∀ a w, (i ∈ N ∨ S w) → wpAnyN P md ops Q S N fuel (listed.setIfInBounds i true) a w → K' a w) → if Region.wanted oi (yielded ops a.tmps) = true then Oper.wp P oi a w K' Q else K' (a.put oi.dst undef) w)
  (h2 : ∀ K' : Act → World → Prop, Shut (∀ a w, (j ∈ N ∨ S w) → wpAnyN P md ops Q S N fuel (listed.setIfInBounds j true) a w → K' a w) → if Region.wanted oj (yielded ops a.tmps) = true then Oper.wp P oj a w K' Q else K' (a.put oj.dst undef) w) :
  wpAnyN P md ops Q S N (fuel + 1) listed a w :=
 ⟨fun h0 => (by rw [hr] at h0; cases h0), fun k hk => by
  rw [hr] at hk
  simp only [List.mem_cons, List.not_mem_nil, or_false] at hk
  rcases hk with rfl | rfl
  ·exact wpOp_step hi (fun K' hK => h1 K' (fun a w hS hW => hK a w ⟨fun hn => hS.resolve_left hn, hW⟩))
  ·exact wpOp_step hj (fun K' hK => h2 K' (fun a w hS hW => hK a w ⟨fun hn => hS.resolve_left hn, hW⟩))⟩
end
end Go.Proofs.Ytfllngpncnhfnaa.Ord
end
