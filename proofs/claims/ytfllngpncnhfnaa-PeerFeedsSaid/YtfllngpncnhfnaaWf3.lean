/-
Texts: PeerAs PeerFew PeerSame LinkSend PeerRules
-/
import Derived.Test.YtfllngpncnhfnaaWf0
import Derived.Test.YtfllngpncnhfnaaWf1
import Derived.Test.YtfllngpncnhfnaaWf2
import Derived.BigQuiet
import Derived.Deep.CutRange
set_option linter.unusedVariables false
set_option linter.unusedSimpArgs false
set_option maxRecDepth 100000
set_option maxHeartbeats 4000000
namespace Go.Proofs.Ytfllngpncnhfnaa.Ord
end Go.Proofs.Ytfllngpncnhfnaa.Ord
section
namespace Go.Proofs.Ytfllngpncnhfnaa.Peer
open Go.RowKit Go.Proofs.Ytfllngpncnhfnaa.Ord
open Lex (Tx fw4 fw4_cel fw4_frm)
open Vars (scell rowStr)
open Rec (Vt Tvs txt)
theorem tx_str {w : World} {T : Nat} {A : Option Addr} {t : List B} (h : Tx w T A t) (hT : T ≤ w.heap.size) (c : Nat) : (convert 23 9 (.slice A t.length c)).run Try.prog w = .ok (.string (str t)) w :=
 (Bs.bp (h.bs hT)).string c Try.underlying23 Try.underlying5 Try.underlying9
def AsSays (w : World) (s : Int) (pt lg : List B) (n : Nat) (ls : List Vt) (e : Ending) (w' : World) : Prop := ∃ A' c', e = .returned (.agg #[.int .i64 s, .string (str pt), .string (str lg), .slice A' n c']) ∧ Lnr w' A' (txt ls) ∧ Below w.heap.size w w'
theorem as17 (w : World) (T : Nat) (s : Int) (PA : Option Addr) (pc : Nat) (pt : List B) (LA : Option Addr) (lc : Nat) (lg : List B) (A : Option Addr) (n c : Nat) (ls : List Vt) (hp : Tx w T PA pt) (hg : Tx w T LA lg) (hls : Tvs w T A ls) (hT : T ≤ w.heap.size) (hl : ls.length = n) (hn : n ≤ 100000) :
  Calls Try.prog 8 #[.agg #[.int .i64 s, .slice PA pt.length pc, .slice LA lg.length lc, .slice A n c]] w (AsSays w s pt lg n ls) := by
 obtain ⟨w0, hw0⟩ : ∃ w0, w0 = (w.alloc (.cells #[.int .i64 s, .slice PA pt.length pc, .slice LA lg.length lc, .slice A n c] 26)).alloc (.cells #[.int .i64 0, .string ⟨#[]⟩, .string ⟨#[]⟩, .slice none 0 0] 32) := ⟨_, rfl⟩
 have hs0 : w0.heap.size = w.heap.size + 1 + 1 := by rw [hw0]; simp
 have hb0 : Below w.heap.size w w0 := by rw [hw0]; exact ((Below.refl _ _).alloc (Nat.le_refl _) _).alloc (by simp) _
 have hci : Cel w0 w.heap.size 26 [.int .i64 s, .slice PA pt.length pc, .slice LA lg.length lc, .slice A n c] := by rw [hw0]; exact (Cel.new w 26 [.int .i64 s, .slice PA pt.length pc, .slice LA lg.length lc, .slice A n c]).alloc _
 have hcr : Cel w0 (w.heap.size + 1) 32 [.int .i64 0, .string ⟨#[]⟩, .string ⟨#[]⟩, .slice none 0 0] := by
  have := Cel.new (w.alloc (.cells #[.int .i64 s, .slice PA pt.length pc, .slice LA lg.length lc, .slice A n c] 26)) 32 [.int .i64 0, .string ⟨#[]⟩, .string ⟨#[]⟩, .slice none 0 0]
  rw [World.size_alloc] at this
  rw [hw0]; exact this
 obtain ⟨w1, hw1⟩ : ∃ w1, w1 = w0.alloc (.cells #[.int .i64 s, .string (str pt), .string (str lg), .slice none 0 0] 32) := ⟨_, rfl⟩
 have hb1 : Below w0.heap.size w0 w1 := by rw [hw1]; exact (Below.refl _ _).alloc (Nat.le_refl _) _
 have hco : Cel w1 (w.heap.size + 1 + 1) 32 [.int .i64 s, .string (str pt), .string (str lg), .slice none 0 0] := by
  rw [hw1, ← hs0]; exact Cel.new w0 _ _
 have k0 := hci.cell 0
 have k1 := hci.cell 1
 have k2 := hci.cell 2
 have y1 := tx_str (hp.below hT hb0) (Nat.le_trans hT hb0.size) pc
 have y2 := tx_str (hg.below hT hb0) (Nat.le_trans hT hb0.size) lc
 have HB2 := Lib.hid (hb0.trans (hb1.mono hb0.size))
 have HI2 := Lib.hid (Cel.below hci hb1 hci.lt)
 have HR2 := Lib.hid (Cel.below hcr hb1 hcr.lt)
 have HC2 := Lib.hid hco
 have HLS := Lib.hid hls
 have HL := Lib.hid hl
 have HW0 := Lib.hid hw0
 have HW1 := Lib.hid hw1
 have HS0 := Lib.hid hs0
 clear hp hg hls hl hw1 hb1 hb0 hci hcr hco hw0
 go_enter Try.func8, Try.ntmps8
 go_upto_region 1 with fail
 rw [← HW0.out]
 go_upto_region 2 with fail
 rw [← HW1.out]
 clear k0 k1 k2 y1 y2 HW0 HW1
 go_wp2_with fail
 go_loopw [4] (fun v4 wr => ∃ (i : Nat) (A5 : Option Addr) (c5 : Nat), i ≤ n ∧ v4 = .int .i64 (i : Int) ∧ Below w.heap.size w wr ∧ Cel wr w.heap.size 26 [.int .i64 s, .slice PA pt.length pc, .slice LA lg.length lc, .slice A n c] ∧ Cel wr (w.heap.size + 1) 32 [.int .i64 0, .string ⟨#[]⟩, .string ⟨#[]⟩, .slice none 0 0] ∧ Cel wr (w.heap.size + 1 + 1) 32 [.int .i64 s, .string (str pt), .string (str lg), .slice A5 i c5] ∧ wr.ownsRow w.heap.size 9 1 (.slice A5 i c5) i (((txt ls).take i).map scell)) (fun v4 _ => n - (intOf v4).toNat)
 case atStart => exact ⟨0, none, 0, Nat.zero_le _, rfl, HB2.out, HI2.out, HR2.out, HC2.out, World.ownsRow_nil _ _ _ _⟩
 case round =>
  clear HB2 HI2 HR2 HC2
  obtain ⟨i, A5, c5, hi, rfl, hb, hci, hcr, hco, hro⟩ := hrel
  obtain ⟨V0, hV0⟩ : ∃ V0, V0 = wr := ⟨_, rfl⟩
  rw [← hV0] at hb hci hcr hco hro ⊢
  clear hV0
  have HB := Lib.hid hb
  have HCI := Lib.hid hci
  have HCR := Lib.hid hcr
  have HCO := Lib.hid hco
  have HRO := Lib.hid hro
  have HT0 := Lib.hid (Nat.le_trans hT hb.size)
  have k3 := hci.cell 3
  rcases Nat.lt_or_ge i n with hlt | hge
  ·obtain ⟨v, hv⟩ : ∃ v, ls[i]? = some v := ⟨_, List.getElem?_eq_getElem (by rw [HL.out]; exact hlt)⟩
   have hls2 := HLS.out.below hT hb
   obtain ⟨ad, rfl, a0⟩ := hls2.cr i v hv
   have htx := (hls2.tx v (List.mem_of_getElem? hv)).1
   change _ = some (Value.slice v.A v.t.length v.c) at a0
   have HV := Lib.hid hv
   have HTX := Lib.hid htx
   have HA0 := Lib.hid a0
   have hH : Below V0.heap.size V0 V0.drew := (Below.refl _ _).drew
   clear hb hci hcr hco hro hls2 htx hv
   go_upto_region 5 with fail
   refine wp_region_N [9, 10, 11] (Below V0.heap.size V0) (by kernel_rfl) ?_
   refine tk_ 0 (.pointer (some ⟨w.heap.size + 1 + 1, 3, none⟩)) [1, 9, 10, 11] rfl hH ?_ ?_
   ·intro V hV; go_simp
   try simp only [Act.put, lay_]
   refine tk_ 1 (.slice A5 i c5) [9, 10, 11] rfl hH ?_ ?_
   ·intro V hV; have hc := Cel.below HCO.out hV HCO.out.lt; have q3 := hc.cell 3; change _ = some (Value.slice A5 i c5) at q3; go_simp
   try simp only [Act.put, lay_]
   refine tk_ 2 (.pointer (some ⟨w.heap.size, 3, none⟩)) [3, 5, 6, 7, 8, 9, 10, 11] rfl hH ?_ ?_
   ·intro V hV; go_simp
   try simp only [Act.put, lay_]
   refine tk_ 3 (.slice (some ad) n c) [5, 6, 7, 8, 9, 10, 11] rfl hH ?_ ?_
   ·intro V hV; have hc := Cel.below HCI.out hV HCI.out.lt; have q3 := hc.cell 3; change _ = some (Value.slice (some ad) n c) at q3; go_simp
   try simp only [Act.put, lay_]
   refine tk_ 4 (.int .i64 (i : Int)) [5, 6, 7, 8, 9, 10, 11] rfl hH ?_ ?_
   ·intro V hV; go_simp
   try simp only [Act.put, lay_]
   refine tk_ 5 (.pointer (some (ad.add i))) [6, 7, 8, 9, 10, 11] rfl hH ?_ ?_
   ·intro V hV; go_simp
   try simp only [Act.put, lay_]
   refine tk_ 6 (.slice v.A v.t.length v.c) [7, 8, 9, 10, 11] rfl hH ?_ ?_
   ·intro V hV; have b0 := (hV.cell (cell_lt HA0.out)).trans HA0.out; go_simp
   try simp only [Act.put, lay_]
   refine tk_ 7 (.string (str v.t)) [8, 9, 10, 11] rfl hH ?_ ?_
   ·intro V hV; have y := tx_str (HTX.out.below HT0.out hV) (Nat.le_trans HT0.out hV.size) v.c; go_simp
   try simp only [Act.put, lay_]
   refine wpAnyN_one (i := 8) (by kernel_rfl) rfl (fun K hK => ?_)
   go_simp
   have hH6 : Below V0.heap.size V0 (V0.drew.alloc (.cells #[.string (str v.t)] 9)) := hH.alloc (Nat.le_refl _) _
   have HB6 := Lib.hid (HB.out.trans (hH6.mono HB.out.size))
   have HRO6 := Lib.hid (own_frm (l := []) HRO.out (Frm.of_below hH6) (by simp))
   have HCI6 := Lib.hid (Cel.below HCI.out hH6 HCI.out.lt)
   have HCR6 := Lib.hid (Cel.below HCR.out hH6 HCR.out.lt)
   have HCO6 := Lib.hid (Cel.below HCO.out hH6 HCO.out.lt)
   have HSRC := Lib.hid (show Src (V0.drew.alloc (.cells #[.string (str v.t)] 9)) (some ⟨V0.heap.size, 0, none⟩) 1 [.string (str v.t)] from Ry.src (m := 1) (Ry.of_cel (Cel.new V0.drew 9 [.string (str v.t)])) (by simp))
   refine hK.out _ _ (.inr hH6) ?_
   clear hK K hH hH6
   try simp only [Act.put, lay_]
   refine wpAnyN_one (i := 9) (by kernel_rfl) rfl (fun K hK => ?_)
   rw [if_pos (by rfl)]
   refine wp_append_any _ _ _ 30 rfl w.heap.size 9 rowStr (.slice A5 i c5) i (((txt ls).take i).map scell) rfl HRO6.out (some ⟨V0.heap.size, 0, none⟩) 1 1 [.string (str v.t)] rfl rfl HSRC.out (by intro u hu; rw [List.mem_singleton.1 hu]; rfl) (i + 1) (((txt ls).take (i + 1)).map scell) rfl (by rw [List.take_add_one, show (txt ls)[i]? = some v.t by unfold Rec.txt; rw [List.getElem?_map, HV.out]; rfl, List.map_append]; rfl) (by unfold maxLen; omega) (by omega) HB6.out.size ?_
   intro A8 c8 w8 ho8 hg8 _
   have HB8 := Lib.hid (below_ownP HRO6.out HB6.out (Nat.le_refl _) hg8)
   have HRO8 := Lib.hid ho8
   have HCI8 := Lib.hid (Cel.grown HCI6.out hg8 (own_ty_ne HRO6.out HCI6.out (by decide)))
   have HCR8 := Lib.hid (Cel.grown HCR6.out hg8 (own_ty_ne HRO6.out HCR6.out (by decide)))
   have hco8 := Cel.grown HCO6.out hg8 (own_ty_ne HRO6.out HCO6.out (by decide))
   have q3 := hco8.cell 3
   have f3 := hco8.free 3
   change _ = some (Value.slice A5 i c5) at q3
   have HCO8 := Lib.hid hco8
   have HF9 := Lib.hid ((Frm.refl [w.heap.size + 1 + 1] w8).set (p := ⟨w.heap.size + 1 + 1, 3, none⟩) (by simp) (.slice A8 (i + 1) c8))
   clear ho8 hg8 hco8
   refine hK.out _ _ (.inl (by decide)) ?_
   clear hK K
   try simp only [Act.put, lay_]
   refine wpAnyN_one (i := 10) (by kernel_rfl) rfl (fun K hK => ?_)
   go_simp
   refine hK.out _ _ (.inl (by decide)) ?_
   clear hK K
   try simp only [Act.put, lay_]
   refine wpAnyN_one (i := 11) (by kernel_rfl) rfl (fun K hK => ?_)
   go_simp
   refine hK.out _ _ (.inl (by decide)) ?_
   clear hK K q3 f3
   try simp only [Act.put, lay_]
   refine wpAnyN_done (by kernel_rfl) ?_ _
   go_wp2_with fail
   exact ⟨⟨i + 1, A8, c8, hlt, by rw [show ((i + 1 : Nat) : Int) = (i : Int) + 1 by omega], HB8.out.trans (HF9.out.below HB8.out.size (by intro r hr; rw [List.mem_singleton.1 hr]; omega)), Cel.frm HCI8.out HF9.out (by simp; omega), Cel.frm HCR8.out HF9.out (by simp), HCO8.out.set 3 _, own_frm HRO8.out HF9.out (fun r hr => by rw [List.mem_singleton.1 hr]; exact own_ty_ne HRO8.out HCO8.out (by decide))⟩, by simp [intOf]; omega⟩
  ·obtain rfl : i = n := by omega
   have HE := Lib.hid (show (txt ls).take i = txt ls from List.take_of_length_le (by unfold Rec.txt; rw [List.length_map, HL.out]; exact Nat.le_refl _))
   have q0 := hco.cell 0
   have q1 := hco.cell 1
   have q2 := hco.cell 2
   have q3 := hco.cell 3
   have r0 := hcr.cell 0
   have r1 := hcr.cell 1
   have r2 := hcr.cell 2
   have r3 := hcr.cell 3
   have f0 := hcr.free 0
   have f1 := hcr.free 1
   have f2 := hcr.free 2
   have f3 := hcr.free 3
   have HC6 := Lib.hid (fw4_cel (a := .int .i64 s) (b := .string (str pt)) (c := .string (str lg)) (d := .slice A5 i c5) hcr)
   have HF6 := Lib.hid (fw4_frm V0 (w.heap.size + 1) (.int .i64 s) (.string (str pt)) (.string (str lg)) (.slice A5 i c5))
   unfold fw4 at HC6 HF6
   clear hb hci hcr hco hro
   go_wp2_with fail
   refine bodyPost_ret (v := .agg #[.int .i64 s, .string (str pt), .string (str lg), .slice A5 i c5]) (results_atP 2 32 Try.results8 ⟨w.heap.size + 1, 0, none⟩ rfl _ (load_peer HC6.out)) rfl ?_
   refine ⟨A5, c5, rfl, ?_, HB.out.trans (HF6.out.below HB.out.size (by intro q hq; rw [List.mem_singleton.1 hq]; omega))⟩
   have := HRO.out
   rw [HE.out] at this
   exact (Ry.of_own this (by decide)).frm HF6.out fun q hq => by rw [List.mem_singleton.1 hq]; exact Cel.not_ty HCR.out (by decide)
end Go.Proofs.Ytfllngpncnhfnaa.Peer
end
section
namespace Go.Proofs.Ytfllngpncnhfnaa.Peer
open Go.RowKit
open Lex (Tx b_ne)
open Rec (Vt Tvs txt)
def LessSays (w : World) (P : Prop) (e : Ending) (w' : World) : Prop := ∃ b, e = .returned (.bool b) ∧ Below w.heap.size w w' ∧ (b = true → P)
theorem take_allP {α : Type} {l : List α} {i : Nat} {x : α} (h : l[i]? = some x) {P : α → Prop} (h1 : ∀ y ∈ l.take i, P y) (h2 : P x) : ∀ y ∈ l.take (i + 1), P y := by
 rw [List.take_add_one, h]
 intro y hy
 rcases List.mem_append.1 hy with hy | hy
 ·exact h1 y hy
 ·simp at hy; subst hy; exact h2
theorem fewRules (w : World) (T : Nat) (A : Option Addr) (n c : Nat) (vs : List Rl) (h : Rls w T A vs) (hT : T ≤ w.heap.size) (hl : vs.length = n) (hn : n ≤ maxLen) (hm : ∀ v ∈ vs, v.r.line.length ≤ maxLen ∧ v.r.out.length ≤ maxLen) :
  Calls Try.prog 5 #[.slice A n c] w (LessSays w (n ≤ 20 ∧ ∀ v ∈ vs, v.r.line.length ≤ 60 ∧ v.r.out.length ≤ 60)) := by
 unfold maxLen at hn hm
 have HR := Lib.hid h
 have HL := Lib.hid hl
 have HM := Lib.hid hm
 clear h hl hm
 go_enter Try.func5, Try.ntmps5
 go_wp2_with fail
 go_loopw [3] (fun v3 wr => ∃ (i : Nat), i ≤ n ∧ v3 = .int .i64 (i : Int) ∧ Below w.heap.size w wr ∧ Hid (∀ v ∈ vs.take i, v.r.line.length ≤ 60 ∧ v.r.out.length ≤ 60)) (fun v3 _ => n - (intOf v3).toNat)
 case atStart => exact ⟨0, Nat.zero_le _, rfl, Below.refl _ _, Lib.hid (by simp)⟩
 case round =>
  obtain ⟨i, hi, rfl, hb, HK⟩ := hrel
  obtain ⟨V, hV⟩ : ∃ V, V = wr := ⟨_, rfl⟩
  rw [← hV] at hb ⊢
  clear hV
  have HB := Lib.hid hb
  rcases Nat.lt_or_ge i n with hlt | hge
  ·obtain ⟨v, hv⟩ : ∃ v, vs[i]? = some v := ⟨_, List.getElem?_eq_getElem (by rw [HL.out]; exact hlt)⟩
   obtain ⟨ad, rfl, _, a1, a2, _⟩ := (HR.out.below hT hb) i v hv
   obtain ⟨hm1, hm2⟩ := HM.out v (List.mem_of_getElem? hv)
   obtain ⟨k1, hk1⟩ : ∃ k, k = v.r.line.length := ⟨_, rfl⟩
   obtain ⟨k2, hk2⟩ : ∃ k, k = v.r.out.length := ⟨_, rfl⟩
   rw [← hk1] at a1 hm1
   rw [← hk2] at a2 hm2
   have HN := Lib.hid (fun (h1 : k1 ≤ 60) (h2 : k2 ≤ 60) => take_allP hv (P := fun v => v.r.line.length ≤ 60 ∧ v.r.out.length ≤ 60) HK.out (by rw [← hk1, ← hk2]; exact ⟨h1, h2⟩))
   generalize v.A1 = A1 at *
   generalize v.c1 = c1 at *
   generalize v.A2 = A2 at *
   generalize v.c2 = c2 at *
   clear hb hv hk1 hk2
   by_cases h1 : 60 < k1
   ·have z1 : (60 : Int) < (k1 : Int) := by omega
    clear h1
    go_wp2_with fail
    go_ret
    exact ⟨false, rfl, HB.out, fun h => by cases h⟩
   ·have z1 : decide ((60 : Int) < (k1 : Int)) = false := by simp; omega
    by_cases h2 : 60 < k2
    ·have z2 : (60 : Int) < (k2 : Int) := by omega
     clear h1 h2
     go_wp2_with fail
     go_ret
     exact ⟨false, rfl, HB.out, fun h => by cases h⟩
    ·have z2 : decide ((60 : Int) < (k2 : Int)) = false := by simp; omega
     have HN2 := Lib.hid (HN.out (by omega) (by omega))
     clear h1 h2
     go_wp2_with fail
     exact ⟨⟨i + 1, by omega, by rw [show ((i + 1 : Nat) : Int) = (i : Int) + 1 by omega], HB.out, HN2⟩, by simp [intOf]; omega⟩
  ·have HN := Lib.hid (show ∀ v ∈ vs, v.r.line.length ≤ 60 ∧ v.r.out.length ≤ 60 from fun v hv => HK.out v (by rw [List.take_of_length_le (by rw [HL.out]; exact hge)]; exact hv))
   have zi : decide ((i : Int) < (n : Int)) = false := by simp; omega
   clear hb
   by_cases h1 : n ≤ 20
   ·have HALL := Lib.hid (And.intro h1 HN.out)
    have z1 : decide ((n : Int) ≤ 20) = true := by simp; omega
    clear h1
    go_wp2_with fail
    go_ret
    exact ⟨true, rfl, HB.out, fun _ => HALL.out⟩
   ·have z1 : decide ((n : Int) ≤ 20) = false := by simp; omega
    go_wp2_with fail
    go_ret
    exact ⟨false, rfl, HB.out, fun h => by cases h⟩
theorem fewPeer (w : World) (T : Nat) (s : Int) (PA : Option Addr) (np pc : Nat) (LA : Option Addr) (nlg lc : Nat) (A : Option Addr) (n c : Nat) (ls : List Vt) (hls : Tvs w T A ls) (hT : T ≤ w.heap.size) (hl : ls.length = n) (hn : n ≤ maxLen) (hp : np ≤ maxLen) (hg : nlg ≤ maxLen) :
  Calls Try.prog 6 #[.agg #[.int .i64 s, .slice PA np pc, .slice LA nlg lc, .slice A n c]] w (LessSays w (n ≤ 20 ∧ np ≤ 400 ∧ nlg ≤ 500 ∧ ∀ v ∈ ls, v.t.length ≤ 300)) := by
 unfold maxLen at hn hp hg
 obtain ⟨w1, hw1⟩ : ∃ w1, w1 = w.alloc (.cells #[.int .i64 s, .slice PA np pc, .slice LA nlg lc, .slice A n c] 26) := ⟨_, rfl⟩
 have hb1 : Below w.heap.size w w1 := by rw [hw1]; exact (Below.refl _ _).alloc (Nat.le_refl _) _
 have hc1 : Cel w1 w.heap.size 26 [.int .i64 s, .slice PA np pc, .slice LA nlg lc, .slice A n c] := by rw [hw1]; exact Cel.new w _ _
 have k1 := hc1.cell 1
 have k2 := hc1.cell 2
 have k3 := hc1.cell 3
 have HB1 := Lib.hid hb1
 have HLS := Lib.hid (hls.below hT hb1)
 have HL := Lib.hid hl
 clear hls hb1 hc1 hl
 go_enter Try.func6, Try.ntmps6
 go_wp2_with fail
 rw [← hw1]
 clear hw1
 go_loopw [3] (fun v3 wr => ∃ (i : Nat), i ≤ n ∧ v3 = .int .i64 (i : Int) ∧ w1 = wr ∧ Hid (∀ v ∈ ls.take i, v.t.length ≤ 300)) (fun v3 _ => n - (intOf v3).toNat)
 case atStart => exact ⟨0, Nat.zero_le _, rfl, rfl, Lib.hid (by simp)⟩
 case round =>
  obtain ⟨i, hi, rfl, rfl, HK⟩ := hrel
  rcases Nat.lt_or_ge i n with hlt | hge
  ·obtain ⟨v, hv⟩ : ∃ v, ls[i]? = some v := ⟨_, List.getElem?_eq_getElem (by rw [HL.out]; exact hlt)⟩
   obtain ⟨ad, rfl, a0⟩ := HLS.out.cr i v hv
   have hml := (HLS.out.tx v (List.mem_of_getElem? hv)).2
   unfold maxLen at hml
   change _ = some (Value.slice v.A v.t.length v.c) at a0
   obtain ⟨m, hm⟩ : ∃ m, m = v.t.length := ⟨_, rfl⟩
   rw [← hm] at a0 hml
   have HN := Lib.hid (fun (h1 : m ≤ 300) => take_allP hv (P := fun v => v.t.length ≤ 300) HK.out (by rw [← hm]; exact h1))
   generalize v.A = A1 at *
   generalize v.c = c1 at *
   clear hv hm
   by_cases h1 : 300 < m
   ·have z1 : (300 : Int) < (m : Int) := by omega
    clear h1
    go_wp2_with fail
    go_ret
    exact ⟨false, rfl, HB1.out, fun h => by cases h⟩
   ·have z1 : decide ((300 : Int) < (m : Int)) = false := by simp; omega
    have HN2 := Lib.hid (HN.out (by omega))
    clear h1
    go_wp2_with fail
    exact ⟨⟨i + 1, by omega, by rw [show ((i + 1 : Nat) : Int) = (i : Int) + 1 by omega], by trivial, HN2⟩, by simp [intOf]; omega⟩
  ·have HN := Lib.hid (show ∀ v ∈ ls, v.t.length ≤ 300 from fun v hv => HK.out v (by rw [List.take_of_length_le (by rw [HL.out]; exact hge)]; exact hv))
   have zi : decide ((i : Int) < (n : Int)) = false := by simp; omega
   by_cases h1 : n ≤ 20
   ·have z1 : (n : Int) ≤ 20 := by omega
    by_cases h2 : np ≤ 400
    ·have z2 : (np : Int) ≤ 400 := by omega
     by_cases h3 : nlg ≤ 500
     ·have z3 : decide ((nlg : Int) ≤ 500) = true := by simp; omega
      have HALL := Lib.hid (And.intro h1 (And.intro h2 (And.intro h3 HN.out)))
      clear h1 h2 h3
      go_wp2_with fail
      go_ret
      exact ⟨true, rfl, HB1.out, fun _ => HALL.out⟩
     ·have z3 : decide ((nlg : Int) ≤ 500) = false := by simp; omega
      clear h1 h2 h3
      go_wp2_with fail
      go_ret
      exact ⟨false, rfl, HB1.out, fun h => by cases h⟩
    ·have z2 : decide ((np : Int) ≤ 400) = false := by simp; omega
     clear h1 h2
     go_wp2_with fail
     go_ret
     exact ⟨false, rfl, HB1.out, fun h => by cases h⟩
   ·have z1 : decide ((n : Int) ≤ 20) = false := by simp; omega
    clear h1
    go_wp2_with fail
    go_ret
    exact ⟨false, rfl, HB1.out, fun h => by cases h⟩
end Go.Proofs.Ytfllngpncnhfnaa.Peer
end
section
namespace Go.Proofs.Ytfllngpncnhfnaa.Peer
open Go.RowKit
def Lns (w : World) (A : Option Addr) (ls : List ByteArray) : Prop := ∀ i x, ls[i]? = some x → ∃ ad, A = some ad ∧ w.cell? (ad.add i) = some (.string x)
theorem Lns.below {w w' : World} {A : Option Addr} {ls : List ByteArray} (h : Lns w A ls) (hb : Below w.heap.size w w') : Lns w' A ls := fun i x hi => by
 obtain ⟨ad, e, hc⟩ := h i x hi
 exact ⟨ad, e, (hb.cell (cell_lt hc)).trans hc⟩
theorem same17 (w : World) (s : Int) (pt lg : ByteArray) (A1 A2 : Option Addr) (n c1 c2 : Nat) (ls : List ByteArray) (h1 : Lns w A1 ls) (h2 : Lns w A2 ls) (hl : ls.length = n) (hn : n ≤ maxLen) :
  Calls Try.prog 10 #[.agg #[.int .i64 s, .string pt, .string lg, .slice A1 n c1], .agg #[.int .i64 s, .string pt, .string lg, .slice A2 n c2]] w fun e w' => e = .returned (.bool true) ∧ Below w.heap.size w w' := by
 unfold maxLen at hn
 obtain ⟨w1, hw1⟩ : ∃ w1, w1 = (w.alloc (.cells #[.int .i64 s, .string pt, .string lg, .slice A1 n c1] 32)).alloc (.cells #[.int .i64 s, .string pt, .string lg, .slice A2 n c2] 32) := ⟨_, rfl⟩
 have hb1 : Below w.heap.size w w1 := by rw [hw1]; exact ((Below.refl _ _).alloc (Nat.le_refl _) _).alloc (by simp) _
 have ca : Cel w1 w.heap.size 32 [.int .i64 s, .string pt, .string lg, .slice A1 n c1] := by rw [hw1]; exact (Cel.new w _ _).alloc _
 have cb : Cel w1 (w.heap.size + 1) 32 [.int .i64 s, .string pt, .string lg, .slice A2 n c2] := by rw [hw1]; exact (by simpa using Cel.new (w.alloc (.cells #[.int .i64 s, .string pt, .string lg, .slice A1 n c1] 32)) 32 [.int .i64 s, .string pt, .string lg, .slice A2 n c2])
 have p0 := ca.cell 0
 have p1 := ca.cell 1
 have p2 := ca.cell 2
 have p3 := ca.cell 3
 have q0 := cb.cell 0
 have q1 := cb.cell 1
 have q2 := cb.cell 2
 have q3 := cb.cell 3
 have HB1 := Lib.hid hb1
 have CA := Lib.hid ca
 have CB := Lib.hid cb
 have H1 := Lib.hid (h1.below hb1)
 have H2 := Lib.hid (h2.below hb1)
 have HL := Lib.hid hl
 clear hb1 ca cb h1 h2 hl
 go_enter Try.func10, Try.ntmps10
 go_wp2_with fail
 rw [← hw1]
 clear hw1
 go_wp2_with fail
 clear p0 p1 p2 p3 q0 q1 q2 q3
 go_loopw [5] (fun v5 wr => ∃ (i : Nat), i ≤ n ∧ v5 = .int .i64 (i : Int) ∧ Hid (Below w1.heap.size w1 wr)) (fun v5 _ => n - (intOf v5).toNat)
 case atStart => exact ⟨0, Nat.zero_le _, rfl, Lib.hid (Below.refl _ _)⟩
 case round =>
  obtain ⟨i, hi, rfl, HB⟩ := hrel
  have p3 := (CA.out.below HB.out CA.out.lt).cell 3
  have q3 := (CB.out.below HB.out CB.out.lt).cell 3
  rcases Nat.lt_or_ge i n with hlt | hge
  ·obtain ⟨x, hx⟩ : ∃ x, ls[i]? = some x := ⟨_, List.getElem?_eq_getElem (by rw [HL.out]; exact hlt)⟩
   obtain ⟨a1, rfl, e1⟩ := H1.out.below HB.out i x hx
   obtain ⟨a2, rfl, e2⟩ := H2.out.below HB.out i x hx
   clear hx
   go_wp2_with fail
   go_quiet (fail)
   obtain ⟨W0, hW0⟩ : ∃ W0, W0 = wr.drewN nq := ⟨_, rfl⟩
   rw [← hW0]
   have HB0 := Lib.hid (show Below w1.heap.size w1 W0 by rw [hW0]; exact ⟨HB.out.os, HB.out.tape, HB.out.output, HB.out.size, HB.out.block⟩)
   clear hW0
   go_wp2_with fail
   exact ⟨⟨i + 1, by omega, by rw [show ((i + 1 : Nat) : Int) = (i : Int) + 1 by omega], HB0⟩, by simp [intOf]; omega⟩
  ·have zi : decide ((i : Int) < (n : Int)) = false := by simp; omega
   go_wp2_with fail
   go_ret
   exact ⟨rfl, HB1.out.trans (HB.out.mono HB1.out.size)⟩
end Go.Proofs.Ytfllngpncnhfnaa.Peer
end
section
namespace Go.Proofs.Ytfllngpncnhfnaa.Peer
open Go.RowKit Go.Proofs.Ytfllngpncnhfnaa.Ord
open Lex (Owb Tx)
theorem tx_frm {w w' : World} {T g : Nat} {A : Option Addr} {t : List B} (h : Tx w T A t) (hf : Frm [g] w w') (hT : T ≤ g) (hg : ∀ o fz, w.heap[g]? ≠ some (Obj.cells o 5 fz)) (hTw : T ≤ w.heap.size) : Tx w' T A t := by
 rcases h with h | h
 ·exact .inl (h.keep fun p hp => World.cell?_of_block (hf.block p.block (by omega) (by simp; omega)))
 ·exact .inr (h.keep fun k cs fz hk => hf.block k (Array.getElem?_eq_some_iff.1 hk).1 (by intro e; rw [List.mem_singleton.1 e] at hk; exact hg _ _ hk))
end Go.Proofs.Ytfllngpncnhfnaa.Peer
end
section
namespace Go.Proofs.Ytfllngpncnhfnaa.Peer
open Go.RowKit Go.Proofs.Ytfllngpncnhfnaa.Ord
open Lex (Owb rowB add_at4)
theorem infoRu : (Try.prog.info? 48).map (fun i => (i.zero, i.size, i.bytes)) = some (some (.agg #[.int .i64 0, .slice none 0 0, .slice none 0 0, .int .i64 0]), 4, 64) := by kernel_rfl
theorem rowRu : ElemRow Try.prog 37 48 4 64 := ElemRow.mk' Try.underlying37 infoRu rfl (by decide)
def Rl.cells (v : Rl) : List Value := [.int .i64 v.r.state, .slice v.A1 v.r.line.length v.c1, .slice v.A2 v.r.out.length v.c2, .int .i64 v.r.next]
def rflat (vs : List Rl) : List Value := vs.flatMap Rl.cells
theorem rflat_app (vs : List Rl) (v : Rl) : rflat (vs ++ [v]) = rflat vs ++ v.cells := by unfold rflat; rw [List.flatMap_append]; simp
theorem rflat4 : ∀ (vs : List Rl) (i k : Nat) (v : Rl), vs[i]? = some v → k < 4 → (rflat vs)[i * 4 + k]? = v.cells[k]?
 | [], _, _, _, h, _ => by simp at h
 | u :: us, 0, k, v, h, hk => by
  simp at h
  subst h
  rw [rflat, List.flatMap_cons, List.getElem?_append_left (by rw [Nat.zero_mul, Nat.zero_add]; exact hk), Nat.zero_mul, Nat.zero_add]
 | u :: us, i + 1, k, v, h, hk => by
  have h1 := rflat4 us i k v (by simpa using h) hk
  rw [rflat, List.flatMap_cons, List.getElem?_append_right (by show 4 ≤ _; omega)]
  rw [← h1]
  show _ = (us.flatMap Rl.cells)[i * 4 + k]?
  congr 1
  show (i + 1) * 4 + k - 4 = _
  omega
structure Rro (w : World) (D : Nat) (A : Option Addr) (n c : Nat) (vs : List Rl) : Prop where
 own : w.ownsRow D 48 4 (.slice A n c) n (rflat vs)
 len : vs.length = n
 tx : ∀ v ∈ vs, By w v.A1 v.r.line.length v.r.line ∧ By w v.A2 v.r.out.length v.r.out
theorem Rro.below {w w' : World} {D n c : Nat} {A : Option Addr} {vs : List Rl} (h : Rro w D A n c vs) (hb : Below w.heap.size w w') : Rro w' D A n c vs := ⟨own_frm (l := []) h.own (Frm.of_below hb) (by simp), h.len, fun v hv => ⟨(h.tx v hv).1.below hb, (h.tx v hv).2.below hb⟩⟩
theorem Rro.rls {w : World} {D n c : Nat} {A : Option Addr} {vs : List Rl} (h : Rro w D A n c vs) (T : Nat) : Rls w T A vs := fun i v hi => by
 have hr := Ry.of_own h.own (by decide)
 have e : ∀ k, k < 4 → (rflat vs)[i * 4 + k]? = v.cells[k]? := fun k hk => rflat4 vs i k v hi hk
 obtain ⟨ad, rfl, _, hc⟩ := hr (fun q => by have := e 0 (by decide); rw [q] at this; simp [Rl.cells] at this)
 have ht := h.tx v (List.mem_of_getElem? hi)
 exact ⟨ad, rfl, hc _ _ (e 0 (by decide)), by rw [add_at4 _ _ 1 (by decide)]; exact hc _ _ (e 1 (by decide)), by rw [add_at4 _ _ 2 (by decide)]; exact hc _ _ (e 2 (by decide)), by rw [add_at4 _ _ 3 (by decide)]; exact hc _ _ (e 3 (by decide)), .inr ht.1, .inr ht.2⟩
theorem Rro.grew {w w' : World} {D n c : Nat} {A : Option Addr} {vs : List Rl} (h : Rro w D A n c vs) (hg : w.grownBy w' (Value.slice A n c).ownBlock) (hD : D ≤ w.heap.size) : Below D w w' :=
 ⟨hg.os, hg.tape, hg.output, hg.size, fun k hk => hg.block k (by omega) fun e => by have := own_ge h.own k e.symm; omega⟩
theorem Rro.pushed {w w' : World} {D n c c' : Nat} {A A' : Option Addr} {vs : List Rl} {v : Rl} (h : Rro w D A n c vs) (hv : By w v.A1 v.r.line.length v.r.line ∧ By w v.A2 v.r.out.length v.r.out) (hg : w.grownBy w' (Value.slice A n c).ownBlock) (ho : w'.ownsRow D 48 4 (.slice A' (n + 1) c') (n + 1) (rflat (vs ++ [v]))) : Rro w' D A' (n + 1) c' (vs ++ [v]) := by
 refine ⟨ho, by rw [List.length_append, h.len]; rfl, fun u hu => ?_⟩
 have hne := not_bytes h.own (by decide)
 rcases List.mem_append.1 hu with hu | hu
 ·exact ⟨(h.tx u hu).1.grown hg hne, (h.tx u hu).2.grown hg hne⟩
 ·rw [List.mem_singleton.1 hu]; exact ⟨hv.1.grown hg hne, hv.2.grown hg hne⟩
def RuSays (w : World) (n : Nat) (vs : List Rl) (e : Ending) (w' : World) : Prop := ∃ A' c' ys, e = .returned (.slice A' n c') ∧ Rro w' w.heap.size A' n c' ys ∧ ys.map (·.r) = vs.map (·.r) ∧ Below w.heap.size w w'
theorem rules_ (w : World) (T : Nat) (A : Option Addr) (n c : Nat) (vs : List Rl) (h : Rls w T A vs) (hT : T ≤ w.heap.size) (hl : vs.length = n) (hn : n ≤ 1000) (hsz : ∀ v ∈ vs, v.r.line.length ≤ 1000 ∧ v.r.out.length ≤ 1000) :
  Calls Try.prog 12 #[.slice A n c] w (RuSays w n vs) := by
 have HR := Lib.hid h
 have HL := Lib.hid hl
 have HSZ := Lib.hid hsz
 clear h hl hsz
 go_enter Try.func12, Try.ntmps12
 go_wp2_with fail
 go_loopw [3, 4] (fun v3 v4 wr => ∃ (i c3 : Nat) (A3 : Option Addr) (ys : List Rl), i ≤ n ∧ v4 = .int .i64 (i : Int) ∧ v3 = .slice A3 i c3 ∧ Rro wr w.heap.size A3 i c3 ys ∧ ys.map (·.r) = (vs.take i).map (·.r) ∧ Below w.heap.size w wr) (fun _ v4 _ => n - (intOf v4).toNat)
 case atStart => exact ⟨0, 0, none, [], Nat.zero_le _, rfl, rfl, ⟨World.ownsRow_nil _ _ _ _, rfl, by simp⟩, by simp, Below.refl _ _⟩
 case round =>
  obtain ⟨i, c3, A3, ys, hi, rfl, rfl, hra, hys, hb⟩ := hrel
  obtain ⟨V0, rfl⟩ : ∃ V0, V0 = wr := ⟨_, rfl⟩
  have HRA := Lib.hid hra
  have HYS := Lib.hid hys
  have HB := Lib.hid hb
  have hT0 : T ≤ V0.heap.size := Nat.le_trans hT hb.size
  clear hra hys hb
  rcases Nat.lt_or_ge i n with hlt | hge
  ·obtain ⟨v, hv⟩ : ∃ v, vs[i]? = some v := ⟨_, List.getElem?_eq_getElem (by rw [HL.out]; exact hlt)⟩
   obtain ⟨ad, rfl, a0, a1, a2, a3, ht1, ht2⟩ := (HR.out.below hT HB.out) i v hv
   obtain ⟨hs1, hs2⟩ := HSZ.out v (List.mem_of_getElem? hv)
   have HV := Lib.hid hv
   have hb1 : Below V0.heap.size V0 (V0.alloc (.cells #[] 5)) := (Below.refl _ _).alloc (Nat.le_refl _) _
   have z1 := (hb1.cell (cell_lt a1)).trans a1
   have HA := Lib.hid (And.intro a0 (And.intro a2 a3))
   have HT1 := Lib.hid ((ht1.bs hT0).below hb1)
   have HT2 := Lib.hid ht2
   have HB1 := Lib.hid hb1
   have HO1 := Lib.hid (show Owb (V0.alloc (.cells #[] 5)) V0.heap.size (some ⟨V0.heap.size, 0, none⟩) 0 0 [] from World.ownsRow_lit V0 #[] 0 (Nat.le_refl _) (Nat.zero_le _) (by rfl))
   clear hv ht1 ht2 a0 a1 a2 a3 hb1
   go_wp2_with (at_builtin; refine wpList_append_bs _ rfl _ _ 23 rfl V0.heap.size 5 rowB (.slice (some ⟨V0.heap.size, 0, none⟩) 0 0) 0 [] rfl HO1.out V0.heap.size v.A1 v.r.line.length v.c1 v.r.line rfl HT1.out v.r.line.length v.r.line (by omega) rfl (by omega) HB1.out.size ?_; intro A1 k1 W2 o2 g2 _; have HB2 := Lib.hid (HB1.out.trans (HO1.out.grew g2 HB1.out.size)); have HO2 := Lib.hid (show Owb W2 V0.heap.size A1 v.r.line.length k1 v.r.line from o2); clear o2 g2 z1)
   obtain ⟨b0', b2', b3'⟩ := HA.out
   have b0 := (HB2.out.cell (cell_lt b0')).trans b0'
   have b2 := (HB2.out.cell (cell_lt b2')).trans b2'
   have b3 := (HB2.out.cell (cell_lt b3')).trans b3'
   clear b0' b2' b3'
   refine wp_region_N [21, 22] (Below W2.heap.size W2) (by kernel_rfl) ?_
   have hH : Below W2.heap.size W2 W2.drew := (Below.refl _ _).drew
   refine tk_ 0 (.slice A3 i c3) [21, 22] rfl hH ?_ ?_
   ·intro V hV; go_simp
   try simp only [Act.put, lay_]
   refine tk_ 1 (.slice (some ad) n c) [3, 4, 5, 19, 20, 21, 22] rfl hH ?_ ?_
   ·intro V hV; go_simp
   try simp only [Act.put, lay_]
   refine tk_ 2 (.int .i64 (i : Int)) [3, 4, 5, 19, 20, 21, 22] rfl hH ?_ ?_
   ·intro V hV; go_simp
   try simp only [Act.put, lay_]
   refine tk_ 3 (.pointer (some (ad.add (i * 4)))) [4, 5, 19, 20, 21, 22] rfl hH ?_ ?_
   ·intro V hV; go_simp
   try simp only [Act.put, lay_]
   refine tk_ 4 (.pointer (some (ad.add (i * 4)))) [5, 19, 20, 21, 22] rfl hH ?_ ?_
   ·intro V hV; go_simp
   try simp only [Act.put, lay_]
   refine tk_ 5 (.int .i64 v.r.state) [19, 20, 21, 22] rfl hH ?_ ?_
   ·intro V hV; have z0 := (hV.cell (cell_lt b0)).trans b0; go_simp
   try simp only [Act.put, lay_]
   refine tk_ 6 (.slice A1 v.r.line.length k1) [19, 20, 21, 22] rfl hH ?_ ?_
   ·intro V hV; go_simp
   try simp only [Act.put, lay_]
   refine tk_ 8 (.slice (some ad) n c) [10, 11, 12, 13, 21, 22] rfl hH ?_ ?_
   ·intro V hV; go_simp
   try simp only [Act.put, lay_]
   refine tk_ 9 (.int .i64 (i : Int)) [10, 11, 12, 13, 21, 22] rfl hH ?_ ?_
   ·intro V hV; go_simp
   try simp only [Act.put, lay_]
   refine tk_ 10 (.pointer (some (ad.add (i * 4)))) [11, 12, 13, 21, 22] rfl hH ?_ ?_
   ·intro V hV; go_simp
   try simp only [Act.put, lay_]
   refine tk_ 11 (.pointer (some ⟨(ad.add (i * 4)).block, (ad.add (i * 4)).off + 2, none⟩)) [12, 13, 21, 22] rfl hH ?_ ?_
   ·intro V hV; go_simp
   try simp only [Act.put, lay_]
   refine tk_ 12 (.slice v.A2 v.r.out.length v.c2) [13, 21, 22] rfl hH ?_ ?_
   ·intro V hV; have z0 := (hV.cell (cell_lt b2)).trans b2; go_simp
   try simp only [Act.put, lay_]
   refine tk_ 14 (.slice (some ad) n c) [16, 17, 18, 19, 20, 21, 22] rfl hH ?_ ?_
   ·intro V hV; go_simp
   try simp only [Act.put, lay_]
   refine tk_ 15 (.int .i64 (i : Int)) [16, 17, 18, 19, 20, 21, 22] rfl hH ?_ ?_
   ·intro V hV; go_simp
   try simp only [Act.put, lay_]
   refine tk_ 16 (.pointer (some (ad.add (i * 4)))) [17, 18, 19, 20, 21, 22] rfl hH ?_ ?_
   ·intro V hV; go_simp
   try simp only [Act.put, lay_]
   refine tk_ 17 (.pointer (some ⟨(ad.add (i * 4)).block, (ad.add (i * 4)).off + 3, none⟩)) [18, 19, 20, 21, 22] rfl hH ?_ ?_
   ·intro V hV; go_simp
   try simp only [Act.put, lay_]
   refine tk_ 18 (.int .i64 v.r.next) [19, 20, 21, 22] rfl hH ?_ ?_
   ·intro V hV; have z0 := (hV.cell (cell_lt b3)).trans b3; go_simp
   try simp only [Act.put, lay_]
   refine wpAnyN_one (i := 7) (by kernel_rfl) rfl (fun K hK => ?_)
   go_simp
   have hH3 : Below W2.heap.size W2 (W2.drew.alloc (.cells #[] 5)) := hH.alloc (Nat.le_refl _) _
   have HO3 := Lib.hid (show Owb (W2.drew.alloc (.cells #[] 5)) W2.heap.size (some ⟨W2.heap.size, 0, none⟩) 0 0 [] from World.ownsRow_lit W2.drew #[] 0 (Nat.le_refl _) (Nat.zero_le _) rfl)
   have HT3 := Lib.hid ((((HT2.out.below hT0 HB2.out).bs (Nat.le_trans hT0 HB2.out.size)).below hH3))
   refine hK.out _ _ (.inr hH3) ?_
   clear hK K hH
   try simp only [Act.put, lay_]
   refine wpAnyN_one (i := 13) (by kernel_rfl) rfl (fun K hK => ?_)
   rw [if_pos (by rfl)]
   refine wp_append_bs _ _ _ 23 rfl W2.heap.size 5 rowB (.slice (some ⟨W2.heap.size, 0, none⟩) 0 0) 0 [] rfl HO3.out W2.heap.size v.A2 v.r.out.length v.c2 v.r.out rfl HT3.out (by omega) hH3.size ?_
   intro A4 k4 W4 ho4 hg4 _
   have hH4 : Below W2.heap.size W2 W4 := hH3.trans (HO3.out.grew hg4 hH3.size)
   have HO4 := Lib.hid (show Owb W4 W2.heap.size A4 v.r.out.length k4 v.r.out by rw [Nat.zero_add, List.nil_append] at ho4; exact ho4)
   rw [Nat.zero_add]
   refine hK.out _ _ (.inr hH4) ?_
   clear hK K hH3 ho4 hg4
   try simp only [Act.put, lay_]
   refine wpAnyN_one (i := 19) (by kernel_rfl) rfl (fun K hK => ?_)
   go_simp
   refine hK.out _ _ (.inr hH4) ?_
   clear hK K
   try simp only [Act.put, lay_]
   have hc5 := Cel.new W4 48 [.int .i64 v.r.state, .slice A1 v.r.line.length k1, .slice A4 v.r.out.length k4, .int .i64 v.r.next]
   have hw5 : Below W4.heap.size W4 (W4.alloc (.cells #[.int .i64 v.r.state, .slice A1 v.r.line.length k1, .slice A4 v.r.out.length k4, .int .i64 v.r.next] 48)) := (Below.refl _ _).alloc (Nat.le_refl _) _
   have hH5 : Below W2.heap.size W2 (W4.alloc (.cells #[.int .i64 v.r.state, .slice A1 v.r.line.length k1, .slice A4 v.r.out.length k4, .int .i64 v.r.next] 48)) := hH4.trans (hw5.mono hH4.size)
   have HSRC := Lib.hid (Ry.src (m := 1) (Ry.of_cel hc5) (by simp))
   have HR5 := Lib.hid ((HRA.out.below (HB2.out.trans (hH4.mono HB2.out.size))).below hw5)
   have HT5 := Lib.hid (And.intro ((By.of_own HO2.out).below (hH4.trans (hw5.mono hH4.size))) ((By.of_own HO4.out).below hw5))
   have HB5 := Lib.hid (HB.out.trans ((HB2.out.mono HB.out.size).trans (hH5.mono (Nat.le_trans HB.out.size HB2.out.size))))
   clear hc5
   refine wpAnyN_one (i := 20) (by kernel_rfl) rfl (fun K hK => ?_)
   go_simp
   refine hK.out _ _ (.inr hH5) ?_
   clear hK K hH4 hH5 hw5
   try simp only [Act.put, lay_]
   refine wpAnyN_one (i := 21) (by kernel_rfl) rfl (fun K hK => ?_)
   rw [if_pos (by rfl)]
   refine wp_append_any _ _ _ 37 rfl w.heap.size 48 rowRu (.slice A3 i c3) i (rflat ys) rfl HR5.out.own (some ⟨W4.heap.size, 0, none⟩) 1 1 [.int .i64 v.r.state, .slice A1 v.r.line.length k1, .slice A4 v.r.out.length k4, .int .i64 v.r.next] rfl rfl HSRC.out (by intro u hu; simp at hu; rcases hu with rfl | rfl | rfl | rfl <;> rfl) (i + 1) _ rfl rfl (by unfold maxLen; omega) (by omega) HB5.out.size ?_
   intro A8 c8 w8 ho8 hg8 _
   have HR8 := Lib.hid (HR5.out.pushed (v := ⟨v.r, A1, k1, A4, k4⟩) HT5.out hg8 (by rw [rflat_app]; exact ho8))
   have HB8 := Lib.hid (HB5.out.trans (HR5.out.grew hg8 HB5.out.size))
   clear ho8 hg8
   refine hK.out _ _ (.inl (by decide)) ?_
   clear hK K
   try simp only [Act.put, lay_]
   refine wpAnyN_one (i := 22) (by kernel_rfl) rfl (fun K hK => ?_)
   go_simp
   refine hK.out _ _ (.inl (by decide)) ?_
   clear hK K
   try simp only [Act.put, lay_]
   refine wpAnyN_done (by kernel_rfl) ?_ _
   go_wp2_with fail
   exact ⟨⟨i + 1, c8, A8, _, by omega, by rw [show ((i + 1 : Nat) : Int) = (i : Int) + 1 by omega], rfl, HR8.out, by rw [List.take_add_one, HV.out, List.map_append, List.map_append, HYS.out]; rfl, HB8.out⟩, by simp [intOf]; omega⟩
  ·obtain rfl : i = n := by omega
   have HYE := Lib.hid (show ys.map (·.r) = vs.map (·.r) by have := HYS.out; rwa [List.take_of_length_le (by rw [HL.out]; exact Nat.le_refl _)] at this)
   go_wp2_with fail
   go_ret
   exact ⟨A3, c3, ys, rfl, HRA.out, HYE.out, HB.out⟩
end Go.Proofs.Ytfllngpncnhfnaa.Peer
end
