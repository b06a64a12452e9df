/-
Texts: PeerAs PeerFew PeerSame LinkBytes LinkSend
-/
import Derived.Test.YtnjmdgnghidjhaaLinkPlays0
import Derived.Test.YtnjmdgnghidjhaaLinkPlays1
import Derived.Test.YtnjmdgnghidjhaaLinkPlays2
import Derived.BigQuiet
import Derived.Deep.CutRange
set_option linter.unusedVariables false
set_option linter.unusedSimpArgs false
set_option maxRecDepth 100000
set_option maxHeartbeats 4000000
namespace Go.Proofs.Ytnjmdgnghidjhaa.Ord
end Go.Proofs.Ytnjmdgnghidjhaa.Ord
section
namespace Go.Proofs.Ytnjmdgnghidjhaa.Peer
open Go.RowKit Go.Proofs.Ytnjmdgnghidjhaa.Ord
open Lex (Tx fw4 fw4_cel fw4_frm)
open Vars (scell rowStr)
open Rec (Vt Tvs txt)
theorem tx_str {w : World} {T : Nat} {A : Option Addr} {t : List B} (h : Tx w T A t) (hT : T ≤ w.heap.size) (c : Nat) : (convert 37 9 (.slice A t.length c)).run Try.prog w = .ok (.string (str t)) w :=
 (Bs.bp (h.bs hT)).string c Try.underlying37 Try.underlying5 Try.underlying9
def AsSays (w : World) (s : Int) (pt lg : List B) (n : Nat) (ls : List Vt) (e : Ending) (w' : World) : Prop := ∃ A' c', e = .returned (.agg #[.int .i64 s, .string (str pt), .string (str lg), .slice A' n c']) ∧ Lnr w' A' (txt ls) ∧ Below w.heap.size w w'
theorem as17 (w : World) (T : Nat) (s : Int) (PA : Option Addr) (pc : Nat) (pt : List B) (LA : Option Addr) (lc : Nat) (lg : List B) (A : Option Addr) (n c : Nat) (ls : List Vt) (hp : Tx w T PA pt) (hg : Tx w T LA lg) (hls : Tvs w T A ls) (hT : T ≤ w.heap.size) (hl : ls.length = n) (hn : n ≤ 100000) :
  Calls Try.prog 17 #[.agg #[.int .i64 s, .slice PA pt.length pc, .slice LA lg.length lc, .slice A n c]] w (AsSays w s pt lg n ls) := by
 obtain ⟨w0, hw0⟩ : ∃ w0, w0 = (w.alloc (.cells #[.int .i64 s, .slice PA pt.length pc, .slice LA lg.length lc, .slice A n c] 49)).alloc (.cells #[.int .i64 0, .string ⟨#[]⟩, .string ⟨#[]⟩, .slice none 0 0] 34) := ⟨_, rfl⟩
 have hs0 : w0.heap.size = w.heap.size + 1 + 1 := by rw [hw0]; simp
 have hb0 : Below w.heap.size w w0 := by rw [hw0]; exact ((Below.refl _ _).alloc (Nat.le_refl _) _).alloc (by simp) _
 have hci : Cel w0 w.heap.size 49 [.int .i64 s, .slice PA pt.length pc, .slice LA lg.length lc, .slice A n c] := by rw [hw0]; exact (Cel.new w 49 [.int .i64 s, .slice PA pt.length pc, .slice LA lg.length lc, .slice A n c]).alloc _
 have hcr : Cel w0 (w.heap.size + 1) 34 [.int .i64 0, .string ⟨#[]⟩, .string ⟨#[]⟩, .slice none 0 0] := by
  have := Cel.new (w.alloc (.cells #[.int .i64 s, .slice PA pt.length pc, .slice LA lg.length lc, .slice A n c] 49)) 34 [.int .i64 0, .string ⟨#[]⟩, .string ⟨#[]⟩, .slice none 0 0]
  rw [World.size_alloc] at this
  rw [hw0]; exact this
 obtain ⟨w1, hw1⟩ : ∃ w1, w1 = w0.alloc (.cells #[.int .i64 s, .string (str pt), .string (str lg), .slice none 0 0] 34) := ⟨_, rfl⟩
 have hb1 : Below w0.heap.size w0 w1 := by rw [hw1]; exact (Below.refl _ _).alloc (Nat.le_refl _) _
 have hco : Cel w1 (w.heap.size + 1 + 1) 34 [.int .i64 s, .string (str pt), .string (str lg), .slice none 0 0] := by
  rw [hw1, ← hs0]; exact Cel.new w0 _ _
 have k0 := hci.cell 0
 have k1 := hci.cell 1
 have k2 := hci.cell 2
 have y1 := tx_str (hp.below hT hb0) (Nat.le_trans hT hb0.size) pc
 have y2 := tx_str (hg.below hT hb0) (Nat.le_trans hT hb0.size) lc
 have HB2 := Lib.hid (hb0.trans (hb1.mono hb0.size))
 have HI2 := Lib.hid (Cel.below hci hb1 hci.lt)
 have HR2 := Lib.hid (Cel.below hcr hb1 hcr.lt)
 have HC2 := Lib.hid hco
 have HLS := Lib.hid hls
 have HL := Lib.hid hl
 have HW0 := Lib.hid hw0
 have HW1 := Lib.hid hw1
 have HS0 := Lib.hid hs0
 clear hp hg hls hl hw1 hb1 hb0 hci hcr hco hw0
 go_enter Try.func17, Try.ntmps17
 go_upto_region 1 with fail
 rw [← HW0.out]
 go_upto_region 2 with fail
 rw [← HW1.out]
 clear k0 k1 k2 y1 y2 HW0 HW1
 go_wp2_with fail
 go_loopw [4] (fun v4 wr => ∃ (i : Nat) (A5 : Option Addr) (c5 : Nat), i ≤ n ∧ v4 = .int .i64 (i : Int) ∧ Below w.heap.size w wr ∧ Cel wr w.heap.size 49 [.int .i64 s, .slice PA pt.length pc, .slice LA lg.length lc, .slice A n c] ∧ Cel wr (w.heap.size + 1) 34 [.int .i64 0, .string ⟨#[]⟩, .string ⟨#[]⟩, .slice none 0 0] ∧ Cel wr (w.heap.size + 1 + 1) 34 [.int .i64 s, .string (str pt), .string (str lg), .slice A5 i c5] ∧ wr.ownsRow w.heap.size 9 1 (.slice A5 i c5) i (((txt ls).take i).map scell)) (fun v4 _ => n - (intOf v4).toNat)
 case atStart => exact ⟨0, none, 0, Nat.zero_le _, rfl, HB2.out, HI2.out, HR2.out, HC2.out, World.ownsRow_nil _ _ _ _⟩
 case round =>
  clear HB2 HI2 HR2 HC2
  obtain ⟨i, A5, c5, hi, rfl, hb, hci, hcr, hco, hro⟩ := hrel
  obtain ⟨V0, hV0⟩ : ∃ V0, V0 = wr := ⟨_, rfl⟩
  rw [← hV0] at hb hci hcr hco hro ⊢
  clear hV0
  have HB := Lib.hid hb
  have HCI := Lib.hid hci
  have HCR := Lib.hid hcr
  have HCO := Lib.hid hco
  have HRO := Lib.hid hro
  have HT0 := Lib.hid (Nat.le_trans hT hb.size)
  have k3 := hci.cell 3
  rcases Nat.lt_or_ge i n with hlt | hge
  ·obtain ⟨v, hv⟩ : ∃ v, ls[i]? = some v := ⟨_, List.getElem?_eq_getElem (by rw [HL.out]; exact hlt)⟩
   have hls2 := HLS.out.below hT hb
   obtain ⟨ad, rfl, a0⟩ := hls2.cr i v hv
   have htx := (hls2.tx v (List.mem_of_getElem? hv)).1
   change _ = some (Value.slice v.A v.t.length v.c) at a0
   have HV := Lib.hid hv
   have HTX := Lib.hid htx
   have HA0 := Lib.hid a0
   have hH : Below V0.heap.size V0 V0.drew := (Below.refl _ _).drew
   clear hb hci hcr hco hro hls2 htx hv
   go_upto_region 5 with fail
   refine wp_region_N [9, 10, 11] (Below V0.heap.size V0) (by kernel_rfl) ?_
   refine tk_ 0 (.pointer (some ⟨w.heap.size + 1 + 1, 3, none⟩)) [1, 9, 10, 11] rfl hH ?_ ?_
   ·intro V hV; go_simp
   try simp only [Act.put, lay_]
   refine tk_ 1 (.slice A5 i c5) [9, 10, 11] rfl hH ?_ ?_
   ·intro V hV; have hc := Cel.below HCO.out hV HCO.out.lt; have q3 := hc.cell 3; change _ = some (Value.slice A5 i c5) at q3; go_simp
   try simp only [Act.put, lay_]
   refine tk_ 2 (.pointer (some ⟨w.heap.size, 3, none⟩)) [3, 5, 6, 7, 8, 9, 10, 11] rfl hH ?_ ?_
   ·intro V hV; go_simp
   try simp only [Act.put, lay_]
   refine tk_ 3 (.slice (some ad) n c) [5, 6, 7, 8, 9, 10, 11] rfl hH ?_ ?_
   ·intro V hV; have hc := Cel.below HCI.out hV HCI.out.lt; have q3 := hc.cell 3; change _ = some (Value.slice (some ad) n c) at q3; go_simp
   try simp only [Act.put, lay_]
   refine tk_ 4 (.int .i64 (i : Int)) [5, 6, 7, 8, 9, 10, 11] rfl hH ?_ ?_
   ·intro V hV; go_simp
   try simp only [Act.put, lay_]
   refine tk_ 5 (.pointer (some (ad.add i))) [6, 7, 8, 9, 10, 11] rfl hH ?_ ?_
   ·intro V hV; go_simp
   try simp only [Act.put, lay_]
   refine tk_ 6 (.slice v.A v.t.length v.c) [7, 8, 9, 10, 11] rfl hH ?_ ?_
   ·intro V hV; have b0 := (hV.cell (cell_lt HA0.out)).trans HA0.out; go_simp
   try simp only [Act.put, lay_]
   refine tk_ 7 (.string (str v.t)) [8, 9, 10, 11] rfl hH ?_ ?_
   ·intro V hV; have y := tx_str (HTX.out.below HT0.out hV) (Nat.le_trans HT0.out hV.size) v.c; go_simp
   try simp only [Act.put, lay_]
   refine wpAnyN_one (i := 8) (by kernel_rfl) rfl (fun K hK => ?_)
   go_simp
   have hH6 : Below V0.heap.size V0 (V0.drew.alloc (.cells #[.string (str v.t)] 9)) := hH.alloc (Nat.le_refl _) _
   have HB6 := Lib.hid (HB.out.trans (hH6.mono HB.out.size))
   have HRO6 := Lib.hid (own_frm (l := []) HRO.out (Frm.of_below hH6) (by simp))
   have HCI6 := Lib.hid (Cel.below HCI.out hH6 HCI.out.lt)
   have HCR6 := Lib.hid (Cel.below HCR.out hH6 HCR.out.lt)
   have HCO6 := Lib.hid (Cel.below HCO.out hH6 HCO.out.lt)
   have HSRC := Lib.hid (show Src (V0.drew.alloc (.cells #[.string (str v.t)] 9)) (some ⟨V0.heap.size, 0, none⟩) 1 [.string (str v.t)] from Ry.src (m := 1) (Ry.of_cel (Cel.new V0.drew 9 [.string (str v.t)])) (by simp))
   refine hK.out _ _ (.inr hH6) ?_
   clear hK K hH hH6
   try simp only [Act.put, lay_]
   refine wpAnyN_one (i := 9) (by kernel_rfl) rfl (fun K hK => ?_)
   rw [if_pos (by rfl)]
   refine wp_append_any _ _ _ 32 rfl w.heap.size 9 rowStr (.slice A5 i c5) i (((txt ls).take i).map scell) rfl HRO6.out (some ⟨V0.heap.size, 0, none⟩) 1 1 [.string (str v.t)] rfl rfl HSRC.out (by intro u hu; rw [List.mem_singleton.1 hu]; rfl) (i + 1) (((txt ls).take (i + 1)).map scell) rfl (by rw [List.take_add_one, show (txt ls)[i]? = some v.t by unfold Rec.txt; rw [List.getElem?_map, HV.out]; rfl, List.map_append]; rfl) (by unfold maxLen; omega) (by omega) HB6.out.size ?_
   intro A8 c8 w8 ho8 hg8 _
   have HB8 := Lib.hid (below_ownP HRO6.out HB6.out (Nat.le_refl _) hg8)
   have HRO8 := Lib.hid ho8
   have HCI8 := Lib.hid (Cel.grown HCI6.out hg8 (own_ty_ne HRO6.out HCI6.out (by decide)))
   have HCR8 := Lib.hid (Cel.grown HCR6.out hg8 (own_ty_ne HRO6.out HCR6.out (by decide)))
   have hco8 := Cel.grown HCO6.out hg8 (own_ty_ne HRO6.out HCO6.out (by decide))
   have q3 := hco8.cell 3
   have f3 := hco8.free 3
   change _ = some (Value.slice A5 i c5) at q3
   have HCO8 := Lib.hid hco8
   have HF9 := Lib.hid ((Frm.refl [w.heap.size + 1 + 1] w8).set (p := ⟨w.heap.size + 1 + 1, 3, none⟩) (by simp) (.slice A8 (i + 1) c8))
   clear ho8 hg8 hco8
   refine hK.out _ _ (.inl (by decide)) ?_
   clear hK K
   try simp only [Act.put, lay_]
   refine wpAnyN_one (i := 10) (by kernel_rfl) rfl (fun K hK => ?_)
   go_simp
   refine hK.out _ _ (.inl (by decide)) ?_
   clear hK K
   try simp only [Act.put, lay_]
   refine wpAnyN_one (i := 11) (by kernel_rfl) rfl (fun K hK => ?_)
   go_simp
   refine hK.out _ _ (.inl (by decide)) ?_
   clear hK K q3 f3
   try simp only [Act.put, lay_]
   refine wpAnyN_done (by kernel_rfl) ?_ _
   go_wp2_with fail
   exact ⟨⟨i + 1, A8, c8, hlt, by rw [show ((i + 1 : Nat) : Int) = (i : Int) + 1 by omega], HB8.out.trans (HF9.out.below HB8.out.size (by intro r hr; rw [List.mem_singleton.1 hr]; omega)), Cel.frm HCI8.out HF9.out (by simp; omega), Cel.frm HCR8.out HF9.out (by simp), HCO8.out.set 3 _, own_frm HRO8.out HF9.out (fun r hr => by rw [List.mem_singleton.1 hr]; exact own_ty_ne HRO8.out HCO8.out (by decide))⟩, by simp [intOf]; omega⟩
  ·obtain rfl : i = n := by omega
   have HE := Lib.hid (show (txt ls).take i = txt ls from List.take_of_length_le (by unfold Rec.txt; rw [List.length_map, HL.out]; exact Nat.le_refl _))
   have q0 := hco.cell 0
   have q1 := hco.cell 1
   have q2 := hco.cell 2
   have q3 := hco.cell 3
   have r0 := hcr.cell 0
   have r1 := hcr.cell 1
   have r2 := hcr.cell 2
   have r3 := hcr.cell 3
   have f0 := hcr.free 0
   have f1 := hcr.free 1
   have f2 := hcr.free 2
   have f3 := hcr.free 3
   have HC6 := Lib.hid (fw4_cel (a := .int .i64 s) (b := .string (str pt)) (c := .string (str lg)) (d := .slice A5 i c5) hcr)
   have HF6 := Lib.hid (fw4_frm V0 (w.heap.size + 1) (.int .i64 s) (.string (str pt)) (.string (str lg)) (.slice A5 i c5))
   unfold fw4 at HC6 HF6
   clear hb hci hcr hco hro
   go_wp2_with fail
   refine bodyPost_ret (v := .agg #[.int .i64 s, .string (str pt), .string (str lg), .slice A5 i c5]) (results_atP 2 34 Try.results17 ⟨w.heap.size + 1, 0, none⟩ rfl _ (load_peer HC6.out)) rfl ?_
   refine ⟨A5, c5, rfl, ?_, HB.out.trans (HF6.out.below HB.out.size (by intro q hq; rw [List.mem_singleton.1 hq]; omega))⟩
   have := HRO.out
   rw [HE.out] at this
   exact (Ry.of_own this (by decide)).frm HF6.out fun q hq => by rw [List.mem_singleton.1 hq]; exact Cel.not_ty HCR.out (by decide)
end Go.Proofs.Ytnjmdgnghidjhaa.Peer
end
section
namespace Go.Proofs.Ytnjmdgnghidjhaa.Peer
open Go.RowKit
open Lex (Tx b_ne)
open Rec (Vt Tvs txt)
def LessSays (w : World) (P : Prop) (e : Ending) (w' : World) : Prop := ∃ b, e = .returned (.bool b) ∧ Below w.heap.size w w' ∧ (b = true → P)
theorem take_allP {α : Type} {l : List α} {i : Nat} {x : α} (h : l[i]? = some x) {P : α → Prop} (h1 : ∀ y ∈ l.take i, P y) (h2 : P x) : ∀ y ∈ l.take (i + 1), P y := by
 rw [List.take_add_one, h]
 intro y hy
 rcases List.mem_append.1 hy with hy | hy
 ·exact h1 y hy
 ·simp at hy; subst hy; exact h2
theorem fewRules (w : World) (T : Nat) (A : Option Addr) (n c : Nat) (vs : List Rl) (h : Rls w T A vs) (hT : T ≤ w.heap.size) (hl : vs.length = n) (hn : n ≤ maxLen) (hm : ∀ v ∈ vs, v.r.line.length ≤ maxLen ∧ v.r.out.length ≤ maxLen) :
  Calls Try.prog 5 #[.slice A n c] w (LessSays w (n ≤ 20 ∧ ∀ v ∈ vs, v.r.line.length ≤ 60 ∧ v.r.out.length ≤ 60)) := by
 unfold maxLen at hn hm
 have HR := Lib.hid h
 have HL := Lib.hid hl
 have HM := Lib.hid hm
 clear h hl hm
 go_enter Try.func5, Try.ntmps5
 go_wp2_with fail
 go_loopw [3] (fun v3 wr => ∃ (i : Nat), i ≤ n ∧ v3 = .int .i64 (i : Int) ∧ Below w.heap.size w wr ∧ Hid (∀ v ∈ vs.take i, v.r.line.length ≤ 60 ∧ v.r.out.length ≤ 60)) (fun v3 _ => n - (intOf v3).toNat)
 case atStart => exact ⟨0, Nat.zero_le _, rfl, Below.refl _ _, Lib.hid (by simp)⟩
 case round =>
  obtain ⟨i, hi, rfl, hb, HK⟩ := hrel
  obtain ⟨V, hV⟩ : ∃ V, V = wr := ⟨_, rfl⟩
  rw [← hV] at hb ⊢
  clear hV
  have HB := Lib.hid hb
  rcases Nat.lt_or_ge i n with hlt | hge
  ·obtain ⟨v, hv⟩ : ∃ v, vs[i]? = some v := ⟨_, List.getElem?_eq_getElem (by rw [HL.out]; exact hlt)⟩
   obtain ⟨ad, rfl, _, a1, a2, _⟩ := (HR.out.below hT hb) i v hv
   obtain ⟨hm1, hm2⟩ := HM.out v (List.mem_of_getElem? hv)
   obtain ⟨k1, hk1⟩ : ∃ k, k = v.r.line.length := ⟨_, rfl⟩
   obtain ⟨k2, hk2⟩ : ∃ k, k = v.r.out.length := ⟨_, rfl⟩
   rw [← hk1] at a1 hm1
   rw [← hk2] at a2 hm2
   have HN := Lib.hid (fun (h1 : k1 ≤ 60) (h2 : k2 ≤ 60) => take_allP hv (P := fun v => v.r.line.length ≤ 60 ∧ v.r.out.length ≤ 60) HK.out (by rw [← hk1, ← hk2]; exact ⟨h1, h2⟩))
   generalize v.A1 = A1 at *
   generalize v.c1 = c1 at *
   generalize v.A2 = A2 at *
   generalize v.c2 = c2 at *
   clear hb hv hk1 hk2
   by_cases h1 : 60 < k1
   ·have z1 : (60 : Int) < (k1 : Int) := by omega
    clear h1
    go_wp2_with fail
    go_ret
    exact ⟨false, rfl, HB.out, fun h => by cases h⟩
   ·have z1 : decide ((60 : Int) < (k1 : Int)) = false := by simp; omega
    by_cases h2 : 60 < k2
    ·have z2 : (60 : Int) < (k2 : Int) := by omega
     clear h1 h2
     go_wp2_with fail
     go_ret
     exact ⟨false, rfl, HB.out, fun h => by cases h⟩
    ·have z2 : decide ((60 : Int) < (k2 : Int)) = false := by simp; omega
     have HN2 := Lib.hid (HN.out (by omega) (by omega))
     clear h1 h2
     go_wp2_with fail
     exact ⟨⟨i + 1, by omega, by rw [show ((i + 1 : Nat) : Int) = (i : Int) + 1 by omega], HB.out, HN2⟩, by simp [intOf]; omega⟩
  ·have HN := Lib.hid (show ∀ v ∈ vs, v.r.line.length ≤ 60 ∧ v.r.out.length ≤ 60 from fun v hv => HK.out v (by rw [List.take_of_length_le (by rw [HL.out]; exact hge)]; exact hv))
   have zi : decide ((i : Int) < (n : Int)) = false := by simp; omega
   clear hb
   by_cases h1 : n ≤ 20
   ·have HALL := Lib.hid (And.intro h1 HN.out)
    have z1 : decide ((n : Int) ≤ 20) = true := by simp; omega
    clear h1
    go_wp2_with fail
    go_ret
    exact ⟨true, rfl, HB.out, fun _ => HALL.out⟩
   ·have z1 : decide ((n : Int) ≤ 20) = false := by simp; omega
    go_wp2_with fail
    go_ret
    exact ⟨false, rfl, HB.out, fun h => by cases h⟩
end Go.Proofs.Ytnjmdgnghidjhaa.Peer
end
section
namespace Go.Proofs.Ytnjmdgnghidjhaa.Peer
open Go.RowKit
def Lns (w : World) (A : Option Addr) (ls : List ByteArray) : Prop := ∀ i x, ls[i]? = some x → ∃ ad, A = some ad ∧ w.cell? (ad.add i) = some (.string x)
theorem Lns.below {w w' : World} {A : Option Addr} {ls : List ByteArray} (h : Lns w A ls) (hb : Below w.heap.size w w') : Lns w' A ls := fun i x hi => by
 obtain ⟨ad, e, hc⟩ := h i x hi
 exact ⟨ad, e, (hb.cell (cell_lt hc)).trans hc⟩
theorem same17 (w : World) (s : Int) (pt lg : ByteArray) (A1 A2 : Option Addr) (n c1 c2 : Nat) (ls : List ByteArray) (h1 : Lns w A1 ls) (h2 : Lns w A2 ls) (hl : ls.length = n) (hn : n ≤ maxLen) :
  Calls Try.prog 16 #[.agg #[.int .i64 s, .string pt, .string lg, .slice A1 n c1], .agg #[.int .i64 s, .string pt, .string lg, .slice A2 n c2]] w fun e w' => e = .returned (.bool true) ∧ Below w.heap.size w w' := by
 unfold maxLen at hn
 obtain ⟨w1, hw1⟩ : ∃ w1, w1 = (w.alloc (.cells #[.int .i64 s, .string pt, .string lg, .slice A1 n c1] 34)).alloc (.cells #[.int .i64 s, .string pt, .string lg, .slice A2 n c2] 34) := ⟨_, rfl⟩
 have hb1 : Below w.heap.size w w1 := by rw [hw1]; exact ((Below.refl _ _).alloc (Nat.le_refl _) _).alloc (by simp) _
 have ca : Cel w1 w.heap.size 34 [.int .i64 s, .string pt, .string lg, .slice A1 n c1] := by rw [hw1]; exact (Cel.new w _ _).alloc _
 have cb : Cel w1 (w.heap.size + 1) 34 [.int .i64 s, .string pt, .string lg, .slice A2 n c2] := by rw [hw1]; exact (by simpa using Cel.new (w.alloc (.cells #[.int .i64 s, .string pt, .string lg, .slice A1 n c1] 34)) 34 [.int .i64 s, .string pt, .string lg, .slice A2 n c2])
 have p0 := ca.cell 0
 have p1 := ca.cell 1
 have p2 := ca.cell 2
 have p3 := ca.cell 3
 have q0 := cb.cell 0
 have q1 := cb.cell 1
 have q2 := cb.cell 2
 have q3 := cb.cell 3
 have HB1 := Lib.hid hb1
 have CA := Lib.hid ca
 have CB := Lib.hid cb
 have H1 := Lib.hid (h1.below hb1)
 have H2 := Lib.hid (h2.below hb1)
 have HL := Lib.hid hl
 clear hb1 ca cb h1 h2 hl
 go_enter Try.func16, Try.ntmps16
 go_wp2_with fail
 rw [← hw1]
 clear hw1
 go_wp2_with fail
 clear p0 p1 p2 p3 q0 q1 q2 q3
 go_loopw [5] (fun v5 wr => ∃ (i : Nat), i ≤ n ∧ v5 = .int .i64 (i : Int) ∧ Hid (Below w1.heap.size w1 wr)) (fun v5 _ => n - (intOf v5).toNat)
 case atStart => exact ⟨0, Nat.zero_le _, rfl, Lib.hid (Below.refl _ _)⟩
 case round =>
  obtain ⟨i, hi, rfl, HB⟩ := hrel
  have p3 := (CA.out.below HB.out CA.out.lt).cell 3
  have q3 := (CB.out.below HB.out CB.out.lt).cell 3
  rcases Nat.lt_or_ge i n with hlt | hge
  ·obtain ⟨x, hx⟩ : ∃ x, ls[i]? = some x := ⟨_, List.getElem?_eq_getElem (by rw [HL.out]; exact hlt)⟩
   obtain ⟨a1, rfl, e1⟩ := H1.out.below HB.out i x hx
   obtain ⟨a2, rfl, e2⟩ := H2.out.below HB.out i x hx
   clear hx
   go_wp2_with fail
   go_quiet (fail)
   obtain ⟨W0, hW0⟩ : ∃ W0, W0 = wr.drewN nq := ⟨_, rfl⟩
   rw [← hW0]
   have HB0 := Lib.hid (show Below w1.heap.size w1 W0 by rw [hW0]; exact ⟨HB.out.os, HB.out.tape, HB.out.output, HB.out.size, HB.out.block⟩)
   clear hW0
   go_wp2_with fail
   exact ⟨⟨i + 1, by omega, by rw [show ((i + 1 : Nat) : Int) = (i : Int) + 1 by omega], HB0⟩, by simp [intOf]; omega⟩
  ·have zi : decide ((i : Int) < (n : Int)) = false := by simp; omega
   go_wp2_with fail
   go_ret
   exact ⟨rfl, HB1.out.trans (HB.out.mono HB1.out.size)⟩
end Go.Proofs.Ytnjmdgnghidjhaa.Peer
end
section
namespace Go.Proofs.Ytnjmdgnghidjhaa.Peer
open Go.RowKit
open Lex (Owb lit_one rowB)
def BySays (w : World) (x : List B) (e : Ending) (w' : World) : Prop := ∃ A' c', e = .returned (.slice A' (x.length + 2) c') ∧ Owb w' w.heap.size A' (x.length + 2) c' (wire x) ∧ Below w.heap.size w w'
theorem bytes_ (w : World) (D : Nat) (A : Option Addr) (n c : Nat) (x : List (BitVec 8)) (hx : Bs w D A n x) (hD : D ≤ w.heap.size) (hn : n ≤ 100000) : Calls Try.prog 24 #[.slice A n c] w (BySays w x) := by
 have HX := Lib.hid hx
 have HE := Lib.hid (show wire x = [21#8] ++ x ++ [10#8] by rfl)
 clear hx
 obtain ⟨W1, hW1⟩ : ∃ W1, W1 = w.alloc (.cells #[.int .u8 21] 5) := ⟨_, rfl⟩
 obtain ⟨A1, hA1⟩ : ∃ A, A = some (⟨w.heap.size, 0, none⟩ : Addr) := ⟨_, rfl⟩
 have HO1 := Lib.hid (show Owb W1 w.heap.size A1 1 1 [21#8] from by rw [hW1, hA1]; exact World.ownsRow_lit w #[.int .u8 21] 1 (Nat.le_refl _) (by decide) rfl)
 have HB1 := Lib.hid (show Below w.heap.size w W1 from by rw [hW1]; exact (Below.refl _ _).alloc (Nat.le_refl _) _)
 have HW := Lib.hid (And.intro hW1 hA1)
 clear hW1 hA1
 go_enter Try.func24, Try.ntmps24
 go_wp2_with (first | (rw [← HW.out.1, ← HW.out.2]; at_builtin; refine wpList_append_bs _ rfl _ _ 37 rfl w.heap.size 5 rowB (.slice A1 1 1) 1 [21#8] rfl HO1.out D A n c x rfl (HX.out.below (HB1.out.mono hD)) (1 + n) ([21#8] ++ x) (by omega) rfl (by omega) HB1.out.size ?_; intro A2 k2 W2 o2 g2 _; have HB2 := Lib.hid (HB1.out.trans (HO1.out.grew g2 HB1.out.size)); have HO2 := Lib.hid (show Owb W2 w.heap.size A2 (1 + n) k2 ([21#8] ++ x) from o2); clear o2 g2; clear HW HB1 HO1) | (at_builtin; refine wpList_append_bs _ rfl _ _ 37 rfl w.heap.size 5 rowB (.slice A2 (1 + n) k2) (1 + n) ([21#8] ++ x) rfl (HO2.out.alloc _) (W2.heap.size + 1) _ 1 _ [10#8] rfl (lit_one W2 10#8) (1 + n + 1) ([21#8] ++ x ++ [10#8]) (by omega) rfl (by omega) (Nat.le_trans HB2.out.size (by simp)) ?_; intro A3 k3 W3 o3 g3 _; have HB3 := Lib.hid (HB2.out.trans (((Below.refl _ _).alloc HB2.out.size _).trans (Owb.grew (World.ownsRow.alloc HO2.out _) g3 (Nat.le_trans HB2.out.size (by simp))))); have HO3 := Lib.hid (show Owb W3 w.heap.size A3 (1 + n + 1) k3 ([21#8] ++ x ++ [10#8]) from o3); clear o3 g3))
 go_ret
 obtain rfl := HX.out.len
 rw [show 1 + x.length + 1 = x.length + 2 by omega]
 refine ⟨A3, k3, rfl, ?_, HB3.out⟩
 rw [HE.out]
 have := HO3.out
 rw [show 1 + x.length + 1 = x.length + 2 by omega] at this
 exact this
end Go.Proofs.Ytnjmdgnghidjhaa.Peer
end
section
namespace Go.Proofs.Ytnjmdgnghidjhaa.Peer
open Go.RowKit Go.Proofs.Ytnjmdgnghidjhaa.Ord
open Lex (Owb Tx bs_cut)
theorem keep_cell {w w' : World} {g : Nat} {p : Addr} {v : Value} (hf : Frm [g] w w') (hp : w.cell? p = some v) (hne : p.block ≠ g) : w'.cell? p = some v :=
 (World.cell?_of_block (hf.block p.block (cell_lt hp) (by simpa using hne))).trans hp
theorem tx_frm {w w' : World} {T g : Nat} {A : Option Addr} {t : List B} (h : Tx w T A t) (hf : Frm [g] w w') (hT : T ≤ g) (hg : ∀ o fz, w.heap[g]? ≠ some (Obj.cells o 5 fz)) (hTw : T ≤ w.heap.size) : Tx w' T A t := by
 rcases h with h | h
 ·exact .inl (h.keep fun p hp => World.cell?_of_block (hf.block p.block (by omega) (by simp; omega)))
 ·exact .inr (h.keep fun k cs fz hk => hf.block k (Array.getElem?_eq_some_iff.1 hk).1 (by intro e; rw [List.mem_singleton.1 e] at hk; exact hg _ _ hk))
theorem Rls.frm {w w' : World} {T g : Nat} {A : Option Addr} {vs : List Rl} (h : Rls w T A vs) (hf : Frm [g] w w') (hT : T ≤ g) (hg : ∀ o fz, w.heap[g]? ≠ some (Obj.cells o 5 fz)) (hTw : T ≤ w.heap.size) (hlow : ∀ ad, A = some ad → ad.block ≠ g) : Rls w' T A vs := fun i v hi => by
 obtain ⟨ad, e, h0, h1, h2, h3, h4, h5⟩ := h i v hi
 have hb := hlow ad e
 have hb' : (ad.add (i * 4)).block ≠ g := by rw [add_block]; exact hb
 exact ⟨ad, e, keep_cell hf h0 hb', keep_cell hf h1 hb', keep_cell hf h2 hb', keep_cell hf h3 hb', tx_frm h4 hf hT hg hTw, tx_frm h5 hf hT hg hTw⟩
def fw14 (w : World) (g : Nat) (a b c d : Value) : World := (((w.setCell ⟨g, 1, none⟩ a).setCell ⟨g, 2, none⟩ b).setCell ⟨g, 3, none⟩ c).setCell ⟨g, 4, none⟩ d
theorem fw14_cel {w : World} {g : Nat} {t : TypeId} {r x y z u v a b c d : Value} (h : Cel w g t [r, x, y, z, u, v]) : Cel (fw14 w g a b c d) g t [r, a, b, c, d, v] := (((h.set 1 a).set 2 b).set 3 c).set 4 d
theorem fw14_frm (w : World) (g : Nat) (a b c d : Value) : Frm [g] w (fw14 w g a b c d) := ((((Frm.refl [g] w).set (p := ⟨g, 1, none⟩) (by simp) a).set (p := ⟨g, 2, none⟩) (by simp) b).set (p := ⟨g, 3, none⟩) (by simp) c).set (p := ⟨g, 4, none⟩) (by simp) d
structure Lkm (V : World) (g : Nat) (R : Value) (q : Pe) (A : Option Addr) (nl k : Nat) (a : Int) : Prop where
 cel : Cel V g 36 [R, .int .i64 q.state, .string (str q.part), .string (str q.log), .slice A nl k, .int .i64 a]
 lns : Lnr V A q.lines
 len : q.lines.length = nl
theorem Lkm.below {V V' : World} {g : Nat} {R : Value} {q : Pe} {A : Option Addr} {nl k : Nat} {a : Int} (h : Lkm V g R q A nl k a) (hb : Below V.heap.size V V') : Lkm V' g R q A nl k a :=
 ⟨Cel.below h.cel hb h.cel.lt, h.lns.below hb, h.len⟩
def SnSays (w : World) (g : Nat) (R : Value) (q : Pe) (a : Int) (b : Bool) (e : Ending) (w' : World) : Prop := e = .returned (.bool b) ∧ Frm [g] w w' ∧ ∃ A nl k, Lkm w' g R q A nl k a
theorem take_min {bs : List B} {i : Nat} {r : Int} (h : (i = bs.length ∧ (i : Int) ≤ r) ∨ (i ≤ bs.length ∧ (i : Int) ≤ r ∧ r ≤ (i : Int)) ∨ (i = 0 ∧ r ≤ 0)) : bs.take i = bs.take r.toNat := by
 rcases h with ⟨h1, h2⟩ | ⟨h1, h2, h3⟩ | ⟨h1, h2⟩
 ·rw [List.take_of_length_le (by omega), List.take_of_length_le (by omega)]
 ·rw [show r.toNat = i by omega]
 ·rw [show r.toNat = 0 by omega, h1]
theorem send_ (w : World) (g T : Nat) (AR : Option Addr) (n c : Nat) (vs : List Rl) (hr : Rls w T AR vs) (hlow : ∀ ad, AR = some ad → ad.block ≠ g) (hT : T ≤ g) (hl : vs.length = n) (hn : n ≤ 100000) (p : Pe) (AL : Option Addr) (nl cl : Nat) (a : Int)
  (hk : Lkm w g (.slice AR n c) p AL nl cl a) (D : Nat) (A : Option Addr) (m cb : Nat) (x : List (BitVec 8)) (hx : Bs w D A m x) (hD : D ≤ w.heap.size) (hm : m ≤ 1000) (room : Int) (k : Nat) (hk2 : k ≤ 1000000) (hsz : (∀ v ∈ vs, v.r.out.length ≤ k) ∧ p.log.length + (m + 2) * k ≤ 1000000 ∧ nl + (m + 2) ≤ 100000) :
  Calls Try.prog 11 #[.pointer (some ⟨g, 0, none⟩), .slice A m cb, .int .i64 room] w (SnSays w g (.slice AR n c) (feedR (vs.map (·.r)) p ((wire x).take room.toNat)) a (decide (((wire x).length : Int) ≤ room))) := by
 have con := bytes_ w D A m cb x hx hD (by omega)
 obtain ⟨m2, hm2⟩ : ∃ m2, m2 = x.length + 2 := ⟨_, rfl⟩
 have hwl : (wire x).length = m2 := by rw [wire_len, hm2]
 have hmm : m2 = m + 2 := by rw [hm2, hx.len]
 unfold BySays at con
 rw [← hm2] at con
 rw [hwl]
 have HR := Lib.hid hr
 have HL := Lib.hid hl
 have HK := Lib.hid hk
 have HSZ := Lib.hid hsz
 have HWL := Lib.hid hwl
 have hglt := hk.cel.lt
 have hm2b : m2 ≤ 1002 := by omega
 have HMM := Lib.hid hmm
 obtain ⟨bs, hbs⟩ : ∃ bs, bs = wire x := ⟨_, rfl⟩
 rw [← hbs] at con HWL ⊢
 obtain ⟨rs, hrs⟩ : ∃ rs, rs = vs.map (·.r) := ⟨_, rfl⟩
 rw [← hrs]
 have HRS := Lib.hid hrs
 have HGB := Lib.hid (show ∀ o fz, w.heap[g]? ≠ some (Obj.cells o 5 fz) from Cel.not_ty hk.cel (by decide))
 clear hr hl hk hsz hwl hm2 hx hbs hrs hmm
 go_enter Try.func11, Try.ntmps11
 go_wp2_with fail
 refine con.mono ?_
 rintro e w2 ⟨A2, c2, rfl, ho2, hb2⟩
 have HF2 := Lib.hid (show Frm [g] w w2 from Frm.of_below hb2)
 have HK2 := Lib.hid (HK.out.below hb2)
 have HO2 := Lib.hid ho2
 clear con ho2 hb2
 go_wp2_with fail
 go_loopw [8] (fun v8 wr => ∃ (i : Nat) (q : Pe) (A1 : Option Addr) (n1 c1 : Nat), i ≤ m2 ∧ v8 = .int .i64 (i : Int) ∧ Frm [g] w wr ∧ Lkm wr g (.slice AR n c) q A1 n1 c1 a ∧ Owb wr w.heap.size A2 m2 c2 bs ∧ Hid (q = feedR rs p (bs.take i)) ∧ (i = 0 ∨ (i : Int) ≤ room)) (fun v8 _ => m2 - (intOf v8).toNat)
 case atStart => exact ⟨0, p, AL, nl, cl, Nat.zero_le _, rfl, HF2.out, HK2.out, HO2.out, Lib.hid (by rw [List.take_zero]; rfl), Or.inl rfl⟩
 case round =>
  clear HK2 HF2 HO2
  obtain ⟨i, q, A1, n1, c1, hi, rfl, hf, hp, ho, HQ, hir⟩ := hrel
  obtain ⟨V1, hV1⟩ : ∃ V1, V1 = wr := ⟨_, rfl⟩
  rw [← hV1] at hf hp ho ⊢
  clear hV1
  have HF := Lib.hid hf
  have HP := Lib.hid hp
  have HC := Lib.hid hp.cel
  have HO := Lib.hid ho
  rcases Nat.lt_or_ge i m2 with hlt | hge
  ·have h1 : (i : Int) < (m2 : Int) := by omega
   by_cases hrm : (i : Int) < room
   ·have HI := Lib.hid (show IntKind.i64.wrap ((i : Int) + 1) = (i : Int) + 1 from IntWalk.i64_in _ (by omega))
    obtain ⟨y, hy⟩ : ∃ y, bs[i]? = some y := ⟨_, List.getElem?_eq_getElem (by rw [HWL.out]; exact hlt)⟩
    have HN := Lib.hid (show feedR rs p (bs.take (i + 1)) = feedR rs q [y] by rw [feed_take rs p hy, HQ.out]; rfl)
    have hmc : m2 ≤ c2 := Lex.own_room ho
    obtain ⟨A3, hA3⟩ : ∃ A3, A3 = (if c2 = i then A2 else A2.map (fun x => x.add i)) := ⟨_, rfl⟩
    obtain ⟨c3, hc3⟩ : ∃ c3, c3 = c2 - i := ⟨_, rfl⟩
    have HB3 := Lib.hid (fun (V : World) (K : Nat) (h : Bs V K A2 m2 bs) => (show Bs V K A3 1 [y] by
     have := bs_cut (c := c2) h (show i ≤ i + 1 by omega) (by omega) hmc
     rw [show i + 1 - i = 1 by omega] at this
     rw [show (bs.take (i + 1)).drop i = [y] by rw [List.take_add_one, hy, List.drop_append_of_le_length (by rw [List.length_take, HWL.out]; omega), List.drop_eq_nil_of_le (by rw [List.length_take]; omega)]; rfl, Nat.mul_one, ← hA3] at this
     exact this))
    have HCUT := Lib.hid (And.intro hA3 hc3)
    clear hA3 hc3
    have HS1 := Lib.hid (show q.log.length + 1 * k ≤ 1000000 ∧ n1 + 1 ≤ 100000 by
     have h1 := feed_sizes (rs := rs) (k := k) (fun r hr => by rw [HRS.out] at hr; obtain ⟨v, hv, rfl⟩ := List.mem_map.1 hr; exact HSZ.out.1 v hv) (bs.take i) p
     rw [← HQ.out, List.length_take, hp.len, HWL.out] at h1
     have h2 := HSZ.out.2.1
     have h3 := HSZ.out.2.2
     have h4 : (min i m2 + 1) * k ≤ (m + 2) * k := Nat.mul_le_mul_right k (by have := HMM.out; omega)
     rw [Nat.succ_mul] at h4
     have h5 := HK.out.len
     have h6 := HMM.out
     omega)
    clear hf hp ho hy HQ hir
    go_upto_region 5 with fail
    refine wp_region_N [17] (Below V1.heap.size V1) (by kernel_rfl) ?_
    have hH : Below V1.heap.size V1 V1.drew := (Below.refl _ _).drew
    refine tk_ 0 (.pointer (some ⟨g, 0, none⟩)) [17] rfl hH ?_ ?_
    ·intro V hV; go_simp
    try simp only [Act.put, lay_]
    refine tk_ 1 (.pointer (some ⟨g, 0, none⟩)) [17] rfl hH ?_ ?_
    ·intro V hV; go_simp
    try simp only [Act.put, lay_]
    refine tk_ 2 (.pointer (some ⟨g, 0, none⟩)) [17] rfl hH ?_ ?_
    ·intro V hV; go_simp
    try simp only [Act.put, lay_]
    refine tk_ 3 (.pointer (some ⟨g, 0, none⟩)) [17] rfl hH ?_ ?_
    ·intro V hV; go_simp
    try simp only [Act.put, lay_]
    refine tk_ 4 (.slice AR n c) [17] rfl hH ?_ ?_
    ·intro V hV; have hc := Cel.below HC.out hV HC.out.lt; have q0 := hc.cell 0; have q1 := hc.cell 1; have q2 := hc.cell 2; have q3 := hc.cell 3; have q4 := hc.cell 4; have q5 := hc.cell 5; go_simp
    try simp only [Act.put, lay_]
    refine tk_ 5 (.pointer (some ⟨g, 0, none⟩)) [17] rfl hH ?_ ?_
    ·intro V hV; go_simp
    try simp only [Act.put, lay_]
    refine tk_ 6 (.pointer (some ⟨g, 0, none⟩)) [17] rfl hH ?_ ?_
    ·intro V hV; go_simp
    try simp only [Act.put, lay_]
    refine tk_ 7 (.pointer (some ⟨g, 1, none⟩)) [17] rfl hH ?_ ?_
    ·intro V hV; go_simp
    try simp only [Act.put, lay_]
    refine tk_ 8 (.agg #[.int .i64 q.state, .string (str q.part), .string (str q.log), .slice A1 n1 c1]) [17] rfl hH ?_ ?_
    ·intro V hV; have hc := Cel.below HC.out hV HC.out.lt; have q0 := hc.cell 0; have q1 := hc.cell 1; have q2 := hc.cell 2; have q3 := hc.cell 3; have q4 := hc.cell 4; have q5 := hc.cell 5; go_simp
    try simp only [Act.put, lay_]
    refine tk_ 9 (.slice A2 m2 c2) [17] rfl hH ?_ ?_
    ·intro V hV; go_simp
    try simp only [Act.put, lay_]
    refine tk_ 10 (.int .i64 (i : Int)) [17] rfl hH ?_ ?_
    ·intro V hV; go_simp
    try simp only [Act.put, lay_]
    refine tk_ 11 (.int .i64 (i : Int)) [17] rfl hH ?_ ?_
    ·intro V hV; go_simp
    try simp only [Act.put, lay_]
    refine tk_ 12 (.int .i64 ((i : Int) + 1)) [17] rfl hH ?_ ?_
    ·intro V hV; have e := HI.out; go_simp
    try simp only [Act.put, lay_]
    refine tk_ 13 (.slice A3 1 c3) [17] rfl hH ?_ ?_
    ·intro V hV; have j1 : (0 : Int) ≤ (i : Int) + 1 := (by omega); have j2 : (i : Int) + 1 ≤ (c2 : Int) := (by omega); go_simp; rw [HCUT.out.1, HCUT.out.2]; exact ⟨rfl, rfl⟩
    try simp only [Act.put, lay_]
    have hgV := HC.out.lt
    have hTV : T ≤ V1.heap.size := by omega
    have hr6 : Rls V1.drew T AR vs := (HR.out.frm HF.out hT HGB.out (by omega) hlow).below hTV hH
    have con := feed_ V1.drew T AR n c vs hr6 hTV HL.out hn q A1 n1 c1 (HP.out.below hH).lns HP.out.len V1.heap.size A3 1 c3 [y] ((HB3.out V1 V1.heap.size (Bs.of_own HO.out rfl)).below hH) (Nat.le_refl _) (by omega) k hk2 ⟨HSZ.out.1, HS1.out⟩
    rw [← HRS.out] at con
    obtain ⟨q2, hq2⟩ : ∃ q2, q2 = feedR rs q [y] := ⟨_, rfl⟩
    rw [← hq2] at con HN
    clear hq2 hr6
    refine wpAnyN_one (i := 14) (by kernel_rfl) rfl (fun K hK => ?_)
    go_simp
    refine con.mono ?_
    rintro e w6 ⟨A6, c6, rfl, hL6, hb6⟩
    go_wp2_with fail
    have hb16 : Below V1.heap.size V1 w6 := hH.trans hb6
    refine hK.out _ _ (.inr hb16) ?_
    clear hK K con hH
    try simp only [Act.put, lay_]
    have hp6 := HP.out.below hb16
    have HP6 := Lib.hid hp6
    have HF6 := Lib.hid (show Frm [g] w w6 from HF.out.trans (Frm.of_below hb16))
    have HO6 := Lib.hid (HO.out.below hb16)
    have HL6 := Lib.hid hL6
    have k1 := hp6.cel.cell 1
    have k2 := hp6.cel.cell 2
    have k3 := hp6.cel.cell 3
    have k4 := hp6.cel.cell 4
    have f1 := hp6.cel.free 1
    have f2 := hp6.cel.free 2
    have f3 := hp6.cel.free 3
    have f4 := hp6.cel.free 4
    have HC7 := Lib.hid (fw14_cel (a := .int .i64 q2.state) (b := .string (str q2.part)) (c := .string (str q2.log)) (d := .slice A6 q2.lines.length c6) hp6.cel)
    have HF7 := Lib.hid (fw14_frm w6 g (.int .i64 q2.state) (.string (str q2.part)) (.string (str q2.log)) (.slice A6 q2.lines.length c6))
    unfold fw14 at HC7 HF7
    clear hp6 hL6 hb6
    refine wpAnyN_one (i := 15) (by kernel_rfl) rfl (fun K hK => ?_)
    go_simp
    refine hK.out _ _ (.inr hb16) ?_
    clear hK K
    try simp only [Act.put, lay_]
    refine wpAnyN_one (i := 16) (by kernel_rfl) rfl (fun K hK => ?_)
    go_simp
    refine hK.out _ _ (.inr hb16) ?_
    clear hK K hb16
    try simp only [Act.put, lay_]
    refine wpAnyN_one (i := 17) (by kernel_rfl) rfl (fun K hK => ?_)
    go_simp
    refine hK.out _ _ (.inl (by decide)) ?_
    clear hK K k1 k2 k3 k4 f1 f2 f3 f4
    try simp only [Act.put, lay_]
    refine wpAnyN_done (by kernel_rfl) ?_ _
    go_wp2_with fail
    exact ⟨⟨i + 1, q2, A6, q2.lines.length, c6, hlt, by rw [show ((i + 1 : Nat) : Int) = (i : Int) + 1 by omega], HF6.out.trans HF7.out, ⟨HC7.out, HL6.out.frm HF7.out fun r hr => by rw [List.mem_singleton.1 hr]; exact Cel.not_ty HP6.out.cel (by decide), rfl⟩, own_frm HO6.out HF7.out (fun r hr => by rw [List.mem_singleton.1 hr]; exact own_ty_ne HO6.out HP6.out.cel (by decide)), Lib.hid HN.out.symm, Or.inr (by omega)⟩, by simp [intOf]; omega⟩
   ·have z2 : decide ((i : Int) < room) = false := decide_eq_false hrm
    have HE := Lib.hid (show q = feedR rs p (bs.take room.toNat) by rw [HQ.out, take_min]; rw [HWL.out]; omega)
    have HD := Lib.hid (show decide ((m2 : Int) ≤ room) = false from decide_eq_false (by omega))
    clear hf hp ho HQ hir hrm
    go_wp2_with fail
    go_ret
    rw [← HE.out, HD.out]
    exact ⟨rfl, HF.out, A1, n1, c1, HP.out⟩
  ·obtain rfl : i = m2 := by omega
   have hir2 : (i : Int) ≤ room := by have := HMM.out; omega
   have HE := Lib.hid (show q = feedR rs p (bs.take room.toNat) by rw [HQ.out, take_min]; rw [HWL.out]; omega)
   have HD := Lib.hid (show decide ((i : Int) ≤ room) = true from decide_eq_true hir2)
   clear hf hp ho HQ hir
   go_wp2_with fail
   go_ret
   rw [← HE.out, HD.out]
   exact ⟨rfl, HF.out, A1, n1, c1, HP.out⟩
end Go.Proofs.Ytnjmdgnghidjhaa.Peer
end
