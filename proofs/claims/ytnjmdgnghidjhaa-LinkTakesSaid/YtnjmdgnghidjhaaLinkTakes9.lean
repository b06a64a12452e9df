/-
Texts: LinkPread LinkPsend LinkPok
-/
import Derived.Test.YtnjmdgnghidjhaaLinkTakes0
import Derived.Test.YtnjmdgnghidjhaaLinkTakes1
import Derived.Test.YtnjmdgnghidjhaaLinkTakes2
import Derived.Test.YtnjmdgnghidjhaaLinkTakes4
import Derived.Test.YtnjmdgnghidjhaaLinkTakes5
import Derived.Test.YtnjmdgnghidjhaaLinkTakes6
import Derived.Test.YtnjmdgnghidjhaaLinkTakes7
import Derived.Test.YtnjmdgnghidjhaaLinkTakes8
import Derived.BigQuiet
import Derived.Lib.MinMax
set_option linter.unusedVariables false
set_option linter.unusedSimpArgs false
set_option maxRecDepth 100000
set_option maxHeartbeats 4000000
namespace Go.Proofs.Ytnjmdgnghidjhaa.Ord
end Go.Proofs.Ytnjmdgnghidjhaa.Ord
section
namespace Go.Proofs.Ytnjmdgnghidjhaa.Peer
open Go.RowKit Go.Proofs.Ytnjmdgnghidjhaa.Ord
open Lex (Tx bs_cut)
open Rec (Vt Tvs Trow txt)
section
variable {K g nR cR : Nat} {AR : Option Addr} {vs : List Rl} {q : Lk} {f : Fv}
theorem pattach (w : World) (h : Plk w K g AR nR cR vs q f) (hs : Lsm q) (o : Int) :
  Calls Try.prog 14 #[pp g 0, .int .i64 o] w fun e w' => e = .returned (.int .i64 (attachR q o).2) ∧ Frm (lb g f) w w' ∧ Plk w' K g AR nR cR vs (attachR q o).1 f := by
 have k2 : w.cell? ⟨g, 2, none⟩ = some (.slice f.LA q.p.log.length f.lc) := h.cel.cell 2
 have k5 : w.cell? ⟨g, 5, none⟩ = some (.int .i64 (q.at : Int)) := h.cel.cell 5
 have f5 := h.cel.free 5
 have HP := Lib.hid h
 have hL := hs.2.1
 unfold attachR
 obtain ⟨L, hLe⟩ : ∃ L, L = q.p.log.length := ⟨_, rfl⟩
 rw [← hLe] at k2 hL ⊢
 clear h hs hLe
 by_cases h1 : o < 0
 ·have z1 : decide (o < 0) = true := by simpa using h1
  rw [if_pos (Or.inl h1)]
  clear h1
  go_enter Try.func14, Try.ntmps14
  go_wp2_with fail
  go_ret
  exact ⟨rfl, Frm.refl _ _, HP.out⟩
 ·have z1 : decide (o < 0) = false := by simpa using h1
  by_cases h2 : (L : Int) < o
  ·have z2 : decide ((L : Int) < o) = true := by simpa using h2
   rw [if_pos (Or.inr h2)]
   clear h1 h2
   go_enter Try.func14, Try.ntmps14
   go_wp2_with fail
   go_ret
   exact ⟨rfl, Frm.refl _ _, HP.out⟩
  ·have z2 : decide ((L : Int) < o) = false := by simpa using h2
   rw [if_neg (by omega)]
   have HX := Lib.hid (show ((o.toNat : Nat) : Int) = o by omega)
   clear h1 h2
   go_enter Try.func14, Try.ntmps14
   go_wp2_with fail
   go_ret
   have hp := HP.out.put o.toNat
   rw [HX.out] at hp
   exact ⟨rfl, (Frm.refl _ _).set (by rw [mem_lb]; exact Or.inl rfl) _, hp⟩
theorem pread (w : World) (h : Plk w K g AR nR cR vs q f) (hs : Lsm q) (most : Int) :
  Calls Try.prog 12 #[pp g 0, .int .i64 most] w fun e w' => ∃ A c, e = .returned (.slice A (readR q most).2.length c) ∧ By w' A (readR q most).2.length (readR q most).2 ∧ Frm (lb g f) w w' ∧ Plk w' K g AR nR cR vs (readR q most).1 f := by
 have k2 : w.cell? ⟨g, 2, none⟩ = some (.slice f.LA q.p.log.length f.lc) := h.cel.cell 2
 have k5 : w.cell? ⟨g, 5, none⟩ = some (.int .i64 (q.at : Int)) := h.cel.cell 5
 have HP := Lib.hid h
 have hL := hs.2.1
 have hat := hs.2.2.2.2
 obtain ⟨os, hos⟩ : ∃ os, os = (readR q most).2 := ⟨_, rfl⟩
 obtain ⟨L, hLe⟩ : ∃ L, L = q.p.log.length := ⟨_, rfl⟩
 obtain ⟨p, hpe⟩ : ∃ p, p = q.at := ⟨_, rfl⟩
 obtain ⟨k, hke⟩ : ∃ k, k = min most.toNat (L - p) := ⟨_, rfl⟩
 have hosl : os.length = k := by
  rw [hos, hke, hLe, hpe]
  unfold readR
  dsimp only
  rw [List.length_take, List.length_drop]
 have hlc : L ≤ f.lc := by
  have h1 := h.rest.lg
  rw [← hLe] at h1
  rcases h1.2 with ⟨hv, h0⟩ | ⟨g', cap, cur, hv, _, _, h1, _⟩
  ·omega
  ·injection hv with _ _ hc
   omega
 have hbs : ∀ V, Below w.heap.size w V → Bs V V.heap.size f.LA L q.p.log := fun V hV => by
  have h1 := (h.below hV).rest.lg
  rw [hLe]
  exact (By.of_own h1).rd
 obtain ⟨A1, c1, hcut, hb1, hc1⟩ : ∃ (A1 : Option Addr) (c1 : Nat), (∀ V, (Instr.sliceAt 37 (.slice f.LA L f.lc) (some (.int .i64 (p : Int))) none none).run Try.prog V = .ok (.slice A1 (L - p) c1) V) ∧ (∀ V, Below w.heap.size w V → Bs V V.heap.size A1 (L - p) (q.p.log.drop p)) ∧ L - p ≤ c1 :=
  ⟨_, _, fun V => run_cutFrom (size := 1) V Try.underlying37 (by kernel_rfl) f.LA L f.lc p .i64 (by omega), fun V hV => by
   have := bs_cut (c := f.lc) (hbs V hV) (show p ≤ L by omega) (Nat.le_refl _) hlc
   rw [List.take_of_length_le (by rw [hLe]; exact Nat.le_refl _)] at this
   exact this, by omega⟩
 have hk2 : k ≤ c1 := by omega
 have hcut2 : ∀ V, (Instr.sliceAt 37 (.slice A1 (L - p) c1) none (some (.int .i64 (k : Int))) none).run Try.prog V = .ok (.slice A1 k c1) V := fun V => run_cutTo (size := 1) V Try.underlying37 (by kernel_rfl) A1 (L - p) c1 k .i64 hk2
 have con := fun (V : World) (hV : Below w.heap.size w V) => Pack.clone V.heap.size A1 k c1 os V (by
  have := bs_cut (c := c1) (f := 0) (t := k) (hb1 V hV) (Nat.zero_le _) (show k ≤ L - p by omega) hc1
  rw [show os = ((q.p.log.drop p).take k).drop 0 by
   rw [hos, hke, hLe, hpe]
   unfold readR
   dsimp only
   rw [List.drop_zero, ← List.length_drop, List.take_eq_take_min]]
  have e : (if c1 = 0 then A1 else A1.map (·.add (0 * 1))) = A1 := by
   split
   ·rfl
   ·cases A1 <;> simp [Addr.add]
  rw [e] at this
  exact this) (Nat.le_refl _) (by omega)
 have hp2 : (readR q most).1 = ⟨q.p, p + k⟩ := by rw [hke, hLe, hpe]; rfl
 rw [hp2, ← hos, hosl]
 rw [← hLe] at k2
 rw [← hpe] at k5
 obtain ⟨M, hM⟩ : ∃ M : Int, M = max most 0 := ⟨_, rfl⟩
 have hmm : max most 0 = M := hM.symm
 have hmn : min M (((L - p : Nat) : Int)) = (k : Int) := by rw [hM, hke]; omega
 obtain ⟨s, hse⟩ : ∃ s, s = p + k := ⟨_, rfl⟩
 have hw : wrap64 ((p : Int) + (k : Int)) = (s : Int) := by unfold wrap64; omega
 rw [← hse]
 have HPE := Lib.hid hpe
 clear h hs hos hp2 hbs hb1 hLe hpe hke hM hosl hk2 hlc hse hL hat hc1
 go_enter Try.func12, Try.ntmps12
 have CON := Lib.hid con
 clear con
 go_wp2_with fail
 go_quiet (fail)
 go_wp2_with fail
 have hb0 : Below w.heap.size w (w.drewN nq) := ⟨rfl, rfl, rfl, Nat.le_refl _, fun _ _ => rfl⟩
 refine (CON.out _ hb0).mono ?_
 rintro e w1 ⟨A2, c2, rfl, ho, hb⟩
 have HO := Lib.hid ho
 have HP1 := Lib.hid (HP.out.below (hb0.trans hb))
 have HB := Lib.hid (hb0.trans hb)
 have k5 := HP1.out.cel.cell 5
 have f5 := HP1.out.cel.free 5
 change _ = some (Value.int .i64 (q.at : Int)) at k5
 rw [← HPE.out] at k5
 have HF := Lib.hid (show Frm [g] w1 (w1.setCell ⟨g, 5, none⟩ (.int .i64 (s : Int))) from (Frm.refl [g] w1).set (p := ⟨g, 5, none⟩) (by simp) _)
 clear ho hb hb0 CON
 go_wp2_with fail
 go_ret
 refine ⟨A2, c2, rfl, (By.of_own HO.out).keep fun j cs fz hj => HF.out.block j (Array.getElem?_eq_some_iff.1 hj).1 (fun hm => ?_), (Frm.of_below HB.out).trans (HF.out.mono (by intro j hj _; rw [List.mem_singleton.1 hj, mem_lb]; exact Or.inl rfl)), HP1.out.put s⟩
 rw [List.mem_singleton.1 hm] at hj
 exact HP1.out.cel.not_ty (by decide) _ _ hj
def PcSays (w : World) (p : Pe) (e : Ending) (w' : World) : Prop := ∃ v : Dvm, e = .returned (.agg v.cells.toArray) ∧ Below w.heap.size w w' ∧ Dok w' 0 v ∧ v.m = p
theorem tx_up18 {w : World} {T T' : Nat} {A : Option Addr} {t : List B} (h : Tx w T A t) (hT : T ≤ T') : Tx w T' A t := h.imp (fun h => h.more hT) id
theorem Dok.up {w : World} {T T' : Nat} {v : Dvm} (h : Dok w T v) (hT : T ≤ T') : Dok w T' v := ⟨tx_up18 h.pt hT, tx_up18 h.lg hT, ⟨h.ls.cr, fun u hu => ⟨tx_up18 (h.ls.tx u hu).1 hT, (h.ls.tx u hu).2⟩⟩, fun hn => by
 obtain ⟨ad, e, h1⟩ := h.row hn
 exact ⟨ad, e, h1.imp (fun h => Nat.lt_of_lt_of_le h hT) id⟩⟩
theorem shown_ (w : World) (h : Plk w K g AR nR cR vs q f) (hs : Lsm q) : Calls Try.prog 27 #[pp g 0] w (PcSays w q.p) := by
 obtain ⟨w1, hw1⟩ : ∃ w1, w1 = w.alloc (.cells #[.int .i64 0, .slice none 0 0, .slice none 0 0, .slice none 0 0] 49) := ⟨_, rfl⟩
 have hb1 : Below w.heap.size w w1 := by rw [hw1]; exact (Below.refl _ _).alloc (Nat.le_refl _) _
 have hcr : Cel w1 w.heap.size 49 [.int .i64 0, .slice none 0 0, .slice none 0 0, .slice none 0 0] := by rw [hw1]; exact Cel.new w _ _
 have h1 := h.below hb1
 have hul : f.us.length = q.p.lines.length := by rw [← h.rest.tx]; unfold txt; rw [List.length_map]
 have hdk := h1.rest.dok 0
 have hq : feedR [] q.p [] = q.p := rfl
 have con := pfeed_ w1 0 (Nat.zero_le _) none 0 0 [] rls_nil ⟨rfl, by decide, fun v hv => absurd hv List.not_mem_nil⟩ ⟨q.p.state, q.p.part, q.p.log, f.us, f.PA, f.pc, f.LA, f.lc, f.A, f.c⟩ hdk ⟨hs.1, by have := hs.2.1; dsimp only; omega, by have := hs.2.2.1; dsimp only; omega, fun u hu => (h.rest.by_ u (List.mem_append_left _ hu)).2⟩ 0 none 0 0 [] ⟨rfl, fun h => absurd h (by omega)⟩ (Nat.zero_le _) (Nat.le_refl _) (Nat.zero_le _)
 unfold Dvm.cells Dvm.m at con
 dsimp only at con
 rw [h.rest.tx, hul] at con
 have k0 : w1.cell? ⟨g, 0, none⟩ = some (.int .i64 q.p.state) := h1.cel.cell 0
 have k1 : w1.cell? ⟨g, 1, none⟩ = some (.slice f.PA q.p.part.length f.pc) := h1.cel.cell 1
 have k2 : w1.cell? ⟨g, 2, none⟩ = some (.slice f.LA q.p.log.length f.lc) := h1.cel.cell 2
 have k3 : w1.cell? ⟨g, 3, none⟩ = some (.slice f.A q.p.lines.length f.c) := h1.cel.cell 3
 have HB1 := Lib.hid hb1
 have HCR := Lib.hid hcr
 clear h hs h1 hul hdk hb1 hcr
 go_enter Try.func27, Try.ntmps27
 go_upto_region 1 with fail
 rw [← hw1]
 clear hw1
 go_wp2_with fail
 refine con.mono ?_
 clear con k0 k1 k2 k3
 rintro e w2 ⟨⟨s, pt, lg, ls, PA, pc, LA, lc, A, c⟩, rfl, hb2, hd2, hm2⟩
 have HD2 := Lib.hid hd2
 have HM2 := Lib.hid hm2
 unfold Dvm.cells
 dsimp only
 have hc2 := HCR.out.below hb2 HCR.out.lt
 have HB2 := Lib.hid (HB1.out.trans (hb2.mono HB1.out.size))
 have r0 := hc2.cell 0
 have r1 := hc2.cell 1
 have r2 := hc2.cell 2
 have r3 := hc2.cell 3
 have g0 := hc2.free 0
 have g1 := hc2.free 1
 have g2 := hc2.free 2
 have g3 := hc2.free 3
 have HX := Lib.hid (Lex.fw4_cel (a := .int .i64 s) (b := .slice PA pt.length pc) (c := .slice LA lg.length lc) (d := .slice A ls.length c) hc2)
 have HFR := Lib.hid (Lex.fw4_frm w2 w.heap.size (.int .i64 s) (.slice PA pt.length pc) (.slice LA lg.length lc) (.slice A ls.length c))
 have HC2 := Lib.hid hc2
 unfold Lex.fw4 at HX HFR
 clear hb2 hd2 hm2 hc2 hq
 go_wp2_with fail
 refine bodyPost_ret (v := .agg #[.int .i64 s, .slice PA pt.length pc, .slice LA lg.length lc, .slice A ls.length c]) (results_atP 2 49 Try.results27 ⟨w.heap.size, 0, none⟩ rfl _ (load_pr HX.out)) rfl ?_
 refine ⟨⟨s, pt, lg, ls, PA, pc, LA, lc, A, c⟩, rfl, HB2.out.trans (HFR.out.below HB2.out.size (by simp)), HD2.out.frm (Nat.zero_le _) HFR.out (Nat.zero_le _) HC2.out (by decide) (by decide), HM2.out⟩
theorem ppeer (w : World) (h : Plk w K g AR nR cR vs q f) (hs : Lsm q) : Calls Try.prog 18 #[pp g 0] w (PcSays w q.p) := by
 obtain ⟨w1, hw1⟩ : ∃ w1, w1 = w.alloc (.cells #[.int .i64 0, .slice none 0 0, .slice none 0 0, .slice none 0 0] 49) := ⟨_, rfl⟩
 have hb1 : Below w.heap.size w w1 := by rw [hw1]; exact (Below.refl _ _).alloc (Nat.le_refl _) _
 have hcr : Cel w1 w.heap.size 49 [.int .i64 0, .slice none 0 0, .slice none 0 0, .slice none 0 0] := by rw [hw1]; exact Cel.new w _ _
 have con := shown_ w1 (h.below hb1) hs
 have k0 : w1.cell? ⟨g, 0, none⟩ = some (.int .i64 q.p.state) := (h.below hb1).cel.cell 0
 have HB1 := Lib.hid hb1
 have HCR := Lib.hid hcr
 clear h hs hb1 hcr
 go_enter Try.func18, Try.ntmps18
 go_upto_region 1 with fail
 rw [← hw1]
 clear hw1
 go_wp2_with fail
 refine con.mono ?_
 clear con k0
 rintro e w2 ⟨⟨s, pt, lg, ls, PA, pc, LA, lc, A, c⟩, rfl, hb2, hd2, hm2⟩
 have HD2 := Lib.hid hd2
 have HM2 := Lib.hid hm2
 unfold Dvm.cells
 dsimp only
 have hc2 := HCR.out.below hb2 HCR.out.lt
 have HB2 := Lib.hid (HB1.out.trans (hb2.mono HB1.out.size))
 have r0 := hc2.cell 0
 have r1 := hc2.cell 1
 have r2 := hc2.cell 2
 have r3 := hc2.cell 3
 have g0 := hc2.free 0
 have g1 := hc2.free 1
 have g2 := hc2.free 2
 have g3 := hc2.free 3
 have HX := Lib.hid (Lex.fw4_cel (a := .int .i64 s) (b := .slice PA pt.length pc) (c := .slice LA lg.length lc) (d := .slice A ls.length c) hc2)
 have HFR := Lib.hid (Lex.fw4_frm w2 w.heap.size (.int .i64 s) (.slice PA pt.length pc) (.slice LA lg.length lc) (.slice A ls.length c))
 have HC2 := Lib.hid hc2
 unfold Lex.fw4 at HX HFR
 clear hb2 hd2 hm2 hc2
 go_wp2_with fail
 refine bodyPost_ret (v := .agg #[.int .i64 s, .slice PA pt.length pc, .slice LA lg.length lc, .slice A ls.length c]) (results_atP 2 49 Try.results18 ⟨w.heap.size, 0, none⟩ rfl _ (load_pr HX.out)) rfl ?_
 exact ⟨⟨s, pt, lg, ls, PA, pc, LA, lc, A, c⟩, rfl, HB2.out.trans (HFR.out.below HB2.out.size (by simp)), HD2.out.frm (Nat.zero_le _) HFR.out (Nat.zero_le _) HC2.out (by decide) (by decide), HM2.out⟩
end
end Go.Proofs.Ytnjmdgnghidjhaa.Peer
end
section
namespace Go.Proofs.Ytnjmdgnghidjhaa.Peer
open Go.RowKit Go.Proofs.Ytnjmdgnghidjhaa.Ord
open Lex (Tx Owb lit_one rowB bs_cut)
open Rec (Vt Tvs Trow txt)
theorem pbytes (w : World) (D : Nat) (A : Option Addr) (n c : Nat) (x : List (BitVec 8)) (hx : Bs w D A n x) (hD : D ≤ w.heap.size) (hn : n ≤ 100000) : Calls Try.prog 23 #[.slice A n c] w (BySays w x) := by
 have HX := Lib.hid hx
 have HE := Lib.hid (show wire x = [21#8] ++ x ++ [10#8] by rfl)
 clear hx
 obtain ⟨W1, hW1⟩ : ∃ W1, W1 = w.alloc (.cells #[.int .u8 21] 5) := ⟨_, rfl⟩
 obtain ⟨A1, hA1⟩ : ∃ A, A = some (⟨w.heap.size, 0, none⟩ : Addr) := ⟨_, rfl⟩
 have HO1 := Lib.hid (show Owb W1 w.heap.size A1 1 1 [21#8] from by rw [hW1, hA1]; exact World.ownsRow_lit w #[.int .u8 21] 1 (Nat.le_refl _) (by decide) rfl)
 have HB1 := Lib.hid (show Below w.heap.size w W1 from by rw [hW1]; exact (Below.refl _ _).alloc (Nat.le_refl _) _)
 have HW := Lib.hid (And.intro hW1 hA1)
 clear hW1 hA1
 go_enter Try.func23, Try.ntmps23
 go_wp2_with (first | (rw [← HW.out.1, ← HW.out.2]; at_builtin; refine wpList_append_bs _ rfl _ _ 37 rfl w.heap.size 5 rowB (.slice A1 1 1) 1 [21#8] rfl HO1.out D A n c x rfl (HX.out.below (HB1.out.mono hD)) (1 + n) ([21#8] ++ x) (by omega) rfl (by omega) HB1.out.size ?_; intro A2 k2 W2 o2 g2 _; have HB2 := Lib.hid (HB1.out.trans (HO1.out.grew g2 HB1.out.size)); have HO2 := Lib.hid (show Owb W2 w.heap.size A2 (1 + n) k2 ([21#8] ++ x) from o2); clear o2 g2; clear HW HB1 HO1) | (at_builtin; refine wpList_append_bs _ rfl _ _ 37 rfl w.heap.size 5 rowB (.slice A2 (1 + n) k2) (1 + n) ([21#8] ++ x) rfl (HO2.out.alloc _) (W2.heap.size + 1) _ 1 _ [10#8] rfl (lit_one W2 10#8) (1 + n + 1) ([21#8] ++ x ++ [10#8]) (by omega) rfl (by omega) (Nat.le_trans HB2.out.size (by simp)) ?_; intro A3 k3 W3 o3 g3 _; have HB3 := Lib.hid (HB2.out.trans (((Below.refl _ _).alloc HB2.out.size _).trans (Owb.grew (World.ownsRow.alloc HO2.out _) g3 (Nat.le_trans HB2.out.size (by simp))))); have HO3 := Lib.hid (show Owb W3 w.heap.size A3 (1 + n + 1) k3 ([21#8] ++ x ++ [10#8]) from o3); clear o3 g3))
 go_ret
 obtain rfl := HX.out.len
 rw [show 1 + x.length + 1 = x.length + 2 by omega]
 refine ⟨A3, k3, rfl, ?_, HB3.out⟩
 rw [HE.out]
 have := HO3.out
 rw [show 1 + x.length + 1 = x.length + 2 by omega] at this
 exact this
abbrev recvOf (g : Nat) : Value := .func (.func 21) #[.pointer (some ⟨g, 0, none⟩)] #[]
theorem hmf18 : ∀ (fn : Fn) (first cap : Array Value) (w : World), (Instr.makeFunc fn first cap).run Try.prog w = .ok (.func fn first cap) w := fun _ _ _ _ => rfl
section
variable {K g nR cR : Nat} {AR : Option Addr} {vs : List Rl} {q : Lk} {f : Fv}
def CaSays (w : World) (K g : Nat) (AR : Option Addr) (nR cR : Nat) (vs : List Rl) (q : Lk) (f : Fv) (b : Bool) (p' : Pe) (e : Ending) (w' : World) : Prop := e = .returned (.bool b) ∧ ∃ f', Frm (lb g f) w w' ∧ (∀ k ∈ lb g f', k ∈ lb g f ∨ w.heap.size ≤ k) ∧ Plk w' K g AR nR cR vs ⟨p', q.at⟩ f'
theorem pcarry (w : World) (hK : K ≤ w.heap.size) (h : Plk w K g AR nR cR vs q f) (hs : Lsm q) (hfw : Rfew vs nR) (D : Nat) (A : Option Addr) (n cb : Nat) (x : List B) (hx : Bs w D A n x) (hD : D ≤ w.heap.size) (hnc : n ≤ cb) (hn : n ≤ 1000) (r : Nat) :
  Calls Try.prog 22 #[.agg #[recvOf g, .int .i64 (r : Int)], .slice A n cb] w (CaSays w K g AR nR cR vs q f (decide (n ≤ r)) (feedR (vs.map (·.r)) q.p (x.take r))) := by
 obtain ⟨k, hk⟩ : ∃ k, k = min r n := ⟨_, rfl⟩
 have hxt : x.take r = x.take k := by
  rw [hk, ← hx.len, List.take_eq_take_min]
 rw [hxt]
 obtain ⟨w1, hw1⟩ : ∃ w1, w1 = w.alloc (.cells #[recvOf g, .int .i64 (r : Int)] 64) := ⟨_, rfl⟩
 have hb1 : Below w.heap.size w w1 := by rw [hw1]; exact (Below.refl _ _).alloc (Nat.le_refl _) _
 have hc1 : Cel w1 w.heap.size 64 [recvOf g, .int .i64 (r : Int)] := by rw [hw1]; exact Cel.new w _ _
 have hcut : ∀ V, (Instr.sliceAt 37 (.slice A n cb) none (some (.int .i64 (k : Int))) none).run Try.prog V = .ok (.slice A k cb) V := fun V => run_cutTo (size := 1) V Try.underlying37 (by kernel_rfl) A n cb k .i64 (by omega)
 have hxk : Bs w1 D A k (x.take k) := by
  have := bs_cut (c := cb) (f := 0) (t := k) (hx.below (hb1.mono hD)) (Nat.zero_le _) (show k ≤ n by omega) hnc
  have e : (if cb = 0 then A else A.map (·.add (0 * 1))) = A := by
   split
   ·rfl
   ·cases A <;> simp [Addr.add]
  rw [e, List.drop_zero] at this
  exact this
 have con := preceive w1 (Nat.le_trans hK hb1.size) (h.below hb1) hs hfw D A k cb (x.take k) hxk (Nat.le_trans hD hb1.size) (by omega) (by omega)
 have k0 : w1.cell? ⟨w.heap.size, 0, none⟩ = some (recvOf g) := hc1.cell 0
 have k1 : w1.cell? ⟨w.heap.size, 1, none⟩ = some (.int .i64 (r : Int)) := hc1.cell 1
 have hmn : min (r : Int) (n : Int) = (k : Int) := by omega
 obtain ⟨b, hb⟩ : ∃ b, b = decide (n ≤ r) := ⟨_, rfl⟩
 have hbe : ((k : Int) == (n : Int)) = b := by
  rw [hb, hk]
  by_cases h0 : n ≤ r
  ·rw [decide_eq_true h0]; simp; omega
  ·rw [decide_eq_false h0]; simp; omega
 rw [← hb]
 have HB1 := Lib.hid hb1
 have HG := Lib.hid (show ∀ k ∈ lb g f, k < w.heap.size from h.own)
 obtain ⟨rs', hrs'⟩ : ∃ z, z = feedR (vs.map (·.r)) q.p (x.take k) := ⟨_, rfl⟩
 rw [← hrs'] at con ⊢
 clear h hs hx hb1 hc1 hk hxt hxk hb hrs'
 go_enter Try.func22, Try.ntmps22
 go_upto_region 1 with fail
 rw [← hw1]
 clear hw1
 go_wp2_with fail
 refine con.mono ?_
 clear con k0 k1
 rintro e w2 ⟨rfl, f', hf, hl, hp⟩
 have HF := Lib.hid hf
 have HL := Lib.hid hl
 have HP := Lib.hid hp
 clear hf hl hp hcut
 go_wp2_with fail
 go_ret
 exact ⟨rfl, f', (Frm.of_below HB1.out).trans HF.out, fun j hj => (HL.out j hj).imp id (fun h => Nat.le_trans HB1.out.size h), HP.out⟩
theorem psend (w : World) (hK : K ≤ w.heap.size) (h : Plk w K g AR nR cR vs q f) (hs : Lsm q) (hfw : Rfew vs nR) (A : Option Addr) (m cb : Nat) (x : List B) (hx : Bs w w.heap.size A m x) (hmc : m ≤ cb) (hm : m ≤ 100) (room : Int) :
  Calls Try.prog 10 #[pp g 0, .slice A m cb, .int .i64 room] w (CaSays w K g AR nR cR vs q f (sendR (vs.map (·.r)) q x room).2 (sendR (vs.map (·.r)) q x room).1.p) := by
 obtain ⟨r, hr⟩ : ∃ r, r = room.toNat := ⟨_, rfl⟩
 have hM : max room 0 = (r : Int) := by rw [hr]; omega
 have hwl : (wire x).length = m + 2 := by rw [wire_len, hx.len]
 obtain ⟨b, hb⟩ : ∃ b, b = (sendR (vs.map (·.r)) q x room).2 := ⟨_, rfl⟩
 have hbe : decide (m + 2 ≤ r) = b := by
  rw [hb, hr]
  show _ = decide (((wire x).length : Int) ≤ room)
  rw [hwl]
  by_cases h0 : m + 2 ≤ room.toNat
  ·rw [decide_eq_true h0, decide_eq_true (by omega)]
  ·rw [decide_eq_false h0, decide_eq_false (by omega)]
 obtain ⟨p', hp'⟩ : ∃ p', p' = (sendR (vs.map (·.r)) q x room).1.p := ⟨_, rfl⟩
 have hpe : feedR (vs.map (·.r)) q.p ((wire x).take r) = p' := by rw [hp', hr]; rfl
 rw [← hb, ← hp']
 obtain ⟨w2, hw2⟩ : ∃ w2, w2 = w.alloc (.cells #[recvOf g, .int .i64 (r : Int)] 64) := ⟨_, rfl⟩
 have hc1 : Cel w2 w.heap.size 64 [recvOf g, .int .i64 (r : Int)] := by rw [hw2]; exact Cel.new w _ _
 have hb1 : Below w.heap.size w w2 := by rw [hw2]; exact (Below.refl _ _).alloc (Nat.le_refl _) _
 obtain ⟨W, hW⟩ : ∃ W, W = w2.drew := ⟨_, rfl⟩
 have hbW : Below w.heap.size w W := by rw [hW]; exact hb1.drew
 have hcW : Cel W w.heap.size 64 [recvOf g, .int .i64 (r : Int)] := by rw [hW]; exact hc1.drew
 have HBW := Lib.hid hbW
 have con := pbytes W w.heap.size A m cb x (hx.below hbW) hbW.size (by omega)
 have CON := Lib.hid (show ∀ (V : World), Below W.heap.size W V → ∀ (A' : Option Addr) (c' : Nat), Owb V W.heap.size A' (x.length + 2) c' (wire x) → Calls Try.prog 22 #[.agg #[recvOf g, .int .i64 (r : Int)], .slice A' (x.length + 2) c'] V (CaSays V K g AR nR cR vs q f b p') from fun V hV A' c' ho => by
  have hbv := hbW.trans (hV.mono hbW.size)
  have hcap : x.length + 2 ≤ c' := by
   rcases ho.2 with ⟨hv, h0⟩ | ⟨g', cap, cur, hv, _, _, h1, _⟩
   ·omega
   ·injection hv with _ _ hc
    omega
  have hy := (By.of_own ho).rd
  have := pcarry V (Nat.le_trans hK hbv.size) (h.below hbv) hs hfw V.heap.size A' (x.length + 2) c' (wire x) hy (Nat.le_refl _) hcap (by have := hx.len; omega) r
  rw [hpe, hx.len, hbe] at this
  rw [hx.len]
  exact this)
 have HNE := Lib.hid (show w.heap.size ∉ lb g f from fun hm => absurd (h.own _ hm) (Nat.lt_irrefl _))
 have hmf := hmf18
 clear h hs hx hb hp' hpe hbe hwl hr hb1 hc1 hbW
 go_enter Try.func10, Try.ntmps10
 go_upto_region 4 with fail
 rw [← hw2]
 refine wp_region_N [] (fun V => Cel V w.heap.size 64 [recvOf g, .int .i64 (r : Int)]) (by kernel_rfl) ?_
 rw [← hW]
 have hH : Cel W w.heap.size 64 [recvOf g, .int .i64 (r : Int)] := hcW
 have HS1 := Lib.hid (show ∀ V, Cel V w.heap.size 64 [recvOf g, .int .i64 (r : Int)] → Cel V w.heap.size 64 [recvOf g, .int .i64 (r : Int)] from fun V h => h)
 clear hW hw2 hcW
 refine tk_ 0 (.agg #[recvOf g, .int .i64 (r : Int)]) [] rfl hH ?_ ?_
 ·intro V hV; have hc := HS1.out V hV; have k0 : V.cell? ⟨w.heap.size, 0, none⟩ = some (recvOf g) := hc.cell 0; have k1 : V.cell? ⟨w.heap.size, 1, none⟩ = some (.int .i64 (r : Int)) := hc.cell 1; clear hc; go_simp
 try simp only [Act.put, lay_]
 refine tk_ 1 (.slice A m cb) [] rfl hH ?_ ?_
 ·intro V hV; go_simp
 try simp only [Act.put, lay_]
 refine wpAnyN_one (i := 2) (by kernel_rfl) rfl (fun Kq hKq => ?_)
 go_simp
 refine (con).mono ?_
 rintro e V1 ⟨A2, c2, rfl, ho, hb2⟩
 have hH1 := hH.below hb2 hH.lt
 have con2 := CON.out V1 hb2 A2 c2 ho
 have HB2 := Lib.hid (HBW.out.trans (hb2.mono HBW.out.size))
 clear hH hb2 ho con CON
 have hH := hH1
 clear hH1
 go_wp2_with fail
 refine hKq.out _ _ (.inr hH) ?_
 clear hKq Kq
 try simp only [Act.put, lay_]
 refine wpAnyN_one (i := 3) (by kernel_rfl) rfl (fun Kq hKq => ?_)
 go_simp
 refine (con2).mono ?_
 rintro e V2 ⟨rfl, f', hf, hl, hp⟩
 have hH1 := hH.frm hf HNE.out
 have HF := Lib.hid hf
 have HL := Lib.hid hl
 have HP := Lib.hid hp
 clear hH hf hl hp con2
 have hH := hH1
 clear hH1
 go_wp2_with fail
 refine hKq.out _ _ (.inr hH) ?_
 clear hKq Kq
 try simp only [Act.put, lay_]
 refine tk_ 4 (.bool b) [] rfl hH ?_ ?_
 ·intro V hV; go_simp
 try simp only [Act.put, lay_]
 refine wpAnyN_done (by kernel_rfl) ?_ _
 go_wp2_with fail
 go_ret
 exact ⟨rfl, f', (Frm.of_below HB2.out).trans HF.out, fun j hj => (HL.out j hj).imp id (fun h => Nat.le_trans HB2.out.size h), HP.out⟩
theorem pnsend (w : World) (room : Int) : Calls Try.prog 10 #[.pointer none, .slice none 0 0, .int .i64 room] w fun e w' => e = .returned (.bool false) ∧ Below w.heap.size w w' := by
 go_enter Try.func10, Try.ntmps10
 go_wp2_with fail
 go_ret
 exact ⟨rfl, Below.refl _ _⟩
theorem pnattach (w : World) (o : Int) : Calls Try.prog 14 #[.pointer none, .int .i64 o] w fun e w' => e = .returned (.int .i64 1) ∧ Below w.heap.size w w' := by
 go_enter Try.func14, Try.ntmps14
 go_wp2_with fail
 go_ret
 exact ⟨rfl, Below.refl _ _⟩
end
end Go.Proofs.Ytnjmdgnghidjhaa.Peer
end
section
namespace Go.Proofs.Ytnjmdgnghidjhaa.Peer
open Go.RowKit Go.Proofs.Ytnjmdgnghidjhaa.Ord
open Lex (Tx)
open Rec (Vt Tvs Trow txt)
theorem rfew_of {vs : List Rl} {n : Nat} (h : Pfew (vs.map (·.r))) (hl : vs.length = n) : Rfew vs n := by
 obtain ⟨h1, h2⟩ := h
 rw [List.length_map] at h1
 exact ⟨hl, by omega, fun v hv => h2 v.r (List.mem_map.2 ⟨v, hv, rfl⟩)⟩
theorem link_ok : LinkC Plink where
 below := fun ⟨AR, nR, cR, vs, f, h, h1, h2⟩ hb => ⟨AR, nR, cR, vs, f, h.below hb, h1, h2⟩
 frm := fun ⟨AR, nR, cR, vs, f, h, h1, h2⟩ hc _ hf => ⟨AR, nR, cR, vs, f, h.frm hc (by decide) (by decide) (by decide) (by decide) hf, h1, h2⟩
 own := fun ⟨AR, nR, cR, vs, f, h, h1, h2⟩ k hk => h.own k (h2 ▸ hk)
 kind := fun ⟨AR, nR, cR, vs, f, h, h1, h2⟩ k hk => h.kind k (h2 ▸ hk)
 new := fun w T A n c vs h hT hf => pnew18 w T A n c vs h hT hf
 send := fun w l g rs q ⟨AR, nR, cR, vs, f, h, h1, h2⟩ hp hs A m cb x hx hmc hm room => by
  subst h1 h2
  refine (psend w (Nat.zero_le _) h hs (rfew_of hp h.rest.rl) A m cb x hx hmc hm room).mono ?_
  rintro e w' ⟨he, f', hf, hl, hP⟩
  exact ⟨lb g f', he, hf, hl, AR, nR, cR, vs, f', hP, rfl, rfl⟩
 read := fun w l g rs q ⟨AR, nR, cR, vs, f, h, h1, h2⟩ hs most => by
  subst h1 h2
  refine (pread w h hs most).mono ?_
  rintro e w' ⟨A, c, he, hb, hf, hP⟩
  exact ⟨A, c, he, hb, hf, AR, nR, cR, vs, f, hP, rfl, rfl⟩
 attach := fun w l g rs q ⟨AR, nR, cR, vs, f, h, h1, h2⟩ hs o => by
  subst h1 h2
  refine (pattach w h hs o).mono ?_
  rintro e w' ⟨he, hf, hP⟩
  exact ⟨he, hf, AR, nR, cR, vs, f, hP, rfl, rfl⟩
 peer := fun w l g rs q ⟨AR, nR, cR, vs, f, h, h1, h2⟩ hs => (ppeer w h hs).mono fun e w' ⟨v, he, hb, hd, hm⟩ => ⟨v, he, hb, hd.up (Nat.zero_le _), hm⟩
 nsend := pnsend
 nattach := pnattach
end Go.Proofs.Ytnjmdgnghidjhaa.Peer
end
