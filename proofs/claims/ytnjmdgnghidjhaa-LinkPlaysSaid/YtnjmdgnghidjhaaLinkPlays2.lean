/-
Texts: PeerLine PeerFeed RecPure PackNum PackRead RecRef
-/
import Derived.Test.YtnjmdgnghidjhaaLinkPlays0
import Derived.Test.YtnjmdgnghidjhaaLinkPlays1
import Derived.Laws.Concat
import Derived.BigQuiet
import Derived.Test.YtnjmdgnghidjhaaChecked
import Derived.WalkKit
import Derived.ProofKit
import Derived.Below
import Derived.Lib.Hide
import Derived.Lib.SlBytesConst
import Derived.Outline
import Derived.Laws.BitsAllLaws
import Derived.Laws.Shifts
import Derived.Laws.ShiftsVarLaws
import Derived.WalkSpells
import Derived.Laws.EntriesVeiled
import Derived.Deep.QuietTactic
import Derived.Deep.Cut
set_option linter.unusedVariables false
set_option linter.unusedSimpArgs false
set_option maxRecDepth 100000
set_option maxHeartbeats 4000000
namespace Go.Proofs.Ytnjmdgnghidjhaa.Ord
end Go.Proofs.Ytnjmdgnghidjhaa.Ord
namespace Go.Proofs.Ytnjmdgnghidjhaa.Pack
end Go.Proofs.Ytnjmdgnghidjhaa.Pack
section
namespace Go.Proofs.Ytnjmdgnghidjhaa.Peer
open Go.RowKit Go.Proofs.Ytnjmdgnghidjhaa.Ord
open Lex (Tx fw4 fw4_cel fw4_frm)
open Vars (scell rowStr)
open Book (str_beq)
theorem results_atP {P : Program} {fn : Func} {tmps : Array Value} {w : World} (a : Tmp) (t : TypeId) (hr : fn.results = #[.cell a t]) (ad : Addr) (ha : tmps.getD a undef = .pointer (some ad)) (v : Value) (hl : (loadVar t ad).run P w = .ok v w) :
  (results fn tmps).run P w = .ok v w := by
 unfold results
 rw [hr]
 simp only [List.mapM_toArray, List.mapM_cons, List.mapM_nil, ha, asAddr]
 simp [hl]
theorem strP_size (a : List (BitVec 8)) : (str a).size = a.length := by show ((a.map UInt8.ofBitVec).toArray).size = _; simp
theorem strP_app (a b : List (BitVec 8)) : str a ++ str b = str (a ++ b) := by
 unfold str
 rw [ByteArray.mk_append_mk, List.map_append]
structure Rl where
 r : Ru
 A1 : Option Addr
 c1 : Nat
 A2 : Option Addr
 c2 : Nat
def Rls (w : World) (T : Nat) (A : Option Addr) (vs : List Rl) : Prop := ∀ i v, vs[i]? = some v → ∃ ad, A = some ad ∧ w.cell? (ad.add (i * 4)) = some (.int .i64 v.r.state) ∧ w.cell? ⟨(ad.add (i * 4)).block, (ad.add (i * 4)).off + 1, none⟩ = some (.slice v.A1 v.r.line.length v.c1) ∧
 w.cell? ⟨(ad.add (i * 4)).block, (ad.add (i * 4)).off + 2, none⟩ = some (.slice v.A2 v.r.out.length v.c2) ∧ w.cell? ⟨(ad.add (i * 4)).block, (ad.add (i * 4)).off + 3, none⟩ = some (.int .i64 v.r.next) ∧ Tx w T v.A1 v.r.line ∧ Tx w T v.A2 v.r.out
theorem Rls.below {w w' : World} {T : Nat} {A : Option Addr} {vs : List Rl} (h : Rls w T A vs) (hT : T ≤ w.heap.size) (hb : Below w.heap.size w w') : Rls w' T A vs := fun i v hi => by
 obtain ⟨ad, e, h0, h1, h2, h3, h4, h5⟩ := h i v hi
 exact ⟨ad, e, (hb.cell (cell_lt h0)).trans h0, (hb.cell (cell_lt h1)).trans h1, (hb.cell (cell_lt h2)).trans h2, (hb.cell (cell_lt h3)).trans h3, h4.below hT hb, h5.below hT hb⟩
abbrev Lnr (w : World) (A : Option Addr) (ls : List (List B)) : Prop := Ry 9 w A (ls.map scell)
def PvSays (w : World) (q : Pe) (e : Ending) (w' : World) : Prop := ∃ A' c', e = .returned (.agg #[.int .i64 q.state, .string (str q.part), .string (str q.log), .slice A' q.lines.length c']) ∧ Lnr w' A' q.lines ∧ Below w.heap.size w w'
theorem load_peer {w : World} {g : Nat} {x0 x1 x2 x3 : Value} (h : Cel w g 34 [x0, x1, x2, x3]) : (loadVar 34 ⟨g, 0, none⟩).run Try.prog w = .ok (.agg #[x0, x1, x2, x3]) w :=
 run_loadVar_mid (P := Try.prog) w g 0 34 [x0, x1, x2, x3] _ (fun j v hv => by rw [Nat.zero_add, h.cell j, hv]) Try.underlying34 rfl (by kernel_rfl)
theorem meets_hit {rs : List Ru} {s : Int} {x : List B} {r : Ru} (h : r.state = s ∧ r.line = x) : meets (r :: rs) s x = some r := by unfold meets; rw [List.find?_cons_of_pos]; simp [h.1, h.2]
theorem meets_miss {rs : List Ru} {s : Int} {x : List B} {r : Ru} (h : ¬ (r.state = s ∧ r.line = x)) : meets (r :: rs) s x = meets rs s x := by unfold meets; rw [List.find?_cons_of_neg]; simp; intro h1 h2; exact h ⟨h1, h2⟩
theorem drop_rl {α : Type} {l : List α} {i : Nat} {x : α} (h : l[i]? = some x) : l.drop i = x :: l.drop (i + 1) := by
 obtain ⟨hl, hx⟩ := List.getElem?_eq_some_iff.1 h
 rw [List.drop_eq_getElem_cons hl, hx]
theorem below_ownP {D e size n c : Nat} {A : Option Addr} {us : List Value} {w0 w w' : World} (h : w.ownsRow D e size (.slice A n c) n us) (hb : Below D w0 w) (hD : D ≤ w0.heap.size) (hg : w.grownBy w' (Value.slice A n c).ownBlock) : Below D w0 w' :=
 hb.trans (((Frm.refl (Value.slice A n c).ownBlock.toList w).grown hg (fun k e _ => by rw [e]; simp)).below (Nat.le_trans hD hb.size) fun k hk => own_ge h k (by simpa using hk))
theorem one_str {ls : List (List B)} : ∀ u ∈ ls.map scell, u.oneCell' = true := fun u hu => by
 obtain ⟨x, _, rfl⟩ := List.mem_map.1 hu
 rfl
theorem line_ (w : World) (T : Nat) (AR : Option Addr) (n c : Nat) (vs : List Rl) (hr : Rls w T AR vs) (hT : T ≤ w.heap.size) (hl : vs.length = n) (hn : n ≤ 100000) (p : Pe) (AL : Option Addr) (nl cl : Nat) (hL : Lnr w AL p.lines) (hnl : p.lines.length = nl) (hnl2 : nl ≤ 100000) (x : List B) (hsz : p.log.length ≤ 1000000 ∧ ∀ v ∈ vs, v.r.out.length ≤ 1000000) :
  Calls Try.prog 30 #[.slice AR n c, .agg #[.int .i64 p.state, .string (str p.part), .string (str p.log), .slice AL nl cl], .string (str x)] w (PvSays w (lineR (vs.map (·.r)) p x)) := by
 obtain ⟨w1, hw1⟩ : ∃ w1, w1 = (w.alloc (.cells #[.int .i64 p.state, .string (str p.part), .string (str p.log), .slice AL nl cl] 34)).alloc (.cells #[.int .i64 0, .string ⟨#[]⟩, .string ⟨#[]⟩, .slice none 0 0] 34) := ⟨_, rfl⟩
 have hb1 : Below w.heap.size w w1 := by rw [hw1]; exact ((Below.refl _ _).alloc (Nat.le_refl _) _).alloc (by simp) _
 have HR := Lib.hid hr
 have HLL := Lib.hid hL
 have HL := Lib.hid hl
 have HNL := Lib.hid hnl
 have HSZ := Lib.hid hsz
 clear hr hL hl hnl hsz
 have hs1 : w1.heap.size = w.heap.size + 1 + 1 := by rw [hw1]; simp
 have hcb : Cel w1 w.heap.size 34 [.int .i64 p.state, .string (str p.part), .string (str p.log), .slice AL nl cl] := by rw [hw1]; exact (Cel.new w 34 [.int .i64 p.state, .string (str p.part), .string (str p.log), .slice AL nl cl]).alloc _
 have hcr : Cel w1 (w.heap.size + 1) 34 [.int .i64 0, .string ⟨#[]⟩, .string ⟨#[]⟩, .slice none 0 0] := by
  have := Cel.new (w.alloc (.cells #[.int .i64 p.state, .string (str p.part), .string (str p.log), .slice AL nl cl] 34)) 34 [.int .i64 0, .string ⟨#[]⟩, .string ⟨#[]⟩, .slice none 0 0]
  rw [World.size_alloc] at this
  rw [hw1]; exact this
 obtain ⟨W2, hW2⟩ : ∃ W2, W2 = w1.alloc (.cells #[] 9) := ⟨_, rfl⟩
 have hb12 : Below w1.heap.size w1 W2 := by rw [hW2]; exact (Below.refl _ _).alloc (Nat.le_refl _) _
 have o0 : W2.ownsRow (w.heap.size + 1 + 1) 9 1 (.slice (some ⟨w.heap.size + 1 + 1, 0, none⟩) 0 0) 0 [] := by rw [hW2, ← hs1]; exact World.ownsRow_lit w1 #[] 0 (Nat.le_refl _) (Nat.zero_le _) rfl
 have hsz2 : w.heap.size + 1 + 1 ≤ W2.heap.size := by rw [← hs1]; exact hb12.size
 have O0 := Lib.hid o0
 have SRC := Lib.hid (show Src W2 AL nl (p.lines.map scell) from Ry.src (m := nl) ((HLL.out.below hb1).below hb12) (fun h0 e => by rw [List.map_eq_nil_iff] at e; rw [← HNL.out, e] at h0; simp at h0))
 have CB := Lib.hid (Cel.below hcb hb12 hcb.lt)
 have CR := Lib.hid (Cel.below hcr hb12 hcr.lt)
 have HB2 := Lib.hid (hb1.trans (hb12.mono hb1.size))
 have OW := Lib.hid o0
 have hszW := hsz2
 rw [hw1] at hW2
 have HWE := Lib.hid hW2
 rw [hW2] at O0 SRC hsz2
 have HEND := Lib.hid (fun (q : Pe) (hq : q = lineR (vs.map (·.r)) p x) => hq)
 obtain ⟨Q, hQ⟩ : ∃ Q, Q = lineR (vs.map (·.r)) p x := ⟨_, rfl⟩
 rw [← hQ]
 have HQ := Lib.hid hQ
 clear o0 hs1 hcb hcr hb12 hw1 hb1 hW2 hQ HEND
 go_enter Try.func30, Try.ntmps30
 go_wp2_with (first | (at_builtin; refine wpList_append_any _ rfl _ _ 32 rfl (w.heap.size + 1 + 1) 9 rowStr (.slice (some ⟨w.heap.size + 1 + 1, 0, none⟩) 0 0) 0 [] rfl O0.out AL nl cl (p.lines.map scell) rfl (by rw [List.length_map, HNL.out]; omega) SRC.out one_str nl (p.lines.map scell) (by omega) rfl (by unfold maxLen; omega) (by omega) hsz2 ?_; intro A3 c3 w3 ho3 hg3 _; rw [← HWE.out] at hg3; have hb3 : Below (w.heap.size + 1 + 1) W2 w3 := below_ownP OW.out (Below.refl _ _) hszW hg3; have hc3 := Cel.grown CB.out hg3 (own_ty_ne OW.out CB.out (by decide)); have hr3 := Cel.grown CR.out hg3 (own_ty_ne OW.out CR.out (by decide)); obtain ⟨W4, hW4⟩ : ∃ W4, W4 = w3.alloc (.cells #[.string (str x)] 9) := ⟨_, rfl⟩; have hb4 : Below w3.heap.size w3 W4 := (by rw [hW4]; exact (Below.refl _ _).alloc (Nat.le_refl _) _); have HO4 := Lib.hid (own_frm (l := []) ho3 (Frm.of_below hb4) (by simp)); have HSX := Lib.hid (show Src W4 (some ⟨w3.heap.size, 0, none⟩) 1 [.string (str x)] by rw [hW4]; exact Ry.src (m := 1) (Ry.of_cel (Cel.new w3 9 [.string (str x)])) (by simp)); have HC4 := Lib.hid (Cel.below hc3 hb4 hc3.lt); have HR4 := Lib.hid (Cel.below hr3 hb4 hr3.lt); have HB4 := Lib.hid (show Below (w.heap.size + 1 + 1) W2 W4 from hb3.trans (hb4.mono (Nat.le_trans hszW hb3.size))); have hsz4 : w.heap.size + 1 + 1 ≤ W4.heap.size := Nat.le_trans hszW HB4.out.size; have HO4' := Lib.hid HO4.out; have HW4 := Lib.hid hW4; rw [hW4] at HO4 HSX hsz4; clear ho3 hg3 hb3 hc3 hr3 hb4 hW4) | (at_builtin; refine wpList_append_any _ rfl _ _ 32 rfl (w.heap.size + 1 + 1) 9 rowStr (.slice A3 nl c3) nl (p.lines.map scell) rfl HO4.out (some ⟨w3.heap.size, 0, none⟩) 1 1 [.string (str x)] rfl rfl HSX.out (by intro u hu; rw [List.mem_singleton.1 hu]; rfl) (nl + 1) ((p.lines ++ [x]).map scell) rfl (by rw [List.map_append]; rfl) (by unfold maxLen; omega) (by omega) hsz4 ?_; intro A5 c5 w5 ho5 hg5 _; rw [← HW4.out] at hg5; have hc5 := Cel.grown HC4.out hg5 (own_ty_ne HO4'.out HC4.out (by decide)); have q1 := hc5.cell 1; have q3 := hc5.cell 3; have f1 := hc5.free 1; have f3 := hc5.free 3; have HC5 := Lib.hid hc5; have HR5 := Lib.hid (Cel.grown HR4.out hg5 (own_ty_ne HO4'.out HR4.out (by decide))); have HB5 := Lib.hid (below_ownP HO4'.out HB4.out hszW hg5); have HO5 := Lib.hid ho5; clear ho5 hg5 hc5))
 obtain ⟨V0, hV0⟩ : ∃ V0, V0 = (w5.setCell ⟨w.heap.size, 3, none⟩ (.slice A5 (nl + 1) c5)).setCell ⟨w.heap.size, 1, none⟩ (.string ⟨#[]⟩) := ⟨_, rfl⟩
 rw [← hV0]
 have hf0 : Frm [w.heap.size] w5 V0 := by rw [hV0]; exact ((Frm.refl [w.heap.size] w5).set (p := ⟨w.heap.size, 3, none⟩) (by simp) _).set (p := ⟨w.heap.size, 1, none⟩) (by simp) _
 have hcv : Cel V0 w.heap.size 34 [.int .i64 p.state, .string ⟨#[]⟩, .string (str p.log), .slice A5 (nl + 1) c5] := by rw [hV0]; exact (HC5.out.set 3 _).set 1 _
 have HC0 := Lib.hid hcv
 have HR0 := Lib.hid (show Cel V0 (w.heap.size + 1) 34 [.int .i64 0, .string ⟨#[]⟩, .string ⟨#[]⟩, .slice none 0 0] from Cel.frm HR5.out hf0 (by simp))
 have HO0 := Lib.hid (show V0.ownsRow (w.heap.size + 1 + 1) 9 1 (.slice A5 (nl + 1) c5) (nl + 1) ((p.lines ++ [x]).map scell) from own_frm HO5.out hf0 (fun k hk => by rw [List.mem_singleton.1 hk]; exact own_ty_ne HO5.out HC5.out (by decide)))
 have HB0 := Lib.hid (show Below w.heap.size w V0 from (HB2.out.trans (HB5.out.mono (by omega : w.heap.size ≤ w.heap.size + 1 + 1))).trans (hf0.below (Nat.le_trans (Nat.le_trans (by omega) hszW) HB5.out.size) (by intro q hq; rw [List.mem_singleton.1 hq]; exact Nat.le_refl _)))
 clear hV0 hf0 hcv
 go_loopw [7] (fun v7 wr => ∃ (i : Nat), i ≤ n ∧ v7 = .int .i64 (i : Int) ∧ Below V0.heap.size V0 wr ∧ Hid (meets (vs.map (·.r)) p.state x = meets ((vs.map (·.r)).drop i) p.state x)) (fun v7 _ => n - (intOf v7).toNat)
 case atStart => exact ⟨0, Nat.zero_le _, rfl, Below.refl _ _, Lib.hid (by rw [List.drop_zero])⟩
 case round =>
  clear q1 q3 f1 f3
  obtain ⟨i, hi, rfl, hb, HK⟩ := hrel
  obtain ⟨V1, hV1⟩ : ∃ V1, V1 = wr := ⟨_, rfl⟩
  rw [← hV1] at hb ⊢
  clear hV1
  have HB1 := Lib.hid hb
  have HBW := Lib.hid (HB0.out.trans (hb.mono HB0.out.size))
  rcases Nat.lt_or_ge i n with hlt | hge
  ·obtain ⟨v, hv⟩ : ∃ v, vs[i]? = some v := ⟨_, List.getElem?_eq_getElem (by rw [HL.out]; exact hlt)⟩
   obtain ⟨ad, rfl, a0, a1, a2, a3, ht1, ht2⟩ := (HR.out.below hT HBW.out) i v hv
   have hTV : T ≤ V1.heap.size := Nat.le_trans hT HBW.out.size
   have hc1 := Cel.below HC0.out hb HC0.out.lt
   have k0 := hc1.cell 0
   change _ = some (Value.int .i64 p.state) at k0
   have HD := Lib.hid (show (vs.map (·.r)).drop i = v.r :: (vs.map (·.r)).drop (i + 1) from drop_rl (by rw [List.getElem?_map, hv]; rfl))
   have sb := str_beq v.r.line x
   have cv := fun m => ht1.str hTV v.c1 m
   have HV := Lib.hid hv
   have HT2 := Lib.hid ht2
   by_cases hs : v.r.state = p.state
   ·have z0 : (v.r.state == p.state) = true := by simp [hs]
    by_cases hx : v.r.line = x
    ·rw [decide_eq_true hx] at sb
     have HME := Lib.hid (show meets (vs.map (·.r)) p.state x = some v.r by rw [HK.out, HD.out, meets_hit ⟨hs, hx⟩])
     have HS2 := Lib.hid (fun V (hV : Below V1.heap.size V1 V) => (show (convert 37 9 (.slice v.A2 v.r.out.length v.c2)).run Try.prog V = .ok (.string (str v.r.out)) V from (Bs.bp ((HT2.out.below hTV hV).bs (Nat.le_trans hTV hV.size))).string v.c2 Try.underlying37 Try.underlying5 Try.underlying9))
     have HSZ2 := Lib.hid (show ¬ 9223372036854775807 < (str p.log).size + (str v.r.out).size by rw [strP_size, strP_size]; have h1 := HSZ.out.1; have h2 := HSZ.out.2 v (List.mem_of_getElem? HV.out); omega)
     have HQ2 := Lib.hid (show Q = ⟨v.r.next, [], p.log ++ v.r.out, p.lines ++ [x]⟩ by
      rw [HQ.out]; unfold lineR
      rw [HME.out])
     clear hb hc1 hv ht1 ht2 hs hx
     go_wp2_with fail
     go_quiet (fail)
     go_wp2_with fail
     refine wp_region_N [10] (Below V1.heap.size V1) (by kernel_rfl) ?_
     have hH : Below V1.heap.size V1 (V1.drewN nq).drew := (Lex.lbelow_drew (Below.refl _ V1) nq).drew
     refine tk_ 0 (.pointer (some ⟨w.heap.size, 2, none⟩)) [10] rfl hH ?_ ?_
     ·intro V hV; go_simp
     try simp only [Act.put, lay_]
     refine tk_ 1 (.string (str p.log)) [10] rfl hH ?_ ?_
     ·intro V hV; have hc := Cel.below HC0.out (HB1.out.trans (hV.mono HB1.out.size)) HC0.out.lt; have q2 := hc.cell 2; change _ = some (Value.string (str p.log)) at q2; go_simp
     try simp only [Act.put, lay_]
     refine tk_ 2 (.slice (some ad) n c) [10] rfl hH ?_ ?_
     ·intro V hV; go_simp
     try simp only [Act.put, lay_]
     refine tk_ 3 (.int .i64 (i : Int)) [10] rfl hH ?_ ?_
     ·intro V hV; go_simp
     try simp only [Act.put, lay_]
     refine tk_ 4 (.pointer (some (ad.add (i * 4)))) [10] rfl hH ?_ ?_
     ·intro V hV; go_simp
     try simp only [Act.put, lay_]
     refine tk_ 5 (.pointer (some ⟨(ad.add (i * 4)).block, (ad.add (i * 4)).off + 2, none⟩)) [10] rfl hH ?_ ?_
     ·intro V hV; go_simp
     try simp only [Act.put, lay_]
     refine tk_ 6 (.slice v.A2 v.r.out.length v.c2) [10] rfl hH ?_ ?_
     ·intro V hV; have h2 := (hV.cell (cell_lt a2)).trans a2; go_simp
     try simp only [Act.put, lay_]
     refine tk_ 7 (.string (str v.r.out)) [10] rfl hH ?_ ?_
     ·intro V hV; have s := HS2.out V hV; go_simp
     try simp only [Act.put, lay_]
     refine tk_ 8 (.string (str (p.log ++ v.r.out))) [10] rfl hH ?_ ?_
     ·intro V hV; have s := HSZ2.out; have ap := strP_app p.log v.r.out; go_simp
     try simp only [Act.put, lay_]
     refine tk_ 9 (.pointer (some ⟨w.heap.size, 2, none⟩)) [10] rfl hH ?_ ?_
     ·intro V hV; go_simp
     try simp only [Act.put, lay_]
     have hcn := Cel.below HC0.out HB1.out HC0.out.lt
     have k2 := hcn.cell 2
     have f2 := hcn.free 2
     change _ = some (Value.string (str p.log)) at k2
     clear z0 sb cv k0
     refine wpAnyN_one (i := 10) (by kernel_rfl) rfl (fun K hK => ?_)
     go_simp
     refine hK.out _ _ (.inl (by decide)) ?_
     clear hK K
     try simp only [Act.put, lay_]
     refine wpAnyN_done (by kernel_rfl) ?_ _
     obtain ⟨V2, hV2⟩ : ∃ V2, V2 = (V1.drewN (nq + 1)).setCell ⟨w.heap.size, 2, none⟩ (.string (str (p.log ++ v.r.out))) := ⟨_, rfl⟩
     rw [← hV2]
     have hfd : Frm [w.heap.size] (V1.drewN (nq + 1)) V2 := by rw [hV2]; exact (Frm.refl [w.heap.size] _).set (p := ⟨w.heap.size, 2, none⟩) (by simp) _
     have hbd : Below V0.heap.size V0 (V1.drewN (nq + 1)) := Lex.lbelow_drew HB1.out (nq + 1)
     have hwd : Below w.heap.size w (V1.drewN (nq + 1)) := Lex.lbelow_drew HBW.out (nq + 1)
     have hw2 : Below w.heap.size w V2 := hwd.trans (hfd.below hwd.size (by intro q hq; rw [List.mem_singleton.1 hq]; exact Nat.le_refl _))
     have hc2 : Cel V2 w.heap.size 34 [.int .i64 p.state, .string ⟨#[]⟩, .string (str (p.log ++ v.r.out)), .slice A5 (nl + 1) c5] := by rw [hV2]; exact (Cel.below HC0.out hbd HC0.out.lt).set 2 _
     have hr2 : Cel V2 (w.heap.size + 1) 34 [.int .i64 0, .string ⟨#[]⟩, .string ⟨#[]⟩, .slice none 0 0] := Cel.frm (Cel.below HR0.out hbd HR0.out.lt) hfd (by simp)
     have ho2 : V2.ownsRow (w.heap.size + 1 + 1) 9 1 (.slice A5 (nl + 1) c5) (nl + 1) ((p.lines ++ [x]).map scell) := own_frm (own_frm (l := []) HO0.out (Frm.of_below hbd) (by simp)) hfd (fun k hk => by rw [List.mem_singleton.1 hk]; exact own_ty_ne (own_frm (l := []) HO0.out (Frm.of_below hbd) (by simp)) (Cel.below HC0.out hbd HC0.out.lt) (by decide))
     have a4 : V2.cell? ⟨(ad.add (i * 4)).block, (ad.add (i * 4)).off + 3, none⟩ = some (.int .i64 v.r.next) := by
      obtain ⟨ad', e', _, _, _, h3', _⟩ := (HR.out.below hT hw2) i v HV.out
      obtain rfl : ad = ad' := Option.some.inj e'
      exact h3'
     clear a0 a1 a2 a3 hfd hbd hwd k2 f2 hcn hH
     have HW2 := Lib.hid hw2
     have HC2 := Lib.hid hc2
     have HR2 := Lib.hid hr2
     have HO2 := Lib.hid ho2
     have k0 := hc2.cell 0
     have g0 := hc2.free 0
     clear hw2 hc2 hr2 ho2 hV2
     go_upto_region 9 with fail
     obtain ⟨V3, hV3⟩ : ∃ V3, V3 = V2.setCell ⟨w.heap.size, 0, none⟩ (.int .i64 v.r.next) := ⟨_, rfl⟩
     rw [← hV3]
     have hf3 : Frm [w.heap.size] V2 V3 := by rw [hV3]; exact (Frm.refl [w.heap.size] _).set (p := ⟨w.heap.size, 0, none⟩) (by simp) _
     have hc3 : Cel V3 w.heap.size 34 [.int .i64 v.r.next, .string ⟨#[]⟩, .string (str (p.log ++ v.r.out)), .slice A5 (nl + 1) c5] := by rw [hV3]; exact HC2.out.set 0 _
     have hr3 : Cel V3 (w.heap.size + 1) 34 [.int .i64 0, .string ⟨#[]⟩, .string ⟨#[]⟩, .slice none 0 0] := Cel.frm HR2.out hf3 (by simp)
     have HO3 := Lib.hid (show V3.ownsRow (w.heap.size + 1 + 1) 9 1 (.slice A5 (nl + 1) c5) (nl + 1) ((p.lines ++ [x]).map scell) from own_frm HO2.out hf3 (fun k hk => by rw [List.mem_singleton.1 hk]; exact own_ty_ne HO2.out HC2.out (by decide)))
     have HW3 := Lib.hid (show Below w.heap.size w V3 from HW2.out.trans (hf3.below HW2.out.size (by intro q hq; rw [List.mem_singleton.1 hq]; exact Nat.le_refl _)))
     clear k0 g0 a4 hV3 hf3
     have k0 := hc3.cell 0
     have k1 := hc3.cell 1
     have k2 := hc3.cell 2
     have k3 := hc3.cell 3
     have r0 := hr3.cell 0
     have r1 := hr3.cell 1
     have r2 := hr3.cell 2
     have r3 := hr3.cell 3
     have f0 := hr3.free 0
     have f1 := hr3.free 1
     have f2 := hr3.free 2
     have f3 := hr3.free 3
     have hc6 := fw4_cel (a := .int .i64 v.r.next) (b := .string ⟨#[]⟩) (c := .string (str (p.log ++ v.r.out))) (d := .slice A5 (nl + 1) c5) hr3
     have hf6 := fw4_frm V3 (w.heap.size + 1) (.int .i64 v.r.next) (.string ⟨#[]⟩) (.string (str (p.log ++ v.r.out))) (.slice A5 (nl + 1) c5)
     have HC6 := Lib.hid hc6
     have HF6 := Lib.hid hf6
     have HRT := Lib.hid hr3
     unfold fw4 at HC6 HF6
     clear hc3 hr3 hc6 hf6
     go_wp2_with fail
     refine bodyPost_ret (v := .agg #[.int .i64 v.r.next, .string ⟨#[]⟩, .string (str (p.log ++ v.r.out)), .slice A5 (nl + 1) c5]) (results_atP 6 34 Try.results30 ⟨w.heap.size + 1, 0, none⟩ rfl _ (load_peer HC6.out)) rfl ?_
     rw [HQ2.out]
     refine ⟨A5, c5, ?_, (Ry.of_own HO3.out (by decide)).frm HF6.out fun q hq => by rw [List.mem_singleton.1 hq]; exact Cel.not_ty HRT.out (by decide), HW3.out.trans (HF6.out.below HW3.out.size (by intro q hq; rw [List.mem_singleton.1 hq]; omega))⟩
     show _ = Ending.returned (Value.agg #[.int .i64 v.r.next, .string ⟨#[]⟩, .string (str (p.log ++ v.r.out)), .slice A5 (p.lines ++ [x]).length c5])
     rw [List.length_append, HNL.out]; rfl
    ·rw [decide_eq_false hx] at sb
     have HK2 := Lib.hid (show meets (vs.map (·.r)) p.state x = meets ((vs.map (·.r)).drop (i + 1)) p.state x by rw [HK.out, HD.out, meets_miss (fun h => hx h.2)])
     clear hb hc1 hv ht1 ht2 hs hx
     go_wp2_with fail
     go_quiet (fail)
     go_wp2_with fail
     exact ⟨⟨i + 1, hlt, by rw [show ((i + 1 : Nat) : Int) = (i : Int) + 1 by omega], Lex.lbelow_drew HB1.out nq, HK2⟩, by simp [intOf]; omega⟩
   ·have z0 : (v.r.state == p.state) = false := by simp [hs]
    have HK2 := Lib.hid (show meets (vs.map (·.r)) p.state x = meets ((vs.map (·.r)).drop (i + 1)) p.state x by rw [HK.out, HD.out, meets_miss (fun h => hs h.1)])
    clear hb hc1 hv ht1 ht2 hs cv
    go_wp2_with fail
    go_quiet (fail)
    go_wp2_with fail
    exact ⟨⟨i + 1, hlt, by rw [show ((i + 1 : Nat) : Int) = (i : Int) + 1 by omega], Lex.lbelow_drew HB1.out nq, HK2⟩, by simp [intOf]; omega⟩
  ·obtain rfl : i = n := by omega
   have HQ2 := Lib.hid (show Q = ⟨p.state, [], p.log, p.lines ++ [x]⟩ by
    rw [HQ.out]; unfold lineR
    rw [HK.out, List.drop_eq_nil_of_le (by rw [List.length_map, HL.out]; exact Nat.le_refl _)]; rfl)
   have hc1 := Cel.below HC0.out hb HC0.out.lt
   have hr1 := Cel.below HR0.out hb HR0.out.lt
   have k0 := hc1.cell 0
   have k1 := hc1.cell 1
   have k2 := hc1.cell 2
   have k3 := hc1.cell 3
   have r0 := hr1.cell 0
   have r1 := hr1.cell 1
   have r2 := hr1.cell 2
   have r3 := hr1.cell 3
   have f0 := hr1.free 0
   have f1 := hr1.free 1
   have f2 := hr1.free 2
   have f3 := hr1.free 3
   have hc6 := fw4_cel (a := .int .i64 p.state) (b := .string ⟨#[]⟩) (c := .string (str p.log)) (d := .slice A5 (nl + 1) c5) hr1
   have hf6 := fw4_frm V1 (w.heap.size + 1) (.int .i64 p.state) (.string ⟨#[]⟩) (.string (str p.log)) (.slice A5 (nl + 1) c5)
   have HC6 := Lib.hid hc6
   have HF6 := Lib.hid hf6
   have HO1 := Lib.hid (own_frm (l := []) HO0.out (Frm.of_below hb) (by simp))
   have HRT := Lib.hid hr1
   unfold fw4 at HC6 HF6
   clear hb hc1 hr1 hc6 hf6
   go_wp2_with fail
   refine bodyPost_ret (v := .agg #[.int .i64 p.state, .string ⟨#[]⟩, .string (str p.log), .slice A5 (nl + 1) c5]) (results_atP 6 34 Try.results30 ⟨w.heap.size + 1, 0, none⟩ rfl _ (load_peer HC6.out)) rfl ?_
   rw [HQ2.out]
   refine ⟨A5, c5, ?_, (Ry.of_own HO1.out (by decide)).frm HF6.out fun q hq => by rw [List.mem_singleton.1 hq]; exact Cel.not_ty HRT.out (by decide), HBW.out.trans (HF6.out.below HBW.out.size (by intro q hq; rw [List.mem_singleton.1 hq]; omega))⟩
   show _ = Ending.returned (Value.agg #[.int .i64 p.state, .string ⟨#[]⟩, .string (str p.log), .slice A5 (p.lines ++ [x]).length c5])
   rw [List.length_append, HNL.out]; rfl
end Go.Proofs.Ytnjmdgnghidjhaa.Peer
end
section
namespace Go.Proofs.Ytnjmdgnghidjhaa.Peer
open Go.RowKit Go.Proofs.Ytnjmdgnghidjhaa.Ord
open Lex (Tx fw4 fw4_cel fw4_frm b_ne)
open Vars (scell rowStr)
structure Pw (V : World) (g : Nat) (p : Pe) (A : Option Addr) (nl k : Nat) : Prop where
 cel : Cel V g 34 [.int .i64 p.state, .string (str p.part), .string (str p.log), .slice A nl k]
 box : Cel V (g + 1) 34 [.int .i64 0, .string ⟨#[]⟩, .string ⟨#[]⟩, .slice none 0 0]
 lns : Lnr V A p.lines
 len : p.lines.length = nl
theorem Pw.below {V V' : World} {g : Nat} {p : Pe} {A : Option Addr} {nl k : Nat} (h : Pw V g p A nl k) (hb : Below V.heap.size V V') : Pw V' g p A nl k :=
 ⟨Cel.below h.cel hb h.cel.lt, Cel.below h.box hb h.box.lt, h.lns.below hb, h.len⟩
theorem Pw.frm {V V' : World} {g : Nat} {p q : Pe} {A A' : Option Addr} {nl k nl' k' : Nat} (h : Pw V g p A nl k) (hf : Frm [g] V V') (hc : Cel V' g 34 [.int .i64 q.state, .string (str q.part), .string (str q.log), .slice A' nl' k'])
  (hl : Lnr V A' q.lines) (hn : q.lines.length = nl') : Pw V' g q A' nl' k' :=
 ⟨hc, Cel.frm h.box hf (by simp), hl.frm hf fun q hq => by rw [List.mem_singleton.1 hq]; exact Cel.not_ty h.cel (by decide), hn⟩
theorem feed_take {bs : List B} {i : Nat} {x : B} (rs : List Ru) (p : Pe) (h : bs[i]? = some x) : feedR rs p (bs.take (i + 1)) = byteR rs (feedR rs p (bs.take i)) x := by
 rw [List.take_add_one, h]; exact feed_snoc rs p _ x
theorem str_one (V : World) (x : B) (m : Nat) : (convert 37 9 (.slice (some ⟨V.heap.size, 0, none⟩) 1 m)).run Try.prog (V.alloc (.cells #[v8 x] 5)) = .ok (.string (str [x])) (V.alloc (.cells #[v8 x] 5)) :=
 (Bs.bp (Bs.lit V 5 (0, 0) #[v8 x] [x] rfl 1 rfl)).string m Try.underlying37 Try.underlying5 Try.underlying9
theorem feed_ (w : World) (T : Nat) (AR : Option Addr) (n c : Nat) (vs : List Rl) (hr : Rls w T AR vs) (hT : T ≤ w.heap.size) (hl : vs.length = n) (hn : n ≤ 100000) (p : Pe) (AL : Option Addr) (nl cl : Nat) (hL : Lnr w AL p.lines) (hnl : p.lines.length = nl)
  (D : Nat) (AB : Option Addr) (m cb : Nat) (bs : List (BitVec 8)) (hb : Bs w D AB m bs) (hD : D ≤ w.heap.size) (hm : m ≤ 100000) (k : Nat) (hk : k ≤ 1000000) (hsz : (∀ v ∈ vs, v.r.out.length ≤ k) ∧ p.log.length + m * k ≤ 1000000 ∧ nl + m ≤ 100000) :
  Calls Try.prog 25 #[.slice AR n c, .agg #[.int .i64 p.state, .string (str p.part), .string (str p.log), .slice AL nl cl], .slice AB m cb] w (PvSays w (feedR (vs.map (·.r)) p bs)) := by
 obtain ⟨w1, hw1⟩ : ∃ w1, w1 = (w.alloc (.cells #[.int .i64 p.state, .string (str p.part), .string (str p.log), .slice AL nl cl] 34)).alloc (.cells #[.int .i64 0, .string ⟨#[]⟩, .string ⟨#[]⟩, .slice none 0 0] 34) := ⟨_, rfl⟩
 have hb1 : Below w.heap.size w w1 := by rw [hw1]; exact ((Below.refl _ _).alloc (Nat.le_refl _) _).alloc (by simp) _
 have hcb : Cel w1 w.heap.size 34 [.int .i64 p.state, .string (str p.part), .string (str p.log), .slice AL nl cl] := by rw [hw1]; exact (Cel.new w 34 [.int .i64 p.state, .string (str p.part), .string (str p.log), .slice AL nl cl]).alloc _
 have hcr : Cel w1 (w.heap.size + 1) 34 [.int .i64 0, .string ⟨#[]⟩, .string ⟨#[]⟩, .slice none 0 0] := by
  have := Cel.new (w.alloc (.cells #[.int .i64 p.state, .string (str p.part), .string (str p.log), .slice AL nl cl] 34)) 34 [.int .i64 0, .string ⟨#[]⟩, .string ⟨#[]⟩, .slice none 0 0]
  rw [World.size_alloc] at this
  rw [hw1]; exact this
 have HP1 := Lib.hid (show Pw w1 w.heap.size p AL nl cl from ⟨hcb, hcr, hL.below hb1, hnl⟩)
 have HB1 := Lib.hid hb1
 have HR := Lib.hid hr
 have HBS := Lib.hid hb
 have HL := Lib.hid hl
 have HSZ := Lib.hid hsz
 have HNL := Lib.hid hnl
 have HWE := Lib.hid hw1
 clear hr hL hl hnl hsz hcb hcr hb1 hb
 obtain ⟨rs, hrs⟩ : ∃ rs, rs = vs.map (·.r) := ⟨_, rfl⟩
 rw [← hrs]
 have HRS := Lib.hid hrs
 clear hrs hw1
 go_enter Try.func25, Try.ntmps25
 go_wp2_with fail
 rw [← HWE.out]
 clear HWE
 go_loopw [7] (fun v7 wr => ∃ (i : Nat) (p1 : Pe) (A1 : Option Addr) (n1 c1 : Nat), i ≤ m ∧ v7 = .int .i64 (i : Int) ∧ Below w.heap.size w wr ∧ Pw wr w.heap.size p1 A1 n1 c1 ∧ Hid (p1 = feedR rs p (bs.take i))) (fun v7 _ => m - (intOf v7).toNat)
 case atStart => exact ⟨0, p, AL, nl, cl, Nat.zero_le _, rfl, HB1.out, HP1.out, Lib.hid (by rw [List.take_zero]; rfl)⟩
 case round =>
  clear HP1 HB1
  obtain ⟨i, p1, A1, n1, c1, hi, rfl, hb, hp, HK⟩ := hrel
  obtain ⟨V1, hV1⟩ : ∃ V1, V1 = wr := ⟨_, rfl⟩
  rw [← hV1] at hb hp ⊢
  clear hV1
  have HBW := Lib.hid hb
  have HP := Lib.hid hp
  have HC := Lib.hid hp.cel
  rcases Nat.lt_or_ge i m with hlt | hge
  ·obtain ⟨x, hx⟩ : ∃ x, bs[i]? = some x := ⟨_, List.getElem?_eq_getElem (by rw [HBS.out.len]; exact hlt)⟩
   obtain ⟨bd, rfl, _, b0⟩ := (HBS.out.below (hb.mono hD)).at_ hlt
   rw [List.getD_eq_getElem?_getD, hx] at b0
   change _ = some (v8 x) at b0
   have HN := Lib.hid (show feedR rs p (bs.take (i + 1)) = byteR rs p1 x by rw [feed_take rs p hx, HK.out])
   have HS1 := Lib.hid (show p1.log.length ≤ 1000000 ∧ n1 ≤ 100000 by
    have h1 := feed_sizes (rs := rs) (k := k) (fun r hr => by rw [HRS.out] at hr; obtain ⟨v, hv, rfl⟩ := List.mem_map.1 hr; exact HSZ.out.1 v hv) (bs.take i) p
    rw [← HK.out, List.length_take, hp.len] at h1
    have h2 := HSZ.out.2.1
    have h3 := HSZ.out.2.2
    have h4 : min i bs.length * k ≤ m * k := Nat.mul_le_mul_right k (by omega)
    have h5 := HNL.out
    omega)
   have k1 := hp.cel.cell 1
   have f1 := hp.cel.free 1
   change _ = some (Value.string (str p1.part)) at k1
   clear hb hp hx HK
   by_cases h10 : x = 10#8
   ·subst h10
    have HN2 := Lib.hid (show feedR rs p (bs.take (i + 1)) = lineR rs p1 p1.part by rw [HN.out]; unfold byteR; rw [if_pos (show (10#8 : B) = 10 from rfl)])
    have con := line_ V1 T AR n c vs (HR.out.below hT HBW.out) (Nat.le_trans hT HBW.out.size) HL.out hn p1 A1 n1 c1 HP.out.lns HP.out.len HS1.out.2 p1.part ⟨HS1.out.1, fun v hv => Nat.le_trans (HSZ.out.1 v hv) hk⟩
    rw [← HRS.out] at con
    obtain ⟨q, hq⟩ : ∃ q, q = lineR rs p1 p1.part := ⟨_, rfl⟩
    rw [← hq] at con HN2
    clear hq f1
    have k0 := HC.out.cell 0
    have k2 := HC.out.cell 2
    have k3 := HC.out.cell 3
    go_wp2_with fail
    refine con.mono ?_
    rintro e w6 ⟨A6, c6, rfl, hL6, hb16⟩
    clear k0 k1 k2 k3 con
    have hp6 := HP.out.below hb16
    have HP6 := Lib.hid hp6
    have k0 := hp6.cel.cell 0
    have k1 := hp6.cel.cell 1
    have k2 := hp6.cel.cell 2
    have k3 := hp6.cel.cell 3
    have f0 := hp6.cel.free 0
    have f1 := hp6.cel.free 1
    have f2 := hp6.cel.free 2
    have f3 := hp6.cel.free 3
    have HB6 := Lib.hid (HBW.out.trans (hb16.mono HBW.out.size))
    have HL6 := Lib.hid hL6
    have HC7 := Lib.hid (fw4_cel (a := .int .i64 q.state) (b := .string (str q.part)) (c := .string (str q.log)) (d := .slice A6 q.lines.length c6) hp6.cel)
    have HF7 := Lib.hid (fw4_frm w6 w.heap.size (.int .i64 q.state) (.string (str q.part)) (.string (str q.log)) (.slice A6 q.lines.length c6))
    unfold fw4 at HC7 HF7
    clear hp6 hb16 hL6
    go_wp2_with fail
    exact ⟨⟨i + 1, q, A6, q.lines.length, c6, hlt, by rw [show ((i + 1 : Nat) : Int) = (i : Int) + 1 by omega], HB6.out.trans (HF7.out.below HB6.out.size (by intro r hr; rw [List.mem_singleton.1 hr]; exact Nat.le_refl _)), HP6.out.frm HF7.out HC7.out HL6.out rfl, Lib.hid HN2.out.symm⟩, by simp [intOf]; omega⟩
   ·have e10 : ((x.toNat : Int) == 10) = false := b_ne (k := 10) (by decide) h10
    by_cases h21 : x = 21#8
    ·subst h21
     have HN2 := Lib.hid (show feedR rs p (bs.take (i + 1)) = ⟨p1.state, [], p1.log, p1.lines⟩ by rw [HN.out]; exact byte_kill rs p1)
     have HC7 := Lib.hid (HC.out.set 1 (.string ⟨#[]⟩))
     have HF7 := Lib.hid ((Frm.refl [w.heap.size] V1).set (p := ⟨w.heap.size, 1, none⟩) (by simp) (.string ⟨#[]⟩))
     clear h10
     go_wp2_with fail
     exact ⟨⟨i + 1, ⟨p1.state, [], p1.log, p1.lines⟩, A1, n1, c1, hlt, by rw [show ((i + 1 : Nat) : Int) = (i : Int) + 1 by omega], HBW.out.trans (HF7.out.below HBW.out.size (by intro r hr; rw [List.mem_singleton.1 hr]; exact Nat.le_refl _)), HP.out.frm HF7.out HC7.out HP.out.lns HP.out.len, Lib.hid HN2.out.symm⟩, by simp [intOf]; omega⟩
    ·have e21 : ((x.toNat : Int) == 21) = false := b_ne (k := 21) (by decide) h21
     have hps := strP_size p1.part
     by_cases hlp : p1.part.length < 300
     ·have HN2 := Lib.hid (show feedR rs p (bs.take (i + 1)) = ⟨p1.state, p1.part ++ [x], p1.log, p1.lines⟩ by rw [HN.out]; unfold byteR; rw [if_neg (show ¬ x = (10 : B) from h10), if_neg (show ¬ x = (21 : B) from h21), if_pos hlp])
      have hi3 : ((p1.part.length : Int) < 300) := by omega
      clear h10 h21
      have s1 := str_one V1 x 1
      have z1 : ¬ 9223372036854775807 < (str p1.part).size + (str [x]).size := by rw [strP_size, strP_size, List.length_singleton]; omega
      have ap := strP_app p1.part [x]
      have hb4 : Below V1.heap.size V1 (V1.alloc (.cells #[v8 x] 5)) := (Below.refl _ _).alloc (Nat.le_refl _) _
      have hp4 := HP.out.below hb4
      have HP4 := Lib.hid hp4
      have HB4 := Lib.hid (HBW.out.trans (hb4.mono HBW.out.size))
      have j1 := hp4.cel.cell 1
      have g1 := hp4.cel.free 1
      change _ = some (Value.string (str p1.part)) at j1
      have HC7 := Lib.hid (hp4.cel.set 1 (.string (str (p1.part ++ [x]))))
      have HF7 := Lib.hid ((Frm.refl [w.heap.size] (V1.alloc (.cells #[v8 x] 5))).set (p := ⟨w.heap.size, 1, none⟩) (by simp) (.string (str (p1.part ++ [x]))))
      clear hb4 hp4
      go_wp2_with fail
      exact ⟨⟨i + 1, ⟨p1.state, p1.part ++ [x], p1.log, p1.lines⟩, A1, n1, c1, hlt, by rw [show ((i + 1 : Nat) : Int) = (i : Int) + 1 by omega], HB4.out.trans (HF7.out.below HB4.out.size (by intro r hr; rw [List.mem_singleton.1 hr]; exact Nat.le_refl _)), HP4.out.frm HF7.out HC7.out HP4.out.lns HP4.out.len, Lib.hid HN2.out.symm⟩, by simp [intOf]; omega⟩
     ·have HN2 := Lib.hid (show feedR rs p (bs.take (i + 1)) = p1 by rw [HN.out]; unfold byteR; rw [if_neg (show ¬ x = (10 : B) from h10), if_neg (show ¬ x = (21 : B) from h21), if_neg hlp])
      have hi3 : ¬ ((p1.part.length : Int) < 300) := by omega
      clear h10 h21
      go_wp2_with fail
      exact ⟨⟨i + 1, p1, A1, n1, c1, hlt, by rw [show ((i + 1 : Nat) : Int) = (i : Int) + 1 by omega], HBW.out, HP.out, Lib.hid HN2.out.symm⟩, by simp [intOf]; omega⟩
  ·obtain rfl : i = m := by omega
   have HE := Lib.hid (show feedR rs p bs = p1 by rw [HK.out, List.take_of_length_le (by rw [HBS.out.len]; exact Nat.le_refl _)])
   have k0 := hp.cel.cell 0
   have k1 := hp.cel.cell 1
   have k2 := hp.cel.cell 2
   have k3 := hp.cel.cell 3
   have r0 := hp.box.cell 0
   have r1 := hp.box.cell 1
   have r2 := hp.box.cell 2
   have r3 := hp.box.cell 3
   have f0 := hp.box.free 0
   have f1 := hp.box.free 1
   have f2 := hp.box.free 2
   have f3 := hp.box.free 3
   have HC6 := Lib.hid (fw4_cel (a := .int .i64 p1.state) (b := .string (str p1.part)) (c := .string (str p1.log)) (d := .slice A1 n1 c1) hp.box)
   have HF6 := Lib.hid (fw4_frm V1 (w.heap.size + 1) (.int .i64 p1.state) (.string (str p1.part)) (.string (str p1.log)) (.slice A1 n1 c1))
   unfold fw4 at HC6 HF6
   clear hb hp
   go_wp2_with fail
   refine bodyPost_ret (v := .agg #[.int .i64 p1.state, .string (str p1.part), .string (str p1.log), .slice A1 n1 c1]) (results_atP 6 34 Try.results25 ⟨w.heap.size + 1, 0, none⟩ rfl _ (load_peer HC6.out)) rfl ?_
   rw [HE.out]
   refine ⟨A1, c1, by rw [HP.out.len], HP.out.lns.frm HF6.out fun q hq => by rw [List.mem_singleton.1 hq]; exact Cel.not_ty HP.out.box (by decide), HBW.out.trans (HF6.out.below HBW.out.size (by intro q hq; rw [List.mem_singleton.1 hq]; omega))⟩
end Go.Proofs.Ytnjmdgnghidjhaa.Peer
end
section
namespace Go.Proofs.Ytnjmdgnghidjhaa.Rec
open Pack
abbrev B := BitVec 8
end Go.Proofs.Ytnjmdgnghidjhaa.Rec
end
section
namespace Go.Proofs.Ytnjmdgnghidjhaa.Pack
open Go.RowKit
theorem bytesT : ByteRow Try.prog 37 5 := ByteRow.mk' Try.underlying37 (by kernel_rfl)
def Own (w : World) (B : Nat) (A : Option Addr) (n c : Nat) (bs : List (BitVec 8)) : Prop := w.ownsRow B 5 1 (.slice A n c) n (bs.map v8)
theorem Own.of_nil (w : World) (B : Nat) : Own w B none 0 0 [] := World.ownsRow_nil w B _ _
end Go.Proofs.Ytnjmdgnghidjhaa.Pack
end
section
namespace Go.Proofs.Ytnjmdgnghidjhaa.Pack
open Go.RowKit
theorem Own.base {w : World} {B B' : Nat} {A : Option Addr} {n c : Nat} {bs : List (BitVec 8)} (h : Own w B A n c bs) (hB : B' ≤ B) : Own w B' A n c bs :=
 ⟨h.1, h.2.imp id fun ⟨g', cap, cur, h1, h2, h3⟩ => ⟨g', cap, cur, h1, by omega, h3⟩⟩
theorem clone (B : Nat) (A : Option Addr) (n c : Nat) (bs : List (BitVec 8)) (w : World) (hbs : Bs w B A n bs) (hB : B ≤ w.heap.size) (hn : n ≤ 140737488355328) :
  Calls Try.prog 26 #[.slice A n c] w fun e w' => ∃ A' c', e = .returned (.slice A' n c') ∧ Own w' w.heap.size A' n c' bs ∧ Below w.heap.size w w' := by
 have hq := fun w : World => Lib.run_eql_slice_nil (P := Try.prog) w 37 5 A n c 0 0 Try.underlying37
 rcases A with _ | ad
 ·have h0 : n = 0 := by
   rcases Nat.eq_zero_or_pos n with h0 | h0
   ·exact h0
   ·obtain ⟨ad, h, _⟩ := hbs.2 h0; cases h
  subst h0
  have hb : bs = [] := List.eq_nil_of_length_eq_zero hbs.1
  subst hb
  clear hbs
  go_enter Try.func26, Try.ntmps26
  go_wp2_with fail
  go_ret
  exact ⟨_, _, rfl, Own.of_nil _ _, Below.refl _ _⟩
 ·have HB := Lib.hid hbs
  clear hbs
  go_enter Try.func26, Try.ntmps26
  go_wp2_with ((at_builtin; refine wpList_append_new _ rfl _ _ 37 rfl 5 bytesT rfl B (some ad) n c bs rfl HB.out hB hn ?_; intro A3 c3 w3 o3 g3))
  go_ret
  exact ⟨A3, c3, rfl, o3, g3⟩
end Go.Proofs.Ytnjmdgnghidjhaa.Pack
end
section
namespace Go.Proofs.Ytnjmdgnghidjhaa.Rec
open Go.RowKit
open Pack (Own)
open Lex (Tx)
structure Vt where
 A : Option Addr
 c : Nat
 t : List B
def Vt.cell (v : Vt) : Value := .slice v.A v.t.length v.c
structure Tvs (w : World) (K : Nat) (A : Option Addr) (vs : List Vt) : Prop where
 cr : ∀ i v, vs[i]? = some v → ∃ ad, A = some ad ∧ w.cell? (ad.add i) = some v.cell
 tx : ∀ v ∈ vs, Tx w K v.A v.t ∧ v.t.length ≤ maxLen
theorem Tvs.below {w w' : World} {K : Nat} {A : Option Addr} {vs : List Vt} (h : Tvs w K A vs) (hK : K ≤ w.heap.size) (hb : Below w.heap.size w w') : Tvs w' K A vs :=
 ⟨fun i v hi => by
  obtain ⟨ad, e, hc⟩ := h.cr i v hi
  exact ⟨ad, e, (hb.cell (cell_lt hc)).trans hc⟩, fun v hv => ⟨(h.tx v hv).1.below hK hb, (h.tx v hv).2⟩⟩
def txt (vs : List Vt) : List (List B) := vs.map (·.t)
def Trow (w : World) (K : Nat) (A : Option Addr) (vs : List Vt) : Prop := vs ≠ [] → ∃ ad, A = some ad ∧ (ad.block < K ∨ ∃ cs fz, w.heap[ad.block]? = some (Obj.cells cs 37 fz))
theorem Trow.keep {w w' : World} {K : Nat} {A : Option Addr} {vs : List Vt} (h : Trow w K A vs) (hk : ∀ (k : Nat) cs fz, w.heap[k]? = some (Obj.cells cs 37 fz) → w'.heap[k]? = w.heap[k]?) : Trow w' K A vs := fun hn => by
 obtain ⟨ad, e, hc | ⟨cs, fz, hc⟩⟩ := h hn
 ·exact ⟨ad, e, .inl hc⟩
 ·exact ⟨ad, e, .inr ⟨cs, fz, (hk _ _ _ hc).trans hc⟩⟩
theorem Trow.below {w w' : World} {K : Nat} {A : Option Addr} {vs : List Vt} (h : Trow w K A vs) (hb : Below w.heap.size w w') : Trow w' K A vs := h.keep fun k cs fz e => hb.block k (Array.getElem?_eq_some_iff.1 e).1
theorem trow_own {w : World} {K KB n c : Nat} {A : Option Addr} {vs : List Vt} (h : w.ownsRow KB 37 1 (.slice A n c) n (vs.map Vt.cell)) : Trow w K A vs := fun hn => by
 have hl : vs.length = n := by have := h.1; simpa using this
 have hpos : 0 < n := by rw [← hl]; exact List.length_pos_iff.2 hn
 rcases h.2 with ⟨_, h0⟩ | ⟨g, cap, cur, hv, _, hg, _⟩
 ·omega
 ·injection hv with hA
  exact ⟨⟨g, 0, none⟩, hA, .inr ⟨_, _, hg⟩⟩
theorem Tvs.frm {w w' : World} {K : Nat} {A : Option Addr} {vs : List Vt} {l : List Nat} (h : Tvs w K A vs) (ht : Trow w K A vs) (hf : Frm l w w') (hl : ∀ k ∈ l, K ≤ k ∧ (∀ cs fz, w.heap[k]? ≠ some (Obj.cells cs 5 fz)) ∧ ∀ cs fz, w.heap[k]? ≠ some (Obj.cells cs 37 fz)) : Tvs w' K A vs ∧ Trow w' K A vs := by
 have hk : ∀ (k : Nat) cs fz, w.heap[k]? = some (Obj.cells cs 37 fz) → w'.heap[k]? = w.heap[k]? := fun k cs fz e => hf.block k (Array.getElem?_eq_some_iff.1 e).1 (fun hm => (hl k hm).2.2 _ _ e)
 refine ⟨⟨fun i v hi => ?_, fun v hv => ⟨?_, (h.tx v hv).2⟩⟩, ht.keep hk⟩
 ·obtain ⟨ad, e, hc⟩ := h.cr i v hi
  obtain ⟨ad', e', hg⟩ := ht (fun q => by rw [q] at hi; cases hi)
  rw [e] at e'
  cases e'
  refine ⟨ad, e, (World.cell?_of_block (by
   rw [add_block]
   rcases hg with hg | ⟨cs, fz, hg⟩
   ·exact hf.block _ (by have := cell_lt hc; rwa [add_block] at this) (fun hm => by have := (hl _ hm).1; omega)
   ·exact hk _ _ _ hg)).trans hc⟩
 ·rcases (h.tx v hv).1 with hs | hs
  ·refine .inl ((Bs.bp hs).keep fun k hk hlt => hf.block k hlt fun hm => ?_)
   have := (hl k hm).1
   omega
  ·refine .inr ⟨hs.1, fun hn => ?_⟩
   obtain ⟨ad, e, ⟨cs, fz, hg⟩, hc⟩ := hs.2 hn
   have hb : w'.heap[ad.block]? = w.heap[ad.block]? := hf.block _ (Array.getElem?_eq_some_iff.1 hg).1 fun hm => (hl _ hm).2.1 _ _ hg
   exact ⟨ad, e, ⟨cs, fz, hb.trans hg⟩, fun j hj => (World.cell?_of_block (by rw [add_block]; exact hb)).trans (hc j hj)⟩
end Go.Proofs.Ytnjmdgnghidjhaa.Rec
end
