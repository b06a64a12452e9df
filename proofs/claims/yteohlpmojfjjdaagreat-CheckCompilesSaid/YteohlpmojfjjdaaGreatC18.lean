/-
Texts: ChkFew ChkMap
-/
import Derived.Test.YteohlpmojfjjdaaGreatC0
import Derived.Test.YteohlpmojfjjdaaGreatC1
import Derived.Test.YteohlpmojfjjdaaGreatC2
import Derived.Test.YteohlpmojfjjdaaGreatC7
import Derived.Test.YteohlpmojfjjdaaGreatC8
import Derived.Test.YteohlpmojfjjdaaGreatC9
import Derived.Test.YteohlpmojfjjdaaGreatC17
import Derived.Maps.OwnSet
import Derived.Maps.Views
import Derived.StringKeys
set_option linter.unusedVariables false
set_option linter.unusedSimpArgs false
set_option maxRecDepth 100000
set_option maxHeartbeats 4000000
section
namespace Go.Proofs.YteohlpmojfjjdaaGreat.Chk
open Go.RowKit
open Lex (Tx Cr cr_ry)
theorem str_size (a : List (BitVec 8)) : (str a).size = a.length := by show ((a.map UInt8.ofBitVec).toArray).size = _; simp
def FewA (a : GArm) : Prop := a.pat.length ≤ 200 ∧ a.as_.length ≤ 50 ∧ a.go.length ≤ 50
def FewS (s : GStep) : Prop := s.name.length ≤ 50 ∧ s.els.length ≤ 50 ∧ s.send.length ≤ 300 ∧ s.arms.length ≤ 10 ∧ ∀ a ∈ s.arms, FewA a
def Few14 (w : World) (n : Nat) (vs : List Gs) (e : Ending) (w' : World) : Prop := ∃ b, e = .returned (.bool b) ∧ Below w.heap.size w w' ∧ (b = true → n ≤ 35 ∧ ∀ v ∈ vs, FewS v.g)
theorem mem_take {α : Type} {l : List α} {i : Nat} {x y : α} (h : l[i]? = some x) (hy : y ∈ l.take (i + 1)) : y ∈ l.take i ∨ y = x := by
 rw [List.take_add_one, h] at hy
 simpa using hy
theorem few14 (w : World) (T : Nat) (A : Option Addr) (n c : Nat) (vs : List Gs) (h : Gbk w T A vs) (hT : T ≤ w.heap.size) (hl : vs.length = n) (hn : n ≤ maxLen) (hf : ∀ v ∈ vs, FitS v.g) (most : Int) :
  Calls Tryz.prog 6 #[.agg #[.int .i64 most, .slice A n c]] w (Few14 w n vs) := by
 unfold maxLen at hn
 obtain ⟨w1, hw1⟩ : ∃ w1, w1 = w.alloc (.cells #[.int .i64 most, .slice A n c] 24) := ⟨_, rfl⟩
 have hb1 : Below w.heap.size w w1 := by rw [hw1]; exact (Below.refl _ _).alloc (Nat.le_refl _) _
 have hc1 : Cel w1 w.heap.size 24 [.int .i64 most, .slice A n c] := by rw [hw1]; exact Cel.new w _ _
 have H := Lib.hid (h.below hT hb1)
 have HL := Lib.hid hl
 have HF := Lib.hid hf
 have HC1 := Lib.hid hc1
 have HB1 := Lib.hid hb1
 have hT1 : T ≤ w1.heap.size := Nat.le_trans hT hb1.size
 clear h hl hf hb1 hc1
 go_enter Tryz.func6, Tryz.ntmps6
 go_wp2_with fail
 rw [← hw1]
 clear hw1
 go_loopw [3] (fun v3 wr => ∃ (i : Nat), i ≤ n ∧ v3 = .int .i64 (i : Int) ∧ Below w1.heap.size w1 wr ∧ Hid (∀ v ∈ vs.take i, FewS v.g)) (fun v3 _ => n - (intOf v3).toNat)
 case atStart => exact ⟨0, Nat.zero_le _, rfl, Below.refl _ _, Lib.hid (by simp)⟩
 case round =>
  obtain ⟨i, hi, rfl, hb, HK⟩ := hrel
  obtain ⟨W0, rfl⟩ : ∃ W0, W0 = wr := ⟨_, rfl⟩
  have hc := (hb.block _ (Cel.lt HC1.out)).trans HC1.out
  replace hc : Cel W0 w.heap.size 24 [.int .i64 most, .slice A n c] := hc
  have b1 := hc.cell 1
  have lb := hc.lt
  have HB := Lib.hid (HB1.out.trans (hb.mono HB1.out.size))
  have HB0 := Lib.hid hb
  rcases Nat.lt_or_ge i n with hlt | hge
  ·obtain ⟨v, hv⟩ : ∃ v, vs[i]? = some v := ⟨_, List.getElem?_eq_getElem (by rw [HL.out]; exact hlt)⟩
   have hG := H.out.below hT1 hb
   obtain ⟨ad, rfl, x0, x1, x2, x3, x4, x5, x6, x7, x8⟩ := hG.step hv
   have lx : (ad.add (i * 9)).block < W0.heap.size := cell_lt x0
   have HV := Lib.hid hv
   have HAV := Lib.hid ((hG.arms v (List.mem_of_getElem? hv)).2)
   obtain ⟨g1, g2, g3, g4, _, _, _, _, g5⟩ := HF.out v (List.mem_of_getElem? hv)
   unfold maxLen at g1 g2 g3 g4
   obtain ⟨W1, hW1⟩ : ∃ W1, W1 = W0.alloc (.cells #[.int .i64 v.g.at_, .string (str v.g.name), .int .i64 v.g.tag, .bool v.g.sends, .slice v.A4 v.g.send.length v.c4, .slice v.A5 v.g.arms.length v.c5, .int .i64 v.g.time, .int .i64 v.g.try_, .string (str v.g.els)] 52) := ⟨_, rfl⟩
   have hbW1 : Below W0.heap.size W0 W1 := by rw [hW1]; exact (Below.refl _ _).alloc (Nat.le_refl _) _
   have hcW1 : Cel W1 W0.heap.size 52 v.cells := by rw [hW1]; exact Cel.new W0 _ _
   have HX1 := Lib.hid hcW1
   have HBX := Lib.hid (HB.out.trans (hbW1.mono HB.out.size))
   have HBX0 := Lib.hid (HB0.out.trans (hbW1.mono HB0.out.size))
   have HG5 := Lib.hid g5
   have HW1 := Lib.hid hW1
   have e1 := str_size v.g.name
   have e8 := str_size v.g.els
   clear hv hG g5 hbW1 hcW1 hW1 hb hc
   obtain ⟨sn, hsn⟩ : ∃ sn, sn = str v.g.name := ⟨_, rfl⟩
   obtain ⟨se, hse⟩ : ∃ se, se = str v.g.els := ⟨_, rfl⟩
   have HW2 := HW1
   rw [← hsn, ← hse] at HW2
   rw [← hsn] at x1 e1
   rw [← hse] at x8 e8
   rw [← e1] at g1
   rw [← e8] at g2
   obtain ⟨sl, hsl⟩ : ∃ sl, sl = v.g.send.length := ⟨_, rfl⟩
   obtain ⟨ml, hml⟩ : ∃ ml, ml = v.g.arms.length := ⟨_, rfl⟩
   rw [← hsl] at x4 g3 HW2
   rw [← hml] at x5 g4 HW2
   have HE := Lib.hid (And.intro e1 (And.intro e8 (And.intro hsl hml)))
   clear e1 e8 hsl hml hsn hse
   by_cases t1 : 50 < sn.size
   ·have dt1 : decide ((50 : Int) < (sn.size : Int)) = true := by simp; omega
    go_wp2_with fail
    rw [← HW2.out]
    go_ret
    exact ⟨false, rfl, HBX.out, fun e => by cases e⟩
   have dt1 : decide ((50 : Int) < (sn.size : Int)) = false := by simp; omega
   by_cases t2 : 50 < se.size
   ·have dt2 : decide ((50 : Int) < (se.size : Int)) = true := by simp; omega
    go_wp2_with fail
    rw [← HW2.out]
    go_ret
    exact ⟨false, rfl, HBX.out, fun e => by cases e⟩
   have dt2 : decide ((50 : Int) < (se.size : Int)) = false := by simp; omega
   by_cases t3 : 300 < sl
   ·have dt3 : decide ((300 : Int) < (sl : Int)) = true := by simp; omega
    go_wp2_with fail
    rw [← HW2.out]
    go_ret
    exact ⟨false, rfl, HBX.out, fun e => by cases e⟩
   have dt3 : decide ((300 : Int) < (sl : Int)) = false := by simp; omega
   by_cases t4 : 10 < ml
   ·have dt4 : decide ((10 : Int) < (ml : Int)) = true := by simp; omega
    go_wp2_with fail
    rw [← HW2.out]
    go_ret
    exact ⟨false, rfl, HBX.out, fun e => by cases e⟩
   have dt4 : decide ((10 : Int) < (ml : Int)) = false := by simp; omega
   have hTX : T ≤ W1.heap.size := Nat.le_trans hT1 HBX0.out.size
   go_wp2_with fail
   rw [← HW2.out]
   clear x0 x1 x2 x3 x4 x5 x6 x7 x8 b1 lb lx
   go_loopw [5] (fun v5 wr => ∃ (k : Nat), k ≤ ml ∧ v5 = .int .i64 (k : Int) ∧ Below W1.heap.size W1 wr ∧ Hid (∀ a ∈ v.g.arms.take k, FewA a)) (fun v5 _ => ml - (intOf v5).toNat)
   case atStart => exact ⟨0, Nat.zero_le _, rfl, Below.refl _ _, Lib.hid (by simp)⟩
   case round =>
    obtain ⟨k, hk, rfl, hb, HKA⟩ := hrel
    obtain ⟨V0, rfl⟩ : ∃ V0, V0 = wr := ⟨_, rfl⟩
    have hx := (hb.block _ (Cel.lt HX1.out)).trans HX1.out
    replace hx : Cel V0 W0.heap.size 52 v.cells := hx
    have k5 : V0.cell? ⟨W0.heap.size, 5, none⟩ = some (.slice v.A5 ml v.c5) := by rw [HE.out.2.2.2]; exact hx.cell 5
    have HBV := Lib.hid (HBX.out.trans (hb.mono HBX.out.size))
    have HBV0 := Lib.hid (HBX0.out.trans (hb.mono HBX0.out.size))
    rcases Nat.lt_or_ge k ml with hkl | hkl
    ·obtain ⟨a, ha⟩ : ∃ a, v.avs[k]? = some a := ⟨_, List.getElem?_eq_getElem (by have := congrArg List.length HAV.out; rw [List.length_map] at this; rw [this, ← HE.out.2.2.2]; exact hkl)⟩
     obtain ⟨bd, h5, y1, y2, y3⟩ := (H.out.below hT1 HBV0.out).arm HV.out ha
     rw [h5] at k5
     have hag : v.g.arms[k]? = some a.g := by rw [← HAV.out, List.getElem?_map, ha]; rfl
     obtain ⟨f1, f2, f3, _⟩ := HG5.out a.g (List.mem_of_getElem? hag)
     unfold maxLen at f1 f2 f3
     have HAG := Lib.hid hag
     have e2 := str_size a.g.as_
     have e3 := str_size a.g.go
     rw [← e2] at f2
     rw [← e3] at f3
     have HE2 := Lib.hid (And.intro e2 e3)
     have HBV1 := Lib.hid hb
     clear hag ha h5 hx hb e2 e3
     generalize hsa : str a.g.as_ = sa at *
     generalize hsg : str a.g.go = sg at *
     generalize hpl : a.g.pat.length = pl at *
     have HS := Lib.hid (And.intro hsa (And.intro hsg hpl))
     clear hsa hsg hpl
     by_cases u1 : 200 < pl
     ·have du1 : decide ((200 : Int) < (pl : Int)) = true := by simp; omega
      go_wp2_with fail
      go_ret
      exact ⟨false, rfl, HBV.out, fun e => by cases e⟩
     have du1 : decide ((200 : Int) < (pl : Int)) = false := by simp; omega
     by_cases u2 : 50 < sa.size
     ·have du2 : decide ((50 : Int) < (sa.size : Int)) = true := by simp; omega
      go_wp2_with fail
      go_ret
      exact ⟨false, rfl, HBV.out, fun e => by cases e⟩
     have du2 : decide ((50 : Int) < (sa.size : Int)) = false := by simp; omega
     by_cases u3 : 50 < sg.size
     ·have du3 : decide ((50 : Int) < (sg.size : Int)) = true := by simp; omega
      go_wp2_with fail
      go_ret
      exact ⟨false, rfl, HBV.out, fun e => by cases e⟩
     have du3 : decide ((50 : Int) < (sg.size : Int)) = false := by simp; omega
     have HKA2 := Lib.hid (show ∀ a ∈ v.g.arms.take (k + 1), FewA a from fun y hy => by
      rcases mem_take HAG.out hy with hy | rfl
      ·exact HKA.out y hy
      ·exact ⟨by rw [HS.out.2.2]; omega, by rw [← HE2.out.1]; omega, by rw [← HE2.out.2]; omega⟩)
     go_wp2_with fail
     exact ⟨⟨k + 1, hkl, by rw [show ((k + 1 : Nat) : Int) = (k : Int) + 1 by omega], HBV1.out, HKA2⟩, by simp [intOf]; omega⟩
    ·obtain rfl : ml = k := by omega
     have HKS := Lib.hid (show ∀ u ∈ vs.take (i + 1), FewS u.g from fun y hy => by
      rcases mem_take HV.out hy with hy | rfl
      ·exact HK.out y hy
      ·obtain ⟨q1, q2, q3, q4⟩ := HE.out
       exact ⟨by rw [← q1]; omega, by rw [← q2]; omega, by rw [← q3]; omega, by rw [← q4]; omega, fun a ha => HKA.out a (by rw [q4, List.take_length]; exact ha)⟩)
     clear hb hx
     go_wp2_with fail
     exact ⟨⟨i + 1, hlt, by rw [show ((i + 1 : Nat) : Int) = (i : Int) + 1 by omega], HBV0.out, HKS⟩, by simp [intOf]; omega⟩
  ·obtain rfl : n = i := by omega
   have HKN := Lib.hid (show ∀ v ∈ vs, FewS v.g from fun v hv => HK.out v (by rw [List.take_of_length_le (by rw [HL.out]; exact Nat.le_refl _)]; exact hv))
   clear hb hc
   go_wp2_with fail
   go_ret
   exact ⟨_, rfl, HB.out, fun e => ⟨by simp at e; omega, HKN.out⟩⟩
end Go.Proofs.YteohlpmojfjjdaaGreat.Chk
end
section
namespace Go.Proofs.YteohlpmojfjjdaaGreat.Chk
open Go.RowKit Go.Maps
open Book (str_beq)
def Rz (v : Value) : Option (DataW Value × List MemPlace) := some (.held v, [])
def kyS (x : List B) : Lit := .string (x.map UInt8.ofBitVec)
theorem keyedS : Keyed Tryz.prog 9 := string_keyed Tryz.underlying9
theorem keyOfS {x : List B} (h : x.length ≤ 100000) : keyOf Tryz.prog 9 (.string (str x)) = some (kyS x) := by
 have := WideMaps.keyOf_string_mk (P := Tryz.prog) Tryz.underlying9 (s := str x) (by rw [str_size]; unfold maxLen; omega)
 rw [this]; simp [kyS, str]
theorem keyS_lit (x : List B) : WideAt.IsKeyLit (kyS x) := trivial
theorem keyS_ne {x y : List B} (h : x ≠ y) : kyS x ≠ kyS y := fun e => h (by
 have e1 : (x.map UInt8.ofBitVec) = y.map UInt8.ofBitVec := by unfold kyS at e; injection e
 have e2 := str_beq x y
 rw [Book.str_toList, Book.str_toList, e1] at e2
 have e3 : (y.map UInt8.ofBitVec == y.map UInt8.ofBitVec) = true := by simp
 rw [e3] at e2
 exact of_decide_eq_true e2.symm)
def Mp (w : World) (b n : Nat) (f : List B → Option Int) : Prop := ∃ D, w.ownsMap Tryz.prog 9 Rz b n D ∧ (∀ k, Maps.has D (kyS k) = (f k).isSome) ∧ ∀ k j, f k = some j → ∀ z, D.atKey (kyS k) z = .held (.int .i64 j)
theorem Mp.made (w : World) : Mp (w.alloc (.map #[] 0)) w.heap.size 0 (fun _ => none) := ⟨_, World.ownsMap_made w Tryz.prog 9 Rz, fun _ => rfl, fun _ _ h => by cases h⟩
theorem Mp.putS {w : World} {b n : Nat} {f : List B → Option Int} (h : Mp w b n f) (k : List B) (hk : k.length ≤ 100000) (hn : n ≤ 100000) (j : Int) :
  ∃ w', (Instr.mapUpdate 81 (.map (some b)) (.string (str k)) (.int .i64 j)).run Tryz.prog w = .ok () w' ∧ Mp w' b (n + 1) (fun i => if i = k then some j else f i) ∧ w.grownBy w' (some b) := by
 obtain ⟨D, ho, h1, h2⟩ := h
 obtain ⟨w', hr, ho', hg⟩ := World.ownsMap.update ho keyedS Tryz.underlying81 (by unfold maxLen; omega) (keyOfS hk) (val := .int .i64 j) (d := .held (.int .i64 j)) (ps := []) rfl
 refine ⟨w', hr, ⟨_, ho', fun i => ?_, fun i j' hj z => ?_⟩, hg⟩
 ·by_cases e : i = k
  ·subst e
   rw [show (fun i' => if i' = i then some j else f i') i = some j from if_pos rfl, has_put_same ho.isMap (keyS_lit _)]; rfl
  ·rw [show (fun i' => if i' = k then some j else f i') i = f i from if_neg e, has_put_other (keyS_ne e)]; exact h1 i
 ·by_cases e : i = k
  ·subst e
   rw [show (fun i' => if i' = i then some j else f i') i = some j from if_pos rfl] at hj
   cases hj
   exact atKey_put_same ho.isMap (keyS_lit _) _ _
  ·rw [show (fun i' => if i' = k then some j else f i') i = f i from if_neg e] at hj
   rw [atKey_put_other (keyS_ne e)]; exact h2 i j' hj z
theorem Mp.lookS {w : World} {b n : Nat} {f : List B → Option Int} (h : Mp w b n f) (k : List B) (hk : k.length ≤ 100000) :
  (Instr.lookup 81 (.map (some b)) (.string (str k)) true).run Tryz.prog w = .ok (.tuple #[.int .i64 ((f k).getD 0), .bool (f k).isSome]) w := by
 obtain ⟨D, ho, h1, h2⟩ := h
 obtain ⟨v, ps, hr, hv⟩ := World.ownsMap.look_ok ho keyedS Tryz.underlying81 (Tryz.zeroValue3 w) (zd := .held (.int .i64 0)) (zp := []) rfl (keyOfS hk)
 have hat : D.atKey (kyS k) (.held (.int .i64 0)) = .held v := by
  have e : (DataW.held v, ([] : List MemPlace)) = (D.atKey (kyS k) (.held (.int .i64 0)), ps) := Option.some.inj hv
  exact (Prod.mk.inj e).1.symm
 rw [hr, h1]
 cases hf : f k with
 | none =>
  have := h1 k
  rw [hf] at this
  rw [atKey_of_not_has this] at hat
  cases hat
  rfl
 | some j =>
  rw [h2 k j hf] at hat
  cases hat
  rfl
theorem Mp.lookZ {w : World} {b n : Nat} {f : List B → Option Int} (h : Mp w b n f) (k : List B) (hk : k.length ≤ 100000) :
  (Instr.lookup 81 (.map (some b)) (.string (str k)) false).run Tryz.prog w = .ok (.int .i64 ((f k).getD 0)) w := by
 obtain ⟨D, ho, h1, h2⟩ := h
 obtain ⟨v, ps, hr, hv⟩ := World.ownsMap.lookup ho keyedS Tryz.underlying81 (Tryz.zeroValue3 w) (zd := .held (.int .i64 0)) (zp := []) rfl (keyOfS hk)
 have hat : D.atKey (kyS k) (.held (.int .i64 0)) = .held v := by
  have e : (DataW.held v, ([] : List MemPlace)) = (D.atKey (kyS k) (.held (.int .i64 0)), ps) := Option.some.inj hv
  exact (Prod.mk.inj e).1.symm
 rw [hr]
 cases hf : f k with
 | none =>
  have := h1 k
  rw [hf] at this
  rw [atKey_of_not_has this] at hat
  cases hat
  rfl
 | some j =>
  rw [h2 k j hf] at hat
  cases hat
  rfl
theorem Mp.kept {w w' : World} {b n : Nat} {f : List B → Option Int} (h : Mp w b n f) (he : ∀ es k, w.heap[b]? = some (.map es k) → w'.heap[b]? = w.heap[b]?) : Mp w' b n f := by
 obtain ⟨D, ⟨es, clock, hb, r⟩, h1⟩ := h
 exact ⟨D, ⟨es, clock, (he _ _ hb).trans hb, r⟩, h1⟩
theorem Mp.lt {w : World} {b n : Nat} {f : List B → Option Int} (h : Mp w b n f) : b < w.heap.size := by
 obtain ⟨D, ho, _⟩ := h
 exact ho.lt
theorem Mp.below {w w' : World} {b n : Nat} {f : List B → Option Int} (h : Mp w b n f) (hb : Below w.heap.size w w') : Mp w' b n f := h.kept fun es k e => hb.block b h.lt
theorem Mp.not_cells {w : World} {b n : Nat} {f : List B → Option Int} (h : Mp w b n f) (cs : Array Value) (t : TypeId) (fz : Nat × Nat) : w.heap[b]? ≠ some (Obj.cells cs t fz) := by
 obtain ⟨D, ⟨es, clock, hb, r⟩, h1⟩ := h
 rw [hb]
 intro e
 cases e
end Go.Proofs.YteohlpmojfjjdaaGreat.Chk
end
