/-
Texts: FoldStart FoldNext FoldAll FoldFew RecOpen FoldOpen FoldPsays
-/
import Derived.Test.YtfmkkklcgiaacaaFR0
import Derived.Test.YtfmkkklcgiaacaaFR1
import Derived.Deep.CutRange
import Derived.Test.YtfmkkklcgiaacaaChecked
import Derived.WalkKit
import Derived.ProofKit
import Derived.OrdersHeld
import Derived.Deep.RegionHeld
set_option linter.unusedVariables false
set_option linter.unusedSimpArgs false
set_option maxRecDepth 100000
set_option maxHeartbeats 4000000
section
namespace Go.Proofs.Ytfmkkklcgiaacaa.Fold
open Go.RowKit
open Lex (Tx)
open Rec (Stt Vt Tvs txt infoRw Trow)
theorem made_rows (k : Nat) : madeCells (Value.cells (.slice none 0 0)) (k * 1) = (List.replicate k (Value.slice none 0 0)).toArray := by
 apply Array.ext
 ·simp [size_madeCells]
 ·intro i h1 h2
  simp [madeCells, Value.cells, Nat.mod_one]
theorem run_make_rows (w : World) (k : Nat) (hk : k ≤ 1000000) :
  (Instr.makeSlice 26 (.int .i64 (k : Int)) (.int .i64 (k : Int))).run Try.prog w = .ok (.slice (some ⟨w.heap.size, 0, none⟩) k k) (w.alloc (.cells (List.replicate k (Value.slice none 0 0)).toArray 29)) := by
 obtain ⟨i, hi, hz, hsz, hby⟩ := info_parts infoRw
 have h := run_make (P := Try.prog) w 26 29 i (.slice none 0 0) Try.underlying26 hi hz .i64 .i64 k k (by omega) (Int.le_refl _) (by rw [hby]; omega) (by omega)
 simp only [Int.toNat_natCast] at h
 rw [hsz, made_rows] at h
 exact h
def StSays (w' : World) (K : Nat) (s : Stt) (v : Value) : Prop := ∃ A c us, v = stval s.step s.visit s.tries s.off A us.length c ∧ Tvs w' K A us ∧ Trow w' K A us ∧ txt us = s.vars
theorem load_st {w : World} {g : Nat} {x0 x1 x2 x3 x4 : Value} (h : Cel w g 31 [x0, x1, x2, x3, x4]) : (loadVar 31 ⟨g, 0, none⟩).run Try.prog w = .ok (.agg #[x0, x1, x2, x3, x4]) w :=
 run_loadVar_mid (P := Try.prog) w g 0 31 [x0, x1, x2, x3, x4] _ (fun j v hv => by rw [Nat.zero_add, h.cell j, hv]) Try.underlying31 rfl (by kernel_rfl)
end Go.Proofs.Ytfmkkklcgiaacaa.Fold
end
section
namespace Go.Proofs.Ytfmkkklcgiaacaa.Fold
open Go.RowKit
open Lex (Tx)
open Rec (Stt Vt Tvs txt Rv Rok Rc Trow Tvs.frm)
def fw5 (W : World) (g : Nat) (a b c d e : Value) : World := ((((W.setCell ⟨g, 0, none⟩ a).setCell ⟨g, 1, none⟩ b).setCell ⟨g, 2, none⟩ c).setCell ⟨g, 3, none⟩ d).setCell ⟨g, 4, none⟩ e
theorem fw5_cel {W : World} {g : Nat} {t : TypeId} {x y z u q a b c d e : Value} (h : Cel W g t [x, y, z, u, q]) : Cel (fw5 W g a b c d e) g t [a, b, c, d, e] := ((((h.set 0 a).set 1 b).set 2 c).set 3 d).set 4 e
theorem fw5_frm (W : World) (g : Nat) (a b c d e : Value) : Frm [g] W (fw5 W g a b c d e) := (((((Frm.refl [g] W).set (p := ⟨g, 0, none⟩) (by simp) a).set (p := ⟨g, 1, none⟩) (by simp) b).set (p := ⟨g, 2, none⟩) (by simp) c).set (p := ⟨g, 3, none⟩) (by simp) d).set (p := ⟨g, 4, none⟩) (by simp) e
end Go.Proofs.Ytfmkkklcgiaacaa.Fold
end
section
namespace Go.Proofs.Ytfmkkklcgiaacaa.Fold
open Go.RowKit
open Lex (Tx)
open Rec (Stt Vt Tvs txt Rv Rok Rc Trow Tvs.frm)
theorem next_len {b : Bok} {s t : Stt} {r : Rc} (h : nextR b s r = some t) : t.vars.length = b.nv := by
 obtain ⟨h1, _, _, _, _, p, _, ht⟩ := next_some h
 have hn := (right_nums h1).2.2.2.2.2.2.1
 split at ht
 ·unfold intentR at ht
  split at ht
  ·cases ht
  ·injection ht with ht; subst ht; exact hn
 ·unfold outcomeR at ht
  split at ht
  ·cases ht
  ·split at ht
   ·injection ht with ht
    subst ht
    show (setV s.vars r.var r.value).length = _
    unfold setV
    rw [List.length_map, List.length_range]; exact hn
   ·cases ht
end Go.Proofs.Ytfmkkklcgiaacaa.Fold
end
section
namespace Go.Proofs.Ytfmkkklcgiaacaa.Fold
open Go.RowKit
open Lex (Tx)
open Rec (Stt Vt Tvs txt)
def FewSays (w : World) (P : Prop) (e : Ending) (w' : World) : Prop := ∃ b, e = .returned (.bool b) ∧ Below w.heap.size w w' ∧ (b = true → P)
theorem take_all {α : Type} {l : List α} {i : Nat} {x : α} (h : l[i]? = some x) {P : α → Prop} (h1 : ∀ y ∈ l.take i, P y) (h2 : P x) : ∀ y ∈ l.take (i + 1), P y := by
 rw [List.take_add_one, h]
 intro y hy
 rcases List.mem_append.1 hy with hy | hy
 ·exact h1 y hy
 ·simp at hy; subst hy; exact h2
theorem few16 (w : World) (A : Option Addr) (n c : Nat) (vs : List Fs) (hb : Fbk w A vs) (hl : vs.length = n) (hn : n ≤ maxLen) (A1 : Option Addr) (nv c1 : Nat) (most : Int) (ha : ∀ v ∈ vs, v.arms.length ≤ maxLen) :
  Calls Try.prog 5 #[bval A n c A1 nv c1 most] w (FewSays w (n ≤ 35 ∧ nv ≤ 20 ∧ most < 1000000 ∧ -1000000 < most ∧ ∀ v ∈ vs, v.arms.length ≤ 10)) := by
 unfold bval
 unfold maxLen at hn
 obtain ⟨w1, hw1⟩ : ∃ w1, w1 = w.alloc (.cells #[.slice A n c, .slice A1 nv c1, .int .i64 most] 25) := ⟨_, rfl⟩
 have hb1 : Below w.heap.size w w1 := by rw [hw1]; exact (Below.refl _ _).alloc (Nat.le_refl _) _
 have hc1 : Cel w1 w.heap.size 25 [.slice A n c, .slice A1 nv c1, .int .i64 most] := by rw [hw1]; exact Cel.new w _ _
 have k0 := hc1.cell 0
 have k1 := hc1.cell 1
 have k2 := hc1.cell 2
 have HB1 := Lib.hid hb1
 have HBK := Lib.hid (hb.below hb1)
 have HL := Lib.hid hl
 have HA := Lib.hid ha
 clear hb hb1 hc1 hl ha
 go_enter Try.func5, Try.ntmps5
 go_wp2_with fail
 rw [← hw1]
 clear hw1
 go_loopw [3, 4] (fun v3 v4 wr => ∃ (i : Nat), i ≤ n ∧ v3 = .int .i64 (i : Int) ∧ w1 = wr ∧ Hid (∀ v ∈ vs.take i, v.arms.length ≤ 10)) (fun v3 _ _ => n - (intOf v3).toNat)
 case atStart => exact ⟨0, Nat.zero_le _, rfl, rfl, Lib.hid (by simp)⟩
 case round =>
  obtain ⟨i, hi, rfl, rfl, HK⟩ := hrel
  rcases Nat.lt_or_ge i n with hlt | hge
  ·obtain ⟨v, hv⟩ : ∃ v, vs[i]? = some v := ⟨_, List.getElem?_eq_getElem (by rw [HL.out]; exact hlt)⟩
   obtain ⟨ad, rfl, _, _, a2, a3, _⟩ := HBK.out.at_ hv
   have HFR := Lib.hid (HBK.out.ar v (List.mem_of_getElem? hv))
   have hml := HA.out v (List.mem_of_getElem? hv)
   unfold maxLen at hml
   obtain ⟨m, hm⟩ : ∃ m, m = v.arms.length := ⟨_, rfl⟩
   have HM := Lib.hid hm
   rw [← hm] at a3 hml
   generalize v.n2 = n2 at *
   generalize v.A2 = A2 at *
   generalize v.c2 = c2 at *
   obtain ⟨A3, hA3⟩ : ∃ A3, A3 = v.A3 := ⟨_, rfl⟩
   have HA3 := Lib.hid hA3
   rw [← hA3] at a3
   generalize v.c3 = c3 at *
   clear hm hA3
   by_cases h10 : 10 < m
   ·clear hv
    go_wp2_with fail
    go_ret
    exact ⟨false, rfl, HB1.out, fun h => by cases h⟩
   ·have HN := Lib.hid (show ∀ v ∈ vs.take (i + 1), v.arms.length ≤ 10 from take_all hv HK.out (by rw [← HM.out]; omega))
    clear hv
    have z10 : decide ((10 : Int) < (m : Int)) = false := by simp; omega
    by_cases h300 : 300 < n2
    ·go_wp2_with fail
     go_ret
     exact ⟨false, rfl, HB1.out, fun h => by cases h⟩
    ·have z300 : decide ((300 : Int) < (n2 : Int)) = false := by simp; omega
     go_wp2_with fail
     go_loopw [4] (fun v4 wr => ∃ (j : Nat), j ≤ m ∧ v4 = .int .i64 (j : Int) ∧ w1 = wr) (fun v4 _ => m - (intOf v4).toNat)
     case atStart => exact ⟨0, Nat.zero_le _, rfl, rfl⟩
     case round =>
      obtain ⟨j, hj, rfl, rfl⟩ := hrel
      rcases Nat.lt_or_ge j m with hlt2 | hge2
      ·obtain ⟨a, ha⟩ : ∃ a, v.arms[j]? = some a := ⟨_, List.getElem?_eq_getElem (by rw [← HM.out]; exact hlt2)⟩
       obtain ⟨bd, hbd, b0, _, _⟩ := HFR.out.at_ ha
       rw [← HA3.out] at hbd
       subst hbd
       generalize a.n = an at *
       generalize a.A = aA at *
       generalize a.c = ac at *
       clear ha
       by_cases h100 : 100 < an
       ·go_wp2_with fail
        go_ret
        exact ⟨false, rfl, HB1.out, fun h => by cases h⟩
       ·have z100 : decide ((100 : Int) < (an : Int)) = false := by simp; omega
        go_wp2_with fail
        exact ⟨⟨j + 1, by omega, by rw [show ((j + 1 : Nat) : Int) = (j : Int) + 1 by omega], by trivial⟩, by simp [intOf]; omega⟩
      ·have zj : decide ((j : Int) < (m : Int)) = false := by simp; omega
       go_wp2_with fail
       exact ⟨⟨i + 1, by omega, by rw [show ((i + 1 : Nat) : Int) = (i : Int) + 1 by omega], by trivial, HN⟩, by simp [intOf]; omega⟩
  ·have HN := Lib.hid (show ∀ v ∈ vs, v.arms.length ≤ 10 from fun v hv => HK.out v (by rw [List.take_of_length_le (by rw [HL.out]; exact hge)]; exact hv))
   have zi : decide ((i : Int) < (n : Int)) = false := by simp; omega
   by_cases h1 : n ≤ 35 ∧ nv ≤ 20 ∧ most < 1000000 ∧ -1000000 < most
   ·obtain ⟨h1, h2, h3, h4⟩ := h1
    have HALL := Lib.hid (show n ≤ 35 ∧ nv ≤ 20 ∧ most < 1000000 ∧ -1000000 < most ∧ ∀ v ∈ vs, v.arms.length ≤ 10 from ⟨h1, h2, h3, h4, HN.out⟩)
    go_wp2_with fail
    go_ret
    exact ⟨true, rfl, HB1.out, fun _ => HALL.out⟩
   ·have key : ∀ b1 b2 b3 b4 : Bool, decide ((n : Int) ≤ 35) = b1 → decide ((nv : Int) ≤ 20) = b2 → decide (most < 1000000) = b3 → decide (-1000000 < most) = b4 → (b1 && b2 && b3 && b4) = false := by
     intro b1 b2 b3 b4 e1 e2 e3 e4
     cases hq : (b1 && b2 && b3 && b4)
     ·rfl
     ·exfalso
      simp only [Bool.and_eq_true] at hq
      obtain ⟨⟨⟨q1, q2⟩, q3⟩, q4⟩ := hq
      rw [q1] at e1; rw [q2] at e2; rw [q3] at e3; rw [q4] at e4
      simp at e1 e2 e3 e4
      omega
    cases y1 : decide ((n : Int) ≤ 35) with
    | false =>
     clear h1 key
     go_wp2_with fail
     go_ret
     exact ⟨false, rfl, HB1.out, fun h => by cases h⟩
    | true =>
     cases y2 : decide ((nv : Int) ≤ 20) with
     | false =>
      clear h1 key
      go_wp2_with fail
      go_ret
      exact ⟨false, rfl, HB1.out, fun h => by cases h⟩
     | true =>
      cases y3 : decide (most < 1000000) with
      | false =>
       clear h1 key
       go_wp2_with fail
       go_ret
       exact ⟨false, rfl, HB1.out, fun h => by cases h⟩
      | true =>
       have y4 : decide (-1000000 < most) = false := by
        cases y4 : decide (-1000000 < most)
        ·rfl
        ·have := key _ _ _ _ y1 y2 y3 y4; cases this
       clear h1 key
       go_wp2_with fail
       go_ret
       exact ⟨false, rfl, HB1.out, fun h => by cases h⟩
theorem tries16 (w : World) (A : Option Addr) (n c : Nat) (vs : List Fs) (hb : Fbk w A vs) (hl : vs.length = n) (hn : n ≤ maxLen) (A1 : Option Addr) (nv c1 : Nat) (most : Int) :
  Calls Try.prog 6 #[bval A n c A1 nv c1 most] w (FewSays w (∀ v ∈ vs, -1000000 ≤ v.try_ ∧ v.try_ ≤ 1000000)) := by
 unfold bval
 unfold maxLen at hn
 obtain ⟨w1, hw1⟩ : ∃ w1, w1 = w.alloc (.cells #[.slice A n c, .slice A1 nv c1, .int .i64 most] 25) := ⟨_, rfl⟩
 have hb1 : Below w.heap.size w w1 := by rw [hw1]; exact (Below.refl _ _).alloc (Nat.le_refl _) _
 have hc1 : Cel w1 w.heap.size 25 [.slice A n c, .slice A1 nv c1, .int .i64 most] := by rw [hw1]; exact Cel.new w _ _
 have k0 := hc1.cell 0
 have HB1 := Lib.hid hb1
 have HBK := Lib.hid (hb.below hb1)
 have HL := Lib.hid hl
 clear hb hb1 hc1 hl
 go_enter Try.func6, Try.ntmps6
 go_wp2_with fail
 rw [← hw1]
 clear hw1
 go_loopw [3] (fun v3 wr => ∃ (i : Nat), i ≤ n ∧ v3 = .int .i64 (i : Int) ∧ w1 = wr ∧ Hid (∀ v ∈ vs.take i, -1000000 ≤ v.try_ ∧ v.try_ ≤ 1000000)) (fun v3 _ => n - (intOf v3).toNat)
 case atStart => exact ⟨0, Nat.zero_le _, rfl, rfl, Lib.hid (by simp)⟩
 case round =>
  obtain ⟨i, hi, rfl, rfl, HK⟩ := hrel
  rcases Nat.lt_or_ge i n with hlt | hge
  ·obtain ⟨v, hv⟩ : ∃ v, vs[i]? = some v := ⟨_, List.getElem?_eq_getElem (by rw [HL.out]; exact hlt)⟩
   obtain ⟨ad, rfl, _, _, _, _, _, a5, _⟩ := HBK.out.at_ hv
   obtain ⟨tr, htr⟩ : ∃ tr, tr = v.try_ := ⟨_, rfl⟩
   have HTR := Lib.hid htr
   rw [← htr] at a5
   by_cases h1 : 1000000 < tr
   ·clear hv htr
    go_wp2_with fail
    go_ret
    exact ⟨false, rfl, HB1.out, fun h => by cases h⟩
   ·have z1 : decide (1000000 < tr) = false := by simp; omega
    by_cases h2 : tr < -1000000
    ·clear hv htr
     go_wp2_with fail
     go_ret
     exact ⟨false, rfl, HB1.out, fun h => by cases h⟩
    ·have z2 : decide (tr < -1000000) = false := by simp; omega
     have HN := Lib.hid (take_all hv (P := fun v => -1000000 ≤ v.try_ ∧ v.try_ ≤ 1000000) HK.out (by rw [← HTR.out]; omega))
     clear hv htr h1 h2
     go_wp2_with fail
     exact ⟨⟨i + 1, by omega, by rw [show ((i + 1 : Nat) : Int) = (i : Int) + 1 by omega], by trivial, HN⟩, by simp [intOf]; omega⟩
  ·have HN := Lib.hid (show ∀ v ∈ vs, -1000000 ≤ v.try_ ∧ v.try_ ≤ 1000000 from fun v hv => HK.out v (by rw [List.take_of_length_le (by rw [HL.out]; exact hge)]; exact hv))
   have zi : decide ((i : Int) < (n : Int)) = false := by simp; omega
   go_wp2_with fail
   go_ret
   exact ⟨true, rfl, HB1.out, fun _ => HN.out⟩
theorem fewS16 (w : World) (K : Nat) (hK : K ≤ w.heap.size) (s1 s2 s3 s4 : Int) (AL : Option Addr) (m cL : Nat) (us : List Vt) (hu : Tvs w K AL us) (hul : us.length = m) (hum : m ≤ maxLen) :
  Calls Try.prog 12 #[stval s1 s2 s3 s4 AL m cL] w (FewSays w (m ≤ 20 ∧ ∀ u ∈ us, u.t.length ≤ 300)) := by
 unfold stval
 unfold maxLen at hum
 obtain ⟨w1, hw1⟩ : ∃ w1, w1 = w.alloc (.cells #[.int .i64 s1, .int .i64 s2, .int .i64 s3, .int .i64 s4, .slice AL m cL] 31) := ⟨_, rfl⟩
 have hb1 : Below w.heap.size w w1 := by rw [hw1]; exact (Below.refl _ _).alloc (Nat.le_refl _) _
 have hc1 : Cel w1 w.heap.size 31 [.int .i64 s1, .int .i64 s2, .int .i64 s3, .int .i64 s4, .slice AL m cL] := by rw [hw1]; exact Cel.new w _ _
 have k4 := hc1.cell 4
 have HB1 := Lib.hid hb1
 have HU := Lib.hid (hu.below hK hb1)
 have HUL := Lib.hid hul
 clear hu hb1 hc1 hul
 go_enter Try.func12, Try.ntmps12
 go_wp2_with fail
 rw [← hw1]
 clear hw1
 go_loopw [3] (fun v3 wr => ∃ (i : Nat), i ≤ m ∧ v3 = .int .i64 (i : Int) ∧ w1 = wr ∧ Hid (∀ u ∈ us.take i, u.t.length ≤ 300)) (fun v3 _ => m - (intOf v3).toNat)
 case atStart => exact ⟨0, Nat.zero_le _, rfl, rfl, Lib.hid (by simp)⟩
 case round =>
  obtain ⟨i, hi, rfl, rfl, HK⟩ := hrel
  rcases Nat.lt_or_ge i m with hlt | hge
  ·obtain ⟨u, hu⟩ : ∃ u, us[i]? = some u := ⟨_, List.getElem?_eq_getElem (by rw [HUL.out]; exact hlt)⟩
   obtain ⟨ad, rfl, a0⟩ := HU.out.cr i u hu
   change _ = some (Value.slice u.A u.t.length u.c) at a0
   by_cases h300 : 300 < u.t.length
   ·generalize u.t.length = ul at *
    clear hu
    go_wp2_with fail
    go_ret
    exact ⟨false, rfl, HB1.out, fun h => by cases h⟩
   ·have HN := Lib.hid (take_all hu (P := fun u => u.t.length ≤ 300) HK.out (by omega))
    generalize u.t.length = ul at *
    have z : decide ((300 : Int) < (ul : Int)) = false := by simp; omega
    clear hu
    go_wp2_with fail
    exact ⟨⟨i + 1, by omega, by rw [show ((i + 1 : Nat) : Int) = (i : Int) + 1 by omega], by trivial, HN⟩, by simp [intOf]; omega⟩
  ·have HN := Lib.hid (show ∀ u ∈ us, u.t.length ≤ 300 from fun v hv => HK.out v (by rw [List.take_of_length_le (by rw [HUL.out]; exact hge)]; exact hv))
   have zi : decide ((i : Int) < (m : Int)) = false := by simp; omega
   by_cases h20 : m ≤ 20
   ·have HM := Lib.hid h20
    have z20 : decide ((m : Int) ≤ 20) = true := by simp; omega
    clear h20
    go_wp2_with fail
    go_ret
    exact ⟨true, rfl, HB1.out, fun _ => ⟨HM.out, HN.out⟩⟩
   ·have z20 : decide ((m : Int) ≤ 20) = false := by simp; omega
    clear h20
    go_wp2_with fail
    go_ret
    exact ⟨false, rfl, HB1.out, fun h => by cases h⟩
end Go.Proofs.Ytfmkkklcgiaacaa.Fold
end
section
namespace Go.Proofs.Ytfmkkklcgiaacaa.Rec
open Go.RowKit
open Lex (Tx)
theorem u8_of {x : Int} (h : (Lit.int .u8 x).wf = true) : ∃ b : BitVec 8, x = (b.toNat : Int) := by
 simp [Lit.wf, IntKind.min, IntKind.max, IntKind.bits, IntKind.signed] at h
 refine ⟨BitVec.ofNat 8 x.toNat, ?_⟩
 rw [BitVec.toNat_ofNat, Nat.mod_eq_of_lt (by omega)]
 omega
theorem pick {α : Type} (P : Nat → α → Prop) : ∀ n, (∀ i, i < n → ∃ x, P i x) → ∃ l : List α, l.length = n ∧ ∀ i x, l[i]? = some x → P i x
 | 0, _ => ⟨[], rfl, by simp⟩
 | n + 1, h => by
  obtain ⟨l, hl, hp⟩ := pick P n (fun i hi => h i (by omega))
  obtain ⟨x, hx⟩ := h n (by omega)
  refine ⟨l ++ [x], by simp [hl], fun i y hy => ?_⟩
  rcases Nat.lt_or_ge i l.length with hi | hi
  ·rw [List.getElem?_append_left hi] at hy
   exact hp i y hy
  ·have hi2 : i = n := by have := (List.getElem?_eq_some_iff.1 hy).1; simp at this; omega
   subst hi2
   rw [List.getElem?_append_right hi, show i - l.length = 0 by omega] at hy
   simp at hy
   subst hy
   exact hx
theorem bytes_of_isv {w : World} {A : Option Addr} {l c : Nat} (h : IsV w (.slice (.int .u8)) (.slice A l c)) : ∃ bs : List (BitVec 8), bs.length = l ∧ l ≤ c ∧ l ≤ maxLen ∧ Bs w w.heap.size A l bs := by
 cases h with
 | nil => exact ⟨[], rfl, Nat.le_refl _, Nat.zero_le _, Bs.nil_⟩
 | slice U hl hc hcell hU =>
  rename_i x
  obtain ⟨bs, hbl, hp⟩ := pick (fun i (b : BitVec 8) => U i = v8 b) l (fun i hi => by
   have u0 := hU i hi
   generalize U i = a0 at *
   cases u0 with | int h0 =>
   obtain ⟨b, rfl⟩ := u8_of h0
   exact ⟨b, rfl⟩)
  refine ⟨bs, hbl, hl, by omega, hbl, fun hn => ⟨x, rfl, ?_, fun j hj => ?_⟩⟩
  ·have := cell_lt (hcell 0 hn)
   rwa [add_block] at this
  ·have hj2 : j < bs.length := by omega
   rw [hcell j hj, hp j _ (List.getElem?_eq_getElem hj2), List.getD_eq_getElem?_getD, List.getElem?_eq_getElem hj2]
   rfl
theorem texts_of_isv {w : World} {A : Option Addr} {l c : Nat} (h : IsV w (.slice (.slice (.int .u8))) (.slice A l c)) : ∃ vs : List Vt, vs.length = l ∧ l ≤ maxLen ∧ Tvs w w.heap.size A vs := by
 cases h with
 | nil => exact ⟨[], rfl, Nat.zero_le _, ⟨by simp, by simp⟩⟩
 | slice U hl hc hcell hU =>
  rename_i x
  obtain ⟨vs, hvl, hp⟩ := pick (fun i (v : Vt) => U i = v.cell ∧ Tx w w.heap.size v.A v.t ∧ v.t.length ≤ maxLen) l (fun i hi => by
   have u0 := hU i hi
   generalize U i = a0 at *
   obtain ⟨kA, kl, kc, rfl⟩ : ∃ A l c, a0 = .slice A l c := by cases u0 <;> exact ⟨_, _, _, rfl⟩
   obtain ⟨bs, rfl, hpc, hpm, hbs⟩ := bytes_of_isv u0
   exact ⟨⟨kA, kc, bs⟩, rfl, .inl hbs, hpm⟩)
  refine ⟨vs, hvl, by omega, ⟨fun i v hi => ⟨x, rfl, ?_⟩, fun v hv => ?_⟩⟩
  ·have hil : i < l := by have := (List.getElem?_eq_some_iff.1 hi).1; omega
   rw [hcell i hil, (hp i v hi).1]
  ·obtain ⟨i, hi⟩ := List.mem_iff_getElem?.1 hv
   exact (hp i v hi).2
end Go.Proofs.Ytfmkkklcgiaacaa.Rec
end
section
namespace Go.Proofs.Ytfmkkklcgiaacaa.Fold
open Go.RowKit
open Rec (pick Rv Rok Vt txt texts_of_isv bytes_of_isv)
theorem i64_of {x : Int} (h : (Lit.int .i64 x).wf = true) : -9223372036854775808 ≤ x ∧ x < 9223372036854775808 := by
 simp [Lit.wf, IntKind.min, IntKind.max, IntKind.bits, IntKind.signed] at h
 omega
theorem isv_len {w : World} {e : Kd} {A : Option Addr} {l c : Nat} (h : IsV w (.slice e) (.slice A l c)) : l ≤ c ∧ l ≤ maxLen := by
 cases h with
 | nil => exact ⟨Nat.le_refl _, Nat.zero_le _⟩
 | slice U hl hc hcell hU => exact ⟨hl, by omega⟩
def FitA (a : Fa) : Prop := a.n ≤ a.c ∧ a.n ≤ maxLen ∧ (-9223372036854775808 ≤ a.var ∧ a.var < 9223372036854775808) ∧ (-9223372036854775808 ≤ a.to_ ∧ a.to_ < 9223372036854775808)
def FitS (v : Fs) : Prop := v.nm.size ≤ maxLen ∧ v.n2 ≤ v.c2 ∧ v.n2 ≤ maxLen ∧ v.arms.length ≤ maxLen ∧ (-9223372036854775808 ≤ v.tag ∧ v.tag < 9223372036854775808) ∧ (-9223372036854775808 ≤ v.time ∧ v.time < 9223372036854775808) ∧
 (-9223372036854775808 ≤ v.try_ ∧ v.try_ < 9223372036854775808) ∧ (-9223372036854775808 ≤ v.els ∧ v.els < 9223372036854775808) ∧ ∀ a ∈ v.arms, FitA a
theorem farms_of_isv {w : World} {A : Option Addr} {l c : Nat} (h : IsV w (.recs [.slice (.int .u8), .int .i64, .int .i64]) (.slice A l c)) :
  ∃ us : List Fa, us.length = l ∧ l ≤ maxLen ∧ (∀ j a, us[j]? = some a → ∃ ad, A = some ad ∧ ∀ k u, a.cells[k]? = some u → w.cell? (ad.add (j * 3 + k)) = some u) ∧ ∀ a ∈ us, FitA a := by
 cases h with
 | rnil => exact ⟨[], rfl, Nat.zero_le _, by simp, by simp⟩
 | recs U hl hc hcell hU =>
  rename_i x
  obtain ⟨us, hsl, hp⟩ := pick (fun i (a : Fa) => (∀ k u, a.cells[k]? = some u → U i k = u) ∧ FitA a) l (fun i hi => by
   have u0 := hU i 0 _ hi rfl
   have u1 := hU i 1 _ hi rfl
   have u2 := hU i 2 _ hi rfl
   obtain ⟨F, hF⟩ : ∃ F : Nat → Value, F = U i := ⟨_, rfl⟩
   rw [← hF] at u0 u1 u2 ⊢
   clear hU hcell hF
   generalize h0 : F 0 = a0 at *
   generalize h1 : F 1 = a1 at *
   generalize h2 : F 2 = a2 at *
   obtain ⟨A0, l0, c0, rfl⟩ : ∃ A l c, a0 = .slice A l c := by cases u0 <;> exact ⟨_, _, _, rfl⟩
   cases u1 with | int f1 =>
   cases u2 with | int f2 =>
   have hn := isv_len u0
   refine ⟨⟨A0, l0, c0, _, _⟩, fun k u hu => ?_, hn.1, hn.2, i64_of f1, i64_of f2⟩
   have hk : k < 3 := (List.getElem?_eq_some_iff.1 hu).1
   match k, hk with
   | 0, _ => cases hu; exact h0
   | 1, _ => cases hu; exact h1
   | 2, _ => cases hu; exact h2)
  refine ⟨us, hsl, by omega, fun j a hj => ⟨x, rfl, fun k u hu => ?_⟩, fun a ha => ?_⟩
  ·have hil : j < l := by have := (List.getElem?_eq_some_iff.1 hj).1; omega
   have hk : k < 3 := (List.getElem?_eq_some_iff.1 hu).1
   have c0 := hcell j k hil hk
   rw [(hp j a hj).1 k u hu] at c0
   exact c0
  ·obtain ⟨i, hi⟩ := List.mem_iff_getElem?.1 ha
   exact (hp i a hi).2
theorem fbk_of_isv {w : World} {A : Option Addr} {l c : Nat} (h : IsV w (.recs [.string, .int .i64, .slice (.int .u8), .recs [.slice (.int .u8), .int .i64, .int .i64], .int .i64, .int .i64, .int .i64]) (.slice A l c)) :
  ∃ vs : List Fs, vs.length = l ∧ l ≤ maxLen ∧ Fbk w A vs ∧ ∀ v ∈ vs, FitS v := by
 cases h with
 | rnil => exact ⟨[], rfl, Nat.zero_le _, ⟨by simp, by simp⟩, by simp⟩
 | recs U hl hc hcell hU =>
  rename_i x
  obtain ⟨vs, hsl, hp⟩ := pick (fun i (v : Fs) => (∀ k u, v.cells[k]? = some u → U i k = u) ∧ Far w v ∧ FitS v) l (fun i hi => by
   have u0 := hU i 0 _ hi rfl
   have u1 := hU i 1 _ hi rfl
   have u2 := hU i 2 _ hi rfl
   have u3 := hU i 3 _ hi rfl
   have u4 := hU i 4 _ hi rfl
   have u5 := hU i 5 _ hi rfl
   have u6 := hU i 6 _ hi rfl
   obtain ⟨F, hF⟩ : ∃ F : Nat → Value, F = U i := ⟨_, rfl⟩
   rw [← hF] at u0 u1 u2 u3 u4 u5 u6 ⊢
   clear hU hcell hF
   generalize h0 : F 0 = a0 at *
   generalize h1 : F 1 = a1 at *
   generalize h2 : F 2 = a2 at *
   generalize h3 : F 3 = a3 at *
   generalize h4 : F 4 = a4 at *
   generalize h5 : F 5 = a5 at *
   generalize h6 : F 6 = a6 at *
   cases u0 with | string f0 =>
   cases u1 with | int f1 =>
   obtain ⟨A2, l2, c2, rfl⟩ : ∃ A l c, a2 = .slice A l c := by cases u2 <;> exact ⟨_, _, _, rfl⟩
   obtain ⟨A3, l3, c3, rfl⟩ : ∃ A l c, a3 = .slice A l c := by cases u3 <;> exact ⟨_, _, _, rfl⟩
   cases u4 with | int f4 =>
   cases u5 with | int f5 =>
   cases u6 with | int f6 =>
   have hn := isv_len u2
   obtain ⟨us, rfl, hum, hcr, hus⟩ := farms_of_isv u3
   refine ⟨⟨_, _, A2, l2, c2, A3, c3, us, _, _, _⟩, fun k u hu => ?_, hcr, f0, hn.1, hn.2, hum, i64_of f1, i64_of f4, i64_of f5, i64_of f6, hus⟩
   have hk : k < 7 := (List.getElem?_eq_some_iff.1 hu).1
   match k, hk with
   | 0, _ => cases hu; exact h0
   | 1, _ => cases hu; exact h1
   | 2, _ => cases hu; exact h2
   | 3, _ => cases hu; exact h3
   | 4, _ => cases hu; exact h4
   | 5, _ => cases hu; exact h5
   | 6, _ => cases hu; exact h6)
  refine ⟨vs, hsl, by omega, ⟨fun i v hi => ⟨x, rfl, fun k u hu => ?_⟩, fun v hv => ?_⟩, fun v hv => ?_⟩
  ·have hil : i < l := by have := (List.getElem?_eq_some_iff.1 hi).1; omega
   have hk : k < 7 := (List.getElem?_eq_some_iff.1 hu).1
   have c0 := hcell i k hil hk
   rw [(hp i v hi).1 k u hu] at c0
   exact c0
  ·obtain ⟨i, hi⟩ := List.mem_iff_getElem?.1 hv
   exact (hp i v hi).2.1
  ·obtain ⟨i, hi⟩ := List.mem_iff_getElem?.1 hv
   exact (hp i v hi).2.2
def Frc (w : World) (K : Nat) (A : Option Addr) (rs : List Rv) : Prop := ∀ i v, rs[i]? = some v → (∃ ad, A = some ad ∧ ∀ k u, v.cells[k]? = some u → w.cell? (ad.add (i * 13 + k)) = some u) ∧ Rok w K v
theorem Frc.below {w w' : World} {K : Nat} {A : Option Addr} {rs : List Rv} (h : Frc w K A rs) (hK : K ≤ w.heap.size) (hb : Below w.heap.size w w') : Frc w' K A rs := fun i v hi => by
 obtain ⟨⟨ad, e, hc⟩, hr⟩ := h i v hi
 exact ⟨⟨ad, e, fun k u hu => (hb.cell (cell_lt (hc k u hu))).trans (hc k u hu)⟩, hr.below hK hb⟩
theorem recs_of_isv {w : World} {A : Option Addr} {l c : Nat} (h : IsV w (.recs [.int .i64, .int .i64, .int .i64, .int .i64, .int .i64, .slice (.slice (.int .u8)), .int .i64, .int .i64, .int .i64, .int .i64, .int .i64, .int .i64, .slice (.int .u8)]) (.slice A l c)) :
  ∃ rs : List Rv, rs.length = l ∧ l ≤ maxLen ∧ Frc w w.heap.size A rs := by
 cases h with
 | rnil => exact ⟨[], rfl, Nat.zero_le _, by intro i v hi; cases hi⟩
 | recs U hl hc hcell hU =>
  rename_i x
  obtain ⟨rs, hsl, hp⟩ := pick (fun i (v : Rv) => (∀ k u, v.cells[k]? = some u → U i k = u) ∧ Rok w w.heap.size v) l (fun i hi => by
   have u0 := hU i 0 _ hi rfl
   have u1 := hU i 1 _ hi rfl
   have u2 := hU i 2 _ hi rfl
   have u3 := hU i 3 _ hi rfl
   have u4 := hU i 4 _ hi rfl
   have u5 := hU i 5 _ hi rfl
   have u6 := hU i 6 _ hi rfl
   have u7 := hU i 7 _ hi rfl
   have u8 := hU i 8 _ hi rfl
   have u9 := hU i 9 _ hi rfl
   have u10 := hU i 10 _ hi rfl
   have u11 := hU i 11 _ hi rfl
   have u12 := hU i 12 _ hi rfl
   obtain ⟨F, hF⟩ : ∃ F : Nat → Value, F = U i := ⟨_, rfl⟩
   rw [← hF] at u0 u1 u2 u3 u4 u5 u6 u7 u8 u9 u10 u11 u12 ⊢
   clear hU hcell hF
   generalize h0 : F 0 = a0 at *
   generalize h1 : F 1 = a1 at *
   generalize h2 : F 2 = a2 at *
   generalize h3 : F 3 = a3 at *
   generalize h4 : F 4 = a4 at *
   generalize h5 : F 5 = a5 at *
   generalize h6 : F 6 = a6 at *
   generalize h7 : F 7 = a7 at *
   generalize h8 : F 8 = a8 at *
   generalize h9 : F 9 = a9 at *
   generalize h10 : F 10 = a10 at *
   generalize h11 : F 11 = a11 at *
   generalize h12 : F 12 = a12 at *
   cases u0 with | @int _ x0 f0 =>
   cases u1 with | @int _ x1 f1 =>
   cases u2 with | @int _ x2 f2 =>
   cases u3 with | @int _ x3 f3 =>
   cases u4 with | @int _ x4 f4 =>
   obtain ⟨A5, l5, c5, rfl⟩ : ∃ A l c, a5 = .slice A l c := by cases u5 <;> exact ⟨_, _, _, rfl⟩
   cases u6 with | @int _ x6 f6 =>
   cases u7 with | @int _ x7 f7 =>
   cases u8 with | @int _ x8 f8 =>
   cases u9 with | @int _ x9 f9 =>
   cases u10 with | @int _ x10 f10 =>
   cases u11 with | @int _ x11 f11 =>
   obtain ⟨A12, l12, c12, rfl⟩ : ∃ A l c, a12 = .slice A l c := by cases u12 <;> exact ⟨_, _, _, rfl⟩
   obtain ⟨vs, rfl, hm, hv⟩ := texts_of_isv u5
   obtain ⟨bs, rfl, _, hbm, hb⟩ := bytes_of_isv u12
   refine ⟨⟨⟨x0, ⟨x1, x2, x3, x4, txt vs⟩, x6, x7, x8, x9, x10, x11, bs⟩, A5, c5, vs, A12, c12⟩, fun k u hu => ?_, ⟨rfl, hv, hm, .inl hb, hbm⟩⟩
   have hk : k < 13 := (List.getElem?_eq_some_iff.1 hu).1
   match k, hk with
   | 0, _ => cases hu; exact h0
   | 1, _ => cases hu; exact h1
   | 2, _ => cases hu; exact h2
   | 3, _ => cases hu; exact h3
   | 4, _ => cases hu; exact h4
   | 5, _ => cases hu; exact h5
   | 6, _ => cases hu; exact h6
   | 7, _ => cases hu; exact h7
   | 8, _ => cases hu; exact h8
   | 9, _ => cases hu; exact h9
   | 10, _ => cases hu; exact h10
   | 11, _ => cases hu; exact h11
   | 12, _ => cases hu; exact h12)
  refine ⟨rs, hsl, by omega, fun i v hi => ⟨⟨x, rfl, fun k u hu => ?_⟩, (hp i v hi).2⟩⟩
  have hil : i < l := by have := (List.getElem?_eq_some_iff.1 hi).1; omega
  have hk : k < 13 := (List.getElem?_eq_some_iff.1 hu).1
  have c0 := hcell i k hil hk
  rw [(hp i v hi).1 k u hu] at c0
  exact c0
end Go.Proofs.Ytfmkkklcgiaacaa.Fold
end
section
namespace Go.Proofs.Ytfmkkklcgiaacaa.Fold
open Go.RowKit
open Lex (Tx)
open Rec (Stt Rc Rv Rok Vt Tvs Trow txt)
structure Bfit (vs : List Fs) (n nv : Nat) (most : Int) : Prop where
 len : vs.length = n
 few : n ≤ 35
 try_ : ∀ v ∈ vs, -1000000 ≤ v.try_ ∧ v.try_ ≤ 1000000
 arms : ∀ v ∈ vs, v.arms.length ≤ 10
 vars : nv ≤ 20
 most : -1000000 ≤ most ∧ most ≤ 1000000
def PnSays (w : World) (K : Nat) (r : Option Stt) (e : Ending) (w' : World) : Prop := Below w.heap.size w w' ∧ match r with
 | none => e = .returned (.tuple #[stval 0 0 0 0 none 0 0, .int .i64 7])
 | some t => ∃ v, e = .returned (.tuple #[v, .int .i64 0]) ∧ StSays w' K t v
theorem pn_split {w w' : World} {K : Nat} {r : Option Stt} {e : Ending} (h : PnSays w K r e w') : Below w.heap.size w w' ∧ ((r = none ∧ e = .returned (.tuple #[stval 0 0 0 0 none 0 0, .int .i64 7])) ∨ ∃ (t : Stt) (A : Option Addr) (c : Nat) (us : List Vt), r = some t ∧ e = .returned (.tuple #[stval t.step t.visit t.tries t.off A us.length c, .int .i64 0]) ∧ Tvs w' K A us ∧ Trow w' K A us ∧ txt us = t.vars) := by
 obtain ⟨hb, h⟩ := h
 refine ⟨hb, ?_⟩
 cases r with
 | none => exact .inl ⟨rfl, h⟩
 | some t =>
  obtain ⟨v, rfl, A, c, us, rfl, h1, h2, h3⟩ := h
  exact .inr ⟨t, A, c, us, rfl, rfl, h1, h2, h3⟩
def PStart : Prop := ∀ (w : World) (A : Option Addr) (n c : Nat) (A1 : Option Addr) (nv c1 : Nat) (most : Int) (vs : List Fs) (K : Nat), Bfit vs n nv most → Calls Try.prog 11 #[bval A n c A1 nv c1 most] w fun e w' => Below w.heap.size w w' ∧ ∃ v, e = .returned v ∧ StSays w' K (startR (bok vs nv most)) v
def PNext : Prop := ∀ (w : World) (K : Nat), K ≤ w.heap.size → ∀ (A : Option Addr) (n c : Nat) (vs : List Fs), Fbk w A vs → ∀ (A1 : Option Addr) (nv c1 : Nat) (most : Int), Bfit vs n nv most → ∀ (s1 s2 s3 s4 : Int), s2 < 9223372036854775808 → s3 < 9223372036854775808 → ∀ (AL : Option Addr) (m cL : Nat) (us : List Vt), Tvs w K AL us → Trow w K AL us → us.length = m → m ≤ 20 → (∀ u ∈ us, u.t.length ≤ 300) → ∀ v : Rv, Rok w K v → Trow w K v.AL v.vs → v.vs.length ≤ 20 → (∀ u ∈ v.vs, u.t.length ≤ 300) → v.r.value.length ≤ 300 →
 Calls Try.prog 13 #[bval A n c A1 nv c1 most, stval s1 s2 s3 s4 AL m cL, .agg v.cells.toArray] w (PnSays w K (nextR (bok vs nv most) ⟨s1, s2, s3, s4, txt us⟩ v.r))
theorem next_most {b : Bok} {s t : Stt} {r : Rc} (h : nextR b s r = some t) (hm : b.most ≤ 1000000) (hp : ∀ p ∈ b.steps, p.try_ ≤ 1000000) : t.visit < 9223372036854775808 ∧ t.tries < 9223372036854775808 := by
 obtain ⟨h1, h2, h3, h4, h5, _⟩ := next_some h
 obtain ⟨_, q2, q3⟩ := rises h
 have hv := ((right_more h1).2 h3).1
 rcases Rec.may_kind h2 with e | e | e
 ·exact absurd e h5
 ·obtain ⟨e1, e2, _, _, p, hpp, e3⟩ := q2 e
  have := hp p (List.mem_of_getElem? hpp)
  omega
 ·obtain ⟨e1, e2, _⟩ := q3 e
  omega
def Knows16 : Prop := ∀ w : World, Calls Try.prog 7 #[] w fun e w' => e = .returned (.bool true) ∧ Below w.heap.size w w'
theorem fit_max {vs : List Fs} (h : ∀ v ∈ vs, FitS v) : ∀ v ∈ vs, v.arms.length ≤ maxLen := fun v hv => (h v hv).2.2.2.1
end Go.Proofs.Ytfmkkklcgiaacaa.Fold
end
