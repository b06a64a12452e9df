/-
Texts: LexNum LexCut LexSame BookVals BookRef
-/
import Derived.Test.YteohlpmojfjjdaaGreatR0
import Derived.Test.YteohlpmojfjjdaaGreatR1
import Derived.Test.YteohlpmojfjjdaaGreatR2
import Derived.Test.YteohlpmojfjjdaaGreatR6
import Derived.Test.YteohlpmojfjjdaaGreatR7
import Derived.Deep.CutBlock
import Derived.Deep.CutRange
import Derived.Deep.DeepCutAuto
import Derived.BigQuiet
set_option linter.unusedVariables false
set_option linter.unusedSimpArgs false
set_option maxRecDepth 100000
set_option maxHeartbeats 4000000
section
namespace Go.Proofs.YteohlpmojfjjdaaGreat.Lex
open Go.RowKit
def bnd : Nat → Int
 | 0 => 1
 | 1 => 10
 | 2 => 100
 | 3 => 1000
 | 4 => 10000
 | _ => 100000
theorem bnd_step {j : Nat} {v d : Int} (hj : j ≤ 4) (hv : v < bnd j) (h0 : 0 ≤ v) (hd : d ≤ 9) : v < 100000 ∧ 10 * v + d < bnd (j + 1) := by
 rcases j with _ | _ | _ | _ | _ | j <;> simp [bnd] at hv ⊢ <;> omega
def Nm (s : List (BitVec 8)) (p q : Nat) (v : Int) : Prop := q - p ≤ 5 → v = val ((s.drop p).take (q - p)) ∧ v < bnd (q - p)
theorem Nm.go {s : List (BitVec 8)} {p q : Nat} {v : Int} {y : BitVec 8} (h : Nm s p q v) (hpq : p ≤ q) (hy : s[q]? = some y) (h0 : 0 ≤ v) (h1 : 48 ≤ y.toNat) (h2 : y.toNat ≤ 57) : Nm s p (q + 1) (if v < 100000 then 10 * v + (y.toNat : Int) - 48 else v) := by
 intro h5
 obtain ⟨e, hb⟩ := h (by omega)
 obtain ⟨b1, b2⟩ := bnd_step (d := (y.toNat : Int) - 48) (show q - p ≤ 4 by omega) hb h0 (by omega)
 rw [if_pos b1]
 rw [show q + 1 - p = (q - p) + 1 by omega]
 refine ⟨?_, by omega⟩
 rw [List.take_add_one, List.getElem?_drop, show p + (q - p) = q by omega, hy]
 rw [show (some y).toList = [y] from rfl, val_snoc, ← e]
 omega
theorem one_num (w : World) (B : Nat) (A : Option Addr) (n c : Nat) (s : List (BitVec 8)) (hs : Bs w B A n s) (hB : B ≤ w.heap.size) (hn : n ≤ 100000) (p : Nat) (hp : p < n) (x : BitVec 8) (hx : s[p]? = some x) (h34 : x ≠ 34#8) (hlt : letter x = false) :
  Calls Tryz.prog 100 #[.slice A n c, .int .i64 (p : Int)] w (OnSays w B p (oneR x (s.drop (p + 1)))) := by
 have hd := drop_at hx
 have HONE := Lib.hid (show oneR x (s.drop (p + 1)) = if far digit s p = 0 ∨ 4 < far digit s p ∨ 1 < far digit s p ∧ x = 48#8 then .error 0 else .ok (⟨2, val ((s.drop p).take (far digit s p)), []⟩, far digit s p) by
  unfold oneR far
  rw [if_neg h34, if_neg (by simp [hlt]), ← hd, ← take_while])
 have HS := Lib.hid hs
 have HSL := Lib.hid hs.len
 have e34 : ((x.toNat : Int) == 34) = false := b_ne (k := 34) (by decide) h34
 have hl : ¬ 97 ≤ x.toNat ∨ 97 ≤ x.toNat ∧ ¬ x.toNat ≤ 122 := by
  unfold letter at hlt
  simp only [Bool.and_eq_false_iff, decide_eq_false_iff_not] at hlt
  omega
 obtain ⟨bd, rfl, hbk, b0⟩ := hs.at_ hp
 rw [List.getD_eq_getElem?_getD, hx] at b0
 change _ = some (v8 x) at b0
 obtain ⟨w1, hw1⟩ : ∃ w1, w1 = w.alloc (.cells #[.int .i64 0, .int .i64 0, .int .i64 0, .slice none 0 0] 109) := ⟨_, rfl⟩
 have hb1 : Below w.heap.size w w1 := by rw [hw1]; exact (Below.refl _ _).alloc (Nat.le_refl _) _
 have hc1 : Cel w1 w.heap.size 109 [.int .i64 0, .int .i64 0, .int .i64 0, .slice none 0 0] := by rw [hw1]; exact Cel.new w _ _
 have b1 := (hb1.cell (cell_lt b0)).trans b0
 have HB1 := Lib.hid hb1
 have HC1 := Lib.hid hc1
 rw [hw1] at b1
 clear hb1 hc1 hs hx h34 hlt hd b0
 go_enter Tryz.func100, Tryz.ntmps100
 go_upto_region 6 with fail
 rw [← hw1] at b1 ⊢
 clear hw1
 go_cut [38] from 33 to 39 (fun s38 wx => s38 = .bool false ∧ w1 = wx)
 case first =>
  rcases hl with h | ⟨h, h'⟩
  ·go_wp2_with fail
   go_meet
   case rel => exact ⟨by simp, rfl⟩
  ·have z122 : decide ((x.toNat : Int) ≤ 122) = false := by simp; omega
   go_wp2_with fail
   go_meet
   case rel => exact ⟨by simp [z122], rfl⟩
 case rest =>
  obtain ⟨rfl, rfl⟩ := hcut
  clear hl
  go_upto_block 2 with fail
  go_cut [11, 12] from 66 to 97 (fun s11 s12 wx => ∃ (q : Nat) (v : Int), p ≤ q ∧ q ≤ n ∧ s11 = .int .i64 (q : Int) ∧ s12 = .int .i64 v ∧ w1 = wx ∧ far digit s p = q - p ∧ Nm s p q v)
  case first =>
   go_wp2_with fail
   go_loopw [11, 12] (fun v11 v12 wr => ∃ (q : Nat) (v : Int), p ≤ q ∧ q ≤ n ∧ v11 = .int .i64 (q : Int) ∧ v12 = .int .i64 v ∧ w1 = wr ∧ 0 ≤ v ∧ v ≤ 1000000 ∧ Hid (far digit s p = (q - p) + far digit s q) ∧ Hid (Nm s p q v)) (fun v11 _ _ => n - (intOf v11).toNat)
   case atStart => exact ⟨p, 0, Nat.le_refl _, by omega, rfl, rfl, rfl, by omega, by omega, Lib.hid (by rw [Nat.sub_self, Nat.zero_add]), Lib.hid (fun _ => by rw [Nat.sub_self]; exact ⟨rfl, by decide⟩)⟩
   case round =>
    obtain ⟨q, v, hpq, hqn, rfl, rfl, rfl, hv0, hv1, HK, HNM⟩ := hrel
    rcases Nat.lt_or_ge q n with hlt | hge
    ·obtain ⟨y, hy⟩ : ∃ y, s[q]? = some y := ⟨_, List.getElem?_eq_getElem (by rw [HSL.out]; exact hlt)⟩
     obtain ⟨bd2, hbd, _, b2⟩ := (HS.out.below (HB1.out.mono hB)).at_ hlt
     cases hbd
     rw [List.getD_eq_getElem?_getD, hy] at b2
     change _ = some (v8 y) at b2
     have HY := Lib.hid hy
     clear hy
     by_cases h1 : 48 ≤ y.toNat
     ·by_cases h2 : y.toNat ≤ 57
      ·have hdy : digit y = true := by unfold digit; simp; omega
       have HN := Lib.hid (show far digit s p = (q + 1 - p) + far digit s (q + 1) by rw [HK.out, far_go HY.out hdy]; omega)
       have HM := Lib.hid (HNM.out.go hpq HY.out hv0 h1 h2)
       have z57 : decide ((y.toNat : Int) ≤ 57) = true := by simp; omega
       have z48 : decide ((48 : Int) ≤ (y.toNat : Int)) = true := by simp; omega
       clear hdy HK HNM
       by_cases hv : v < 100000
       ·rw [if_pos hv] at HM
        go_wp2_with fail
        go_roundw
        case rel => exact ⟨q + 1, 10 * v + (y.toNat : Int) - 48, by omega, by omega, by rw [show ((q + 1 : Nat) : Int) = (q : Int) + 1 by omega], rfl, by trivial, by omega, by omega, HN, HM⟩
        all_goals (simp [intOf]; omega)
       ·rw [if_neg hv] at HM
        go_wp2_with fail
        go_roundw
        case rel => exact ⟨q + 1, v, by omega, by omega, by rw [show ((q + 1 : Nat) : Int) = (q : Int) + 1 by omega], rfl, by trivial, by omega, by omega, HN, HM⟩
        all_goals (simp [intOf]; omega)
      ·have hdy : digit y = false := by unfold digit; simp; omega
       have HFIN := Lib.hid (show far digit s p = q - p by rw [HK.out, far_no HY.out hdy, Nat.add_zero])
       have z57 : decide ((y.toNat : Int) ≤ 57) = false := by simp; omega
       clear hdy HK
       go_wp2_with fail
       go_meet
       case rel => exact ⟨q, v, hpq, hqn, rfl, rfl, rfl, HFIN.out, HNM.out⟩
     ·have hdy : digit y = false := by unfold digit; simp; omega
      have HFIN := Lib.hid (show far digit s p = q - p by rw [HK.out, far_no HY.out hdy, Nat.add_zero])
      clear hdy HK
      go_wp2_with fail
      go_meet
      case rel => exact ⟨q, v, hpq, hqn, rfl, rfl, rfl, HFIN.out, HNM.out⟩
    ·have HFIN := Lib.hid (show far digit s p = q - p by rw [HK.out, far_end (by rw [HSL.out]; exact hge), Nat.add_zero])
     clear HK
     go_wp2_with fail
     go_meet
     case rel => exact ⟨q, v, hpq, hqn, rfl, rfl, rfl, HFIN.out, HNM.out⟩
  case rest =>
   obtain ⟨q, v, hpq, hqn, rfl, rfl, rfl, hfin, hnm⟩ := hcut
   have HFIN := Lib.hid hfin
   have HNM := Lib.hid hnm
   clear hfin hnm
   by_cases h0 : q = p
   ·have HE := Lib.hid (show oneR x (s.drop (p + 1)) = .error 0 by rw [HONE.out, HFIN.out, if_pos (.inl (by omega))])
    subst h0
    have hc3 := fw4_cel (a := .int .i64 0) (b := .int .i64 0) (c := .int .i64 0) (d := .slice none 0 0) HC1.out
    have hf3 := fw4_frm w1 w.heap.size (.int .i64 0) (.int .i64 0) (.int .i64 0) (.slice none 0 0)
    have HB3 := Lib.hid (HB1.out.trans (hf3.below HB1.out.size (by intro q hq; simp at hq; omega)))
    have k0 := HC1.out.cell 0
    have k1 := HC1.out.cell 1
    have k2 := HC1.out.cell 2
    have k3 := HC1.out.cell 3
    have l0 := HC1.out.free 0
    have l1 := HC1.out.free 1
    have l2 := HC1.out.free 2
    have l3 := HC1.out.free 3
    have HC3 := Lib.hid hc3
    have HF3 := Lib.hid hf3
    clear hc3 hf3
    unfold fw4 at HC3 HB3 HF3
    go_wp2_with fail
    refine bodyPost_ret (v := .tuple #[.agg #[.int .i64 0, .int .i64 0, .int .i64 0, .slice none 0 0], .int .i64 (q : Int), .int .i64 (q : Int)]) (results_at3 4 109 5 6 Tryz.results100 ⟨w.heap.size, 0, none⟩ rfl _ _ _ rfl rfl (load_tok HC3.out)) rfl ?_
    refine ⟨HB3.out, ?_⟩
    rw [HE.out]
    exact ⟨_, rfl, 0, 0, 0, (q : Int), none, 0, 0, rfl⟩
   have y0 : ((q : Int) == (p : Int)) = false := by simp; omega
   by_cases h4 : 4 < q - p
   ·have HE := Lib.hid (show oneR x (s.drop (p + 1)) = .error 0 by rw [HONE.out, HFIN.out, if_pos (.inr (.inl h4))])
    have hc3 := fw4_cel (a := .int .i64 0) (b := .int .i64 0) (c := .int .i64 0) (d := .slice none 0 0) HC1.out
    have hf3 := fw4_frm w1 w.heap.size (.int .i64 0) (.int .i64 0) (.int .i64 0) (.slice none 0 0)
    have HB3 := Lib.hid (HB1.out.trans (hf3.below HB1.out.size (by intro q hq; simp at hq; omega)))
    have k0 := HC1.out.cell 0
    have k1 := HC1.out.cell 1
    have k2 := HC1.out.cell 2
    have k3 := HC1.out.cell 3
    have l0 := HC1.out.free 0
    have l1 := HC1.out.free 1
    have l2 := HC1.out.free 2
    have l3 := HC1.out.free 3
    have HC3 := Lib.hid hc3
    have HF3 := Lib.hid hf3
    clear hc3 hf3
    unfold fw4 at HC3 HB3 HF3
    go_wp2_with fail
    refine bodyPost_ret (v := .tuple #[.agg #[.int .i64 0, .int .i64 0, .int .i64 0, .slice none 0 0], .int .i64 (q : Int), .int .i64 (p : Int)]) (results_at3 4 109 5 6 Tryz.results100 ⟨w.heap.size, 0, none⟩ rfl _ _ _ rfl rfl (load_tok HC3.out)) rfl ?_
    refine ⟨HB3.out, ?_⟩
    rw [HE.out]
    exact ⟨_, rfl, 0, 0, 0, (q : Int), none, 0, 0, rfl⟩
   by_cases h1 : 1 < q - p
   ·by_cases h48 : x = 48#8
    ·have HE := Lib.hid (show oneR x (s.drop (p + 1)) = .error 0 by rw [HONE.out, HFIN.out, if_pos (.inr (.inr ⟨h1, h48⟩))])
     subst h48
     have hc3 := fw4_cel (a := .int .i64 0) (b := .int .i64 0) (c := .int .i64 0) (d := .slice none 0 0) HC1.out
     have hf3 := fw4_frm w1 w.heap.size (.int .i64 0) (.int .i64 0) (.int .i64 0) (.slice none 0 0)
     have HB3 := Lib.hid (HB1.out.trans (hf3.below HB1.out.size (by intro q hq; simp at hq; omega)))
     have k0 := HC1.out.cell 0
     have k1 := HC1.out.cell 1
     have k2 := HC1.out.cell 2
     have k3 := HC1.out.cell 3
     have l0 := HC1.out.free 0
     have l1 := HC1.out.free 1
     have l2 := HC1.out.free 2
     have l3 := HC1.out.free 3
     have HC3 := Lib.hid hc3
     have HF3 := Lib.hid hf3
     clear hc3 hf3
     unfold fw4 at HC3 HB3 HF3
     go_wp2_with fail
     refine bodyPost_ret (v := .tuple #[.agg #[.int .i64 0, .int .i64 0, .int .i64 0, .slice none 0 0], .int .i64 (q : Int), .int .i64 (p : Int)]) (results_at3 4 109 5 6 Tryz.results100 ⟨w.heap.size, 0, none⟩ rfl _ _ _ rfl rfl (load_tok HC3.out)) rfl ?_
     refine ⟨HB3.out, ?_⟩
     rw [HE.out]
     exact ⟨_, rfl, 0, 0, 0, (q : Int), none, 0, 0, rfl⟩
    ·have HE := Lib.hid (show oneR x (s.drop (p + 1)) = .ok (⟨2, v, []⟩, q - p) by rw [HONE.out, HFIN.out, if_neg (by rintro (h | h | h); omega; omega; exact h48 h.2), (HNM.out (by omega)).1])
     have e48 : ((x.toNat : Int) == 48) = false := b_ne (k := 48) (by decide) h48
     clear h48
     have hc3 := fw4_cel (a := .int .i64 2) (b := .int .i64 (p : Int)) (c := .int .i64 v) (d := .slice none 0 0) HC1.out
     have hf3 := fw4_frm w1 w.heap.size (.int .i64 2) (.int .i64 (p : Int)) (.int .i64 v) (.slice none 0 0)
     have HB3 := Lib.hid (HB1.out.trans (hf3.below HB1.out.size (by intro q hq; simp at hq; omega)))
     have k0 := HC1.out.cell 0
     have k1 := HC1.out.cell 1
     have k2 := HC1.out.cell 2
     have k3 := HC1.out.cell 3
     have l0 := HC1.out.free 0
     have l1 := HC1.out.free 1
     have l2 := HC1.out.free 2
     have l3 := HC1.out.free 3
     have HC3 := Lib.hid hc3
     have HF3 := Lib.hid hf3
     clear hc3 hf3
     unfold fw4 at HC3 HB3 HF3
     go_wp2_with fail
     refine bodyPost_ret (v := .tuple #[.agg #[.int .i64 2, .int .i64 (p : Int), .int .i64 v, .slice none 0 0], .int .i64 (q : Int), .int .i64 (-1)]) (results_at3 4 109 5 6 Tryz.results100 ⟨w.heap.size, 0, none⟩ rfl _ _ _ rfl rfl (load_tok HC3.out)) rfl ?_
     refine ⟨HB3.out, ?_⟩
     rw [HE.out]
     exact ⟨none, 0, by rw [show ((p + (q - p) : Nat) : Int) = (q : Int) by omega]; rfl, .inl Bs.nil_, Nat.le_refl _⟩
   ·have HE := Lib.hid (show oneR x (s.drop (p + 1)) = .ok (⟨2, v, []⟩, q - p) by rw [HONE.out, HFIN.out, if_neg (by rintro (h | h | h) <;> omega), (HNM.out (by omega)).1])
    have hc3 := fw4_cel (a := .int .i64 2) (b := .int .i64 (p : Int)) (c := .int .i64 v) (d := .slice none 0 0) HC1.out
    have hf3 := fw4_frm w1 w.heap.size (.int .i64 2) (.int .i64 (p : Int)) (.int .i64 v) (.slice none 0 0)
    have HB3 := Lib.hid (HB1.out.trans (hf3.below HB1.out.size (by intro q hq; simp at hq; omega)))
    have k0 := HC1.out.cell 0
    have k1 := HC1.out.cell 1
    have k2 := HC1.out.cell 2
    have k3 := HC1.out.cell 3
    have l0 := HC1.out.free 0
    have l1 := HC1.out.free 1
    have l2 := HC1.out.free 2
    have l3 := HC1.out.free 3
    have HC3 := Lib.hid hc3
    have HF3 := Lib.hid hf3
    clear hc3 hf3
    unfold fw4 at HC3 HB3 HF3
    go_wp2_with fail
    refine bodyPost_ret (v := .tuple #[.agg #[.int .i64 2, .int .i64 (p : Int), .int .i64 v, .slice none 0 0], .int .i64 (q : Int), .int .i64 (-1)]) (results_at3 4 109 5 6 Tryz.results100 ⟨w.heap.size, 0, none⟩ rfl _ _ _ rfl rfl (load_tok HC3.out)) rfl ?_
    refine ⟨HB3.out, ?_⟩
    rw [HE.out]
    exact ⟨none, 0, by rw [show ((p + (q - p) : Nat) : Int) = (q : Int) by omega]; rfl, .inl Bs.nil_, Nat.le_refl _⟩
end Go.Proofs.YteohlpmojfjjdaaGreat.Lex
end
section
namespace Go.Proofs.YteohlpmojfjjdaaGreat.Lex
open Go.RowKit
theorem one_ (w : World) (B : Nat) (A : Option Addr) (n c : Nat) (s : List (BitVec 8)) (hs : Bs w B A n s) (hB : B ≤ w.heap.size) (hn : n ≤ 100000) (hcap : n ≤ c) (p : Nat) (hp : p < n) (x : BitVec 8) (hx : s[p]? = some x) :
  Calls Tryz.prog 100 #[.slice A n c, .int .i64 (p : Int)] w (OnSays w B p (oneR x (s.drop (p + 1)))) := by
 by_cases h34 : x = 34#8
 ·subst h34; exact one_text w B A n c s hs hB hn p hp hx
 ·cases hl : letter x
  ·exact one_num w B A n c s hs hB hn p hp x hx h34 hl
  ·exact one_word w B A n c s hs hB hn hcap p hp x hx h34 hl
structure Tv where
 t : Tok
 A : Option Addr
 c : Nat
def Tv.cells (v : Tv) : List Value := [.int .i64 v.t.t.kind, .int .i64 (v.t.at_ : Int), .int .i64 v.t.t.n, .slice v.A v.t.t.text.length v.c]
def tflat (vs : List Tv) : List Value := vs.flatMap Tv.cells
theorem tflat_app (us vs : List Tv) : tflat (us ++ vs) = tflat us ++ tflat vs := by simp [tflat]
theorem tflat_len (us : List Tv) : (tflat us).length = us.length * 4 := by
 induction us with
 | nil => rfl
 | cons x l ih => rw [tflat, List.flatMap_cons, List.length_append, show (l.flatMap Tv.cells) = tflat l from rfl, ih]; show 4 + l.length * 4 = (l.length + 1) * 4; omega
theorem infoTok : (Tryz.prog.info? 109).map (fun i => (i.zero, i.size, i.bytes)) = some (some (.agg #[.int .i64 0, .int .i64 0, .int .i64 0, .slice none 0 0]), 4, 48) := by kernel_rfl
theorem rowTok : ElemRow Tryz.prog 104 109 4 48 := ElemRow.mk' Tryz.underlying104 infoTok rfl (by decide)
def Caps (vs : List Tv) : Prop := ∀ v ∈ vs, v.t.t.text.length ≤ v.c
theorem Caps.snoc {vs : List Tv} {v : Tv} (h : Caps vs) (hv : v.t.t.text.length ≤ v.c) : Caps (vs ++ [v]) := fun u hu => by
 rcases List.mem_append.1 hu with hu | hu
 ·exact h u hu
 ·rw [List.mem_singleton.1 hu]; exact hv
structure Rtk (w : World) (D B : Nat) (A : Option Addr) (n c : Nat) (vs : List Tv) : Prop where
 own : w.ownsRow D 109 4 (.slice A n c) n (tflat vs)
 len : vs.length = n
 tx : ∀ v ∈ vs, Tx w B v.A v.t.t.text
theorem Rtk.nil_ (w : World) (D B : Nat) : Rtk w D B none 0 0 [] := ⟨World.ownsRow_nil _ _ _ _, rfl, by simp⟩
theorem Rtk.below {w w' : World} {D B n c : Nat} {A : Option Addr} {vs : List Tv} (h : Rtk w D B A n c vs) (hB : B ≤ w.heap.size) (hb : Below w.heap.size w w') : Rtk w' D B A n c vs := ⟨own_frm (l := []) h.own (Frm.of_below hb) (by simp), h.len, fun v hv => (h.tx v hv).below hB hb⟩
theorem Tx.grown {w w' : World} {D B n c : Nat} {A A' : Option Addr} {cs : List Value} {t : List (BitVec 8)} (h : Tx w B A' t) (ho : w.ownsRow D 109 4 (.slice A n c) n cs) (hB : B ≤ w.heap.size) (hD : B ≤ D) (hg : w.grownBy w' (Value.slice A n c).ownBlock) : Tx w' B A' t := by
 rcases h with h | h
 ·exact .inl (h.grown hg hB (fun g e => Nat.le_trans hD (own_ge ho g e)))
 ·exact .inr (h.grown hg (not_bytes ho (by decide)))
theorem Rtk.pushed {w w' : World} {D B n c c' : Nat} {A A' : Option Addr} {vs : List Tv} {v : Tv} (h : Rtk w D B A n c vs) (hB : B ≤ w.heap.size) (hD : B ≤ D) (hv : Tx w B v.A v.t.t.text) (hg : w.grownBy w' (Value.slice A n c).ownBlock) (ho : w'.ownsRow D 109 4 (.slice A' (n + 1) c') (n + 1) (tflat (vs ++ [v]))) : Rtk w' D B A' (n + 1) c' (vs ++ [v]) := by
 refine ⟨ho, by rw [List.length_append, h.len]; rfl, fun u hu => ?_⟩
 rcases List.mem_append.1 hu with hu | hu
 ·exact (h.tx u hu).grown h.own hB hD hg
 ·rw [List.mem_singleton.1 hu]; exact hv.grown h.own hB hD hg
theorem Rtk.grew {w w' : World} {D B n c : Nat} {A : Option Addr} {vs : List Tv} (h : Rtk w D B A n c vs) (hg : w.grownBy w' (Value.slice A n c).ownBlock) (hD : D ≤ w.heap.size) : Below D w w' :=
 ⟨hg.os, hg.tape, hg.output, hg.size, fun k hk => hg.block k (by omega) fun e => by have := own_ge h.own k e.symm; omega⟩
def CtSays (w : World) (B : Nat) (r : Except (Nat × Nat) (List Tok)) (e : Ending) (w' : World) : Prop := Below w.heap.size w w' ∧ match r with
 | .error (p, bad) => bad ≠ 0 ∧ e = .returned (.tuple #[.slice none 0 0, .int .i64 (p : Int), .int .i64 (bad : Int)])
 | .ok ts => ∃ A' n' c' vs, e = .returned (.tuple #[.slice A' n' c', .int .i64 0, .int .i64 0]) ∧ Rtk w' w.heap.size B A' n' c' vs ∧ vs.map (·.t) = ts ∧ Caps vs
theorem cut_ (w : World) (B : Nat) (A : Option Addr) (n c : Nat) (s : List (BitVec 8)) (hs : Bs w B A n s) (hB : B ≤ w.heap.size) (hn : n ≤ 100000) (hcap : n ≤ c) :
  Calls Tryz.prog 39 #[.slice A n c] w (CtSays w B (cut s)) := by
 have hsl := hs.len
 by_cases h2 : 2000 < n
 ·have HT := Lib.hid (show cut s = .error (0, 3) by unfold cut; rw [if_pos (by omega)])
  clear hs hsl
  go_enter Tryz.func39, Tryz.ntmps39
  go_wp2_with fail
  go_ret3
  rw [HT.out]
  exact ⟨Below.refl _ _, by decide, rfl⟩
 have HS := Lib.hid hs
 have HSL := Lib.hid hsl
 obtain ⟨k0, hk0⟩ : ∃ k0, k0 = skipR false s := ⟨_, rfl⟩
 obtain ⟨T, hT⟩ : ∃ T, T = cutR (n + 1) k0 (s.drop k0) := ⟨_, rfl⟩
 have HT := Lib.hid (show cut s = cutE T by unfold cut; rw [if_neg (by omega), hT, hk0, hsl])
 have hk0n : k0 ≤ n := by rw [hk0, ← hsl]; exact skipR_le s false
 have HFU := Lib.hid (show ∀ f, n - k0 < f → T = cadd [] (cutR f k0 (s.drop k0)) from fun f hf => by rw [cadd_nil, hT]; exact cutR_fuel _ _ _ _ (by rw [List.length_drop]; omega) (by rw [List.length_drop]; omega))
 have con := skip_ w B A n c s hs hn 0 (Nat.zero_le _)
 rw [List.drop_zero, ← hk0, Nat.zero_add] at con
 clear hs hsl hk0 hT
 go_enter Tryz.func39, Tryz.ntmps39
 go_wp2_with fail
 refine con.mono ?_
 clear con
 rintro e w' ⟨rfl, rfl⟩
 go_wp2_with fail
 go_loopw [5, 6] (fun v5 v6 wr => ∃ (q m c5 : Nat) (A5 : Option Addr) (vs : List Tv), q ≤ n ∧ m ≤ q ∧ v6 = .int .i64 (q : Int) ∧ v5 = .slice A5 m c5 ∧ Rtk wr w.heap.size B A5 m c5 vs ∧ Below w.heap.size w wr ∧ Hid (∀ f, n - q < f → T = cadd (vs.map (·.t)) (cutR f q (s.drop q))) ∧ Hid (Caps vs)) (fun _ v6 _ => n - (intOf v6).toNat)
 case atStart => exact ⟨k0, 0, 0, none, [], hk0n, Nat.zero_le _, rfl, rfl, Rtk.nil_ _ _ _, Below.refl _ _, HFU, Lib.hid (fun v hv => by cases hv)⟩
 case round =>
  clear HFU hk0n
  obtain ⟨q, m, c5, A5, vs, hq, hmq, rfl, rfl, hr, hb, HK, HCP⟩ := hrel
  obtain ⟨W0, rfl⟩ : ∃ W0, W0 = wr := ⟨_, rfl⟩
  have HR := Lib.hid hr
  have HBW := Lib.hid hb
  have hws := hb.size
  clear hr hb
  rcases Nat.lt_or_ge q n with hlt | hge
  ·obtain ⟨x, hx⟩ : ∃ x, s[q]? = some x := ⟨_, List.getElem?_eq_getElem (by rw [HSL.out]; exact hlt)⟩
   have con := one_ W0 B A n c s (HS.out.below (HBW.out.mono hB)) (Nat.le_trans hB hws) hn hcap q hlt x hx
   have HD := Lib.hid (drop_at hx)
   clear hx
   go_wp2_with fail
   refine con.mono ?_
   clear con
   rintro e w2 ⟨hb2, hone⟩
   have HB2 := Lib.hid (HBW.out.trans (hb2.mono hws))
   have HR2 := Lib.hid (HR.out.below (Nat.le_trans hB hws) hb2)
   cases ho : oneR x (s.drop (q + 1)) with
   | error k =>
    rw [ho] at hone
    obtain ⟨v, rfl, y0, y1, y2, z, A', l', c', rfl⟩ := hone
    have HBAD := Lib.hid (show cut s = .error (q + k, 2) by
     have := HK.out (n - q + 1) (by omega)
     rw [HD.out, cutR_bad ho] at this
     rw [HT.out, this]; rfl)
    have HB3 := Lib.hid (HB2.out.trans (((Below.refl w2.heap.size w2).alloc (Nat.le_refl _) (.cells #[.int .i64 y0, .int .i64 y1, .int .i64 y2, .slice A' l' c'] 109)).mono HB2.out.size))
    clear ho hb2 HK
    go_wp2_with fail
    go_ret3
    rw [HBAD.out]
    exact ⟨HB3.out, by decide, rfl⟩
   | ok xk =>
    obtain ⟨t, k⟩ := xk
    rw [ho] at hone
    obtain ⟨A', c', rfl, htx, hcp⟩ := hone
    have HCP2 := Lib.hid (HCP.out.snoc (v := ⟨⟨t, q⟩, A', c'⟩) hcp)
    clear hcp
    obtain ⟨hk1, hk2, _⟩ := oneR_le ho
    have hsl : s.length = n := HSL.out
    have hqk : q + k ≤ n := by rw [List.length_drop] at hk2; omega
    obtain ⟨j, hj⟩ : ∃ j, j = skipR false (s.drop (q + k)) := ⟨_, rfl⟩
    have hjn : q + k + j ≤ n := by have := skipR_le (s.drop (q + k)) false; rw [← hj, List.length_drop] at this; omega
    have HN := Lib.hid (show ∀ f, n - (q + k + j) < f → T = cadd ((vs ++ [(⟨⟨t, q⟩, A', c'⟩ : Tv)]).map (·.t)) (cutR f (q + k + j) (s.drop (q + k + j))) from fun f hf => by
     have := HK.out (f + (n - q) + 1) (by omega)
     rw [HD.out, cutR_go ho, ← HD.out, List.drop_drop, ← hj, List.drop_drop, cadd_cadd] at this
     rw [this, List.map_append]
     rw [cutR_fuel (f + (n - q)) f _ _ (by rw [List.length_drop]; omega) (by rw [List.length_drop]; omega)]
     rfl)
    have HJ := Lib.hid hj
    have hb3 : Below w2.heap.size w2 ((w2.alloc (.cells #[.int .i64 t.kind, .int .i64 (q : Int), .int .i64 t.n, .slice A' t.text.length c'] 109)).alloc (.cells #[.int .i64 t.kind, .int .i64 (q : Int), .int .i64 t.n, .slice A' t.text.length c'] 109)) := ((Below.refl _ _).alloc (Nat.le_refl _) _).alloc (by simp) _
    have HR3 := Lib.hid (HR2.out.below (Nat.le_trans hB HB2.out.size) hb3)
    have HB3 := Lib.hid (HB2.out.trans (hb3.mono HB2.out.size))
    have HTX := Lib.hid (htx.below (Nat.le_trans hB HB2.out.size) hb3)
    have hc3 := Cel.new (w2.alloc (.cells #[.int .i64 t.kind, .int .i64 (q : Int), .int .i64 t.n, .slice A' t.text.length c'] 109)) 109 [.int .i64 t.kind, .int .i64 (q : Int), .int .i64 t.n, .slice A' t.text.length c']
    rw [show (w2.alloc (.cells #[.int .i64 t.kind, .int .i64 (q : Int), .int .i64 t.n, .slice A' t.text.length c'] 109)).heap.size = w2.heap.size + 1 by simp] at hc3
    have HSRC := Lib.hid (Ry.src (m := 1) (Ry.of_cel hc3) (by simp))
    have HSK := Lib.hid (fun (W : World) (hW : Below w.heap.size w W) => (show Calls Tryz.prog 99 #[.slice A n c, .int .i64 ((q : Int) + (k : Int))] W fun e w' => e = .returned (.int .i64 ((q + k + j : Nat) : Int)) ∧ W = w' by rw [HJ.out]; have := skip_ W B A n c s (HS.out.below (hW.mono hB)) hn (q + k) hqk; rwa [show ((q + k : Nat) : Int) = (q : Int) + (k : Int) by omega] at this))
    have hkz : ((q + k : Nat) : Int) ≥ 0 := by omega
    have hw3 : w.heap.size ≤ w2.heap.size + 1 + 1 := by have := HB2.out.size; omega
    generalize hml : t.text.length = ml at *
    have HML := Lib.hid hml
    clear ho hb2 HK hj hb3 hc3 htx hml hk2 HJ
    go_wp2_with ((at_builtin; refine wpList_append_any _ rfl _ _ 104 rfl w.heap.size 109 rowTok (.slice A5 m c5) m (tflat vs) rfl HR3.out.own (some ⟨w2.heap.size + 1, 0, none⟩) 1 1 [.int .i64 t.kind, .int .i64 (q : Int), .int .i64 t.n, .slice A' ml c'] rfl rfl HSRC.out (by intro u hu; simp at hu; rcases hu with rfl | rfl | rfl | rfl <;> rfl) (m + 1) _ rfl rfl (by unfold maxLen; omega) (by omega) (by simp; omega) ?_; intro A8 c8 w8 ho8 hg8 _; have HR8 := Lib.hid (HR3.out.pushed (v := ⟨⟨t, q⟩, A', c'⟩) (Nat.le_trans hB HB3.out.size) hB HTX.out hg8 (by rw [tflat_app]; show w8.ownsRow _ _ _ _ _ (tflat vs ++ [.int .i64 t.kind, .int .i64 (q : Int), .int .i64 t.n, .slice A' t.text.length c']); rw [HML.out]; exact ho8)); have HB8 := Lib.hid (HB3.out.trans (HR3.out.grew hg8 HB3.out.size)); clear ho8 hg8))
    refine (HSK.out w8 HB8.out).mono ?_
    clear HSK
    rintro e w9 ⟨rfl, rfl⟩
    go_wp2_with fail
    exact ⟨⟨q + k + j, m + 1, c8, A8, _, hjn, by omega, rfl, rfl, HR8.out, HB8.out, HN, HCP2⟩, by simp [intOf]; omega⟩
  ·obtain rfl : q = n := by omega
   have HALL := Lib.hid (show cut s = .ok (vs.map (·.t)) by
    have := HK.out 1 (by omega)
    rw [List.drop_eq_nil_of_le (by rw [HSL.out]; exact Nat.le_refl _), cutR_nil] at this
    rw [HT.out, this]; simp [cadd, cutE])
   clear HK
   go_wp2_with fail
   go_ret3
   rw [HALL.out]
   exact ⟨HBW.out, A5, m, c5, vs, rfl, HR.out, rfl, HCP.out⟩
end Go.Proofs.YteohlpmojfjjdaaGreat.Lex
end
section
namespace Go.Proofs.YteohlpmojfjjdaaGreat.Lex
open Go.RowKit
structure Ttk (w : World) (B : Nat) (A : Option Addr) (vs : List Tv) : Prop where
 ry : Ry 109 w A (tflat vs)
 tx : ∀ v ∈ vs, Tx w B v.A v.t.t.text
theorem Rtk.ttk {w : World} {D B n c : Nat} {A : Option Addr} {vs : List Tv} (h : Rtk w D B A n c vs) : Ttk w B A vs := ⟨Ry.of_own h.own (by decide), h.tx⟩
theorem Ttk.below {w w' : World} {B : Nat} {A : Option Addr} {vs : List Tv} (h : Ttk w B A vs) (hB : B ≤ w.heap.size) (hb : Below w.heap.size w w') : Ttk w' B A vs := ⟨h.ry.below hb, fun v hv => (h.tx v hv).below hB hb⟩
theorem flat4 : ∀ (vs : List Tv) (i k : Nat) (v : Tv), vs[i]? = some v → k < 4 → (tflat vs)[i * 4 + k]? = v.cells[k]?
 | [], _, _, _, h, _ => by simp at h
 | u :: us, 0, k, v, h, hk => by
  simp at h
  subst h
  rw [tflat, List.flatMap_cons, List.getElem?_append_left (by rw [Nat.zero_mul, Nat.zero_add]; exact hk), Nat.zero_mul, Nat.zero_add]
 | u :: us, i + 1, k, v, h, hk => by
  have h1 := flat4 us i k v (by simpa using h) hk
  rw [tflat, List.flatMap_cons, List.getElem?_append_right (by show 4 ≤ _; omega)]
  rw [← h1]
  show _ = (us.flatMap Tv.cells)[i * 4 + k]?
  congr 1
  show (i + 1) * 4 + k - 4 = _
  omega
theorem add_at4 (ad : Addr) (i k : Nat) (hk : 0 < k) : (⟨(ad.add i).block, (ad.add i).off + k, none⟩ : Addr) = ad.add (i + k) := by
 rw [← add_add]
 generalize ad.add i = q
 unfold Addr.add
 rw [if_neg (by omega)]
theorem Ttk.at_ {w : World} {B : Nat} {A : Option Addr} {vs : List Tv} (h : Ttk w B A vs) {i : Nat} {v : Tv} (hi : vs[i]? = some v) : ∃ ad, A = some ad ∧ w.cell? (ad.add (i * 4)) = some (.int .i64 v.t.t.kind) ∧
  w.cell? ⟨(ad.add (i * 4)).block, (ad.add (i * 4)).off + 1, none⟩ = some (.int .i64 (v.t.at_ : Int)) ∧ w.cell? ⟨(ad.add (i * 4)).block, (ad.add (i * 4)).off + 2, none⟩ = some (.int .i64 v.t.t.n) ∧ w.cell? ⟨(ad.add (i * 4)).block, (ad.add (i * 4)).off + 3, none⟩ = some (.slice v.A v.t.t.text.length v.c) := by
 have e : ∀ k, k < 4 → (tflat vs)[i * 4 + k]? = v.cells[k]? := fun k hk => flat4 vs i k v hi hk
 obtain ⟨ad, rfl, _, hc⟩ := h.ry (fun q => by have := e 0 (by decide); rw [q] at this; simp [Tv.cells] at this)
 exact ⟨ad, rfl, hc _ _ (e 0 (by decide)), by rw [add_at4 _ _ 1 (by decide)]; exact hc _ _ (e 1 (by decide)), by rw [add_at4 _ _ 2 (by decide)]; exact hc _ _ (e 2 (by decide)), by rw [add_at4 _ _ 3 (by decide)]; exact hc _ _ (e 3 (by decide))⟩
theorem lbelow_drew {B : Nat} {w w' : World} (h : Below B w w') (m : Nat) : Below B w (w'.drewN m) := ⟨h.os, h.tape, h.output, h.size, h.block⟩
theorem Tx.bs {w : World} {B : Nat} {A : Option Addr} {t : List (BitVec 8)} (h : Tx w B A t) (hB : B ≤ w.heap.size) : Bs w w.heap.size A t.length t := by
 rcases h with h | h
 ·exact h.more hB
 ·exact h.rd
theorem Tx.str {w : World} {B : Nat} {A : Option Addr} {t : List (BitVec 8)} (h : Tx w B A t) (hB : B ≤ w.heap.size) (c m : Nat) : (convert 41 9 (.slice A t.length c)).run Tryz.prog (w.drewN m) = .ok (.string (str t)) (w.drewN m) :=
 (Bs.bp ((h.bs hB).drewN m)).string c Tryz.underlying41 Tryz.underlying5 Tryz.underlying9
end Go.Proofs.YteohlpmojfjjdaaGreat.Lex
end
section
namespace Go.Proofs.YteohlpmojfjjdaaGreat.Book
open Go.RowKit
open Lex (Tok Tk B cut Tv Tx tflat)
theorem str_toList (a : List (BitVec 8)) : (str a).toList = a.map UInt8.ofBitVec := by rw [ByteArray.toList_eq]; simp [str]
theorem ofBV_inj {x y : BitVec 8} (h : UInt8.ofBitVec x = UInt8.ofBitVec y) : x = y := by have := congrArg UInt8.toBitVec h; simpa using this
theorem map_inj : ∀ {a b : List (BitVec 8)}, a.map UInt8.ofBitVec = b.map UInt8.ofBitVec → a = b
 | [], [], _ => rfl
 | [], _ :: _, h => by simp at h
 | _ :: _, [], h => by simp at h
 | x :: a, y :: b, h => by
  simp only [List.map_cons, List.cons.injEq] at h
  rw [ofBV_inj h.1, map_inj h.2]
theorem str_beq (a b : List (BitVec 8)) : ((str a).toList == (str b).toList) = decide (a = b) := by
 rw [str_toList, str_toList]
 by_cases h : a = b
 ·subst h; simp
 ·rw [decide_eq_false h]
  exact beq_false_of_ne fun e => h (map_inj e)
def toks (vs : List Tv) : T := vs.map (·.t)
theorem toks_drop {vs : List Tv} {p : Nat} {v : Tv} (h : vs[p]? = some v) : (toks vs).drop p = v.t :: (toks vs).drop (p + 1) := by
 obtain ⟨hl, hv⟩ := List.getElem?_eq_some_iff.1 h
 have h2 : p < (vs.map (·.t)).length := by rw [List.length_map]; exact hl
 unfold toks
 rw [List.drop_eq_getElem_cons h2, List.getElem_map, hv]
theorem toks_end {vs : List Tv} {p : Nat} (h : vs.length ≤ p) : (toks vs).drop p = [] := List.drop_eq_nil_of_le (by unfold toks; rw [List.length_map]; exact h)
def fw9 (w : World) (g : Nat) (a b c d e f x y z : Value) : World := ((((((((w.setCell ⟨g, 0, none⟩ a).setCell ⟨g, 1, none⟩ b).setCell ⟨g, 2, none⟩ c).setCell ⟨g, 3, none⟩ d).setCell ⟨g, 4, none⟩ e).setCell ⟨g, 5, none⟩ f).setCell ⟨g, 6, none⟩ x).setCell ⟨g, 7, none⟩ y).setCell ⟨g, 8, none⟩ z
theorem fw9_cel {w : World} {g : Nat} {t : TypeId} {z0 z1 z2 z3 z4 z5 z6 z7 z8 a b c d e f x y z : Value} (h : Cel w g t [z0, z1, z2, z3, z4, z5, z6, z7, z8]) : Cel (fw9 w g a b c d e f x y z) g t [a, b, c, d, e, f, x, y, z] := ((((((((h.set 0 a).set 1 b).set 2 c).set 3 d).set 4 e).set 5 f).set 6 x).set 7 y).set 8 z
theorem fw9_frm (w : World) (g : Nat) (a b c d e f x y z : Value) : Frm [g] w (fw9 w g a b c d e f x y z) := (((((((((Frm.refl [g] w).set (p := ⟨g, 0, none⟩) (by simp) a).set (p := ⟨g, 1, none⟩) (by simp) b).set (p := ⟨g, 2, none⟩) (by simp) c).set (p := ⟨g, 3, none⟩) (by simp) d).set (p := ⟨g, 4, none⟩) (by simp) e).set (p := ⟨g, 5, none⟩) (by simp) f).set (p := ⟨g, 6, none⟩) (by simp) x).set (p := ⟨g, 7, none⟩) (by simp) y).set (p := ⟨g, 8, none⟩) (by simp) z
theorem Tx.keep {w w' : World} {B : Nat} {A : Option Addr} {t : List (BitVec 8)} (h : Tx w B A t) (hk : ∀ k, k < w.heap.size → (k < B ∨ ∃ cs fz, w.heap[k]? = some (Obj.cells cs 5 fz)) → w'.heap[k]? = w.heap[k]?) : Tx w' B A t := by
 rcases h with h | h
 ·refine .inl ⟨h.1, fun hn => ?_⟩
  obtain ⟨ad, e, hb, hc⟩ := h.2 hn
  have hlt : ad.block < w.heap.size := by have := cell_lt (hc 0 hn); rwa [add_block] at this
  exact ⟨ad, e, hb, fun j hj => (World.cell?_of_block (by rw [add_block]; exact hk _ hlt (.inl hb))).trans (hc j hj)⟩
 ·exact .inr (By.keep h fun k cs fz hb => hk k (Array.getElem?_eq_some_iff.1 hb).1 (.inr ⟨cs, fz, hb⟩))
theorem Tx.frm {w w' : World} {B : Nat} {A : Option Addr} {t : List (BitVec 8)} {l : List Nat} (h : Tx w B A t) (hf : Frm l w w') (hl : ∀ k ∈ l, B ≤ k ∧ ∀ cs fz, w.heap[k]? ≠ some (Obj.cells cs 5 fz)) : Tx w' B A t :=
 Tx.keep h fun k hk hc => hf.block k hk fun hm => by
  obtain ⟨h1, h2⟩ := hl k hm
  rcases hc with hc | ⟨cs, fz, hc⟩
  ·omega
  ·exact h2 cs fz hc
def Tc (w : World) (B : Nat) (A : Option Addr) (c : Nat) (t : List (BitVec 8)) : Prop := Tx w B A t ∧ t.length ≤ c
theorem Tc.below {w w' : World} {B c : Nat} {A : Option Addr} {t : List (BitVec 8)} (h : Tc w B A c t) (hB : B ≤ w.heap.size) (hb : Below w.heap.size w w') : Tc w' B A c t := ⟨h.1.below hB hb, h.2⟩
theorem Tc.frm {w w' : World} {B c : Nat} {A : Option Addr} {t : List (BitVec 8)} {l : List Nat} (h : Tc w B A c t) (hf : Frm l w w') (hl : ∀ k ∈ l, B ≤ k ∧ ∀ cs fz, w.heap[k]? ≠ some (Obj.cells cs 5 fz)) : Tc w' B A c t := ⟨Tx.frm h.1 hf hl, h.2⟩
structure Av where
 a : Arm
 A : Option Addr
 c : Nat
def Av.cells (v : Av) : List Value := [.int .i64 (v.a.at_ : Int), .slice v.A v.a.pat.length v.c, .string (str v.a.as_), .string (str v.a.go)]
def aflat (vs : List Av) : List Value := vs.flatMap Av.cells
theorem aflat_app (us vs : List Av) : aflat (us ++ vs) = aflat us ++ aflat vs := by simp [aflat]
def zero9 : List Value := [.int .i64 0, .string ⟨#[]⟩, .int .i64 0, .bool false, .slice none 0 0, .slice none 0 0, .int .i64 0, .int .i64 0, .string ⟨#[]⟩]
def cells9 (s : Step) (A4 : Option Addr) (c4 : Nat) (A5 : Option Addr) (c5 : Nat) : List Value := [.int .i64 (s.at_ : Int), .string (str s.name), .int .i64 s.tag, .bool s.sends, .slice A4 s.send.length c4, .slice A5 s.arms.length c5, .int .i64 s.time, .int .i64 s.try_, .string (str s.els)]
structure Bv where
 s : Step
 A4 : Option Addr
 c4 : Nat
 A5 : Option Addr
 c5 : Nat
 avs : List Av
def Bv.cells (v : Bv) : List Value := cells9 v.s v.A4 v.c4 v.A5 v.c5
def s9flat (vs : List Bv) : List Value := vs.flatMap Bv.cells
theorem s9flat_app (us vs : List Bv) : s9flat (us ++ vs) = s9flat us ++ s9flat vs := by simp [s9flat]
def asBook (most : Int) : Except T (List Step) → Except T Book
 | .error e => .error e
 | .ok ss => .ok ⟨most, ss⟩
def asText (n : Nat) : Except T Book → Except (Nat × Nat) Book
 | .error [] => .error (n, 2)
 | .error (x :: _) => .error (x.at_, 2)
 | .ok b => .ok b
theorem cut_few {s : List B} {ts : List Tok} (h : cut s = .ok ts) : ts.length ≤ 2000 := by
 obtain ⟨h1, h2⟩ := Lex.cut_alone h
 have hi : ∀ (i : Nat) (t : Tok), ts[i]? = some t → i ≤ t.at_ := by
  intro i
  induction i with
  | zero => intro t _; exact Nat.zero_le _
  | succ i ih =>
   intro t ht
   have hl := (List.getElem?_eq_some_iff.1 ht).1
   have hu : ts[i]? = some ts[i] := List.getElem?_eq_getElem (by omega)
   have h3 := ih _ hu
   have h4 := (h2 i _ hu).1
   unfold Lex.next at h4
   rw [ht] at h4
   dsimp only at h4
   omega
 rcases Nat.eq_zero_or_pos ts.length with h0 | h0
 ·omega
 ·have hu : ts[ts.length - 1]? = some ts[ts.length - 1] := List.getElem?_eq_getElem (by omega)
  have h3 := hi _ _ hu
  have h4 := h2 _ _ hu
  omega
theorem bookOf_cut {s : List B} {l : T} (h : cut s = .ok l) : bookOf s = asText s.length (bookR l) := by
 unfold bookOf
 rw [h]
 dsimp only
 cases bookR l with
 | error e => cases e <;> rfl
 | ok b => rfl
end Go.Proofs.YteohlpmojfjjdaaGreat.Book
end
section
namespace Go.Proofs.YteohlpmojfjjdaaGreat.Book
open Go.RowKit
open Lex (Tok Tk B cut Tv Ttk Tx Rtk tflat lbelow_drew b_ne CtSays)
theorem kind_ (w : World) (B : Nat) (A : Option Addr) (n c : Nat) (vs : List Tv) (h : Ttk w B A vs) (hl : vs.length = n) (hn : n ≤ 100000) (p : Nat) (hp : p ≤ 100000) (k : Int) :
  Calls Tryz.prog 41 #[.slice A n c, .int .i64 (p : Int), .int .i64 k] w fun e w' => e = .returned (.bool (kd k ((toks vs).drop p))) ∧ w = w' := by
 rcases Nat.lt_or_ge p n with hlt | hge
 ·obtain ⟨v, hv⟩ : ∃ v, vs[p]? = some v := ⟨_, List.getElem?_eq_getElem (by rw [hl]; exact hlt)⟩
  obtain ⟨ad, rfl, k0, k1, k2, k3⟩ := h.at_ hv
  have HV := Lib.hid (show kd k ((toks vs).drop p) = decide (v.t.t.kind = k) by rw [toks_drop hv]; rfl)
  clear h hv hl k1 k2 k3
  obtain ⟨⟨⟨vk, vn, vt⟩, va⟩, vA, vc⟩ := v
  dsimp only at *
  by_cases hk : vk = k
  ·subst hk
   go_enter Tryz.func41, Tryz.ntmps41
   go_wp2_with fail
   go_ret
   rw [HV.out]
   simp
  ·have e : (vk == k) = false := by simp [hk]
   go_enter Tryz.func41, Tryz.ntmps41
   go_wp2_with fail
   go_ret
   rw [HV.out, decide_eq_false hk]
   exact ⟨rfl, rfl⟩
 ·have HV := Lib.hid (show kd k ((toks vs).drop p) = false by rw [toks_end (by rw [hl]; exact hge)]; rfl)
  clear h hl
  go_enter Tryz.func41, Tryz.ntmps41
  go_wp2_with fail
  go_ret
  rw [HV.out]
  exact ⟨rfl, rfl⟩
theorem is_ (w : World) (B : Nat) (A : Option Addr) (n c : Nat) (vs : List Tv) (h : Ttk w B A vs) (hB : B ≤ w.heap.size) (hl : vs.length = n) (hn : n ≤ 100000) (p : Nat) (hp : p ≤ 100000) (wb : List (BitVec 8)) :
  Calls Tryz.prog 40 #[.slice A n c, .int .i64 (p : Int), .string (str wb)] w fun e w' => e = .returned (.bool (wd wb ((toks vs).drop p))) ∧ Below w.heap.size w w' := by
 rcases Nat.lt_or_ge p n with hlt | hge
 ·obtain ⟨v, hv⟩ : ∃ v, vs[p]? = some v := ⟨_, List.getElem?_eq_getElem (by rw [hl]; exact hlt)⟩
  obtain ⟨ad, rfl, k0, k1, k2, k3⟩ := h.at_ hv
  have s1 : (convert 41 9 (.slice v.A v.t.t.text.length v.c)).run Tryz.prog w = .ok (.string (str v.t.t.text)) w := (Bs.bp ((h.tx v (List.mem_of_getElem? hv)).bs hB)).string v.c Tryz.underlying41 Tryz.underlying5 Tryz.underlying9
  have HV := Lib.hid (show wd wb ((toks vs).drop p) = (decide (v.t.t.kind = 1) && decide (v.t.t.text = wb)) by rw [toks_drop hv]; rfl)
  have HB := Lib.hid (Below.refl w.heap.size w)
  clear h hv hl k1 k2
  obtain ⟨⟨⟨vk, vn, vt⟩, va⟩, vA, vc⟩ := v
  dsimp only at *
  have HS := Lib.hid (str_beq vt wb)
  obtain ⟨s, hs⟩ : ∃ s, s = str vt := ⟨_, rfl⟩
  obtain ⟨s', hs'⟩ : ∃ s', s' = str wb := ⟨_, rfl⟩
  rw [← hs, ← hs'] at HS
  rw [← hs] at s1
  rw [← hs']
  generalize hvl : vt.length = vl at *
  clear hs hs' hvl
  by_cases hk : vk = 1
  ·subst hk
   go_enter Tryz.func40, Tryz.ntmps40
   go_wp2_with fail
   go_ret
   refine ⟨?_, HB.out⟩
   rw [HV.out, HS.out]
   simp
  ·have e : (vk == 1) = false := by simp [hk]
   go_enter Tryz.func40, Tryz.ntmps40
   go_wp2_with fail
   go_ret
   rw [HV.out, decide_eq_false hk]
   exact ⟨rfl, HB.out⟩
 ·have HV := Lib.hid (show wd wb ((toks vs).drop p) = false by rw [toks_end (by rw [hl]; exact hge)]; rfl)
  have HB := Lib.hid (Below.refl w.heap.size w)
  clear h hl
  generalize str wb = s'
  go_enter Tryz.func40, Tryz.ntmps40
  go_wp2_with fail
  go_ret
  rw [HV.out]
  exact ⟨rfl, HB.out⟩
end Go.Proofs.YteohlpmojfjjdaaGreat.Book
end
