/-
  The document's cutter (layer 11): a number.
-/
import Derived.Test.YtkodajkhekocbaaLexOne
import Derived.Deep.CutBlock
import Derived.Deep.CutRange
import Derived.Deep.DeepCutAuto
namespace Go.Proofs.Ytkodajkhekocbaa.Lex
open Go.RowKit
set_option linter.unusedVariables false
set_option linter.unusedSimpArgs false

def bnd : Nat → Int
  | 0 => 1
  | 1 => 10
  | 2 => 100
  | 3 => 1000
  | 4 => 10000
  | _ => 100000
theorem bnd_step {j : Nat} {v d : Int} (hj : j ≤ 4) (hv : v < bnd j) (h0 : 0 ≤ v) (hd : d ≤ 9) : v < 100000 ∧ 10 * v + d < bnd (j + 1) := by
  rcases j with _ | _ | _ | _ | _ | j <;> simp [bnd] at hv ⊢ <;> omega
/-- What has been read of a number. -/
def Nm (s : List (BitVec 8)) (p q : Nat) (v : Int) : Prop := q - p ≤ 5 → v = val ((s.drop p).take (q - p)) ∧ v < bnd (q - p)
theorem Nm.go {s : List (BitVec 8)} {p q : Nat} {v : Int} {y : BitVec 8} (h : Nm s p q v) (hpq : p ≤ q) (hy : s[q]? = some y) (h0 : 0 ≤ v) (h1 : 48 ≤ y.toNat) (h2 : y.toNat ≤ 57) : Nm s p (q + 1) (if v < 100000 then 10 * v + (y.toNat : Int) - 48 else v) := by
  intro h5
  obtain ⟨e, hb⟩ := h (by omega)
  obtain ⟨b1, b2⟩ := bnd_step (d := (y.toNat : Int) - 48) (show q - p ≤ 4 by omega) hb h0 (by omega)
  rw [if_pos b1]
  rw [show q + 1 - p = (q - p) + 1 by omega]
  refine ⟨?_, by omega⟩
  rw [List.take_add_one, List.getElem?_drop, show p + (q - p) = q by omega, hy]
  rw [show (some y).toList = [y] from rfl, val_snoc, ← e]
  omega
set_option maxRecDepth 100000 in
set_option maxHeartbeats 2000000 in
theorem one_num (w : World) (B : Nat) (A : Option Addr) (n c : Nat) (s : List (BitVec 8)) (hs : Bs w B A n s) (hB : B ≤ w.heap.size) (hn : n ≤ 100000) (p : Nat) (hp : p < n) (x : BitVec 8) (hx : s[p]? = some x) (h34 : x ≠ 34#8) (hlt : letter x = false) :
    Calls Try.prog 14 #[.slice A n c, .int .i64 (p : Int)] w (OnSays w B p (oneR x (s.drop (p + 1)))) := by
  have hd := drop_at hx
  have HONE := Lib.hid (show oneR x (s.drop (p + 1)) = if far digit s p = 0 ∨ 4 < far digit s p ∨ 1 < far digit s p ∧ x = 48#8 then .error 0 else .ok (⟨2, val ((s.drop p).take (far digit s p)), []⟩, far digit s p) by
    unfold oneR far
    rw [if_neg h34, if_neg (by simp [hlt]), ← hd, ← take_while])
  have HS := Lib.hid hs
  have HSL := Lib.hid hs.len
  have e34 : ((x.toNat : Int) == 34) = false := b_ne (k := 34) (by decide) h34
  have hl : ¬ 97 ≤ x.toNat ∨ 97 ≤ x.toNat ∧ ¬ x.toNat ≤ 122 := by
    unfold letter at hlt
    simp only [Bool.and_eq_false_iff, decide_eq_false_iff_not] at hlt
    omega
  obtain ⟨bd, rfl, hbk, b0⟩ := hs.at_ hp
  rw [List.getD_eq_getElem?_getD, hx] at b0
  change _ = some (v8 x) at b0
  obtain ⟨w1, hw1⟩ : ∃ w1, w1 = w.alloc (.cells #[.int .i64 0, .int .i64 0, .int .i64 0, .slice none 0 0] 46) := ⟨_, rfl⟩
  have hb1 : Below w.heap.size w w1 := by rw [hw1]; exact (Below.refl _ _).alloc (Nat.le_refl _) _
  have hc1 : Cel w1 w.heap.size 46 [.int .i64 0, .int .i64 0, .int .i64 0, .slice none 0 0] := by rw [hw1]; exact Cel.new w _ _
  have b1 := (hb1.cell (cell_lt b0)).trans b0
  have HB1 := Lib.hid hb1
  have HC1 := Lib.hid hc1
  rw [hw1] at b1
  clear hb1 hc1 hs hx h34 hlt hd b0
  go_enter Try.func14, Try.ntmps14
  go_upto_region 6 with fail
  rw [← hw1] at b1 ⊢
  clear hw1
  go_cut [38] from 33 to 39 (fun s38 wx => s38 = .bool false ∧ w1 = wx)
  case first =>
    rcases hl with h | ⟨h, h'⟩
    · go_wp2_with fail
      go_meet
      case rel => exact ⟨by simp, rfl⟩
    · have z122 : decide ((x.toNat : Int) ≤ 122) = false := by simp; omega
      go_wp2_with fail
      go_meet
      case rel => exact ⟨by simp [z122], rfl⟩
  case rest =>
    obtain ⟨rfl, rfl⟩ := hcut
    clear hl
    go_upto_block 2 with fail
    go_cut [11, 12] from 66 to 97 (fun s11 s12 wx => ∃ (q : Nat) (v : Int), p ≤ q ∧ q ≤ n ∧ s11 = .int .i64 (q : Int) ∧ s12 = .int .i64 v ∧ w1 = wx ∧ far digit s p = q - p ∧ Nm s p q v)
    case first =>
      go_wp2_with fail
      go_loopw [11, 12] (fun v11 v12 wr => ∃ (q : Nat) (v : Int), p ≤ q ∧ q ≤ n ∧ v11 = .int .i64 (q : Int) ∧ v12 = .int .i64 v ∧ w1 = wr ∧ 0 ≤ v ∧ v ≤ 1000000 ∧ Hid (far digit s p = (q - p) + far digit s q) ∧ Hid (Nm s p q v)) (fun v11 _ _ => n - (intOf v11).toNat)
      case atStart => exact ⟨p, 0, Nat.le_refl _, by omega, rfl, rfl, rfl, by omega, by omega, Lib.hid (by rw [Nat.sub_self, Nat.zero_add]), Lib.hid (fun _ => by rw [Nat.sub_self]; exact ⟨rfl, by decide⟩)⟩
      case round =>
        obtain ⟨q, v, hpq, hqn, rfl, rfl, rfl, hv0, hv1, HK, HNM⟩ := hrel
        rcases Nat.lt_or_ge q n with hlt | hge
        · obtain ⟨y, hy⟩ : ∃ y, s[q]? = some y := ⟨_, List.getElem?_eq_getElem (by rw [HSL.out]; exact hlt)⟩
          obtain ⟨bd2, hbd, _, b2⟩ := (HS.out.below (HB1.out.mono hB)).at_ hlt
          cases hbd
          rw [List.getD_eq_getElem?_getD, hy] at b2
          change _ = some (v8 y) at b2
          have HY := Lib.hid hy
          clear hy
          by_cases h1 : 48 ≤ y.toNat
          · by_cases h2 : y.toNat ≤ 57
            · have hdy : digit y = true := by unfold digit; simp; omega
              have HN := Lib.hid (show far digit s p = (q + 1 - p) + far digit s (q + 1) by rw [HK.out, far_go HY.out hdy]; omega)
              have HM := Lib.hid (HNM.out.go hpq HY.out hv0 h1 h2)
              have z57 : decide ((y.toNat : Int) ≤ 57) = true := by simp; omega
              have z48 : decide ((48 : Int) ≤ (y.toNat : Int)) = true := by simp; omega
              clear hdy HK HNM
              by_cases hv : v < 100000
              · rw [if_pos hv] at HM
                go_wp2_with fail
                go_roundw
                case rel => exact ⟨q + 1, 10 * v + (y.toNat : Int) - 48, by omega, by omega, by rw [show ((q + 1 : Nat) : Int) = (q : Int) + 1 by omega], rfl, by trivial, by omega, by omega, HN, HM⟩
                all_goals (simp [intOf]; omega)
              · rw [if_neg hv] at HM
                go_wp2_with fail
                go_roundw
                case rel => exact ⟨q + 1, v, by omega, by omega, by rw [show ((q + 1 : Nat) : Int) = (q : Int) + 1 by omega], rfl, by trivial, by omega, by omega, HN, HM⟩
                all_goals (simp [intOf]; omega)
            · have hdy : digit y = false := by unfold digit; simp; omega
              have HFIN := Lib.hid (show far digit s p = q - p by rw [HK.out, far_no HY.out hdy, Nat.add_zero])
              have z57 : decide ((y.toNat : Int) ≤ 57) = false := by simp; omega
              clear hdy HK
              go_wp2_with fail
              go_meet
              case rel => exact ⟨q, v, hpq, hqn, rfl, rfl, rfl, HFIN.out, HNM.out⟩
          · have hdy : digit y = false := by unfold digit; simp; omega
            have HFIN := Lib.hid (show far digit s p = q - p by rw [HK.out, far_no HY.out hdy, Nat.add_zero])
            clear hdy HK
            go_wp2_with fail
            go_meet
            case rel => exact ⟨q, v, hpq, hqn, rfl, rfl, rfl, HFIN.out, HNM.out⟩
        · have HFIN := Lib.hid (show far digit s p = q - p by rw [HK.out, far_end (by rw [HSL.out]; exact hge), Nat.add_zero])
          clear HK
          go_wp2_with fail
          go_meet
          case rel => exact ⟨q, v, hpq, hqn, rfl, rfl, rfl, HFIN.out, HNM.out⟩
    case rest =>
      obtain ⟨q, v, hpq, hqn, rfl, rfl, rfl, hfin, hnm⟩ := hcut
      have HFIN := Lib.hid hfin
      have HNM := Lib.hid hnm
      clear hfin hnm
      by_cases h0 : q = p
      · have HE := Lib.hid (show oneR x (s.drop (p + 1)) = .error 0 by rw [HONE.out, HFIN.out, if_pos (.inl (by omega))])
        subst h0
        have hc3 := fw4_cel (a := .int .i64 0) (b := .int .i64 0) (c := .int .i64 0) (d := .slice none 0 0) HC1.out
        have hf3 := fw4_frm w1 w.heap.size (.int .i64 0) (.int .i64 0) (.int .i64 0) (.slice none 0 0)
        have HB3 := Lib.hid (HB1.out.trans (hf3.below HB1.out.size (by intro q hq; simp at hq; omega)))
        have k0 := HC1.out.cell 0
        have k1 := HC1.out.cell 1
        have k2 := HC1.out.cell 2
        have k3 := HC1.out.cell 3
        have l0 := HC1.out.free 0
        have l1 := HC1.out.free 1
        have l2 := HC1.out.free 2
        have l3 := HC1.out.free 3
        have HC3 := Lib.hid hc3
        have HF3 := Lib.hid hf3
        clear hc3 hf3
        unfold fw4 at HC3 HB3 HF3
        go_wp2_with fail
        refine bodyPost_ret (v := .tuple #[.agg #[.int .i64 0, .int .i64 0, .int .i64 0, .slice none 0 0], .int .i64 (q : Int), .int .i64 (q : Int)]) (results_at3 4 46 5 6 Try.results14 ⟨w.heap.size, 0, none⟩ rfl _ _ _ rfl rfl (load_tok HC3.out)) rfl ?_
        refine ⟨HB3.out, ?_⟩
        rw [HE.out]
        exact ⟨_, rfl, 0, 0, 0, (q : Int), none, 0, 0, rfl⟩
      have y0 : ((q : Int) == (p : Int)) = false := by simp; omega
      by_cases h4 : 4 < q - p
      · have HE := Lib.hid (show oneR x (s.drop (p + 1)) = .error 0 by rw [HONE.out, HFIN.out, if_pos (.inr (.inl h4))])
        have hc3 := fw4_cel (a := .int .i64 0) (b := .int .i64 0) (c := .int .i64 0) (d := .slice none 0 0) HC1.out
        have hf3 := fw4_frm w1 w.heap.size (.int .i64 0) (.int .i64 0) (.int .i64 0) (.slice none 0 0)
        have HB3 := Lib.hid (HB1.out.trans (hf3.below HB1.out.size (by intro q hq; simp at hq; omega)))
        have k0 := HC1.out.cell 0
        have k1 := HC1.out.cell 1
        have k2 := HC1.out.cell 2
        have k3 := HC1.out.cell 3
        have l0 := HC1.out.free 0
        have l1 := HC1.out.free 1
        have l2 := HC1.out.free 2
        have l3 := HC1.out.free 3
        have HC3 := Lib.hid hc3
        have HF3 := Lib.hid hf3
        clear hc3 hf3
        unfold fw4 at HC3 HB3 HF3
        go_wp2_with fail
        refine bodyPost_ret (v := .tuple #[.agg #[.int .i64 0, .int .i64 0, .int .i64 0, .slice none 0 0], .int .i64 (q : Int), .int .i64 (p : Int)]) (results_at3 4 46 5 6 Try.results14 ⟨w.heap.size, 0, none⟩ rfl _ _ _ rfl rfl (load_tok HC3.out)) rfl ?_
        refine ⟨HB3.out, ?_⟩
        rw [HE.out]
        exact ⟨_, rfl, 0, 0, 0, (q : Int), none, 0, 0, rfl⟩
      by_cases h1 : 1 < q - p
      · by_cases h48 : x = 48#8
        · have HE := Lib.hid (show oneR x (s.drop (p + 1)) = .error 0 by rw [HONE.out, HFIN.out, if_pos (.inr (.inr ⟨h1, h48⟩))])
          subst h48
          have hc3 := fw4_cel (a := .int .i64 0) (b := .int .i64 0) (c := .int .i64 0) (d := .slice none 0 0) HC1.out
          have hf3 := fw4_frm w1 w.heap.size (.int .i64 0) (.int .i64 0) (.int .i64 0) (.slice none 0 0)
          have HB3 := Lib.hid (HB1.out.trans (hf3.below HB1.out.size (by intro q hq; simp at hq; omega)))
          have k0 := HC1.out.cell 0
          have k1 := HC1.out.cell 1
          have k2 := HC1.out.cell 2
          have k3 := HC1.out.cell 3
          have l0 := HC1.out.free 0
          have l1 := HC1.out.free 1
          have l2 := HC1.out.free 2
          have l3 := HC1.out.free 3
          have HC3 := Lib.hid hc3
          have HF3 := Lib.hid hf3
          clear hc3 hf3
          unfold fw4 at HC3 HB3 HF3
          go_wp2_with fail
          refine bodyPost_ret (v := .tuple #[.agg #[.int .i64 0, .int .i64 0, .int .i64 0, .slice none 0 0], .int .i64 (q : Int), .int .i64 (p : Int)]) (results_at3 4 46 5 6 Try.results14 ⟨w.heap.size, 0, none⟩ rfl _ _ _ rfl rfl (load_tok HC3.out)) rfl ?_
          refine ⟨HB3.out, ?_⟩
          rw [HE.out]
          exact ⟨_, rfl, 0, 0, 0, (q : Int), none, 0, 0, rfl⟩
        · have HE := Lib.hid (show oneR x (s.drop (p + 1)) = .ok (⟨2, v, []⟩, q - p) by rw [HONE.out, HFIN.out, if_neg (by rintro (h | h | h); omega; omega; exact h48 h.2), (HNM.out (by omega)).1])
          have e48 : ((x.toNat : Int) == 48) = false := b_ne (k := 48) (by decide) h48
          clear h48
          have hc3 := fw4_cel (a := .int .i64 2) (b := .int .i64 (p : Int)) (c := .int .i64 v) (d := .slice none 0 0) HC1.out
          have hf3 := fw4_frm w1 w.heap.size (.int .i64 2) (.int .i64 (p : Int)) (.int .i64 v) (.slice none 0 0)
          have HB3 := Lib.hid (HB1.out.trans (hf3.below HB1.out.size (by intro q hq; simp at hq; omega)))
          have k0 := HC1.out.cell 0
          have k1 := HC1.out.cell 1
          have k2 := HC1.out.cell 2
          have k3 := HC1.out.cell 3
          have l0 := HC1.out.free 0
          have l1 := HC1.out.free 1
          have l2 := HC1.out.free 2
          have l3 := HC1.out.free 3
          have HC3 := Lib.hid hc3
          have HF3 := Lib.hid hf3
          clear hc3 hf3
          unfold fw4 at HC3 HB3 HF3
          go_wp2_with fail
          refine bodyPost_ret (v := .tuple #[.agg #[.int .i64 2, .int .i64 (p : Int), .int .i64 v, .slice none 0 0], .int .i64 (q : Int), .int .i64 (-1)]) (results_at3 4 46 5 6 Try.results14 ⟨w.heap.size, 0, none⟩ rfl _ _ _ rfl rfl (load_tok HC3.out)) rfl ?_
          refine ⟨HB3.out, ?_⟩
          rw [HE.out]
          exact ⟨none, 0, by rw [show ((p + (q - p) : Nat) : Int) = (q : Int) by omega]; rfl, .inl Bs.nil_⟩
      · have HE := Lib.hid (show oneR x (s.drop (p + 1)) = .ok (⟨2, v, []⟩, q - p) by rw [HONE.out, HFIN.out, if_neg (by rintro (h | h | h) <;> omega), (HNM.out (by omega)).1])
        have hc3 := fw4_cel (a := .int .i64 2) (b := .int .i64 (p : Int)) (c := .int .i64 v) (d := .slice none 0 0) HC1.out
        have hf3 := fw4_frm w1 w.heap.size (.int .i64 2) (.int .i64 (p : Int)) (.int .i64 v) (.slice none 0 0)
        have HB3 := Lib.hid (HB1.out.trans (hf3.below HB1.out.size (by intro q hq; simp at hq; omega)))
        have k0 := HC1.out.cell 0
        have k1 := HC1.out.cell 1
        have k2 := HC1.out.cell 2
        have k3 := HC1.out.cell 3
        have l0 := HC1.out.free 0
        have l1 := HC1.out.free 1
        have l2 := HC1.out.free 2
        have l3 := HC1.out.free 3
        have HC3 := Lib.hid hc3
        have HF3 := Lib.hid hf3
        clear hc3 hf3
        unfold fw4 at HC3 HB3 HF3
        go_wp2_with fail
        refine bodyPost_ret (v := .tuple #[.agg #[.int .i64 2, .int .i64 (p : Int), .int .i64 v, .slice none 0 0], .int .i64 (q : Int), .int .i64 (-1)]) (results_at3 4 46 5 6 Try.results14 ⟨w.heap.size, 0, none⟩ rfl _ _ _ rfl rfl (load_tok HC3.out)) rfl ?_
        refine ⟨HB3.out, ?_⟩
        rw [HE.out]
        exact ⟨none, 0, by rw [show ((p + (q - p) : Nat) : Int) = (q : Int) by omega]; rfl, .inl Bs.nil_⟩
end Go.Proofs.Ytkodajkhekocbaa.Lex
