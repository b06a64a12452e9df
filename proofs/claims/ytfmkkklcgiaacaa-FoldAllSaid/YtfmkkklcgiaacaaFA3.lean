/-
Texts: RecMay FoldRef
-/
import Derived.Test.YtfmkkklcgiaacaaFA0
import Derived.Test.YtfmkkklcgiaacaaFA1
import Derived.Test.YtfmkkklcgiaacaaFA2
import Derived.Deep.CutRange
import Derived.BigQuiet
set_option linter.unusedVariables false
set_option linter.unusedSimpArgs false
set_option maxRecDepth 100000
set_option maxHeartbeats 4000000
section
namespace Go.Proofs.Ytfmkkklcgiaacaa.Rec
open Go.RowKit
open Lex (Tx)
structure Rv where
 r : Rc
 AL : Option Addr
 cL : Nat
 vs : List Vt
 AV : Option Addr
 cV : Nat
def Rv.cells (v : Rv) : List Value := [.int .i64 v.r.kind, .int .i64 v.r.s.step, .int .i64 v.r.s.visit, .int .i64 v.r.s.tries, .int .i64 v.r.s.off, .slice v.AL v.vs.length v.cL, .int .i64 v.r.visit, .int .i64 v.r.step, .int .i64 v.r.try_, .int .i64 v.r.to, .int .i64 v.r.off, .int .i64 v.r.var, .slice v.AV v.r.value.length v.cV]
structure Rok (w : World) (K : Nat) (v : Rv) : Prop where
 eq : v.r.s.vars = txt v.vs
 vs : Tvs w K v.AL v.vs
 vl : v.vs.length ≤ maxLen
 val : Tx w K v.AV v.r.value
 ml : v.r.value.length ≤ maxLen
theorem Rok.below {w w' : World} {K : Nat} {v : Rv} (h : Rok w K v) (hK : K ≤ w.heap.size) (hb : Below w.heap.size w w') : Rok w' K v := ⟨h.eq, h.vs.below hK hb, h.vl, h.val.below hK hb, h.ml⟩
theorem nil_iff {α : Type} {l : List α} {m : Nat} (h : l.length = m) : decide (l = []) = ((m : Int) == 0) := by
 cases l with
 | nil => subst h; rfl
 | cons x l =>
  subst h
  have : ¬ ((((x :: l).length : Nat) : Int) = 0) := by simp; omega
  rw [show ((((x :: l).length : Nat) : Int) == 0) = decide ((((x :: l).length : Nat) : Int) = 0) from rfl, decide_eq_false this]
  rfl
theorem noPoint_eq {r : Rc} {n : Nat} (h : r.s.vars.length = n) : noPoint r = ((r.s.step == 0) && (r.s.visit == 0) && (r.s.tries == 0) && (r.s.off == 0) && ((n : Int) == 0)) := by
 unfold noPoint; rw [nil_iff h]; rfl
theorem noOutcome_eq {r : Rc} {n : Nat} (h : r.value.length = n) : noOutcome r = ((r.to == 0) && (r.off == 0) && (r.var == 0) && ((n : Int) == 0)) := by
 unfold noOutcome; rw [nil_iff h]; rfl
theorem may_eq {r : Rc} {n : Nat} (h : r.value.length = n) : may r =
  if r.kind = 1 then noOutcome r && noIntent r && (r.visit == 0) && inR r.s.step (-3) 29 && inR r.s.visit 1 1001 && inR r.s.tries 0 6 && inR r.s.off 0 2147483647 && textsOk r.s.vars
  else if r.kind = 2 then noPoint r && noOutcome r && inR r.visit 1 1001 && inR r.step 0 29 && inR r.try_ 0 5
  else if r.kind = 3 then noPoint r && noIntent r && inR r.visit 1 1001 && inR r.to (-3) 29 && inR r.off 0 2147483647 && inR r.var (-1) 7 && decide ((n : Int) ≤ 100) && (decide (0 ≤ r.var) || ((n : Int) == 0))
  else false := by
 unfold may
 rw [nil_iff h, show decide ((n : Int) ≤ 100) = decide (r.value.length ≤ 100) from decide_eq_decide.2 (by omega)]
 rfl
theorem may_ (w : World) (K : Nat) (v : Rv) (h : Rok w K v) (hK : K ≤ w.heap.size) :
  Calls Try.prog 31 #[.agg v.cells.toArray] w fun e w' => e = .returned (.bool (may v.r)) ∧ Below w.heap.size w w' := by
 obtain ⟨w1, hw1⟩ : ∃ w1, w1 = w.alloc (.cells v.cells.toArray 58) := ⟨_, rfl⟩
 have hb1 : Below w.heap.size w w1 := by rw [hw1]; exact (Below.refl _ _).alloc (Nat.le_refl _) _
 have hc1 : Cel w1 w.heap.size 58 v.cells := by rw [hw1]; exact Cel.new w _ _
 have hK1 : K ≤ w1.heap.size := Nat.le_trans hK hb1.size
 have h1 := h.below hK hb1
 have hvl : v.r.s.vars.length = v.vs.length := by rw [h.eq]; unfold txt; rw [List.length_map]
 have hm := h.ml
 have hn := h.vl
 have hte : textsOk v.r.s.vars = textsOk (txt v.vs) := by rw [h.eq]
 obtain ⟨E, hE⟩ : ∃ E, E = may v.r := ⟨_, rfl⟩
 rw [← hE]
 rw [may_eq (r := v.r) rfl, hte] at hE
 obtain ⟨P, hP⟩ : ∃ P, P = noPoint v.r := ⟨_, rfl⟩
 obtain ⟨O, hO⟩ : ∃ O, O = noOutcome v.r := ⟨_, rfl⟩
 obtain ⟨I, hI⟩ : ∃ I, I = noIntent v.r := ⟨_, rfl⟩
 rw [← hP, ← hO, ← hI] at hE
 rw [noPoint_eq hvl] at hP
 rw [noOutcome_eq rfl] at hO
 obtain ⟨X, hX⟩ : ∃ X, X = textsOk (txt v.vs) := ⟨_, rfl⟩
 have con := texts_ w1 K v.AL v.vs.length v.cL v.vs h1.vs hK1 rfl hn
 rw [← hX] at hE con
 unfold noIntent at hI
 have HE := Lib.hid hE
 have HP := Lib.hid hP
 have HO := Lib.hid hO
 have HI := Lib.hid (show I = ((v.r.step == 0) && (v.r.try_ == 0)) from hI)
 have HB := Lib.hid hb1
 have HC := Lib.hid hc1
 have HW := Lib.hid hw1
 clear h h1 hvl hE hP hO hI hX hb1 hc1 hw1 hte
 obtain ⟨⟨k, ⟨s1, s2, s3, s4, vars⟩, vi, st, tr, dst, of, va, vl⟩, AL, cL, vs, AV, cV⟩ := v
 unfold Rv.cells at HC HW ⊢
 dsimp only at *
 generalize vs.length = n at *
 generalize vl.length = m at *
 unfold maxLen at hm hn
 go_enter Try.func31, Try.ntmps31
 go_upto_region 1 with fail
 replace HW := Lib.hid HW.out.symm
 rw [HW.out]
 have c0 := HC.out.cell 0
 have c1 := HC.out.cell 1
 have c2 := HC.out.cell 2
 have c3 := HC.out.cell 3
 have c4 := HC.out.cell 4
 have c5 := HC.out.cell 5
 have c6 := HC.out.cell 6
 have c7 := HC.out.cell 7
 have c8 := HC.out.cell 8
 have c9 := HC.out.cell 9
 have c10 := HC.out.cell 10
 have c11 := HC.out.cell 11
 have c12 := HC.out.cell 12
 go_cut [3] from 7 to 35 (fun sx wx => sx = .bool P ∧ w1 = wx)
 case first =>
  cases h0 : (s1 == 0)
  case false =>
   go_wp2_with fail
   go_meet
   case rel => exact ⟨congrArg Value.bool (by rw [HP.out]; simp only [h0, Bool.and_true, Bool.true_and, Bool.and_false, Bool.false_and]), rfl⟩
  case true =>
   cases h1 : (s2 == 0)
   case false =>
    go_wp2_with fail
    go_meet
    case rel => exact ⟨congrArg Value.bool (by rw [HP.out]; simp only [h0, h1, Bool.and_true, Bool.true_and, Bool.and_false, Bool.false_and]), rfl⟩
   case true =>
    cases h2 : (s3 == 0)
    case false =>
     go_wp2_with fail
     go_meet
     case rel => exact ⟨congrArg Value.bool (by rw [HP.out]; simp only [h0, h1, h2, Bool.and_true, Bool.true_and, Bool.and_false, Bool.false_and]), rfl⟩
    case true =>
     cases h3 : (s4 == 0)
     case false =>
      go_wp2_with fail
      go_meet
      case rel => exact ⟨congrArg Value.bool (by rw [HP.out]; simp only [h0, h1, h2, h3, Bool.and_true, Bool.true_and, Bool.and_false, Bool.false_and]), rfl⟩
     case true =>
      cases h4 : ((n : Int) == 0)
      case false =>
       go_wp2_with fail
       go_meet
       case rel => exact ⟨congrArg Value.bool (by rw [HP.out]; simp only [h0, h1, h2, h3, h4, Bool.and_true, Bool.true_and, Bool.and_false, Bool.false_and]), rfl⟩
      case true =>
       go_wp2_with fail
       go_meet
       case rel => exact ⟨congrArg Value.bool (by rw [HP.out]; simp only [h0, h1, h2, h3, h4, Bool.and_true, Bool.true_and, Bool.and_false, Bool.false_and]), rfl⟩
 case rest =>
  obtain ⟨rfl, rfl⟩ := hcut
  go_upto_region 2 with fail
  go_cut [4] from 36 to 54 (fun sx wx => sx = .bool O ∧ w1 = wx)
  case first =>
   cases h0 : (dst == 0)
   case false =>
    go_wp2_with fail
    go_meet
    case rel => exact ⟨congrArg Value.bool (by rw [HO.out]; simp only [h0, Bool.and_true, Bool.true_and, Bool.and_false, Bool.false_and]), rfl⟩
   case true =>
    cases h1 : (of == 0)
    case false =>
     go_wp2_with fail
     go_meet
     case rel => exact ⟨congrArg Value.bool (by rw [HO.out]; simp only [h0, h1, Bool.and_true, Bool.true_and, Bool.and_false, Bool.false_and]), rfl⟩
    case true =>
     cases h2 : (va == 0)
     case false =>
      go_wp2_with fail
      go_meet
      case rel => exact ⟨congrArg Value.bool (by rw [HO.out]; simp only [h0, h1, h2, Bool.and_true, Bool.true_and, Bool.and_false, Bool.false_and]), rfl⟩
     case true =>
      cases h3 : ((m : Int) == 0)
      case false =>
       go_wp2_with fail
       go_meet
       case rel => exact ⟨congrArg Value.bool (by rw [HO.out]; simp only [h0, h1, h2, h3, Bool.and_true, Bool.true_and, Bool.and_false, Bool.false_and]), rfl⟩
      case true =>
       go_wp2_with fail
       go_meet
       case rel => exact ⟨congrArg Value.bool (by rw [HO.out]; simp only [h0, h1, h2, h3, Bool.and_true, Bool.true_and, Bool.and_false, Bool.false_and]), rfl⟩
  case rest =>
   obtain ⟨rfl, rfl⟩ := hcut
   go_upto_region 3 with fail
   go_cut [5] from 55 to 62 (fun sx wx => sx = .bool I ∧ w1 = wx)
   case first =>
    cases h0 : (st == 0)
    case false =>
     go_wp2_with fail
     go_meet
     case rel => exact ⟨congrArg Value.bool (by rw [HI.out]; simp only [h0, Bool.and_true, Bool.true_and, Bool.and_false, Bool.false_and]), rfl⟩
    case true =>
     cases h1 : (tr == 0)
     case false =>
      go_wp2_with fail
      go_meet
      case rel => exact ⟨congrArg Value.bool (by rw [HI.out]; simp only [h0, h1, Bool.and_true, Bool.true_and, Bool.and_false, Bool.false_and]), rfl⟩
     case true =>
      go_wp2_with fail
      go_meet
      case rel => exact ⟨congrArg Value.bool (by rw [HI.out]; simp only [h0, h1, Bool.and_true, Bool.true_and, Bool.and_false, Bool.false_and]), rfl⟩
   case rest =>
    obtain ⟨rfl, rfl⟩ := hcut
    by_cases k1 : k = 1
    case pos =>
     subst k1
     have HE1 := Lib.hid (show E = (O && I && (vi == 0) && inR s1 (-3) 29 && inR s2 1 1001 && inR s3 0 6 && inR s4 0 2147483647 && X) by rw [HE.out, if_pos rfl])
     clear HE HP HO HI
     go_wp2_with fail
     refine con.mono ?_
     clear con
     rintro e w2 ⟨rfl, hb2⟩
     have HB2 := Lib.hid (HB.out.trans (hb2.mono HB.out.size))
     have HC2 := Lib.hid (HC.out.below hb2 HC.out.lt)
     clear hb2 c0 c1 c2 c3 c4 c5 c6 c7 c8 c9 c10 c11 c12 HW
     have c1 := HC2.out.cell 1
     have c2 := HC2.out.cell 2
     have c3 := HC2.out.cell 3
     have c4 := HC2.out.cell 4
     have c6 := HC2.out.cell 6
     cases h0 : (O)
     case false =>
      go_wp2_with fail
      go_ret
      rw [HE1.out]
      refine ⟨?_, HB2.out⟩
      simp only [h0, Bool.and_true, Bool.true_and, Bool.and_false, Bool.false_and, Bool.or_true, Bool.true_or, Bool.or_false, Bool.false_or]
      rfl
     case true =>
      cases h1 : (I)
      case false =>
       go_wp2_with fail
       go_ret
       rw [HE1.out]
       refine ⟨?_, HB2.out⟩
       simp only [h0, h1, Bool.and_true, Bool.true_and, Bool.and_false, Bool.false_and, Bool.or_true, Bool.true_or, Bool.or_false, Bool.false_or]
       rfl
      case true =>
       cases h2 : (vi == 0)
       case false =>
        go_wp2_with fail
        go_ret
        rw [HE1.out]
        refine ⟨?_, HB2.out⟩
        simp only [h0, h1, h2, Bool.and_true, Bool.true_and, Bool.and_false, Bool.false_and, Bool.or_true, Bool.true_or, Bool.or_false, Bool.false_or]
        rfl
       case true =>
        cases h3 : (inR s1 (-3) 29)
        case false =>
         go_wp2_with fail
         refine (in_ _ _ _ _).mono ?_
         rintro e w' ⟨rfl, rfl⟩
         go_wp2_with fail
         go_ret
         rw [HE1.out]
         refine ⟨?_, HB2.out⟩
         simp only [h0, h1, h2, h3, Bool.and_true, Bool.true_and, Bool.and_false, Bool.false_and, Bool.or_true, Bool.true_or, Bool.or_false, Bool.false_or]
         rfl
        case true =>
         cases h4 : (inR s2 1 1001)
         case false =>
          go_wp2_with fail
          refine (in_ _ _ _ _).mono ?_
          rintro e w' ⟨rfl, rfl⟩
          go_wp2_with fail
          refine (in_ _ _ _ _).mono ?_
          rintro e w' ⟨rfl, rfl⟩
          go_wp2_with fail
          go_ret
          rw [HE1.out]
          refine ⟨?_, HB2.out⟩
          simp only [h0, h1, h2, h3, h4, Bool.and_true, Bool.true_and, Bool.and_false, Bool.false_and, Bool.or_true, Bool.true_or, Bool.or_false, Bool.false_or]
          rfl
         case true =>
          cases h5 : (inR s3 0 6)
          case false =>
           go_wp2_with fail
           refine (in_ _ _ _ _).mono ?_
           rintro e w' ⟨rfl, rfl⟩
           go_wp2_with fail
           refine (in_ _ _ _ _).mono ?_
           rintro e w' ⟨rfl, rfl⟩
           go_wp2_with fail
           refine (in_ _ _ _ _).mono ?_
           rintro e w' ⟨rfl, rfl⟩
           go_wp2_with fail
           go_ret
           rw [HE1.out]
           refine ⟨?_, HB2.out⟩
           simp only [h0, h1, h2, h3, h4, h5, Bool.and_true, Bool.true_and, Bool.and_false, Bool.false_and, Bool.or_true, Bool.true_or, Bool.or_false, Bool.false_or]
           rfl
          case true =>
           cases h6 : (inR s4 0 2147483647)
           case false =>
            go_wp2_with fail
            refine (in_ _ _ _ _).mono ?_
            rintro e w' ⟨rfl, rfl⟩
            go_wp2_with fail
            refine (in_ _ _ _ _).mono ?_
            rintro e w' ⟨rfl, rfl⟩
            go_wp2_with fail
            refine (in_ _ _ _ _).mono ?_
            rintro e w' ⟨rfl, rfl⟩
            go_wp2_with fail
            refine (in_ _ _ _ _).mono ?_
            rintro e w' ⟨rfl, rfl⟩
            go_wp2_with fail
            go_ret
            rw [HE1.out]
            refine ⟨?_, HB2.out⟩
            simp only [h0, h1, h2, h3, h4, h5, h6, Bool.and_true, Bool.true_and, Bool.and_false, Bool.false_and, Bool.or_true, Bool.true_or, Bool.or_false, Bool.false_or]
            rfl
           case true =>
            cases h7 : (X)
            case false =>
             go_wp2_with fail
             refine (in_ _ _ _ _).mono ?_
             rintro e w' ⟨rfl, rfl⟩
             go_wp2_with fail
             refine (in_ _ _ _ _).mono ?_
             rintro e w' ⟨rfl, rfl⟩
             go_wp2_with fail
             refine (in_ _ _ _ _).mono ?_
             rintro e w' ⟨rfl, rfl⟩
             go_wp2_with fail
             refine (in_ _ _ _ _).mono ?_
             rintro e w' ⟨rfl, rfl⟩
             go_wp2_with fail
             go_ret
             rw [HE1.out]
             refine ⟨?_, HB2.out⟩
             simp only [h0, h1, h2, h3, h4, h5, h6, h7, Bool.and_true, Bool.true_and, Bool.and_false, Bool.false_and, Bool.or_true, Bool.true_or, Bool.or_false, Bool.false_or]
             rfl
            case true =>
             go_wp2_with fail
             refine (in_ _ _ _ _).mono ?_
             rintro e w' ⟨rfl, rfl⟩
             go_wp2_with fail
             refine (in_ _ _ _ _).mono ?_
             rintro e w' ⟨rfl, rfl⟩
             go_wp2_with fail
             refine (in_ _ _ _ _).mono ?_
             rintro e w' ⟨rfl, rfl⟩
             go_wp2_with fail
             refine (in_ _ _ _ _).mono ?_
             rintro e w' ⟨rfl, rfl⟩
             go_wp2_with fail
             go_ret
             rw [HE1.out]
             refine ⟨?_, HB2.out⟩
             simp only [h0, h1, h2, h3, h4, h5, h6, h7, Bool.and_true, Bool.true_and, Bool.and_false, Bool.false_and, Bool.or_true, Bool.true_or, Bool.or_false, Bool.false_or]
             rfl
    have k1b : (k == 1) = false := by simpa using k1
    have HB2 := HB
    by_cases k2 : k = 2
    case pos =>
     subst k2
     have HE1 := Lib.hid (show E = (P && O && inR vi 1 1001 && inR st 0 29 && inR tr 0 5) by rw [HE.out, if_neg k1, if_pos rfl])
     clear HE HP HO HI con k1
     cases h0 : (P)
     case false =>
      go_wp2_with fail
      go_ret
      rw [HE1.out]
      refine ⟨?_, HB2.out⟩
      simp only [h0, Bool.and_true, Bool.true_and, Bool.and_false, Bool.false_and, Bool.or_true, Bool.true_or, Bool.or_false, Bool.false_or]
      rfl
     case true =>
      cases h1 : (O)
      case false =>
       go_wp2_with fail
       go_ret
       rw [HE1.out]
       refine ⟨?_, HB2.out⟩
       simp only [h0, h1, Bool.and_true, Bool.true_and, Bool.and_false, Bool.false_and, Bool.or_true, Bool.true_or, Bool.or_false, Bool.false_or]
       rfl
      case true =>
       cases h2 : (inR vi 1 1001)
       case false =>
        go_wp2_with fail
        refine (in_ _ _ _ _).mono ?_
        rintro e w' ⟨rfl, rfl⟩
        go_wp2_with fail
        go_ret
        rw [HE1.out]
        refine ⟨?_, HB2.out⟩
        simp only [h0, h1, h2, Bool.and_true, Bool.true_and, Bool.and_false, Bool.false_and, Bool.or_true, Bool.true_or, Bool.or_false, Bool.false_or]
        rfl
       case true =>
        cases h3 : (inR st 0 29)
        case false =>
         go_wp2_with fail
         refine (in_ _ _ _ _).mono ?_
         rintro e w' ⟨rfl, rfl⟩
         go_wp2_with fail
         refine (in_ _ _ _ _).mono ?_
         rintro e w' ⟨rfl, rfl⟩
         go_wp2_with fail
         go_ret
         rw [HE1.out]
         refine ⟨?_, HB2.out⟩
         simp only [h0, h1, h2, h3, Bool.and_true, Bool.true_and, Bool.and_false, Bool.false_and, Bool.or_true, Bool.true_or, Bool.or_false, Bool.false_or]
         rfl
        case true =>
         cases h4 : (inR tr 0 5)
         case false =>
          go_wp2_with fail
          refine (in_ _ _ _ _).mono ?_
          rintro e w' ⟨rfl, rfl⟩
          go_wp2_with fail
          refine (in_ _ _ _ _).mono ?_
          rintro e w' ⟨rfl, rfl⟩
          go_wp2_with fail
          refine (in_ _ _ _ _).mono ?_
          rintro e w' ⟨rfl, rfl⟩
          go_wp2_with fail
          go_ret
          rw [HE1.out]
          refine ⟨?_, HB2.out⟩
          simp only [h0, h1, h2, h3, h4, Bool.and_true, Bool.true_and, Bool.and_false, Bool.false_and, Bool.or_true, Bool.true_or, Bool.or_false, Bool.false_or]
          rfl
         case true =>
          go_wp2_with fail
          refine (in_ _ _ _ _).mono ?_
          rintro e w' ⟨rfl, rfl⟩
          go_wp2_with fail
          refine (in_ _ _ _ _).mono ?_
          rintro e w' ⟨rfl, rfl⟩
          go_wp2_with fail
          refine (in_ _ _ _ _).mono ?_
          rintro e w' ⟨rfl, rfl⟩
          go_wp2_with fail
          go_ret
          rw [HE1.out]
          refine ⟨?_, HB2.out⟩
          simp only [h0, h1, h2, h3, h4, Bool.and_true, Bool.true_and, Bool.and_false, Bool.false_and, Bool.or_true, Bool.true_or, Bool.or_false, Bool.false_or]
          rfl
    have k2b : (k == 2) = false := by simpa using k2
    by_cases k3 : k = 3
    case pos =>
     subst k3
     have HE1 := Lib.hid (show E = (P && I && inR vi 1 1001 && inR dst (-3) 29 && inR of 0 2147483647 && inR va (-1) 7 && decide ((m : Int) ≤ 100) && (decide (0 ≤ va) || ((m : Int) == 0))) by rw [HE.out, if_neg k1, if_neg k2, if_pos rfl])
     clear HE HP HO HI con k1 k2
     cases h0 : (P)
     case false =>
      go_wp2_with fail
      go_ret
      rw [HE1.out]
      refine ⟨?_, HB2.out⟩
      simp only [h0, Bool.and_true, Bool.true_and, Bool.and_false, Bool.false_and, Bool.or_true, Bool.true_or, Bool.or_false, Bool.false_or]
      rfl
     case true =>
      cases h1 : (I)
      case false =>
       go_wp2_with fail
       go_ret
       rw [HE1.out]
       refine ⟨?_, HB2.out⟩
       simp only [h0, h1, Bool.and_true, Bool.true_and, Bool.and_false, Bool.false_and, Bool.or_true, Bool.true_or, Bool.or_false, Bool.false_or]
       rfl
      case true =>
       cases h2 : (inR vi 1 1001)
       case false =>
        go_wp2_with fail
        refine (in_ _ _ _ _).mono ?_
        rintro e w' ⟨rfl, rfl⟩
        go_wp2_with fail
        go_ret
        rw [HE1.out]
        refine ⟨?_, HB2.out⟩
        simp only [h0, h1, h2, Bool.and_true, Bool.true_and, Bool.and_false, Bool.false_and, Bool.or_true, Bool.true_or, Bool.or_false, Bool.false_or]
        rfl
       case true =>
        cases h3 : (inR dst (-3) 29)
        case false =>
         go_wp2_with fail
         refine (in_ _ _ _ _).mono ?_
         rintro e w' ⟨rfl, rfl⟩
         go_wp2_with fail
         refine (in_ _ _ _ _).mono ?_
         rintro e w' ⟨rfl, rfl⟩
         go_wp2_with fail
         go_ret
         rw [HE1.out]
         refine ⟨?_, HB2.out⟩
         simp only [h0, h1, h2, h3, Bool.and_true, Bool.true_and, Bool.and_false, Bool.false_and, Bool.or_true, Bool.true_or, Bool.or_false, Bool.false_or]
         rfl
        case true =>
         cases h4 : (inR of 0 2147483647)
         case false =>
          go_wp2_with fail
          refine (in_ _ _ _ _).mono ?_
          rintro e w' ⟨rfl, rfl⟩
          go_wp2_with fail
          refine (in_ _ _ _ _).mono ?_
          rintro e w' ⟨rfl, rfl⟩
          go_wp2_with fail
          refine (in_ _ _ _ _).mono ?_
          rintro e w' ⟨rfl, rfl⟩
          go_wp2_with fail
          go_ret
          rw [HE1.out]
          refine ⟨?_, HB2.out⟩
          simp only [h0, h1, h2, h3, h4, Bool.and_true, Bool.true_and, Bool.and_false, Bool.false_and, Bool.or_true, Bool.true_or, Bool.or_false, Bool.false_or]
          rfl
         case true =>
          cases h5 : (inR va (-1) 7)
          case false =>
           go_wp2_with fail
           refine (in_ _ _ _ _).mono ?_
           rintro e w' ⟨rfl, rfl⟩
           go_wp2_with fail
           refine (in_ _ _ _ _).mono ?_
           rintro e w' ⟨rfl, rfl⟩
           go_wp2_with fail
           refine (in_ _ _ _ _).mono ?_
           rintro e w' ⟨rfl, rfl⟩
           go_wp2_with fail
           refine (in_ _ _ _ _).mono ?_
           rintro e w' ⟨rfl, rfl⟩
           go_wp2_with fail
           go_ret
           rw [HE1.out]
           refine ⟨?_, HB2.out⟩
           simp only [h0, h1, h2, h3, h4, h5, Bool.and_true, Bool.true_and, Bool.and_false, Bool.false_and, Bool.or_true, Bool.true_or, Bool.or_false, Bool.false_or]
           rfl
          case true =>
           cases h6 : (decide ((m : Int) ≤ 100))
           case false =>
            go_wp2_with fail
            refine (in_ _ _ _ _).mono ?_
            rintro e w' ⟨rfl, rfl⟩
            go_wp2_with fail
            refine (in_ _ _ _ _).mono ?_
            rintro e w' ⟨rfl, rfl⟩
            go_wp2_with fail
            refine (in_ _ _ _ _).mono ?_
            rintro e w' ⟨rfl, rfl⟩
            go_wp2_with fail
            refine (in_ _ _ _ _).mono ?_
            rintro e w' ⟨rfl, rfl⟩
            go_wp2_with fail
            go_ret
            rw [HE1.out]
            refine ⟨?_, HB2.out⟩
            simp only [h0, h1, h2, h3, h4, h5, h6, Bool.and_true, Bool.true_and, Bool.and_false, Bool.false_and, Bool.or_true, Bool.true_or, Bool.or_false, Bool.false_or]
            rfl
           case true =>
            cases hz : (decide (0 ≤ va))
            case true =>
             go_wp2_with fail
             refine (in_ _ _ _ _).mono ?_
             rintro e w' ⟨rfl, rfl⟩
             go_wp2_with fail
             refine (in_ _ _ _ _).mono ?_
             rintro e w' ⟨rfl, rfl⟩
             go_wp2_with fail
             refine (in_ _ _ _ _).mono ?_
             rintro e w' ⟨rfl, rfl⟩
             go_wp2_with fail
             refine (in_ _ _ _ _).mono ?_
             rintro e w' ⟨rfl, rfl⟩
             go_wp2_with fail
             go_ret
             rw [HE1.out]
             refine ⟨?_, HB2.out⟩
             simp only [h0, h1, h2, h3, h4, h5, h6, hz, Bool.and_true, Bool.true_and, Bool.and_false, Bool.false_and, Bool.or_true, Bool.true_or, Bool.or_false, Bool.false_or]
             rfl
            case false =>
             cases hy : ((m : Int) == 0)
             case true =>
              go_wp2_with fail
              refine (in_ _ _ _ _).mono ?_
              rintro e w' ⟨rfl, rfl⟩
              go_wp2_with fail
              refine (in_ _ _ _ _).mono ?_
              rintro e w' ⟨rfl, rfl⟩
              go_wp2_with fail
              refine (in_ _ _ _ _).mono ?_
              rintro e w' ⟨rfl, rfl⟩
              go_wp2_with fail
              refine (in_ _ _ _ _).mono ?_
              rintro e w' ⟨rfl, rfl⟩
              go_wp2_with fail
              go_ret
              rw [HE1.out]
              refine ⟨?_, HB2.out⟩
              simp only [h0, h1, h2, h3, h4, h5, h6, hz, hy, Bool.and_true, Bool.true_and, Bool.and_false, Bool.false_and, Bool.or_true, Bool.true_or, Bool.or_false, Bool.false_or]
              rfl
             case false =>
              go_wp2_with fail
              refine (in_ _ _ _ _).mono ?_
              rintro e w' ⟨rfl, rfl⟩
              go_wp2_with fail
              refine (in_ _ _ _ _).mono ?_
              rintro e w' ⟨rfl, rfl⟩
              go_wp2_with fail
              refine (in_ _ _ _ _).mono ?_
              rintro e w' ⟨rfl, rfl⟩
              go_wp2_with fail
              refine (in_ _ _ _ _).mono ?_
              rintro e w' ⟨rfl, rfl⟩
              go_wp2_with fail
              go_ret
              rw [HE1.out]
              refine ⟨?_, HB2.out⟩
              simp only [h0, h1, h2, h3, h4, h5, h6, hz, hy, Bool.and_true, Bool.true_and, Bool.and_false, Bool.false_and, Bool.or_true, Bool.true_or, Bool.or_false, Bool.false_or]
              rfl
    have k3b : (k == 3) = false := by simpa using k3
    have HE1 := Lib.hid (show E = false by rw [HE.out, if_neg k1, if_neg k2, if_neg k3])
    clear HE HP HO HI con k1 k2 k3
    go_wp2_with fail
    go_ret
    rw [HE1.out]
    exact ⟨rfl, HB2.out⟩
end Go.Proofs.Ytfmkkklcgiaacaa.Rec
end
section
namespace Go.Proofs.Ytfmkkklcgiaacaa.Fold
open Go.RowKit
open Lex (Tx)
open Rec (Stt Vt Tvs txt)
structure Fa where
 A : Option Addr
 n : Nat
 c : Nat
 var : Int
 to_ : Int
def Fa.cells (v : Fa) : List Value := [.slice v.A v.n v.c, .int .i64 v.var, .int .i64 v.to_]
structure Fs where
 nm : ByteArray
 tag : Int
 A2 : Option Addr
 n2 : Nat
 c2 : Nat
 A3 : Option Addr
 c3 : Nat
 arms : List Fa
 time : Int
 try_ : Int
 els : Int
def Fs.cells (v : Fs) : List Value := [.string v.nm, .int .i64 v.tag, .slice v.A2 v.n2 v.c2, .slice v.A3 v.arms.length v.c3, .int .i64 v.time, .int .i64 v.try_, .int .i64 v.els]
def Fs.m (v : Fs) : Sp := ⟨v.arms.map fun a => (a.to_, a.var), v.try_, v.els⟩
def Far (w : World) (v : Fs) : Prop := ∀ j a, v.arms[j]? = some a → ∃ ad, v.A3 = some ad ∧ ∀ k u, a.cells[k]? = some u → w.cell? (ad.add (j * 3 + k)) = some u
structure Fbk (w : World) (A : Option Addr) (vs : List Fs) : Prop where
 st : ∀ i v, vs[i]? = some v → ∃ ad, A = some ad ∧ ∀ k u, v.cells[k]? = some u → w.cell? (ad.add (i * 7 + k)) = some u
 ar : ∀ v ∈ vs, Far w v
theorem Far.below {w w' : World} {v : Fs} (h : Far w v) (hb : Below w.heap.size w w') : Far w' v := fun j a hj => by
 obtain ⟨ad, e, hc⟩ := h j a hj
 exact ⟨ad, e, fun k u hu => (hb.cell (cell_lt (hc k u hu))).trans (hc k u hu)⟩
theorem Fbk.below {w w' : World} {A : Option Addr} {vs : List Fs} (h : Fbk w A vs) (hb : Below w.heap.size w w') : Fbk w' A vs :=
 ⟨fun i v hi => by
  obtain ⟨ad, e, hc⟩ := h.st i v hi
  exact ⟨ad, e, fun k u hu => (hb.cell (cell_lt (hc k u hu))).trans (hc k u hu)⟩, fun v hv => (h.ar v hv).below hb⟩
theorem fadd (ad : Addr) (i k : Nat) (hk : 0 < k) : (⟨(ad.add i).block, (ad.add i).off + k, none⟩ : Addr) = ad.add (i + k) := by
 rw [← add_add]
 generalize ad.add i = q
 unfold Addr.add
 rw [if_neg (by omega)]
theorem Far.at_ {w : World} {v : Fs} (h : Far w v) {j : Nat} {a : Fa} (hj : v.arms[j]? = some a) : ∃ ad, v.A3 = some ad ∧ w.cell? (ad.add (j * 3)) = some (.slice a.A a.n a.c) ∧
  w.cell? ⟨(ad.add (j * 3)).block, (ad.add (j * 3)).off + 1, none⟩ = some (.int .i64 a.var) ∧ w.cell? ⟨(ad.add (j * 3)).block, (ad.add (j * 3)).off + 2, none⟩ = some (.int .i64 a.to_) := by
 obtain ⟨ad, e, hc⟩ := h j a hj
 exact ⟨ad, e, hc 0 _ rfl, by rw [fadd _ _ _ (by decide)]; exact hc 1 _ rfl, by rw [fadd _ _ _ (by decide)]; exact hc 2 _ rfl⟩
theorem Fbk.at_ {w : World} {A : Option Addr} {vs : List Fs} (h : Fbk w A vs) {i : Nat} {v : Fs} (hi : vs[i]? = some v) : ∃ ad, A = some ad ∧ w.cell? (ad.add (i * 7)) = some (.string v.nm) ∧
  w.cell? ⟨(ad.add (i * 7)).block, (ad.add (i * 7)).off + 1, none⟩ = some (.int .i64 v.tag) ∧ w.cell? ⟨(ad.add (i * 7)).block, (ad.add (i * 7)).off + 2, none⟩ = some (.slice v.A2 v.n2 v.c2) ∧ w.cell? ⟨(ad.add (i * 7)).block, (ad.add (i * 7)).off + 3, none⟩ = some (.slice v.A3 v.arms.length v.c3) ∧
  w.cell? ⟨(ad.add (i * 7)).block, (ad.add (i * 7)).off + 4, none⟩ = some (.int .i64 v.time) ∧ w.cell? ⟨(ad.add (i * 7)).block, (ad.add (i * 7)).off + 5, none⟩ = some (.int .i64 v.try_) ∧ w.cell? ⟨(ad.add (i * 7)).block, (ad.add (i * 7)).off + 6, none⟩ = some (.int .i64 v.els) := by
 obtain ⟨ad, e, hc⟩ := h.st i v hi
 refine ⟨ad, e, hc 0 _ rfl, ?_, ?_, ?_, ?_, ?_, ?_⟩
 all_goals rw [fadd _ _ _ (by decide)]
 ·exact hc 1 _ rfl
 ·exact hc 2 _ rfl
 ·exact hc 3 _ rfl
 ·exact hc 4 _ rfl
 ·exact hc 5 _ rfl
 ·exact hc 6 _ rfl
def bok (vs : List Fs) (nv : Nat) (most : Int) : Bok := ⟨vs.map Fs.m, nv, most⟩
abbrev bval (A : Option Addr) (n c : Nat) (A1 : Option Addr) (nv c1 : Nat) (most : Int) : Value := .agg #[.slice A n c, .slice A1 nv c1, .int .i64 most]
abbrev sval (v : Fs) : Value := .agg #[.string v.nm, .int .i64 v.tag, .slice v.A2 v.n2 v.c2, .slice v.A3 v.arms.length v.c3, .int .i64 v.time, .int .i64 v.try_, .int .i64 v.els]
abbrev stval (s1 s2 s3 s4 : Int) (A : Option Addr) (n c : Nat) : Value := .agg #[.int .i64 s1, .int .i64 s2, .int .i64 s3, .int .i64 s4, .slice A n c]
theorem arm16 (w : World) (v : Fs) (h : Far w v) (hn : v.arms.length ≤ 100000) (to_ va : Int) :
  Calls Try.prog 32 #[sval v, .int .i64 to_, .int .i64 va] w fun e w' => e = .returned (.bool (armR v.m to_ va)) ∧ Below w.heap.size w w' := by
 obtain ⟨T, hT⟩ : ∃ T, T = armR v.m to_ va := ⟨_, rfl⟩
 rw [← hT]
 obtain ⟨w1, hw1⟩ : ∃ w1, w1 = w.alloc (.cells #[.string v.nm, .int .i64 v.tag, .slice v.A2 v.n2 v.c2, .slice v.A3 v.arms.length v.c3, .int .i64 v.time, .int .i64 v.try_, .int .i64 v.els] 47) := ⟨_, rfl⟩
 have hb1 : Below w.heap.size w w1 := by rw [hw1]; exact (Below.refl _ _).alloc (Nat.le_refl _) _
 have hc1 : Cel w1 w.heap.size 47 [.string v.nm, .int .i64 v.tag, .slice v.A2 v.n2 v.c2, .slice v.A3 v.arms.length v.c3, .int .i64 v.time, .int .i64 v.try_, .int .i64 v.els] := by rw [hw1]; exact Cel.new w _ _
 have k3 := hc1.cell 3
 have HB1 := Lib.hid hb1
 have HF := Lib.hid (h.below hb1)
 have HT := Lib.hid (show T = (v.arms.drop 0).any (fun a => decide (a.to_ = to_) && decide (a.var = va)) by rw [hT]; unfold armR Fs.m; rw [List.any_map]; rfl)
 obtain ⟨n, hln⟩ : ∃ n, n = v.arms.length := ⟨_, rfl⟩
 have HL := Lib.hid hln
 unfold sval
 rw [← hln] at hw1 k3 hn ⊢
 clear h hT hb1 hc1 hln
 go_enter Try.func32, Try.ntmps32
 go_wp2_with fail
 rw [← hw1]
 clear hw1
 go_loopw [7] (fun v7 wr => ∃ (i : Nat), i ≤ n ∧ v7 = .int .i64 (i : Int) ∧ w1 = wr ∧ Hid (T = (v.arms.drop i).any (fun a => decide (a.to_ = to_) && decide (a.var = va)))) (fun v7 _ => n - (intOf v7).toNat)
 case atStart => exact ⟨0, Nat.zero_le _, rfl, rfl, HT⟩
 case round =>
  clear HT
  obtain ⟨i, hi, rfl, rfl, HK⟩ := hrel
  rcases Nat.lt_or_ge i n with hlt | hge
  ·obtain ⟨a, ha⟩ : ∃ a, v.arms[i]? = some a := ⟨_, List.getElem?_eq_getElem (by rw [← HL.out]; exact hlt)⟩
   have hda : v.arms.drop i = a :: v.arms.drop (i + 1) := by
    obtain ⟨hl, rfl⟩ := List.getElem?_eq_some_iff.1 ha
    exact List.drop_eq_getElem_cons hl
   obtain ⟨ad, hA3, _, a1, a2⟩ := HF.out.at_ ha
   rw [hA3] at k3 ⊢
   clear ha
   by_cases h1 : a.to_ = to_
   ·have z1 : (a.to_ == to_) = true := by simpa using h1
    by_cases h2 : a.var = va
    ·have z2 : (a.var == va) = true := by simpa using h2
     have HN := Lib.hid (show T = true by rw [HK.out, hda, List.any_cons]; simp [h1, h2])
     generalize a.to_ = at_ at *
     generalize a.var = av at *
     clear HK hda h1 h2
     go_wp2_with fail
     go_ret
     rw [HN.out]
     exact ⟨rfl, HB1.out⟩
    ·have z2 : (a.var == va) = false := by simpa using h2
     have HN := Lib.hid (show T = (v.arms.drop (i + 1)).any (fun a => decide (a.to_ = to_) && decide (a.var = va)) by rw [HK.out, hda, List.any_cons]; simp [h1, h2])
     generalize a.to_ = at_ at *
     generalize a.var = av at *
     clear HK hda h1 h2
     go_wp2_with fail
     exact ⟨⟨i + 1, by omega, by rw [show ((i + 1 : Nat) : Int) = (i : Int) + 1 by omega], by trivial, HN⟩, by simp [intOf]; omega⟩
   ·have z1 : (a.to_ == to_) = false := by simpa using h1
    have HN := Lib.hid (show T = (v.arms.drop (i + 1)).any (fun a => decide (a.to_ = to_) && decide (a.var = va)) by rw [HK.out, hda, List.any_cons]; simp [h1])
    generalize a.to_ = at_ at *
    generalize a.var = av at *
    clear HK hda h1
    go_wp2_with fail
    exact ⟨⟨i + 1, by omega, by rw [show ((i + 1 : Nat) : Int) = (i : Int) + 1 by omega], by trivial, HN⟩, by simp [intOf]; omega⟩
  ·have HN := Lib.hid (show T = false by rw [HK.out, List.drop_eq_nil_of_le (by rw [← HL.out]; exact hge)]; rfl)
   go_wp2_with fail
   go_ret
   rw [HN.out]
   exact ⟨rfl, HB1.out⟩
end Go.Proofs.Ytfmkkklcgiaacaa.Fold
end
