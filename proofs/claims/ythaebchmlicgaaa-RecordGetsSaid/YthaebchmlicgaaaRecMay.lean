/-
  The document's records (layer 15): May. (Written by gen_recmay.py.)
-/
import Derived.Test.YthaebchmlicgaaaRecRef
import Derived.Deep.CutRange
namespace Go.Proofs.Ythaebchmlicgaaa.Rec
open Go.RowKit
open Go.Proofs.Ythaebchmlicgaaa.Lex (Tx)
set_option linter.unusedVariables false
set_option linter.unusedSimpArgs false

/-- A record with the places of its texts. -/
structure Rv where
  r : Rc
  AL : Option Addr
  cL : Nat
  vs : List Vt
  AV : Option Addr
  cV : Nat
def Rv.cells (v : Rv) : List Value := [.int .i64 v.r.kind, .int .i64 v.r.s.step, .int .i64 v.r.s.visit, .int .i64 v.r.s.tries, .int .i64 v.r.s.off, .slice v.AL v.vs.length v.cL, .int .i64 v.r.visit, .int .i64 v.r.step, .int .i64 v.r.try_, .int .i64 v.r.to, .int .i64 v.r.off, .int .i64 v.r.var, .slice v.AV v.r.value.length v.cV]
/-- A record that can be read. -/
structure Rok (w : World) (K : Nat) (v : Rv) : Prop where
  eq : v.r.s.vars = txt v.vs
  vs : Tvs w K v.AL v.vs
  vl : v.vs.length ≤ maxLen
  val : Tx w K v.AV v.r.value
  ml : v.r.value.length ≤ maxLen
theorem Rok.below {w w' : World} {K : Nat} {v : Rv} (h : Rok w K v) (hK : K ≤ w.heap.size) (hb : Below w.heap.size w w') : Rok w' K v := ⟨h.eq, h.vs.below hK hb, h.vl, h.val.below hK hb, h.ml⟩
theorem nil_iff {α : Type} {l : List α} {m : Nat} (h : l.length = m) : decide (l = []) = ((m : Int) == 0) := by
  cases l with
  | nil => subst h; rfl
  | cons x l =>
    subst h
    have : ¬ ((((x :: l).length : Nat) : Int) = 0) := by simp; omega
    rw [show ((((x :: l).length : Nat) : Int) == 0) = decide ((((x :: l).length : Nat) : Int) = 0) from rfl, decide_eq_false this]
    rfl
theorem noPoint_eq {r : Rc} {n : Nat} (h : r.s.vars.length = n) : noPoint r = ((r.s.step == 0) && (r.s.visit == 0) && (r.s.tries == 0) && (r.s.off == 0) && ((n : Int) == 0)) := by
  unfold noPoint; rw [nil_iff h]; rfl
theorem noOutcome_eq {r : Rc} {n : Nat} (h : r.value.length = n) : noOutcome r = ((r.to == 0) && (r.off == 0) && (r.var == 0) && ((n : Int) == 0)) := by
  unfold noOutcome; rw [nil_iff h]; rfl
theorem may_eq {r : Rc} {n : Nat} (h : r.value.length = n) : may r =
    if r.kind = 1 then noOutcome r && noIntent r && (r.visit == 0) && inR r.s.step (-3) 29 && inR r.s.visit 1 1001 && inR r.s.tries 0 6 && inR r.s.off 0 2147483647 && textsOk r.s.vars
    else if r.kind = 2 then noPoint r && noOutcome r && inR r.visit 1 1001 && inR r.step 0 29 && inR r.try_ 0 5
    else if r.kind = 3 then noPoint r && noIntent r && inR r.visit 1 1001 && inR r.to (-3) 29 && inR r.off 0 2147483647 && inR r.var (-1) 7 && decide ((n : Int) ≤ 100) && (decide (0 ≤ r.var) || ((n : Int) == 0))
    else false := by
  unfold may
  rw [nil_iff h, show decide ((n : Int) ≤ 100) = decide (r.value.length ≤ 100) from decide_eq_decide.2 (by omega)]
  rfl
set_option maxRecDepth 100000 in
set_option maxHeartbeats 2000000 in
theorem may_ (w : World) (K : Nat) (v : Rv) (h : Rok w K v) (hK : K ≤ w.heap.size) :
    Calls Try.prog 9 #[.agg v.cells.toArray] w fun e w' => e = .returned (.bool (may v.r)) ∧ Below w.heap.size w w' := by
  obtain ⟨w1, hw1⟩ : ∃ w1, w1 = w.alloc (.cells v.cells.toArray 34) := ⟨_, rfl⟩
  have hb1 : Below w.heap.size w w1 := by rw [hw1]; exact (Below.refl _ _).alloc (Nat.le_refl _) _
  have hc1 : Cel w1 w.heap.size 34 v.cells := by rw [hw1]; exact Cel.new w _ _
  have hK1 : K ≤ w1.heap.size := Nat.le_trans hK hb1.size
  have h1 := h.below hK hb1
  have hvl : v.r.s.vars.length = v.vs.length := by rw [h.eq]; unfold txt; rw [List.length_map]
  have hm := h.ml
  have hn := h.vl
  have hte : textsOk v.r.s.vars = textsOk (txt v.vs) := by rw [h.eq]
  obtain ⟨E, hE⟩ : ∃ E, E = may v.r := ⟨_, rfl⟩
  rw [← hE]
  rw [may_eq (r := v.r) rfl, hte] at hE
  obtain ⟨P, hP⟩ : ∃ P, P = noPoint v.r := ⟨_, rfl⟩
  obtain ⟨O, hO⟩ : ∃ O, O = noOutcome v.r := ⟨_, rfl⟩
  obtain ⟨I, hI⟩ : ∃ I, I = noIntent v.r := ⟨_, rfl⟩
  rw [← hP, ← hO, ← hI] at hE
  rw [noPoint_eq hvl] at hP
  rw [noOutcome_eq rfl] at hO
  obtain ⟨X, hX⟩ : ∃ X, X = textsOk (txt v.vs) := ⟨_, rfl⟩
  have con := texts_ w1 K v.AL v.vs.length v.cL v.vs h1.vs hK1 rfl hn
  rw [← hX] at hE con
  unfold noIntent at hI
  have HE := Lib.hid hE
  have HP := Lib.hid hP
  have HO := Lib.hid hO
  have HI := Lib.hid (show I = ((v.r.step == 0) && (v.r.try_ == 0)) from hI)
  have HB := Lib.hid hb1
  have HC := Lib.hid hc1
  have HW := Lib.hid hw1
  clear h h1 hvl hE hP hO hI hX hb1 hc1 hw1 hte
  obtain ⟨⟨k, ⟨s1, s2, s3, s4, vars⟩, vi, st, tr, dst, of, va, vl⟩, AL, cL, vs, AV, cV⟩ := v
  unfold Rv.cells at HC HW ⊢
  dsimp only at *
  generalize vs.length = n at *
  generalize vl.length = m at *
  unfold maxLen at hm hn
  go_enter Try.func9, Try.ntmps9
  go_upto_region 1 with fail
  replace HW := Lib.hid HW.out.symm
  rw [HW.out]
  have c0 := HC.out.cell 0
  have c1 := HC.out.cell 1
  have c2 := HC.out.cell 2
  have c3 := HC.out.cell 3
  have c4 := HC.out.cell 4
  have c5 := HC.out.cell 5
  have c6 := HC.out.cell 6
  have c7 := HC.out.cell 7
  have c8 := HC.out.cell 8
  have c9 := HC.out.cell 9
  have c10 := HC.out.cell 10
  have c11 := HC.out.cell 11
  have c12 := HC.out.cell 12
  go_cut [3] from 7 to 35 (fun sx wx => sx = .bool P ∧ w1 = wx)
  case first =>
    cases h0 : (s1 == 0)
    case false =>
      go_wp2_with fail
      go_meet
      case rel => exact ⟨congrArg Value.bool (by rw [HP.out]; simp only [h0, Bool.and_true, Bool.true_and, Bool.and_false, Bool.false_and]), rfl⟩
    case true =>
      cases h1 : (s2 == 0)
      case false =>
        go_wp2_with fail
        go_meet
        case rel => exact ⟨congrArg Value.bool (by rw [HP.out]; simp only [h0, h1, Bool.and_true, Bool.true_and, Bool.and_false, Bool.false_and]), rfl⟩
      case true =>
        cases h2 : (s3 == 0)
        case false =>
          go_wp2_with fail
          go_meet
          case rel => exact ⟨congrArg Value.bool (by rw [HP.out]; simp only [h0, h1, h2, Bool.and_true, Bool.true_and, Bool.and_false, Bool.false_and]), rfl⟩
        case true =>
          cases h3 : (s4 == 0)
          case false =>
            go_wp2_with fail
            go_meet
            case rel => exact ⟨congrArg Value.bool (by rw [HP.out]; simp only [h0, h1, h2, h3, Bool.and_true, Bool.true_and, Bool.and_false, Bool.false_and]), rfl⟩
          case true =>
            cases h4 : ((n : Int) == 0)
            case false =>
              go_wp2_with fail
              go_meet
              case rel => exact ⟨congrArg Value.bool (by rw [HP.out]; simp only [h0, h1, h2, h3, h4, Bool.and_true, Bool.true_and, Bool.and_false, Bool.false_and]), rfl⟩
            case true =>
              go_wp2_with fail
              go_meet
              case rel => exact ⟨congrArg Value.bool (by rw [HP.out]; simp only [h0, h1, h2, h3, h4, Bool.and_true, Bool.true_and, Bool.and_false, Bool.false_and]), rfl⟩
  case rest =>
    obtain ⟨rfl, rfl⟩ := hcut
    go_upto_region 2 with fail
    go_cut [4] from 36 to 54 (fun sx wx => sx = .bool O ∧ w1 = wx)
    case first =>
      cases h0 : (dst == 0)
      case false =>
        go_wp2_with fail
        go_meet
        case rel => exact ⟨congrArg Value.bool (by rw [HO.out]; simp only [h0, Bool.and_true, Bool.true_and, Bool.and_false, Bool.false_and]), rfl⟩
      case true =>
        cases h1 : (of == 0)
        case false =>
          go_wp2_with fail
          go_meet
          case rel => exact ⟨congrArg Value.bool (by rw [HO.out]; simp only [h0, h1, Bool.and_true, Bool.true_and, Bool.and_false, Bool.false_and]), rfl⟩
        case true =>
          cases h2 : (va == 0)
          case false =>
            go_wp2_with fail
            go_meet
            case rel => exact ⟨congrArg Value.bool (by rw [HO.out]; simp only [h0, h1, h2, Bool.and_true, Bool.true_and, Bool.and_false, Bool.false_and]), rfl⟩
          case true =>
            cases h3 : ((m : Int) == 0)
            case false =>
              go_wp2_with fail
              go_meet
              case rel => exact ⟨congrArg Value.bool (by rw [HO.out]; simp only [h0, h1, h2, h3, Bool.and_true, Bool.true_and, Bool.and_false, Bool.false_and]), rfl⟩
            case true =>
              go_wp2_with fail
              go_meet
              case rel => exact ⟨congrArg Value.bool (by rw [HO.out]; simp only [h0, h1, h2, h3, Bool.and_true, Bool.true_and, Bool.and_false, Bool.false_and]), rfl⟩
    case rest =>
      obtain ⟨rfl, rfl⟩ := hcut
      go_upto_region 3 with fail
      go_cut [5] from 55 to 62 (fun sx wx => sx = .bool I ∧ w1 = wx)
      case first =>
        cases h0 : (st == 0)
        case false =>
          go_wp2_with fail
          go_meet
          case rel => exact ⟨congrArg Value.bool (by rw [HI.out]; simp only [h0, Bool.and_true, Bool.true_and, Bool.and_false, Bool.false_and]), rfl⟩
        case true =>
          cases h1 : (tr == 0)
          case false =>
            go_wp2_with fail
            go_meet
            case rel => exact ⟨congrArg Value.bool (by rw [HI.out]; simp only [h0, h1, Bool.and_true, Bool.true_and, Bool.and_false, Bool.false_and]), rfl⟩
          case true =>
            go_wp2_with fail
            go_meet
            case rel => exact ⟨congrArg Value.bool (by rw [HI.out]; simp only [h0, h1, Bool.and_true, Bool.true_and, Bool.and_false, Bool.false_and]), rfl⟩
      case rest =>
        obtain ⟨rfl, rfl⟩ := hcut
        by_cases k1 : k = 1
        case pos =>
          subst k1
          have HE1 := Lib.hid (show E = (O && I && (vi == 0) && inR s1 (-3) 29 && inR s2 1 1001 && inR s3 0 6 && inR s4 0 2147483647 && X) by rw [HE.out, if_pos rfl])
          clear HE HP HO HI
          go_wp2_with fail
          refine con.mono ?_
          clear con
          rintro e w2 ⟨rfl, hb2⟩
          have HB2 := Lib.hid (HB.out.trans (hb2.mono HB.out.size))
          have HC2 := Lib.hid (HC.out.below hb2 HC.out.lt)
          clear hb2 c0 c1 c2 c3 c4 c5 c6 c7 c8 c9 c10 c11 c12 HW
          have c1 := HC2.out.cell 1
          have c2 := HC2.out.cell 2
          have c3 := HC2.out.cell 3
          have c4 := HC2.out.cell 4
          have c6 := HC2.out.cell 6
          cases h0 : (O)
          case false =>
            go_wp2_with fail
            go_ret
            rw [HE1.out]
            refine ⟨?_, HB2.out⟩
            simp only [h0, Bool.and_true, Bool.true_and, Bool.and_false, Bool.false_and, Bool.or_true, Bool.true_or, Bool.or_false, Bool.false_or]
            rfl
          case true =>
            cases h1 : (I)
            case false =>
              go_wp2_with fail
              go_ret
              rw [HE1.out]
              refine ⟨?_, HB2.out⟩
              simp only [h0, h1, Bool.and_true, Bool.true_and, Bool.and_false, Bool.false_and, Bool.or_true, Bool.true_or, Bool.or_false, Bool.false_or]
              rfl
            case true =>
              cases h2 : (vi == 0)
              case false =>
                go_wp2_with fail
                go_ret
                rw [HE1.out]
                refine ⟨?_, HB2.out⟩
                simp only [h0, h1, h2, Bool.and_true, Bool.true_and, Bool.and_false, Bool.false_and, Bool.or_true, Bool.true_or, Bool.or_false, Bool.false_or]
                rfl
              case true =>
                cases h3 : (inR s1 (-3) 29)
                case false =>
                  go_wp2_with fail
                  refine (in_ _ _ _ _).mono ?_
                  rintro e w' ⟨rfl, rfl⟩
                  go_wp2_with fail
                  go_ret
                  rw [HE1.out]
                  refine ⟨?_, HB2.out⟩
                  simp only [h0, h1, h2, h3, Bool.and_true, Bool.true_and, Bool.and_false, Bool.false_and, Bool.or_true, Bool.true_or, Bool.or_false, Bool.false_or]
                  rfl
                case true =>
                  cases h4 : (inR s2 1 1001)
                  case false =>
                    go_wp2_with fail
                    refine (in_ _ _ _ _).mono ?_
                    rintro e w' ⟨rfl, rfl⟩
                    go_wp2_with fail
                    refine (in_ _ _ _ _).mono ?_
                    rintro e w' ⟨rfl, rfl⟩
                    go_wp2_with fail
                    go_ret
                    rw [HE1.out]
                    refine ⟨?_, HB2.out⟩
                    simp only [h0, h1, h2, h3, h4, Bool.and_true, Bool.true_and, Bool.and_false, Bool.false_and, Bool.or_true, Bool.true_or, Bool.or_false, Bool.false_or]
                    rfl
                  case true =>
                    cases h5 : (inR s3 0 6)
                    case false =>
                      go_wp2_with fail
                      refine (in_ _ _ _ _).mono ?_
                      rintro e w' ⟨rfl, rfl⟩
                      go_wp2_with fail
                      refine (in_ _ _ _ _).mono ?_
                      rintro e w' ⟨rfl, rfl⟩
                      go_wp2_with fail
                      refine (in_ _ _ _ _).mono ?_
                      rintro e w' ⟨rfl, rfl⟩
                      go_wp2_with fail
                      go_ret
                      rw [HE1.out]
                      refine ⟨?_, HB2.out⟩
                      simp only [h0, h1, h2, h3, h4, h5, Bool.and_true, Bool.true_and, Bool.and_false, Bool.false_and, Bool.or_true, Bool.true_or, Bool.or_false, Bool.false_or]
                      rfl
                    case true =>
                      cases h6 : (inR s4 0 2147483647)
                      case false =>
                        go_wp2_with fail
                        refine (in_ _ _ _ _).mono ?_
                        rintro e w' ⟨rfl, rfl⟩
                        go_wp2_with fail
                        refine (in_ _ _ _ _).mono ?_
                        rintro e w' ⟨rfl, rfl⟩
                        go_wp2_with fail
                        refine (in_ _ _ _ _).mono ?_
                        rintro e w' ⟨rfl, rfl⟩
                        go_wp2_with fail
                        refine (in_ _ _ _ _).mono ?_
                        rintro e w' ⟨rfl, rfl⟩
                        go_wp2_with fail
                        go_ret
                        rw [HE1.out]
                        refine ⟨?_, HB2.out⟩
                        simp only [h0, h1, h2, h3, h4, h5, h6, Bool.and_true, Bool.true_and, Bool.and_false, Bool.false_and, Bool.or_true, Bool.true_or, Bool.or_false, Bool.false_or]
                        rfl
                      case true =>
                        cases h7 : (X)
                        case false =>
                          go_wp2_with fail
                          refine (in_ _ _ _ _).mono ?_
                          rintro e w' ⟨rfl, rfl⟩
                          go_wp2_with fail
                          refine (in_ _ _ _ _).mono ?_
                          rintro e w' ⟨rfl, rfl⟩
                          go_wp2_with fail
                          refine (in_ _ _ _ _).mono ?_
                          rintro e w' ⟨rfl, rfl⟩
                          go_wp2_with fail
                          refine (in_ _ _ _ _).mono ?_
                          rintro e w' ⟨rfl, rfl⟩
                          go_wp2_with fail
                          go_ret
                          rw [HE1.out]
                          refine ⟨?_, HB2.out⟩
                          simp only [h0, h1, h2, h3, h4, h5, h6, h7, Bool.and_true, Bool.true_and, Bool.and_false, Bool.false_and, Bool.or_true, Bool.true_or, Bool.or_false, Bool.false_or]
                          rfl
                        case true =>
                          go_wp2_with fail
                          refine (in_ _ _ _ _).mono ?_
                          rintro e w' ⟨rfl, rfl⟩
                          go_wp2_with fail
                          refine (in_ _ _ _ _).mono ?_
                          rintro e w' ⟨rfl, rfl⟩
                          go_wp2_with fail
                          refine (in_ _ _ _ _).mono ?_
                          rintro e w' ⟨rfl, rfl⟩
                          go_wp2_with fail
                          refine (in_ _ _ _ _).mono ?_
                          rintro e w' ⟨rfl, rfl⟩
                          go_wp2_with fail
                          go_ret
                          rw [HE1.out]
                          refine ⟨?_, HB2.out⟩
                          simp only [h0, h1, h2, h3, h4, h5, h6, h7, Bool.and_true, Bool.true_and, Bool.and_false, Bool.false_and, Bool.or_true, Bool.true_or, Bool.or_false, Bool.false_or]
                          rfl
        have k1b : (k == 1) = false := by simpa using k1
        have HB2 := HB
        by_cases k2 : k = 2
        case pos =>
          subst k2
          have HE1 := Lib.hid (show E = (P && O && inR vi 1 1001 && inR st 0 29 && inR tr 0 5) by rw [HE.out, if_neg k1, if_pos rfl])
          clear HE HP HO HI con k1
          cases h0 : (P)
          case false =>
            go_wp2_with fail
            go_ret
            rw [HE1.out]
            refine ⟨?_, HB2.out⟩
            simp only [h0, Bool.and_true, Bool.true_and, Bool.and_false, Bool.false_and, Bool.or_true, Bool.true_or, Bool.or_false, Bool.false_or]
            rfl
          case true =>
            cases h1 : (O)
            case false =>
              go_wp2_with fail
              go_ret
              rw [HE1.out]
              refine ⟨?_, HB2.out⟩
              simp only [h0, h1, Bool.and_true, Bool.true_and, Bool.and_false, Bool.false_and, Bool.or_true, Bool.true_or, Bool.or_false, Bool.false_or]
              rfl
            case true =>
              cases h2 : (inR vi 1 1001)
              case false =>
                go_wp2_with fail
                refine (in_ _ _ _ _).mono ?_
                rintro e w' ⟨rfl, rfl⟩
                go_wp2_with fail
                go_ret
                rw [HE1.out]
                refine ⟨?_, HB2.out⟩
                simp only [h0, h1, h2, Bool.and_true, Bool.true_and, Bool.and_false, Bool.false_and, Bool.or_true, Bool.true_or, Bool.or_false, Bool.false_or]
                rfl
              case true =>
                cases h3 : (inR st 0 29)
                case false =>
                  go_wp2_with fail
                  refine (in_ _ _ _ _).mono ?_
                  rintro e w' ⟨rfl, rfl⟩
                  go_wp2_with fail
                  refine (in_ _ _ _ _).mono ?_
                  rintro e w' ⟨rfl, rfl⟩
                  go_wp2_with fail
                  go_ret
                  rw [HE1.out]
                  refine ⟨?_, HB2.out⟩
                  simp only [h0, h1, h2, h3, Bool.and_true, Bool.true_and, Bool.and_false, Bool.false_and, Bool.or_true, Bool.true_or, Bool.or_false, Bool.false_or]
                  rfl
                case true =>
                  cases h4 : (inR tr 0 5)
                  case false =>
                    go_wp2_with fail
                    refine (in_ _ _ _ _).mono ?_
                    rintro e w' ⟨rfl, rfl⟩
                    go_wp2_with fail
                    refine (in_ _ _ _ _).mono ?_
                    rintro e w' ⟨rfl, rfl⟩
                    go_wp2_with fail
                    refine (in_ _ _ _ _).mono ?_
                    rintro e w' ⟨rfl, rfl⟩
                    go_wp2_with fail
                    go_ret
                    rw [HE1.out]
                    refine ⟨?_, HB2.out⟩
                    simp only [h0, h1, h2, h3, h4, Bool.and_true, Bool.true_and, Bool.and_false, Bool.false_and, Bool.or_true, Bool.true_or, Bool.or_false, Bool.false_or]
                    rfl
                  case true =>
                    go_wp2_with fail
                    refine (in_ _ _ _ _).mono ?_
                    rintro e w' ⟨rfl, rfl⟩
                    go_wp2_with fail
                    refine (in_ _ _ _ _).mono ?_
                    rintro e w' ⟨rfl, rfl⟩
                    go_wp2_with fail
                    refine (in_ _ _ _ _).mono ?_
                    rintro e w' ⟨rfl, rfl⟩
                    go_wp2_with fail
                    go_ret
                    rw [HE1.out]
                    refine ⟨?_, HB2.out⟩
                    simp only [h0, h1, h2, h3, h4, Bool.and_true, Bool.true_and, Bool.and_false, Bool.false_and, Bool.or_true, Bool.true_or, Bool.or_false, Bool.false_or]
                    rfl
        have k2b : (k == 2) = false := by simpa using k2
        by_cases k3 : k = 3
        case pos =>
          subst k3
          have HE1 := Lib.hid (show E = (P && I && inR vi 1 1001 && inR dst (-3) 29 && inR of 0 2147483647 && inR va (-1) 7 && decide ((m : Int) ≤ 100) && (decide (0 ≤ va) || ((m : Int) == 0))) by rw [HE.out, if_neg k1, if_neg k2, if_pos rfl])
          clear HE HP HO HI con k1 k2
          cases h0 : (P)
          case false =>
            go_wp2_with fail
            go_ret
            rw [HE1.out]
            refine ⟨?_, HB2.out⟩
            simp only [h0, Bool.and_true, Bool.true_and, Bool.and_false, Bool.false_and, Bool.or_true, Bool.true_or, Bool.or_false, Bool.false_or]
            rfl
          case true =>
            cases h1 : (I)
            case false =>
              go_wp2_with fail
              go_ret
              rw [HE1.out]
              refine ⟨?_, HB2.out⟩
              simp only [h0, h1, Bool.and_true, Bool.true_and, Bool.and_false, Bool.false_and, Bool.or_true, Bool.true_or, Bool.or_false, Bool.false_or]
              rfl
            case true =>
              cases h2 : (inR vi 1 1001)
              case false =>
                go_wp2_with fail
                refine (in_ _ _ _ _).mono ?_
                rintro e w' ⟨rfl, rfl⟩
                go_wp2_with fail
                go_ret
                rw [HE1.out]
                refine ⟨?_, HB2.out⟩
                simp only [h0, h1, h2, Bool.and_true, Bool.true_and, Bool.and_false, Bool.false_and, Bool.or_true, Bool.true_or, Bool.or_false, Bool.false_or]
                rfl
              case true =>
                cases h3 : (inR dst (-3) 29)
                case false =>
                  go_wp2_with fail
                  refine (in_ _ _ _ _).mono ?_
                  rintro e w' ⟨rfl, rfl⟩
                  go_wp2_with fail
                  refine (in_ _ _ _ _).mono ?_
                  rintro e w' ⟨rfl, rfl⟩
                  go_wp2_with fail
                  go_ret
                  rw [HE1.out]
                  refine ⟨?_, HB2.out⟩
                  simp only [h0, h1, h2, h3, Bool.and_true, Bool.true_and, Bool.and_false, Bool.false_and, Bool.or_true, Bool.true_or, Bool.or_false, Bool.false_or]
                  rfl
                case true =>
                  cases h4 : (inR of 0 2147483647)
                  case false =>
                    go_wp2_with fail
                    refine (in_ _ _ _ _).mono ?_
                    rintro e w' ⟨rfl, rfl⟩
                    go_wp2_with fail
                    refine (in_ _ _ _ _).mono ?_
                    rintro e w' ⟨rfl, rfl⟩
                    go_wp2_with fail
                    refine (in_ _ _ _ _).mono ?_
                    rintro e w' ⟨rfl, rfl⟩
                    go_wp2_with fail
                    go_ret
                    rw [HE1.out]
                    refine ⟨?_, HB2.out⟩
                    simp only [h0, h1, h2, h3, h4, Bool.and_true, Bool.true_and, Bool.and_false, Bool.false_and, Bool.or_true, Bool.true_or, Bool.or_false, Bool.false_or]
                    rfl
                  case true =>
                    cases h5 : (inR va (-1) 7)
                    case false =>
                      go_wp2_with fail
                      refine (in_ _ _ _ _).mono ?_
                      rintro e w' ⟨rfl, rfl⟩
                      go_wp2_with fail
                      refine (in_ _ _ _ _).mono ?_
                      rintro e w' ⟨rfl, rfl⟩
                      go_wp2_with fail
                      refine (in_ _ _ _ _).mono ?_
                      rintro e w' ⟨rfl, rfl⟩
                      go_wp2_with fail
                      refine (in_ _ _ _ _).mono ?_
                      rintro e w' ⟨rfl, rfl⟩
                      go_wp2_with fail
                      go_ret
                      rw [HE1.out]
                      refine ⟨?_, HB2.out⟩
                      simp only [h0, h1, h2, h3, h4, h5, Bool.and_true, Bool.true_and, Bool.and_false, Bool.false_and, Bool.or_true, Bool.true_or, Bool.or_false, Bool.false_or]
                      rfl
                    case true =>
                      cases h6 : (decide ((m : Int) ≤ 100))
                      case false =>
                        go_wp2_with fail
                        refine (in_ _ _ _ _).mono ?_
                        rintro e w' ⟨rfl, rfl⟩
                        go_wp2_with fail
                        refine (in_ _ _ _ _).mono ?_
                        rintro e w' ⟨rfl, rfl⟩
                        go_wp2_with fail
                        refine (in_ _ _ _ _).mono ?_
                        rintro e w' ⟨rfl, rfl⟩
                        go_wp2_with fail
                        refine (in_ _ _ _ _).mono ?_
                        rintro e w' ⟨rfl, rfl⟩
                        go_wp2_with fail
                        go_ret
                        rw [HE1.out]
                        refine ⟨?_, HB2.out⟩
                        simp only [h0, h1, h2, h3, h4, h5, h6, Bool.and_true, Bool.true_and, Bool.and_false, Bool.false_and, Bool.or_true, Bool.true_or, Bool.or_false, Bool.false_or]
                        rfl
                      case true =>
                        cases hz : (decide (0 ≤ va))
                        case true =>
                          go_wp2_with fail
                          refine (in_ _ _ _ _).mono ?_
                          rintro e w' ⟨rfl, rfl⟩
                          go_wp2_with fail
                          refine (in_ _ _ _ _).mono ?_
                          rintro e w' ⟨rfl, rfl⟩
                          go_wp2_with fail
                          refine (in_ _ _ _ _).mono ?_
                          rintro e w' ⟨rfl, rfl⟩
                          go_wp2_with fail
                          refine (in_ _ _ _ _).mono ?_
                          rintro e w' ⟨rfl, rfl⟩
                          go_wp2_with fail
                          go_ret
                          rw [HE1.out]
                          refine ⟨?_, HB2.out⟩
                          simp only [h0, h1, h2, h3, h4, h5, h6, hz, Bool.and_true, Bool.true_and, Bool.and_false, Bool.false_and, Bool.or_true, Bool.true_or, Bool.or_false, Bool.false_or]
                          rfl
                        case false =>
                          cases hy : ((m : Int) == 0)
                          case true =>
                            go_wp2_with fail
                            refine (in_ _ _ _ _).mono ?_
                            rintro e w' ⟨rfl, rfl⟩
                            go_wp2_with fail
                            refine (in_ _ _ _ _).mono ?_
                            rintro e w' ⟨rfl, rfl⟩
                            go_wp2_with fail
                            refine (in_ _ _ _ _).mono ?_
                            rintro e w' ⟨rfl, rfl⟩
                            go_wp2_with fail
                            refine (in_ _ _ _ _).mono ?_
                            rintro e w' ⟨rfl, rfl⟩
                            go_wp2_with fail
                            go_ret
                            rw [HE1.out]
                            refine ⟨?_, HB2.out⟩
                            simp only [h0, h1, h2, h3, h4, h5, h6, hz, hy, Bool.and_true, Bool.true_and, Bool.and_false, Bool.false_and, Bool.or_true, Bool.true_or, Bool.or_false, Bool.false_or]
                            rfl
                          case false =>
                            go_wp2_with fail
                            refine (in_ _ _ _ _).mono ?_
                            rintro e w' ⟨rfl, rfl⟩
                            go_wp2_with fail
                            refine (in_ _ _ _ _).mono ?_
                            rintro e w' ⟨rfl, rfl⟩
                            go_wp2_with fail
                            refine (in_ _ _ _ _).mono ?_
                            rintro e w' ⟨rfl, rfl⟩
                            go_wp2_with fail
                            refine (in_ _ _ _ _).mono ?_
                            rintro e w' ⟨rfl, rfl⟩
                            go_wp2_with fail
                            go_ret
                            rw [HE1.out]
                            refine ⟨?_, HB2.out⟩
                            simp only [h0, h1, h2, h3, h4, h5, h6, hz, hy, Bool.and_true, Bool.true_and, Bool.and_false, Bool.false_and, Bool.or_true, Bool.true_or, Bool.or_false, Bool.false_or]
                            rfl
        have k3b : (k == 3) = false := by simpa using k3
        have HE1 := Lib.hid (show E = false by rw [HE.out, if_neg k1, if_neg k2, if_neg k3])
        clear HE HP HO HI con k1 k2 k3
        go_wp2_with fail
        go_ret
        rw [HE1.out]
        exact ⟨rfl, HB2.out⟩
end Go.Proofs.Ythaebchmlicgaaa.Rec
