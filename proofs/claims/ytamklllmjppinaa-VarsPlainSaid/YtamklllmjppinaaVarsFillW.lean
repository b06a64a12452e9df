/-
  Layer 13: VarsFill's walk: the program's Names and Fill beside the document's.
-/
import Derived.Test.YtamklllmjppinaaVarsKnows
import Derived.Test.YtamklllmjppinaaVarsOpen
import Derived.BigQuiet
namespace Go.Proofs.Ytamklllmjppinaa.Vars
open Go.RowKit
open Go.Proofs.Ytamklllmjppinaa.Lex (Owb)
set_option linter.unusedVariables false
set_option linter.unusedSimpArgs false

theorem Vals.more {w : World} {D D' : Nat} {A : Option Addr} {vs : List V1} (h : Vals w D A vs) (hD : D ≤ D') : Vals w D' A vs := ⟨h.ry, fun x hx => (h.bs x hx).more hD⟩
def bytesOf : Except Nat (List (BitVec 8)) → List (BitVec 8)
  | .error _ => []
  | .ok b => b
def codeOf : Except Nat (List (BitVec 8)) → Nat
  | .error k => k
  | .ok _ => 0
theorem fl_get {w w' : World} {r : Except Nat (List (BitVec 8))} {e : Ending} (h : FlSays w r e w') : Below w.heap.size w w' ∧ ∃ A' c', e = .returned (.tuple #[.slice A' (bytesOf r).length c', .int .i64 (codeOf r : Int)]) ∧ Bs w' w'.heap.size A' (bytesOf r).length (bytesOf r) := by
  obtain ⟨hb, h⟩ := h
  refine ⟨hb, ?_⟩
  cases r with
  | error k => exact ⟨none, 0, h, Bs.nil_⟩
  | ok b => obtain ⟨A', c', rfl, ho⟩ := h; exact ⟨A', c', rfl, Bs.of_own ho rfl⟩
theorem below_drewN {B : Nat} {w V : World} (h : Below B w V) (q : Nat) : Below B w (V.drewN q) := ⟨h.os, h.tape, h.output, h.size, h.block⟩
theorem str_run {w : World} {B n : Nat} {A : Option Addr} {b : List (BitVec 8)} (h : Bs w B A n b) (c : Nat) : (convert 22 9 (.slice A n c)).run Try.prog w = .ok (.string (str b)) w :=
  (Bs.bp h).string c (P := Try.prog) (src := 22) (dst := 9) Try.underlying22 Try.underlying5 Try.underlying9
theorem cv_ons {w : World} {D n c : Nat} {A : Option Addr} {l : List (List (BitVec 8))} (h : Ons w D A n c l) : Cv w A (l.map scell) := fun hne => by
  obtain ⟨ad, e, _, hc⟩ := Ry.of_own h (by decide) hne
  exact ⟨ad, e, hc⟩
set_option maxRecDepth 100000 in
set_option maxHeartbeats 4000000 in
theorem fill_walk (A : Option Addr) (n c : Nat) (s : List (BitVec 8)) (A1 : Option Addr) (n1 c1 : Nat) (ns : List ByteArray) (A2 : Option Addr) (n2 c2 : Nat) (vs : List V1) (w : World)
    (hs : Bs w w.heap.size A n s) (hcap : n ≤ c) (hc : c ≤ maxLen) (hns : Cv w A1 (ns.map Value.string)) (hnl : ns.length = n1) (hn1 : n1 ≤ maxLen) (hvs : Vals w w.heap.size A2 vs) (hvl : vs.length = n2) (hn2 : n2 ≤ maxLen) :
    Calls Try.prog 3 #[.slice A n c, .slice A1 n1 c1, .slice A2 n2 c2] w fun e w' => e = .returned (.bool true) ∧ Below w.heap.size w w' := by
  unfold maxLen at hc
  by_cases h500 : 500 < n
  · have con := knows13 w
    have z : decide ((500 : Int) < (n : Int)) = true := by simp; omega
    clear hs hns hvs
    go_enter Try.func3, Try.ntmps3
    go_wp2_with fail
    refine con.mono ?_
    rintro e w' ⟨rfl, hb⟩
    have HB := Lib.hid hb
    clear hb con
    go_wp2_with fail
    go_ret
    exact ⟨rfl, HB.out⟩
  have z : decide ((500 : Int) < (n : Int)) = false := by simp; omega
  have con := few13 w A1 n1 c1 ns hns hnl hn1 A2 n2 c2 vs hvs hvl hn2
  have HS := Lib.hid hs
  have HNS := Lib.hid hns
  have HVS := Lib.hid hvs
  have HNL := Lib.hid hnl
  have HVL := Lib.hid hvl
  have con1 := pnames w A n c s hs (by omega) hcap
  clear hs hns hvs hnl hvl
  go_enter Try.func3, Try.ntmps3
  go_wp2_with fail
  refine con.mono ?_
  clear con
  rintro e w' ⟨b, rfl, rfl, hb⟩
  cases b
  · have con := knows13 w
    clear con1 hb
    go_wp2_with fail
    refine con.mono ?_
    rintro e w' ⟨rfl, hb⟩
    have HB := Lib.hid hb
    clear hb con
    go_wp2_with fail
    go_ret
    exact ⟨rfl, HB.out⟩
  obtain ⟨hf1, hf2, hf3⟩ := hb rfl
  have HSM := Lib.hid (show ∀ v ∈ vs.map V1.s, v.length ≤ 1000 from fun v hv => by
    obtain ⟨x, hx, rfl⟩ := List.mem_map.1 hv
    have := hf3 x hx
    omega)
  clear hb hf3
  go_wp2_with fail
  refine con1.mono ?_
  clear con1
  rintro e w1 ⟨hb1, hn1'⟩
  have con2 := names_ w1 w.heap.size A n c s (HS.out.below hb1) hb1.size (by omega) hcap
  have HB1 := Lib.hid hb1
  clear hb1
  cases hnm : names s with
  | error p =>
    rw [hnm] at hn1' con2
    subst hn1'
    clear hnm
    go_wp2_with fail
    refine con2.mono ?_
    clear con2
    rintro e w2 ⟨hb2, rfl⟩
    have HB2 := Lib.hid (HB1.out.trans (hb2.mono HB1.out.size))
    clear hb2
    have hbV := HB2.out
    have con3 := pfill w2 A n c s ((HS.out.below hbV).more hbV.size) (by omega) hcap A1 n1 c1 ns (HNS.out.below hbV) HNL.out (by omega) A2 n2 c2 vs ((HVS.out.below (Nat.le_refl _) hbV).more hbV.size) HVL.out (by omega) HSM.out
    clear hbV
    go_wp2_with fail
    refine con3.mono ?_
    clear con3
    rintro e w5 h5
    obtain ⟨hb5, A5, c5, rfl, hy5⟩ := fl_get h5
    have HB5 := Lib.hid (HB2.out.trans (hb5.mono HB2.out.size))
    have HY5 := Lib.hid hy5
    clear h5 hb5 hy5
    have hbV := HB5.out
    have con4 := fill_ w5 w.heap.size A n c s (HS.out.below hbV) hbV.size (by omega) hcap A1 n1 c1 ns (HNS.out.below hbV) HNL.out (by omega) A2 n2 c2 vs (HVS.out.below (Nat.le_refl _) hbV) HVL.out (by omega) HSM.out
    clear hbV
    generalize fill s ns (vs.map V1.s) = r at *
    go_wp2_with fail
    refine con4.mono ?_
    clear con4
    rintro e w6 h6
    obtain ⟨hb6, A6, c6, rfl, hy6⟩ := fl_get h6
    have HB6 := Lib.hid (HB5.out.trans (hb6.mono HB5.out.size))
    have s1 := str_run (HY5.out.below hb6) c5
    have s2 := str_run hy6 c6
    have con := knows13 w6
    clear h6 hb6 hy6
    generalize str (bytesOf r) = st at *
    generalize (bytesOf r).length = bl at *
    generalize codeOf r = code at *
    go_wp2_with fail
    refine con.mono ?_
    clear con
    rintro e w7 ⟨rfl, hb7⟩
    have HB7 := Lib.hid (HB6.out.trans (hb7.mono HB6.out.size))
    clear hb7
    go_wp2_with fail
    go_ret
    exact ⟨rfl, HB7.out⟩
  | ok l =>
    rw [hnm] at hn1' con2
    obtain ⟨B1, m1, d1, rfl, ho1⟩ := hn1'
    have hl1 := ho1.len
    have HO1 := Lib.hid ho1
    have hml : m1 ≤ 1000 := by have := namesR_len _ _ _ _ (by omega) hnm; have := HS.out.len; omega
    clear hnm ho1
    go_wp2_with fail
    refine con2.mono ?_
    clear con2
    rintro e w2 ⟨hb2, B2, m2, d2, rfl, ho2⟩
    obtain rfl : m2 = m1 := by rw [← ho2.len, hl1]
    have HB2 := Lib.hid (HB1.out.trans (hb2.mono HB1.out.size))
    have HC1 := Lib.hid (cv_ons (HO1.out.below hb2))
    have HC2 := Lib.hid (cv_ons ho2)
    have HL := Lib.hid hl1
    clear hb2 ho2 hl1
    go_wp2_with fail
    go_loopw [12] (fun v12 wr => ∃ (i : Nat), i ≤ m2 ∧ v12 = .int .i64 (i : Int) ∧ Hid (Below w2.heap.size w2 wr)) (fun v12 _ => m2 - (intOf v12).toNat)
    case atStart => exact ⟨0, Nat.zero_le _, rfl, Lib.hid (Below.refl _ _)⟩
    case round =>
      obtain ⟨i, hi, rfl, HBW⟩ := hrel
      obtain ⟨W, rfl⟩ : ∃ W, W = wr := ⟨_, rfl⟩
      rcases Nat.lt_or_ge i m2 with hlt | hge
      · obtain ⟨a, ha⟩ : ∃ a, l[i]? = some a := ⟨_, List.getElem?_eq_getElem (by rw [HL.out]; exact hlt)⟩
        obtain ⟨ad, rfl, a0⟩ := (HC1.out.below HBW.out).at_ (show (l.map scell)[i]? = some (.string (str a)) by rw [List.getElem?_map, ha]; rfl)
        obtain ⟨bd, rfl, b0⟩ := (HC2.out.below HBW.out).at_ (show (l.map scell)[i]? = some (.string (str a)) by rw [List.getElem?_map, ha]; rfl)
        generalize str a = st at *
        clear ha
        go_wp2_with fail
        go_quiet (fail)
        go_wp2_with fail
        exact ⟨⟨i + 1, by omega, by rw [show ((i + 1 : Nat) : Int) = (i : Int) + 1 by omega], Lib.hid (below_drewN HBW.out nq)⟩, by simp [intOf]; omega⟩
      · have HB3 := Lib.hid (HB2.out.trans (HBW.out.mono HB2.out.size))
        clear HBW
        have hbV := HB3.out
        have con3 := pfill W A n c s ((HS.out.below hbV).more hbV.size) (by omega) hcap A1 n1 c1 ns (HNS.out.below hbV) HNL.out (by omega) A2 n2 c2 vs ((HVS.out.below (Nat.le_refl _) hbV).more hbV.size) HVL.out (by omega) HSM.out
        clear hbV
        go_wp2_with fail
        refine con3.mono ?_
        clear con3
        rintro e w5 h5
        obtain ⟨hb5, A5, c5, rfl, hy5⟩ := fl_get h5
        have HB5 := Lib.hid (HB3.out.trans (hb5.mono HB3.out.size))
        have HY5 := Lib.hid hy5
        clear h5 hb5 hy5
        have hbV := HB5.out
        have con4 := fill_ w5 w.heap.size A n c s (HS.out.below hbV) hbV.size (by omega) hcap A1 n1 c1 ns (HNS.out.below hbV) HNL.out (by omega) A2 n2 c2 vs (HVS.out.below (Nat.le_refl _) hbV) HVL.out (by omega) HSM.out
        clear hbV
        generalize fill s ns (vs.map V1.s) = r at *
        go_wp2_with fail
        refine con4.mono ?_
        clear con4
        rintro e w6 h6
        obtain ⟨hb6, A6, c6, rfl, hy6⟩ := fl_get h6
        have HB6 := Lib.hid (HB5.out.trans (hb6.mono HB5.out.size))
        have s1 := str_run (HY5.out.below hb6) c5
        have s2 := str_run hy6 c6
        have con := knows13 w6
        clear h6 hb6 hy6
        generalize str (bytesOf r) = st at *
        generalize (bytesOf r).length = bl at *
        generalize codeOf r = code at *
        go_wp2_with fail
        refine con.mono ?_
        clear con
        rintro e w7 ⟨rfl, hb7⟩
        have HB7 := Lib.hid (HB6.out.trans (hb7.mono HB6.out.size))
        clear hb7
        go_wp2_with fail
        go_ret
        exact ⟨rfl, HB7.out⟩
end Go.Proofs.Ytamklllmjppinaa.Vars
