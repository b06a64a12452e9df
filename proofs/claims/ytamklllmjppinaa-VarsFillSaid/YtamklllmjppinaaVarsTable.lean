/-
  The program's lines (layer 13): the first of names; a table's values; what a piece is filled to.
-/
import Derived.Test.YtamklllmjppinaaVarsSmall
namespace Go.Proofs.Ytamklllmjppinaa.Vars
open Go.RowKit
open Go.Proofs.Ytamklllmjppinaa.Lex (b_ne drop_at)
set_option linter.unusedVariables false
set_option linter.unusedSimpArgs false

/-- The place as the program tells it. -/
def ixOf : Option Nat → Int
  | none => -1
  | some i => i
set_option maxRecDepth 100000 in
set_option maxHeartbeats 1000000 in
theorem pindex (w : World) (A : Option Addr) (n c : Nat) (ns : List ByteArray) (hns : Cv w A (ns.map Value.string)) (hnl : ns.length = n) (hn : n ≤ 100000) (x : ByteArray) :
    Calls Try.prog 24 #[.slice A n c, .string x] w fun e w' => e = .returned (.int .i64 (ixOf (findV ns x 0))) ∧ w = w' := by
  obtain ⟨T, hT⟩ : ∃ T, T = findV ns x 0 := ⟨_, rfl⟩
  rw [← hT]
  have HNS := Lib.hid hns
  have HNL := Lib.hid hnl
  have HT := Lib.hid (show T = findV (ns.drop 0) x 0 from hT)
  clear hns hnl hT
  go_enter Try.func24, Try.ntmps24
  go_wp2_with fail
  go_loopw [8] (fun v8 wr => ∃ (i : Nat), i ≤ n ∧ v8 = .int .i64 (i : Int) ∧ w = wr ∧ Hid (T = findV (ns.drop i) x i)) (fun v8 _ => n - (intOf v8).toNat)
  case atStart => exact ⟨0, Nat.zero_le _, rfl, rfl, HT⟩
  case round =>
    clear HT
    obtain ⟨i, hi, rfl, rfl, HK⟩ := hrel
    rcases Nat.lt_or_ge i n with hlt | hge
    · obtain ⟨a, ha⟩ : ∃ a, ns[i]? = some a := ⟨_, List.getElem?_eq_getElem (by rw [HNL.out]; exact hlt)⟩
      have hda : ns.drop i = a :: ns.drop (i + 1) := by
        obtain ⟨hl, rfl⟩ := List.getElem?_eq_some_iff.1 ha
        exact List.drop_eq_getElem_cons hl
      obtain ⟨ad, rfl, a0⟩ := HNS.out.at_ (show (ns.map Value.string)[i]? = some (.string a) by rw [List.getElem?_map, ha]; rfl)
      clear ha
      cases hax : (a.toList == x.toList)
      · have HN := Lib.hid (show T = findV (ns.drop (i + 1)) x (i + 1) by rw [HK.out, hda, findV, if_neg (by rw [hax]; simp)])
        have hxa : (x.toList == a.toList) = false := by
          cases h : (x.toList == a.toList)
          · rfl
          · have := eq_of_beq h; rw [this] at hax; simp at hax
        clear HK hda
        go_wp2_with fail
        exact ⟨⟨i + 1, by omega, by rw [show ((i + 1 : Nat) : Int) = (i : Int) + 1 by omega], by trivial, HN⟩, by simp [intOf]; omega⟩
      · have HN := Lib.hid (show T = some i by rw [HK.out, hda, findV, if_pos hax])
        have hxa : (x.toList == a.toList) = true := by rw [eq_of_beq hax]; simp
        clear HK hda
        go_wp2_with fail
        go_ret
        rw [HN.out]
        exact ⟨rfl, rfl⟩
    · have HN := Lib.hid (show T = none by rw [HK.out, List.drop_eq_nil_of_le (by rw [HNL.out]; exact hge)]; rfl)
      go_wp2_with fail
      go_ret
      rw [HN.out]
      exact ⟨rfl, rfl⟩
set_option maxRecDepth 100000 in
theorem pcontains (w : World) (A : Option Addr) (n c : Nat) (ns : List ByteArray) (hns : Cv w A (ns.map Value.string)) (hnl : ns.length = n) (hn : n ≤ 100000) (x : ByteArray) :
    Calls Try.prog 19 #[.slice A n c, .string x] w fun e w' => e = .returned (.bool (findV ns x 0).isSome) ∧ w = w' := by
  have con := pindex w A n c ns hns hnl hn x
  clear hns hnl
  generalize findV ns x 0 = r at *
  cases r with
  | none =>
    simp only [ixOf] at con
    go_enter Try.func19, Try.ntmps19
    go_wp2_with fail
    refine con.mono ?_
    rintro e w' ⟨rfl, rfl⟩
    go_wp2_with fail
    go_ret
    exact ⟨rfl, rfl⟩
  | some i =>
    simp only [ixOf] at con
    have z : decide ((0 : Int) ≤ (i : Int)) = true := by simp
    go_enter Try.func19, Try.ntmps19
    go_wp2_with fail
    refine con.mono ?_
    rintro e w' ⟨rfl, rfl⟩
    go_wp2_with fail
    go_ret
    exact ⟨rfl, rfl⟩
/-- A table, by value: names and values. -/
abbrev tab (A1 : Option Addr) (n1 c1 : Nat) (A2 : Option Addr) (n2 c2 : Nat) : Value := .agg #[.slice A1 n1 c1, .slice A2 n2 c2]
set_option maxRecDepth 100000 in
set_option maxHeartbeats 1000000 in
theorem phasAll (w : World) (A1 : Option Addr) (n1 c1 : Nat) (ns : List ByteArray) (hns : Cv w A1 (ns.map Value.string)) (hnl : ns.length = n1) (hn : n1 ≤ 100000) (A2 : Option Addr) (n2 c2 : Nat) (A : Option Addr) (n c : Nat) (xs : List ByteArray) (hxs : Cv w A (xs.map Value.string)) (hxl : xs.length = n) (hm : n ≤ 100000) :
    Calls Try.prog 13 #[tab A1 n1 c1 A2 n2 c2, .slice A n c] w fun e w' => e = .returned (.bool (xs.all fun x => (findV ns x 0).isSome)) ∧ Below w.heap.size w w' := by
  obtain ⟨T, hT⟩ : ∃ T, T = xs.all fun x => (findV ns x 0).isSome := ⟨_, rfl⟩
  rw [← hT]
  obtain ⟨w1, hw1⟩ : ∃ w1, w1 = w.alloc (.cells #[.slice A1 n1 c1, .slice A2 n2 c2] 44) := ⟨_, rfl⟩
  have hb1 : Below w.heap.size w w1 := by rw [hw1]; exact (Below.refl _ _).alloc (Nat.le_refl _) _
  have hc1 : Cel w1 w.heap.size 44 [.slice A1 n1 c1, .slice A2 n2 c2] := by rw [hw1]; exact Cel.new w _ _
  have k0 := hc1.cell 0
  have HB1 := Lib.hid hb1
  have HCO := Lib.hid (fun x => pcontains w1 A1 n1 c1 ns (hns.below hb1) hnl hn x)
  have HXS := Lib.hid (hxs.below hb1)
  have HXL := Lib.hid hxl
  have HT := Lib.hid (show T = (xs.drop 0).all fun x => (findV ns x 0).isSome from hT)
  clear hns hnl hT hxs hxl hb1 hc1
  go_enter Try.func13, Try.ntmps13
  go_wp2_with fail
  rw [← hw1]
  clear hw1
  go_loopw [9] (fun v9 wr => ∃ (i : Nat), i ≤ n ∧ v9 = .int .i64 (i : Int) ∧ w1 = wr ∧ Hid (T = (xs.drop i).all fun x => (findV ns x 0).isSome)) (fun v9 _ => n - (intOf v9).toNat)
  case atStart => exact ⟨0, Nat.zero_le _, rfl, rfl, HT⟩
  case round =>
    clear HT
    obtain ⟨i, hi, rfl, rfl, HK⟩ := hrel
    rcases Nat.lt_or_ge i n with hlt | hge
    · obtain ⟨a, ha⟩ : ∃ a, xs[i]? = some a := ⟨_, List.getElem?_eq_getElem (by rw [HXL.out]; exact hlt)⟩
      have hda : xs.drop i = a :: xs.drop (i + 1) := by
        obtain ⟨hl, rfl⟩ := List.getElem?_eq_some_iff.1 ha
        exact List.drop_eq_getElem_cons hl
      obtain ⟨ad, rfl, a0⟩ := HXS.out.at_ (show (xs.map Value.string)[i]? = some (.string a) by rw [List.getElem?_map, ha]; rfl)
      have con := HCO.out a
      clear ha
      cases hax : (findV ns a 0).isSome
      · rw [hax] at con
        have HN := Lib.hid (show T = false by rw [HK.out, hda, List.all_cons, hax, Bool.false_and])
        clear HK hda hax
        go_wp2_with fail
        refine con.mono ?_
        rintro e w' ⟨rfl, rfl⟩
        go_wp2_with fail
        go_ret
        rw [HN.out]
        exact ⟨rfl, HB1.out⟩
      · rw [hax] at con
        have HN := Lib.hid (show T = (xs.drop (i + 1)).all fun x => (findV ns x 0).isSome by rw [HK.out, hda, List.all_cons, hax, Bool.true_and])
        clear HK hda hax
        go_wp2_with fail
        refine con.mono ?_
        rintro e w' ⟨rfl, rfl⟩
        go_wp2_with fail
        exact ⟨⟨i + 1, by omega, by rw [show ((i + 1 : Nat) : Int) = (i : Int) + 1 by omega], by trivial, HN⟩, by simp [intOf]; omega⟩
    · have HN := Lib.hid (show T = true by rw [HK.out, List.drop_eq_nil_of_le (by rw [HXL.out]; exact hge)]; rfl)
      go_wp2_with fail
      go_ret
      rw [HN.out]
      exact ⟨rfl, HB1.out⟩
/-- What value and meaning return: bytes that can be read. -/
def BySays (w : World) (D : Nat) (b : List (BitVec 8)) (e : Ending) (w' : World) : Prop := Below w.heap.size w w' ∧ ∃ A' c', e = .returned (.slice A' b.length c') ∧ Bs w' D A' b.length b
theorem by_ok {w w' : World} {D m c : Nat} {A : Option Addr} {b b' : List (BitVec 8)} (hb : Below w.heap.size w w') (hr : b' = b) (hy : Bs w' D A m b) : BySays w D b' (.returned (.slice A m c)) w' := by
  have := hy.len
  subst hr; subst this; exact ⟨hb, A, c, rfl, hy⟩
set_option maxRecDepth 100000 in
set_option maxHeartbeats 1000000 in
theorem pvalue (w : World) (D : Nat) (hD : D ≤ w.heap.size) (A1 : Option Addr) (n1 c1 : Nat) (ns : List ByteArray) (hns : Cv w A1 (ns.map Value.string)) (hnl : ns.length = n1) (hn : n1 ≤ 100000) (A2 : Option Addr) (n2 c2 : Nat) (vs : List V1) (hvs : Vals w D A2 vs) (hvl : vs.length = n2) (hn2 : n2 ≤ 100000) (x : ByteArray) (hx : (findV ns x 0).isSome = true) :
    Calls Try.prog 25 #[tab A1 n1 c1 A2 n2 c2, .string x] w (BySays w D ((valR ns (vs.map V1.s) x).getD [])) := by
  obtain ⟨T, hT⟩ : ∃ T, T = (valR ns (vs.map V1.s) x).getD [] := ⟨_, rfl⟩
  rw [← hT]
  obtain ⟨w1, hw1⟩ : ∃ w1, w1 = w.alloc (.cells #[.slice A1 n1 c1, .slice A2 n2 c2] 44) := ⟨_, rfl⟩
  have hb1 : Below w.heap.size w w1 := by rw [hw1]; exact (Below.refl _ _).alloc (Nat.le_refl _) _
  have hc1 : Cel w1 w.heap.size 44 [.slice A1 n1 c1, .slice A2 n2 c2] := by rw [hw1]; exact Cel.new w _ _
  have k0 := hc1.cell 0
  have k1 := hc1.cell 1
  have HB1 := Lib.hid hb1
  have con := pindex w1 A1 n1 c1 ns (hns.below hb1) hnl hn x
  have HVS := Lib.hid (hvs.below hD hb1)
  have HVL := Lib.hid hvl
  obtain ⟨i, hi⟩ := Option.isSome_iff_exists.1 hx
  rw [hi] at con
  simp only [ixOf] at con
  have HT := Lib.hid (show T = (vs.map V1.s).getD i [] by rw [hT]; unfold valR; rw [hi]; rfl)
  clear hns hnl hT hvs hvl hb1 hc1 hi hx
  rcases Nat.lt_or_ge i n2 with hlm | hgm
  · obtain ⟨v, hv⟩ : ∃ v, vs[i]? = some v := ⟨_, List.getElem?_eq_getElem (by rw [HVL.out]; exact hlm)⟩
    obtain ⟨vd, rfl, v0⟩ := HVS.out.ry.at_ (show (vs.map V1.cell)[i]? = some v.cell by rw [List.getElem?_map, hv]; rfl)
    change _ = some (Value.slice v.A v.s.length v.c) at v0
    have HE := Lib.hid (show T = v.s by rw [HT.out, List.getD_eq_getElem?_getD, List.getElem?_map, hv]; rfl)
    have HBS := Lib.hid (HVS.out.bs v (List.mem_of_getElem? hv))
    clear hv
    generalize v.s.length = vl at *
    go_enter Try.func25, Try.ntmps25
    go_wp2_with fail
    rw [← hw1]
    clear hw1
    refine con.mono ?_
    rintro e w' ⟨rfl, rfl⟩
    go_wp2_with fail
    go_ret
    exact by_ok HB1.out HE.out HBS.out
  · have HE := Lib.hid (show T = [] by rw [HT.out, List.getD_eq_getElem?_getD, List.getElem?_map, List.getElem?_eq_none (by rw [HVL.out]; exact hgm)]; rfl)
    go_enter Try.func25, Try.ntmps25
    go_wp2_with fail
    rw [← hw1]
    clear hw1
    refine con.mono ?_
    rintro e w' ⟨rfl, rfl⟩
    go_wp2_with fail
    go_ret
    exact by_ok HB1.out HE.out Bs.nil_
set_option maxRecDepth 100000 in
set_option maxHeartbeats 1000000 in
theorem pmeaning (w : World) (D : Nat) (hD : D ≤ w.heap.size) (A1 : Option Addr) (n1 c1 : Nat) (ns : List ByteArray) (hns : Cv w A1 (ns.map Value.string)) (hnl : ns.length = n1) (hn : n1 ≤ 100000) (A2 : Option Addr) (n2 c2 : Nat) (vs : List V1) (hvs : Vals w D A2 vs) (hvl : vs.length = n2) (hn2 : n2 ≤ 100000)
    (x : Pce) (A : Option Addr) (m c : Nat) (hm : x.t.length = m) (hx : Bs w D A m x.t) (hin : x.k = 1 → (findV ns (str x.t) 0).isSome = true) :
    Calls Try.prog 21 #[tab A1 n1 c1 A2 n2 c2, .agg #[.int .i64 (x.k : Int), .int .i64 (x.n : Int), .slice A m c]] w (BySays w D (mean ns (vs.map V1.s) x)) := by
  obtain ⟨T, hT⟩ : ∃ T, T = mean ns (vs.map V1.s) x := ⟨_, rfl⟩
  rw [← hT]
  obtain ⟨w1, hw1⟩ : ∃ w1, w1 = (w.alloc (.cells #[.slice A1 n1 c1, .slice A2 n2 c2] 44)).alloc (.cells #[.int .i64 (x.k : Int), .int .i64 (x.n : Int), .slice A m c] 41) := ⟨_, rfl⟩
  have hb1 : Below w.heap.size w w1 := by rw [hw1]; exact ((Below.refl _ _).alloc (Nat.le_refl _) _).alloc (by simp) _
  have hc1 : Cel w1 w.heap.size 44 [.slice A1 n1 c1, .slice A2 n2 c2] := by rw [hw1]; exact (Cel.new w _ _).alloc _
  have hc2 : Cel w1 (w.heap.size + 1) 41 [.int .i64 (x.k : Int), .int .i64 (x.n : Int), .slice A m c] := by rw [hw1]; exact (by simpa using Cel.new (w.alloc (.cells #[.slice A1 n1 c1, .slice A2 n2 c2] 44)) 41 [.int .i64 (x.k : Int), .int .i64 (x.n : Int), .slice A m c])
  have k0 := hc1.cell 0
  have k1 := hc1.cell 1
  have j0 := hc2.cell 0
  have j2 := hc2.cell 2
  have HB1 := Lib.hid hb1
  have HX := Lib.hid (hx.below (hb1.mono hD))
  by_cases h1 : x.k = 1
  · have con := pvalue w1 D (Nat.le_trans hD hb1.size) A1 n1 c1 ns (hns.below hb1) hnl hn A2 n2 c2 vs (hvs.below hD hb1) hvl hn2 (str x.t) (hin h1)
    have HT := Lib.hid (show T = (valR ns (vs.map V1.s) (str x.t)).getD [] by rw [hT, mean, if_pos h1])
    have hcv : ∀ V : World, V = w1 → (convert 22 9 (.slice A m c)).run Try.prog V = .ok (.string (str x.t)) V := fun V hV => by
      subst hV
      exact (Bs.bp HX.out).string c (P := Try.prog) (src := 22) (dst := 9) Try.underlying22 Try.underlying5 Try.underlying9
    have hcv1 := hcv w1 rfl
    have z1 : ((x.k : Int) == 1) = true := by rw [h1]; rfl
    rw [hw1] at hcv1
    clear hcv hns hvs hT hb1 hc1 hc2 hx hin h1 k0 k1 j0 j2
    generalize str x.t = st at *
    generalize x.k = xk at *
    generalize x.n = xn at *
    go_enter Try.func21, Try.ntmps21
    go_wp2_with fail
    rw [← hw1]
    clear hw1 hcv1
    refine con.mono ?_
    rintro e w' ⟨hb2, A', c', rfl, hy⟩
    have HB2 := Lib.hid (HB1.out.trans (hb2.mono HB1.out.size))
    have HY := Lib.hid hy
    clear hb2 hy
    go_wp2_with fail
    go_ret
    rw [HT.out]
    exact ⟨HB2.out, A', c', rfl, HY.out⟩
  · have HT := Lib.hid (show T = x.t by rw [hT, mean, if_neg h1])
    have z1 : ((x.k : Int) == 1) = false := by simp; omega
    clear hns hvs hT hb1 hc1 hc2 hx hin h1 k0 k1 j0 j2
    generalize x.k = xk at *
    generalize x.n = xn at *
    go_enter Try.func21, Try.ntmps21
    go_wp2_with fail
    rw [← hw1]
    clear hw1
    go_ret
    exact by_ok HB1.out HT.out HX.out
end Go.Proofs.Ytamklllmjppinaa.Vars
