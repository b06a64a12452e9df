/-
  The document's lines (layer 13): values, and a filled text.
-/
import Derived.Test.YtamklllmjppinaaVarsNames
namespace Go.Proofs.Ytamklllmjppinaa.Vars
open Go.RowKit
open Go.Proofs.Ytamklllmjppinaa.Lex (letter digit within b_ne drop_at Owb lit_one rowB run_cutMid bs_cut add_pos')
set_option linter.unusedVariables false
set_option linter.unusedSimpArgs false

/-- Where a name stands first. -/
def findV : List ByteArray → ByteArray → Nat → Option Nat
  | [], _, _ => none
  | a :: l, n, i => if (a.toList == n.toList) = true then some i else findV l n (i + 1)
/-- The value of a name. -/
def valR (ns : List ByteArray) (vs : List (List B)) (n : ByteArray) : Option (List B) := (findV ns n 0).map fun i => vs.getD i []
/-- The cells cs can be read from A on. -/
def Cv (w : World) (A : Option Addr) (cs : List Value) : Prop := cs ≠ [] → ∃ ad, A = some ad ∧ ∀ j u, cs[j]? = some u → w.cell? (ad.add j) = some u
theorem Cv.below {w w' : World} {A : Option Addr} {cs : List Value} (h : Cv w A cs) (hb : Below w.heap.size w w') : Cv w' A cs := fun hn => by
  obtain ⟨ad, e, hc⟩ := h hn
  exact ⟨ad, e, fun j u hj => (hb.cell (cell_lt (hc j u hj))).trans (hc j u hj)⟩
theorem Cv.at_ {w : World} {A : Option Addr} {cs : List Value} (h : Cv w A cs) {i : Nat} {u : Value} (hi : cs[i]? = some u) : ∃ ad, A = some ad ∧ w.cell? (ad.add i) = some u := by
  obtain ⟨ad, rfl, hc⟩ := h (fun q => by rw [q] at hi; simp at hi)
  exact ⟨ad, rfl, hc i u hi⟩
/-- A value: its bytes, where they lie. -/
structure V1 where
  s : List (BitVec 8)
  A : Option Addr
  c : Nat
def V1.cell (x : V1) : Value := .slice x.A x.s.length x.c
/-- Values that can be read. -/
structure Vals (w : World) (D : Nat) (A : Option Addr) (vs : List V1) : Prop where
  ry : Cv w A (vs.map V1.cell)
  bs : ∀ x ∈ vs, Bs w D x.A x.s.length x.s
theorem Vals.below {w w' : World} {D : Nat} {A : Option Addr} {vs : List V1} (h : Vals w D A vs) (hD : D ≤ w.heap.size) (hb : Below w.heap.size w w') : Vals w' D A vs := ⟨h.ry.below hb, fun x hx => (h.bs x hx).below (hb.mono hD)⟩
/-- What Value returns. -/
def VlSays (w : World) (D : Nat) (r : Option (List (BitVec 8))) (e : Ending) (w' : World) : Prop := w = w' ∧ match r with
  | none => e = .returned (.tuple #[.slice none 0 0, .bool false])
  | some b => ∃ A' c', e = .returned (.tuple #[.slice A' b.length c', .bool true]) ∧ Bs w D A' b.length b
theorem vl_none {w : World} {D : Nat} {r : Option (List (BitVec 8))} (hr : r = none) : VlSays w D r (.returned (.tuple #[.slice none 0 0, .bool false])) w := by subst hr; exact ⟨rfl, rfl⟩
theorem vl_some {w : World} {D m c : Nat} {A : Option Addr} {b : List (BitVec 8)} {r : Option (List (BitVec 8))} (hr : r = some b) (hb : Bs w D A m b) : VlSays w D r (.returned (.tuple #[.slice A m c, .bool true])) w := by
  have := hb.1
  subst hr; subst this; exact ⟨rfl, A, c, rfl, hb⟩
set_option maxRecDepth 100000 in
set_option maxHeartbeats 1000000 in
theorem value_ (w : World) (D : Nat) (A : Option Addr) (n c : Nat) (ns : List ByteArray) (hns : Cv w A (ns.map Value.string)) (hnl : ns.length = n) (hn : n ≤ 100000) (A' : Option Addr) (m c' : Nat) (vs : List V1) (hvs : Vals w D A' vs) (hvl : vs.length = m) (hm : m ≤ 100000) (x : ByteArray) :
    Calls Try.prog 15 #[.slice A n c, .slice A' m c', .string x] w (VlSays w D (valR ns (vs.map V1.s) x)) := by
  obtain ⟨T, hT⟩ : ∃ T, T = valR ns (vs.map V1.s) x := ⟨_, rfl⟩
  rw [← hT]
  have HNS := Lib.hid hns
  have HNL := Lib.hid hnl
  have HVS := Lib.hid hvs
  have HVL := Lib.hid hvl
  have HT := Lib.hid (show T = (findV (ns.drop 0) x 0).map fun i => (vs.map V1.s).getD i [] from hT)
  clear hns hnl hvs hvl hT
  go_enter Try.func15, Try.ntmps15
  go_wp2_with fail
  go_loopw [8] (fun v8 wr => ∃ (i : Nat), i ≤ n ∧ v8 = .int .i64 (i : Int) ∧ w = wr ∧ Hid (T = (findV (ns.drop i) x i).map fun i => (vs.map V1.s).getD i [])) (fun v8 _ => n - (intOf v8).toNat)
  case atStart => exact ⟨0, Nat.zero_le _, rfl, rfl, HT⟩
  case round =>
    clear HT
    obtain ⟨i, hi, rfl, rfl, HK⟩ := hrel
    rcases Nat.lt_or_ge i n with hlt | hge
    · obtain ⟨a, ha⟩ : ∃ a, ns[i]? = some a := ⟨_, List.getElem?_eq_getElem (by rw [HNL.out]; exact hlt)⟩
      have hda : ns.drop i = a :: ns.drop (i + 1) := by
        obtain ⟨hl, rfl⟩ := List.getElem?_eq_some_iff.1 ha
        exact List.drop_eq_getElem_cons hl
      obtain ⟨ad, rfl, a0⟩ := HNS.out.at_ (show (ns.map Value.string)[i]? = some (.string a) by rw [List.getElem?_map, ha]; rfl)
      clear ha
      cases hax : (a.toList == x.toList)
      · have HN := Lib.hid (show T = (findV (ns.drop (i + 1)) x (i + 1)).map fun i => (vs.map V1.s).getD i [] by rw [HK.out, hda, findV, if_neg (by rw [hax]; simp)])
        clear HK hda
        go_wp2_with fail
        exact ⟨⟨i + 1, by omega, by rw [show ((i + 1 : Nat) : Int) = (i : Int) + 1 by omega], by trivial, HN⟩, by simp [intOf]; omega⟩
      · have HN := Lib.hid (show T = some ((vs.map V1.s).getD i []) by rw [HK.out, hda, findV, if_pos hax]; rfl)
        clear HK hda
        rcases Nat.lt_or_ge i m with hlm | hgm
        · obtain ⟨v, hv⟩ : ∃ v, vs[i]? = some v := ⟨_, List.getElem?_eq_getElem (by rw [HVL.out]; exact hlm)⟩
          obtain ⟨vd, rfl, v0⟩ := HVS.out.ry.at_ (show (vs.map V1.cell)[i]? = some v.cell by rw [List.getElem?_map, hv]; rfl)
          change _ = some (Value.slice v.A v.s.length v.c) at v0
          have HE := Lib.hid (show T = some v.s by rw [HN.out, List.getD_eq_getElem?_getD, List.getElem?_map, hv]; rfl)
          have HBS := Lib.hid (HVS.out.bs v (List.mem_of_getElem? hv))
          clear hv
          generalize v.s.length = vl at *
          go_wp2_with fail
          go_ret2
          exact vl_some HE.out HBS.out
        · have HE := Lib.hid (show T = some [] by rw [HN.out, List.getD_eq_getElem?_getD, List.getElem?_map, List.getElem?_eq_none (by rw [HVL.out]; exact hgm)]; rfl)
          go_wp2_with fail
          go_ret2
          exact vl_some HE.out Bs.nil_
    · have HN := Lib.hid (show T = none by rw [HK.out, List.drop_eq_nil_of_le (by rw [HNL.out]; exact hge)]; rfl)
      go_wp2_with fail
      go_ret2
      exact vl_none HN.out
end Go.Proofs.Ytamklllmjppinaa.Vars
