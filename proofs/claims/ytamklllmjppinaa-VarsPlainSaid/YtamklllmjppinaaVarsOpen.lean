/-
  Layer 13: names and values that came in; whether they are few.
-/
import Derived.Test.YtamklllmjppinaaVarsFill
import Derived.Test.YtamklllmjppinaaOpen
namespace Go.Proofs.Ytamklllmjppinaa.Vars
open Go.RowKit
set_option linter.unusedVariables false
set_option linter.unusedSimpArgs false

theorem pick {α : Type} (P : Nat → α → Prop) : ∀ n, (∀ i, i < n → ∃ x, P i x) → ∃ l : List α, l.length = n ∧ ∀ i x, l[i]? = some x → P i x
  | 0, _ => ⟨[], rfl, by simp⟩
  | n + 1, h => by
    obtain ⟨l, hl, hp⟩ := pick P n (fun i hi => h i (by omega))
    obtain ⟨x, hx⟩ := h n (by omega)
    refine ⟨l ++ [x], by simp [hl], fun i y hy => ?_⟩
    rcases Nat.lt_or_ge i l.length with hi | hi
    · rw [List.getElem?_append_left hi] at hy
      exact hp i y hy
    · have hi2 : i = n := by have := (List.getElem?_eq_some_iff.1 hy).1; simp at this; omega
      subst hi2
      rw [List.getElem?_append_right hi, hl, Nat.sub_self] at hy
      simp at hy
      subst hy
      exact hx
theorem cv_cells {α : Type} (f : α → Value) {w : World} {ad : Addr} {l : List α} (h : ∀ (i : Nat) x, l[i]? = some x → w.cell? (ad.add i) = some (f x)) : Cv w (some ad) (l.map f) := fun _ => ⟨ad, rfl, fun j u hj => by
  rw [List.getElem?_map] at hj
  cases hx : l[j]? with
  | none => rw [hx] at hj; cases hj
  | some x => rw [hx] at hj; cases hj; exact h j x hx⟩
/-- Names that came in. -/
theorem names_of_isv {w : World} {A : Option Addr} {l c : Nat} (h : IsV w (.slice .string) (.slice A l c)) : ∃ ns : List ByteArray, ns.length = l ∧ l ≤ maxLen ∧ Cv w A (ns.map Value.string) := by
  cases h with
  | nil => exact ⟨[], rfl, Nat.zero_le _, fun h => absurd rfl h⟩
  | slice U hl hc hcell hU =>
    rename_i ad
    obtain ⟨ns, hnl, hp⟩ := pick (fun i (a : ByteArray) => U i = .string a) l (fun i hi => by
      have u0 := hU i hi
      generalize U i = a0 at *
      cases u0 with | string hs => exact ⟨_, rfl⟩)
    refine ⟨ns, hnl, by omega, cv_cells Value.string fun i x hi => ?_⟩
    have hil : i < l := by have := (List.getElem?_eq_some_iff.1 hi).1; omega
    rw [hcell i hil, hp i x hi]
/-- Values that came in. -/
theorem vals_of_rows {w : World} {A : Option Addr} {l c : Nat} (h : (A = none ∧ l = 0 ∧ c = 0) ∨ ∃ x, A = some x ∧ l ≤ c ∧ c ≤ maxLen ∧ ∀ i, i < l → ∃ a' l' c' zs, w.cell? (x.add i) = some (.slice a' l' c') ∧
      ((a' = none ∧ l' = 0 ∧ c' = 0 ∧ zs = []) ∨ ∃ x, a' = some x ∧ l' ≤ c' ∧ c' ≤ maxLen ∧ zs.length = c' ∧ (∀ i, i < zs.length → w.cell? (x.add i) = some (.int .u8 (zs.getD i 0))) ∧ ∀ n ∈ zs, (Lit.int .u8 n).wf = true)) :
    ∃ vs : List V1, vs.length = l ∧ l ≤ maxLen ∧ Vals w w.heap.size A vs ∧ ∀ x ∈ vs, x.s.length ≤ maxLen := by
  rcases h with ⟨rfl, rfl, rfl⟩ | ⟨ad, rfl, hlc, hcm, hel⟩
  · exact ⟨[], rfl, by unfold maxLen; omega, ⟨fun h => absurd rfl h, by simp⟩, by simp⟩
  · obtain ⟨ss, hsl, hp⟩ := pick (fun i (x : V1) => w.cell? (ad.add i) = some x.cell ∧ Bs w w.heap.size x.A x.s.length x.s ∧ x.s.length ≤ maxLen) l (fun i hi => by
      obtain ⟨a', l', c', zs, hcell, hr⟩ := hel i hi
      obtain ⟨bs, hb, hm⟩ := Bs.of_row hr
      have hbl : bs.length = l' := hb.1
      subst hbl
      exact ⟨⟨bs, a', c'⟩, hcell, hb, hm⟩)
    refine ⟨ss, hsl, by omega, ⟨cv_cells V1.cell fun i x hi => (hp i x hi).1, fun x hx => ?_⟩, fun x hx => ?_⟩
    · obtain ⟨i, hi⟩ := List.mem_iff_getElem?.1 hx
      exact (hp i x hi).2.1
    · obtain ⟨i, hi⟩ := List.mem_iff_getElem?.1 hx
      exact (hp i x hi).2.2
set_option maxRecDepth 100000 in
set_option maxHeartbeats 1000000 in
theorem few13 (w : World) (A1 : Option Addr) (n1 c1 : Nat) (ns : List ByteArray) (hns : Cv w A1 (ns.map Value.string)) (hnl : ns.length = n1) (hn1 : n1 ≤ maxLen) (A2 : Option Addr) (n2 c2 : Nat) (vs : List V1) (hvs : Vals w w.heap.size A2 vs) (hvl : vs.length = n2) (hn2 : n2 ≤ maxLen) :
    Calls Try.prog 5 #[.slice A1 n1 c1, .slice A2 n2 c2] w fun e w' => ∃ b, e = .returned (.bool b) ∧ w = w' ∧ (b = true → n1 ≤ 20 ∧ n2 ≤ 20 ∧ ∀ v ∈ vs, v.s.length ≤ 300) := by
  have HNS := Lib.hid hns
  have HNL := Lib.hid hnl
  have HVS := Lib.hid hvs
  have HVL := Lib.hid hvl
  clear hns hnl hvs hvl
  unfold maxLen at hn1 hn2
  go_enter Try.func5, Try.ntmps5
  go_wp2_with fail
  go_loopw [5] (fun v5 wr => ∃ (i : Nat), i ≤ n1 ∧ v5 = .int .i64 (i : Int) ∧ w = wr) (fun v5 _ => n1 - (intOf v5).toNat)
  case atStart => exact ⟨0, Nat.zero_le _, rfl, rfl⟩
  case round =>
    obtain ⟨i, hi, rfl, rfl⟩ := hrel
    rcases Nat.lt_or_ge i n1 with hlt | hge
    · obtain ⟨a, ha⟩ : ∃ a, ns[i]? = some a := ⟨_, List.getElem?_eq_getElem (by rw [HNL.out]; exact hlt)⟩
      obtain ⟨ad, rfl, a0⟩ := HNS.out.at_ (show (ns.map Value.string)[i]? = some (.string a) by rw [List.getElem?_map, ha]; rfl)
      clear ha
      by_cases h100 : 100 < a.size
      · go_wp2_with fail
        go_ret
        exact ⟨false, rfl, rfl, fun h => by cases h⟩
      · go_wp2_with fail
        exact ⟨⟨i + 1, by omega, by rw [show ((i + 1 : Nat) : Int) = (i : Int) + 1 by omega], by trivial⟩, by simp [intOf]; omega⟩
    · go_wp2_with fail
      go_loopw [6] (fun v6 wr => ∃ (j : Nat), j ≤ n2 ∧ v6 = .int .i64 (j : Int) ∧ w = wr ∧ Hid (∀ v ∈ vs.take j, v.s.length ≤ 300)) (fun v6 _ => n2 - (intOf v6).toNat)
      case atStart => exact ⟨0, Nat.zero_le _, rfl, rfl, Lib.hid (by simp)⟩
      case round =>
        obtain ⟨j, hj, rfl, rfl, HK⟩ := hrel
        rcases Nat.lt_or_ge j n2 with hlt2 | hge2
        · obtain ⟨v, hv⟩ : ∃ v, vs[j]? = some v := ⟨_, List.getElem?_eq_getElem (by rw [HVL.out]; exact hlt2)⟩
          obtain ⟨vd, rfl, v0⟩ := HVS.out.ry.at_ (show (vs.map V1.cell)[j]? = some v.cell by rw [List.getElem?_map, hv]; rfl)
          change _ = some (Value.slice v.A v.s.length v.c) at v0
          by_cases h300 : 300 < v.s.length
          · generalize v.s.length = vl at *
            clear hv
            go_wp2_with fail
            go_ret
            exact ⟨false, rfl, rfl, fun h => by cases h⟩
          · have HN := Lib.hid (show ∀ x ∈ vs.take (j + 1), x.s.length ≤ 300 by
              rw [List.take_add_one, hv]
              intro x hx
              rcases List.mem_append.1 hx with hx | hx
              · exact HK.out x hx
              · simp at hx; subst hx; omega)
            generalize v.s.length = vl at *
            clear hv
            go_wp2_with fail
            exact ⟨⟨j + 1, by omega, by rw [show ((j + 1 : Nat) : Int) = (j : Int) + 1 by omega], by trivial, HN⟩, by simp [intOf]; omega⟩
        · have HA := Lib.hid (show ∀ v ∈ vs, v.s.length ≤ 300 from fun v hv => HK.out v (by rw [List.take_of_length_le (by rw [HVL.out]; exact hge2)]; exact hv))
          by_cases h1 : n1 ≤ 20
          · by_cases h2 : n2 ≤ 20
            · go_wp2_with fail
              go_ret
              exact ⟨_, rfl, rfl, fun _ => ⟨h1, h2, HA.out⟩⟩
            · go_wp2_with fail
              go_ret
              exact ⟨_, rfl, rfl, fun h => by simp at h; omega⟩
          · go_wp2_with fail
            go_ret
            exact ⟨rfl, rfl⟩
end Go.Proofs.Ytamklllmjppinaa.Vars
