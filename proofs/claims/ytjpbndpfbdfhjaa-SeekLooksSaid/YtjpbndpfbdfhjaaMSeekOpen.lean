/-
  What came in, of layer 10: the program's arms (any instructions), patterns (any bytes).
-/
import Derived.Test.YtjpbndpfbdfhjaaMSeekAs
import Derived.Test.YtjpbndpfbdfhjaaMSeekArms
import Derived.Test.YtjpbndpfbdfhjaaMNfaOpen
namespace Go.Proofs.Ytjpbndpfbdfhjaa.Seek
open Go.RowKit Go.Proofs.Ytjpbndpfbdfhjaa.Nfa
open Go.Proofs.Ytjpbndpfbdfhjaa.Reg (Sp RSpn sflat)
set_option linter.unusedVariables false
set_option linter.unusedSimpArgs false

def fit64 (x : Int) : Prop := -9223372036854775808 ≤ x ∧ x < 9223372036854775808
theorem insts_of_isv {w : World} {A : Option Addr} {l c : Nat} (h : IsV w (.recs [.int .i64, .int .i64, .int .i64, .bool, .recs [.int .u8, .int .u8]]) (.slice A l c)) :
    ∃ us : List Iv, us.length = l ∧ l ≤ maxLen ∧ Pr9 w A us ∧ ∀ u ∈ us, u.i.sp.length ≤ maxLen ∧ fit64 u.i.x ∧ fit64 u.i.y := by
  cases h with
  | rnil => exact ⟨[], rfl, by unfold maxLen; omega, ⟨fun h => absurd rfl h, by simp⟩, by simp⟩
  | recs U hl hc hcell hU =>
    rename_i x
    obtain ⟨us, hsl, hp⟩ := pick (fun i (s : Iv) => (U i 0 = .int .i64 s.i.kind ∧ U i 1 = .int .i64 s.i.x ∧ U i 2 = .int .i64 s.i.y ∧ U i 3 = .bool s.i.neg ∧ U i 4 = .slice s.A s.i.sp.length s.c) ∧ Cz w s.A (sflat s.i.sp) ∧ s.i.sp.length ≤ maxLen ∧ fit64 s.i.x ∧ fit64 s.i.y) l (fun i hi => by
      have u0 := hU i 0 _ hi rfl
      have u1 := hU i 1 _ hi rfl
      have u2 := hU i 2 _ hi rfl
      have u3 := hU i 3 _ hi rfl
      have u4 := hU i 4 _ hi rfl
      generalize U i 0 = a0 at *
      generalize U i 1 = a1 at *
      generalize U i 2 = a2 at *
      generalize U i 3 = a3 at *
      generalize U i 4 = a4 at *
      cases u0 with | int h0 =>
      cases u1 with | int h1 =>
      cases u2 with | int h2 =>
      cases u3 with | bool b =>
      obtain ⟨kA, kl, kc, rfl⟩ : ∃ A l c, a4 = .slice A l c := by cases u4 <;> exact ⟨_, _, _, rfl⟩
      obtain ⟨sp, rfl, hml, hcz⟩ := spans_of_isv u4
      exact ⟨⟨⟨_, _, _, b, sp⟩, kA, kc⟩, ⟨rfl, rfl, rfl, rfl, rfl⟩, hcz, hml, i64_wf h1, i64_wf h2⟩)
    refine ⟨us, hsl, by omega, ⟨cz_of Iv.cells 5 (by decide) (fun _ => rfl) fun i s k hi hk u hu => ?_, fun u hu => ?_⟩, fun u hu => ?_⟩
    · have hil : i < l := by have := (List.getElem?_eq_some_iff.1 hi).1; omega
      obtain ⟨⟨e0, e1, e2, e3, e4⟩, _⟩ := hp i s hi
      have c0 := hcell i 0 hil (by decide)
      have c1 := hcell i 1 hil (by decide)
      have c2 := hcell i 2 hil (by decide)
      have c3 := hcell i 3 hil (by decide)
      have c4 := hcell i 4 hil (by decide)
      rw [e0] at c0
      rw [e1] at c1
      rw [e2] at c2
      rw [e3] at c3
      rw [e4] at c4
      match k, hk with
      | 0, _ => cases hu; exact c0
      | 1, _ => cases hu; exact c1
      | 2, _ => cases hu; exact c2
      | 3, _ => cases hu; exact c3
      | 4, _ => cases hu; exact c4
    · obtain ⟨i, hi⟩ := List.mem_iff_getElem?.1 hu
      exact (hp i u hi).2.1
    · obtain ⟨i, hi⟩ := List.mem_iff_getElem?.1 hu
      exact (hp i u hi).2.2
theorem cz_cells {α : Type} (f : α → Value) {w : World} {ad : Addr} {l : List α} (h : ∀ (i : Nat) x, l[i]? = some x → w.cell? (ad.add i) = some (f x)) : Cz w (some ad) (l.map f) := fun _ => ⟨ad, rfl, fun j u hj => by
  rw [List.getElem?_map] at hj
  cases hx : l[j]? with
  | none => rw [hx] at hj; cases hj
  | some x => rw [hx] at hj; cases hj; exact h j x hx⟩
theorem arms_of_isv {w : World} {A : Option Addr} {l c : Nat} (h : IsV w (.slice (.recs [.int .i64, .int .i64, .int .i64, .bool, .recs [.int .u8, .int .u8]])) (.slice A l c)) :
    ∃ xs : List Av, xs.length = l ∧ l ≤ maxLen ∧ Pas w A xs ∧ ∀ x ∈ xs, x.us.length ≤ maxLen ∧ ∀ u ∈ x.us, u.i.sp.length ≤ maxLen ∧ fit64 u.i.x ∧ fit64 u.i.y := by
  cases h with
  | nil => exact ⟨[], rfl, by unfold maxLen; omega, ⟨fun h => absurd rfl h, by simp⟩, by simp⟩
  | slice U hl hc hcell hU =>
    rename_i ad
    obtain ⟨xs, hsl, hp⟩ := pick (fun i (x : Av) => U i = x.cell ∧ Pr9 w x.A x.us ∧ x.us.length ≤ maxLen ∧ ∀ u ∈ x.us, u.i.sp.length ≤ maxLen ∧ fit64 u.i.x ∧ fit64 u.i.y) l (fun i hi => by
      have u0 := hU i hi
      generalize U i = a0 at *
      obtain ⟨kA, kl, kc, rfl⟩ : ∃ A l c, a0 = .slice A l c := by cases u0 <;> exact ⟨_, _, _, rfl⟩
      obtain ⟨us, rfl, hml, hp, hb⟩ := insts_of_isv u0
      exact ⟨⟨us, kA, kc⟩, rfl, hp, hml, hb⟩)
    refine ⟨xs, hsl, by omega, ⟨cz_cells Av.cell fun i x hi => ?_, fun x hx => ?_⟩, fun x hx => ?_⟩
    · have hil : i < l := by have := (List.getElem?_eq_some_iff.1 hi).1; omega
      rw [hcell i hil, (hp i x hi).1]
    · obtain ⟨i, hi⟩ := List.mem_iff_getElem?.1 hx
      exact (hp i x hi).2.1
    · obtain ⟨i, hi⟩ := List.mem_iff_getElem?.1 hx
      exact (hp i x hi).2.2
/-- Patterns that came in. -/
theorem sas_of_rows {w : World} {A : Option Addr} {l c : Nat} (h : (A = none ∧ l = 0 ∧ c = 0) ∨ ∃ x, A = some x ∧ l ≤ c ∧ c ≤ maxLen ∧ ∀ i, i < l → ∃ a' l' c' zs, w.cell? (x.add i) = some (.slice a' l' c') ∧
      ((a' = none ∧ l' = 0 ∧ c' = 0 ∧ zs = []) ∨ ∃ x, a' = some x ∧ l' ≤ c' ∧ c' ≤ maxLen ∧ zs.length = c' ∧ (∀ i, i < zs.length → w.cell? (x.add i) = some (.int .u8 (zs.getD i 0))) ∧ ∀ n ∈ zs, (Lit.int .u8 n).wf = true)) :
    ∃ ss : List Sv, ss.length = l ∧ l ≤ maxLen ∧ Sas w w.heap.size A ss ∧ ∀ x ∈ ss, x.s.length ≤ maxLen := by
  rcases h with ⟨rfl, rfl, rfl⟩ | ⟨ad, rfl, hlc, hcm, hel⟩
  · exact ⟨[], rfl, by unfold maxLen; omega, ⟨fun h => absurd rfl h, by simp⟩, by simp⟩
  · obtain ⟨ss, hsl, hp⟩ := pick (fun i (x : Sv) => w.cell? (ad.add i) = some x.cell ∧ Bs w w.heap.size x.A x.s.length x.s ∧ x.s.length ≤ maxLen) l (fun i hi => by
      obtain ⟨a', l', c', zs, hcell, hr⟩ := hel i hi
      obtain ⟨bs, hb, hm⟩ := Bs.of_row hr
      have hbl : bs.length = l' := hb.1
      subst hbl
      exact ⟨⟨bs, a', c'⟩, hcell, hb, hm⟩)
    refine ⟨ss, hsl, by omega, ⟨cz_cells Sv.cell fun i x hi => (hp i x hi).1, fun x hx => ?_⟩, fun x hx => ?_⟩
    · obtain ⟨i, hi⟩ := List.mem_iff_getElem?.1 hx
      exact (hp i x hi).2.1
    · obtain ⟨i, hi⟩ := List.mem_iff_getElem?.1 hx
      exact (hp i x hi).2.2
end Go.Proofs.Ytjpbndpfbdfhjaa.Seek
