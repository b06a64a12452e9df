/-
  What came in, of layer 9: the program's ops (any numbers, any spans), and davitlaw09.few.
-/
import Derived.Test.YtjpbndpfbdfhjaaMNfaAs8
import Derived.Test.YtjpbndpfbdfhjaaMOpen
namespace Go.Proofs.Ytjpbndpfbdfhjaa.Nfa
open Go.RowKit Go.Proofs.Ytjpbndpfbdfhjaa.Ord
open Go.Proofs.Ytjpbndpfbdfhjaa.Reg (Ov oflat Sp sflat)
set_option linter.unusedVariables false
set_option linter.unusedSimpArgs false

theorem u8_wf {x : Int} (h : (Lit.int .u8 x).wf = true) : ∃ b : BitVec 8, x = (b.toNat : Int) := by
  simp [Lit.wf, IntKind.min, IntKind.max, IntKind.bits, IntKind.signed] at h
  refine ⟨BitVec.ofNat 8 x.toNat, ?_⟩
  rw [BitVec.toNat_ofNat, Nat.mod_eq_of_lt (by omega)]
  omega
theorem i64_wf {x : Int} (h : (Lit.int .i64 x).wf = true) : -9223372036854775808 ≤ x ∧ x < 9223372036854775808 := by
  simp [Lit.wf, IntKind.min, IntKind.max, IntKind.bits, IntKind.signed] at h
  omega
theorem pick {α : Type} (P : Nat → α → Prop) : ∀ n, (∀ i, i < n → ∃ x, P i x) → ∃ l : List α, l.length = n ∧ ∀ i x, l[i]? = some x → P i x
  | 0, _ => ⟨[], rfl, by simp⟩
  | n + 1, h => by
    obtain ⟨l, hl, hp⟩ := pick P n (fun i hi => h i (by omega))
    obtain ⟨x, hx⟩ := h n (by omega)
    refine ⟨l ++ [x], by simp [hl], fun i y hy => ?_⟩
    rcases Nat.lt_or_ge i l.length with hi | hi
    · rw [List.getElem?_append_left hi] at hy
      exact hp i y hy
    · have hi2 : i = n := by have := (List.getElem?_eq_some_iff.1 hy).1; simp at this; omega
      subst hi2
      rw [List.getElem?_append_right hi, show i - l.length = 0 by omega] at hy
      simp at hy
      subst hy
      exact hx
theorem flat_len {α : Type} (f : α → List Value) (m : Nat) (hf : ∀ x, (f x).length = m) : ∀ l : List α, (l.flatMap f).length = l.length * m
  | [] => by simp
  | x :: l => by rw [List.flatMap_cons, List.length_append, hf, flat_len f m hf l, List.length_cons, Nat.succ_mul, Nat.add_comm]
theorem cz_of {α : Type} (f : α → List Value) (m : Nat) (hm : 0 < m) (hf : ∀ x, (f x).length = m) {w : World} {ad : Addr} {l : List α}
    (h : ∀ i x k, l[i]? = some x → k < m → ∀ u, (f x)[k]? = some u → w.cell? (ad.add (i * m + k)) = some u) : Cz w (some ad) (l.flatMap f) := fun _ => ⟨ad, rfl, fun j u hj => by
  have hjl := (List.getElem?_eq_some_iff.1 hj).1
  rw [flat_len f m hf] at hjl
  have hq : j / m < l.length := Nat.div_lt_of_lt_mul (by rw [Nat.mul_comm]; exact hjl)
  have hx : l[j / m]? = some l[j / m] := List.getElem?_eq_getElem hq
  have hk := Nat.mod_lt j hm
  have e := flat_at f m hf l (j / m) (j % m) _ hx hk
  have d : j / m * m + j % m = j := by rw [Nat.mul_comm]; exact Nat.div_add_mod j m
  rw [d] at e
  have q := h _ _ _ hx hk u (e ▸ hj)
  rwa [d] at q⟩

theorem spans_of_isv {w : World} {A : Option Addr} {l c : Nat} (h : IsV w (.recs [.int .u8, .int .u8]) (.slice A l c)) : ∃ sp : List Sp, sp.length = l ∧ l ≤ maxLen ∧ Cz w A (sflat sp) := by
  cases h with
  | rnil => exact ⟨[], rfl, by unfold maxLen; omega, fun h => absurd rfl h⟩
  | recs U hl hc hcell hU =>
    rename_i x
    obtain ⟨sp, hsl, hp⟩ := pick (fun i (s : Sp) => U i 0 = v8 s.a ∧ U i 1 = v8 s.b) l (fun i hi => by
      have u0 := hU i 0 _ hi rfl
      have u1 := hU i 1 _ hi rfl
      generalize U i 0 = a0 at *
      generalize U i 1 = a1 at *
      cases u0 with | int h0 =>
      cases u1 with | int h1 =>
      obtain ⟨a, rfl⟩ := u8_wf h0
      obtain ⟨b, rfl⟩ := u8_wf h1
      exact ⟨⟨a, b⟩, rfl, rfl⟩)
    refine ⟨sp, hsl, by omega, cz_of (fun x : Sp => [v8 x.a, v8 x.b]) 2 (by decide) (fun _ => rfl) fun i s k hi hk u hu => ?_⟩
    have hil : i < l := by have := (List.getElem?_eq_some_iff.1 hi).1; omega
    obtain ⟨e0, e1⟩ := hp i s hi
    have c0 := hcell i 0 hil (by decide)
    have c1 := hcell i 1 hil (by decide)
    rw [e0] at c0
    rw [e1] at c1
    match k, hk with
    | 0, _ => cases hu; exact c0
    | 1, _ => cases hu; exact c1

theorem Pr8.of_isv {w : World} {A : Option Addr} {l c : Nat} (h : IsV w (.recs [.int .i64, .bool, .recs [.int .u8, .int .u8]]) (.slice A l c)) :
    ∃ us : List Ov, us.length = l ∧ l ≤ maxLen ∧ Pr8 w A us ∧ ∀ u ∈ us, u.o.sp.length ≤ maxLen ∧ -9223372036854775808 ≤ u.o.kind ∧ u.o.kind < 9223372036854775808 := by
  cases h with
  | rnil => exact ⟨[], rfl, by unfold maxLen; omega, ⟨fun h => absurd rfl h, by simp⟩, by simp⟩
  | recs U hl hc hcell hU =>
    rename_i x
    obtain ⟨us, hsl, hp⟩ := pick (fun i (s : Ov) => (U i 0 = .int .i64 s.o.kind ∧ U i 1 = .bool s.o.neg ∧ U i 2 = .slice s.A s.o.sp.length s.c) ∧ Cz w s.A (sflat s.o.sp) ∧ s.o.sp.length ≤ maxLen ∧ -9223372036854775808 ≤ s.o.kind ∧ s.o.kind < 9223372036854775808) l (fun i hi => by
      have u0 := hU i 0 _ hi rfl
      have u1 := hU i 1 _ hi rfl
      have u2 := hU i 2 _ hi rfl
      generalize U i 0 = a0 at *
      generalize U i 1 = a1 at *
      generalize U i 2 = a2 at *
      cases u0 with | int h0 =>
      cases u1 with | bool b =>
      obtain ⟨kA, kl, kc, rfl⟩ : ∃ A l c, a2 = .slice A l c := by cases u2 <;> exact ⟨_, _, _, rfl⟩
      obtain ⟨sp, rfl, hml, hcz⟩ := spans_of_isv u2
      exact ⟨⟨⟨_, b, sp⟩, kA, kc⟩, ⟨rfl, rfl, rfl⟩, hcz, hml, i64_wf h0⟩)
    refine ⟨us, hsl, by omega, ⟨cz_of Ov.cells 3 (by decide) (fun _ => rfl) fun i s k hi hk u hu => ?_, fun u hu => ?_⟩, fun u hu => ?_⟩
    · have hil : i < l := by have := (List.getElem?_eq_some_iff.1 hi).1; omega
      obtain ⟨⟨e0, e1, e2⟩, _⟩ := hp i s hi
      have c0 := hcell i 0 hil (by decide)
      have c1 := hcell i 1 hil (by decide)
      have c2 := hcell i 2 hil (by decide)
      rw [e0] at c0
      rw [e1] at c1
      rw [e2] at c2
      match k, hk with
      | 0, _ => cases hu; exact c0
      | 1, _ => cases hu; exact c1
      | 2, _ => cases hu; exact c2
    · obtain ⟨i, hi⟩ := List.mem_iff_getElem?.1 hu
      exact (hp i u hi).2.1
    · obtain ⟨i, hi⟩ := List.mem_iff_getElem?.1 hu
      exact (hp i u hi).2.2

theorem kind_ops : kindOf Try.prog 6 72 = some (.recs [.int .i64, .bool, .recs [.int .u8, .int .u8]]) := by kernel_rfl

def Few9 (w : World) (n : Nat) (us : List Ov) (e : Ending) (w' : World) : Prop := ∃ b, e = .returned (.bool b) ∧ w = w' ∧ (b = true → n ≤ 400 ∧ ∀ u ∈ us, u.o.sp.length ≤ 60)
end Go.Proofs.Ytjpbndpfbdfhjaa.Nfa
