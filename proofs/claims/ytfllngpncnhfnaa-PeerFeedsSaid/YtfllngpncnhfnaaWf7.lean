/-
Texts: RecOpen PeerOpen
-/
import Derived.Test.YtfllngpncnhfnaaWf0
import Derived.Test.YtfllngpncnhfnaaWf1
import Derived.Test.YtfllngpncnhfnaaWf2
import Derived.Test.YtfllngpncnhfnaaWf3
import Derived.Deep.CutRange
set_option linter.unusedVariables false
set_option linter.unusedSimpArgs false
section
namespace Go.Proofs.Ytfllngpncnhfnaa.Rec
open Go.RowKit
open Lex (Tx)
theorem u8_of {x : Int} (h : (Lit.int .u8 x).wf = true) : ∃ b : BitVec 8, x = (b.toNat : Int) := by
 simp [Lit.wf, IntKind.min, IntKind.max, IntKind.bits, IntKind.signed] at h
 refine ⟨BitVec.ofNat 8 x.toNat, ?_⟩
 rw [BitVec.toNat_ofNat, Nat.mod_eq_of_lt (by omega)]
 omega
theorem pick {α : Type} (P : Nat → α → Prop) : ∀ n, (∀ i, i < n → ∃ x, P i x) → ∃ l : List α, l.length = n ∧ ∀ i x, l[i]? = some x → P i x
 | 0, _ => ⟨[], rfl, by simp⟩
 | n + 1, h => by
  obtain ⟨l, hl, hp⟩ := pick P n (fun i hi => h i (by omega))
  obtain ⟨x, hx⟩ := h n (by omega)
  refine ⟨l ++ [x], by simp [hl], fun i y hy => ?_⟩
  rcases Nat.lt_or_ge i l.length with hi | hi
  ·rw [List.getElem?_append_left hi] at hy
   exact hp i y hy
  ·have hi2 : i = n := by have := (List.getElem?_eq_some_iff.1 hy).1; simp at this; omega
   subst hi2
   rw [List.getElem?_append_right hi, show i - l.length = 0 by omega] at hy
   simp at hy
   subst hy
   exact hx
theorem bytes_of_isv {w : World} {A : Option Addr} {l c : Nat} (h : IsV w (.slice (.int .u8)) (.slice A l c)) : ∃ bs : List (BitVec 8), bs.length = l ∧ l ≤ c ∧ l ≤ maxLen ∧ Bs w w.heap.size A l bs := by
 cases h with
 | nil => exact ⟨[], rfl, Nat.le_refl _, Nat.zero_le _, Bs.nil_⟩
 | slice U hl hc hcell hU =>
  rename_i x
  obtain ⟨bs, hbl, hp⟩ := pick (fun i (b : BitVec 8) => U i = v8 b) l (fun i hi => by
   have u0 := hU i hi
   generalize U i = a0 at *
   cases u0 with | int h0 =>
   obtain ⟨b, rfl⟩ := u8_of h0
   exact ⟨b, rfl⟩)
  refine ⟨bs, hbl, hl, by omega, hbl, fun hn => ⟨x, rfl, ?_, fun j hj => ?_⟩⟩
  ·have := cell_lt (hcell 0 hn)
   rwa [add_block] at this
  ·have hj2 : j < bs.length := by omega
   rw [hcell j hj, hp j _ (List.getElem?_eq_getElem hj2), List.getD_eq_getElem?_getD, List.getElem?_eq_getElem hj2]
   rfl
theorem texts_of_isv {w : World} {A : Option Addr} {l c : Nat} (h : IsV w (.slice (.slice (.int .u8))) (.slice A l c)) : ∃ vs : List Vt, vs.length = l ∧ l ≤ maxLen ∧ Tvs w w.heap.size A vs := by
 cases h with
 | nil => exact ⟨[], rfl, Nat.zero_le _, ⟨by simp, by simp⟩⟩
 | slice U hl hc hcell hU =>
  rename_i x
  obtain ⟨vs, hvl, hp⟩ := pick (fun i (v : Vt) => U i = v.cell ∧ Tx w w.heap.size v.A v.t ∧ v.t.length ≤ maxLen) l (fun i hi => by
   have u0 := hU i hi
   generalize U i = a0 at *
   obtain ⟨kA, kl, kc, rfl⟩ : ∃ A l c, a0 = .slice A l c := by cases u0 <;> exact ⟨_, _, _, rfl⟩
   obtain ⟨bs, rfl, hpc, hpm, hbs⟩ := bytes_of_isv u0
   exact ⟨⟨kA, kc, bs⟩, rfl, .inl hbs, hpm⟩)
  refine ⟨vs, hvl, by omega, ⟨fun i v hi => ⟨x, rfl, ?_⟩, fun v hv => ?_⟩⟩
  ·have hil : i < l := by have := (List.getElem?_eq_some_iff.1 hi).1; omega
   rw [hcell i hil, (hp i v hi).1]
  ·obtain ⟨i, hi⟩ := List.mem_iff_getElem?.1 hv
   exact (hp i v hi).2
end Go.Proofs.Ytfllngpncnhfnaa.Rec
end
section
namespace Go.Proofs.Ytfllngpncnhfnaa.Peer
open Go.RowKit
open Lex (add_at4)
open Rec (pick)
theorem int64_of {x : Int} (h : (Lit.int .i64 x).wf = true) : -9223372036854775808 ≤ x ∧ x < 9223372036854775808 := by
 simp [Lit.wf, IntKind.min, IntKind.max, IntKind.bits, IntKind.signed] at h
 omega
def FitR (v : Rl) : Prop := v.r.line.length ≤ v.c1 ∧ v.r.line.length ≤ maxLen ∧ v.r.out.length ≤ v.c2 ∧ v.r.out.length ≤ maxLen ∧ (-9223372036854775808 ≤ v.r.state ∧ v.r.state < 9223372036854775808) ∧ (-9223372036854775808 ≤ v.r.next ∧ v.r.next < 9223372036854775808)
def rcells (v : Rl) : List Value := [.int .i64 v.r.state, .slice v.A1 v.r.line.length v.c1, .slice v.A2 v.r.out.length v.c2, .int .i64 v.r.next]
theorem rules_of_isv {w : World} {A : Option Addr} {l c : Nat} (h : IsV w (.recs [.int .i64, .slice (.int .u8), .slice (.int .u8), .int .i64]) (.slice A l c)) :
  ∃ vs : List Rl, vs.length = l ∧ l ≤ maxLen ∧ Rls w w.heap.size A vs ∧ ∀ v ∈ vs, FitR v := by
 cases h with
 | rnil => exact ⟨[], rfl, Nat.zero_le _, fun i v hi => by simp at hi, by simp⟩
 | recs U hl hc hcell hU =>
  rename_i x
  obtain ⟨vs, hsl, hp⟩ := pick (fun i (v : Rl) => (∀ k u, (rcells v)[k]? = some u → U i k = u) ∧ (Bs w w.heap.size v.A1 v.r.line.length v.r.line ∧ Bs w w.heap.size v.A2 v.r.out.length v.r.out) ∧ FitR v) l (fun i hi => by
   have u0 := hU i 0 _ hi rfl
   have u1 := hU i 1 _ hi rfl
   have u2 := hU i 2 _ hi rfl
   have u3 := hU i 3 _ hi rfl
   obtain ⟨F, hF⟩ : ∃ F : Nat → Value, F = U i := ⟨_, rfl⟩
   rw [← hF] at u0 u1 u2 u3 ⊢
   clear hU hcell hF
   generalize h0 : F 0 = a0 at *
   generalize h1 : F 1 = a1 at *
   generalize h2 : F 2 = a2 at *
   generalize h3 : F 3 = a3 at *
   cases u0 with | int f0 =>
   obtain ⟨A1, l1, c1, rfl⟩ : ∃ A l c, a1 = .slice A l c := by cases u1 <;> exact ⟨_, _, _, rfl⟩
   obtain ⟨A2, l2, c2, rfl⟩ : ∃ A l c, a2 = .slice A l c := by cases u2 <;> exact ⟨_, _, _, rfl⟩
   cases u3 with | int f3 =>
   obtain ⟨b1, rfl, hc1, hm1, hb1⟩ := Rec.bytes_of_isv u1
   obtain ⟨b2, rfl, hc2, hm2, hb2⟩ := Rec.bytes_of_isv u2
   refine ⟨⟨⟨_, b1, b2, _⟩, A1, c1, A2, c2⟩, fun k u hu => ?_, ⟨hb1, hb2⟩, hc1, hm1, hc2, hm2, int64_of f0, int64_of f3⟩
   have hk : k < 4 := (List.getElem?_eq_some_iff.1 hu).1
   match k, hk with
   | 0, _ => cases hu; exact h0
   | 1, _ => cases hu; exact h1
   | 2, _ => cases hu; exact h2
   | 3, _ => cases hu; exact h3)
  refine ⟨vs, hsl, by omega, fun i v hi => ?_, fun v hv => ?_⟩
  ·have hil : i < l := by have := (List.getElem?_eq_some_iff.1 hi).1; omega
   have hk : ∀ k u, k < 4 → (rcells v)[k]? = some u → w.cell? (x.add (i * 4 + k)) = some u := fun k u hk hu => by
    have c0 := hcell i k hil hk
    rw [(hp i v hi).1 k u hu] at c0
    exact c0
   obtain ⟨hb1, hb2⟩ := (hp i v hi).2.1
   exact ⟨x, rfl, hk 0 _ (by decide) rfl, by rw [add_at4 _ _ 1 (by decide)]; exact hk 1 _ (by decide) rfl, by rw [add_at4 _ _ 2 (by decide)]; exact hk 2 _ (by decide) rfl, by rw [add_at4 _ _ 3 (by decide)]; exact hk 3 _ (by decide) rfl, .inl hb1, .inl hb2⟩
  ·obtain ⟨i, hi⟩ := List.mem_iff_getElem?.1 hv
   exact (hp i v hi).2.2
end Go.Proofs.Ytfllngpncnhfnaa.Peer
end
