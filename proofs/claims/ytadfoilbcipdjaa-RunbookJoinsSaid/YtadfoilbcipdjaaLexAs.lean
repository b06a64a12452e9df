/-
  The program's tokens as the document's (layer 11): davitlaw11.As.
-/
import Derived.Test.YtadfoilbcipdjaaLexSame
import Derived.Test.YtadfoilbcipdjaaOrders
namespace Go.Proofs.Ytadfoilbcipdjaa.Lex
open Go.RowKit Go.Proofs.Ytadfoilbcipdjaa.Ord
set_option linter.unusedVariables false
set_option linter.unusedSimpArgs false

/-- The cells cs can be read from A on (in a block of whatever type). -/
def Cr (w : World) (A : Option Addr) (cs : List Value) : Prop := cs ≠ [] → ∃ ad, A = some ad ∧ ∀ j u, cs[j]? = some u → w.cell? (ad.add j) = some u
theorem cr_ry {t : TypeId} {w : World} {A : Option Addr} {cs : List Value} (h : Ry t w A cs) : Cr w A cs := fun hn => by
  obtain ⟨ad, e, _, hc⟩ := h hn
  exact ⟨ad, e, hc⟩
theorem Cr.below {w w' : World} {A : Option Addr} {cs : List Value} (h : Cr w A cs) (hb : Below w.heap.size w w') : Cr w' A cs := fun hn => by
  obtain ⟨ad, e, hc⟩ := h hn
  exact ⟨ad, e, fun j u hj => (hb.cell (cell_lt (hc j u hj))).trans (hc j u hj)⟩
/-- The program's tokens, that can be read. -/
structure Ptk (w : World) (B : Nat) (A : Option Addr) (vs : List Tv) : Prop where
  ry : Cr w A (tflat vs)
  tx : ∀ v ∈ vs, Tx w B v.A v.t.t.text
theorem Ptk.below {w w' : World} {B : Nat} {A : Option Addr} {vs : List Tv} (h : Ptk w B A vs) (hB : B ≤ w.heap.size) (hb : Below w.heap.size w w') : Ptk w' B A vs := ⟨h.ry.below hb, fun v hv => (h.tx v hv).below hB hb⟩
theorem Ptk.at_ {w : World} {B : Nat} {A : Option Addr} {vs : List Tv} (h : Ptk w B A vs) {i : Nat} {v : Tv} (hi : vs[i]? = some v) : ∃ ad, A = some ad ∧ w.cell? (ad.add (i * 4)) = some (.int .i64 v.t.t.kind) ∧
    w.cell? ⟨(ad.add (i * 4)).block, (ad.add (i * 4)).off + 1, none⟩ = some (.int .i64 (v.t.at_ : Int)) ∧ w.cell? ⟨(ad.add (i * 4)).block, (ad.add (i * 4)).off + 2, none⟩ = some (.int .i64 v.t.t.n) ∧ w.cell? ⟨(ad.add (i * 4)).block, (ad.add (i * 4)).off + 3, none⟩ = some (.slice v.A v.t.t.text.length v.c) := by
  have e : ∀ k, k < 4 → (tflat vs)[i * 4 + k]? = v.cells[k]? := fun k hk => flat4 vs i k v hi hk
  obtain ⟨ad, rfl, hc⟩ := h.ry (fun q => by have := e 0 (by decide); rw [q] at this; simp [Tv.cells] at this)
  exact ⟨ad, rfl, hc _ _ (e 0 (by decide)), by rw [add_at4 _ _ 1 (by decide)]; exact hc _ _ (e 1 (by decide)), by rw [add_at4 _ _ 2 (by decide)]; exact hc _ _ (e 2 (by decide)), by rw [add_at4 _ _ 3 (by decide)]; exact hc _ _ (e 3 (by decide))⟩
theorem take_snocT (l : List Tv) (k : Nat) (x : Tv) (h : l[k]? = some x) : l.take (k + 1) = l.take k ++ [x] := by rw [List.take_add_one, h]; rfl
end Go.Proofs.Ytadfoilbcipdjaa.Lex
