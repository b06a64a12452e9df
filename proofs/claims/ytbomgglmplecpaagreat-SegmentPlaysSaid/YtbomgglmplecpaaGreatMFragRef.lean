/-
  What the document's own functions for frag come to.
-/
import Derived.Test.YtbomgglmplecpaaGreatMFragB
namespace Go.Proofs.YtbomgglmplecpaaGreat.Frag
open Go.RowKit
set_option linter.unusedVariables false
set_option linter.unusedSimpArgs false

theorem results_cell {P : Program} {fn : Func} {tmps : Array Value} {w : World} (a : Tmp) (t : TypeId) (hr : fn.results = #[.cell a t]) (ad : Addr) (ha : tmps.getD a undef = .pointer (some ad)) (v : Value) (hl : (loadVar t ad).run P w = .ok v w) :
    (results fn tmps).run P w = .ok v w := by
  unfold results
  rw [hr]
  simp only [List.mapM_toArray, List.mapM_cons, List.mapM_nil, ha, asAddr]
  simp [hl]
theorem load_ref {w : World} {g : Nat} {a b c d : Value} (h : Cel w g 79 [a, b, c, d]) : (loadVar 79 ⟨g, 0, none⟩).run Tryz.prog w = .ok (.agg #[a, b, c, d]) w := by
  have c0 := h.cell 0
  have c1 := h.cell 1
  have c2 := h.cell 2
  have c3 := h.cell 3
  go_simp

theorem toStr {w : World} {B : Nat} {A : Option Addr} {n : Nat} {bs : List (BitVec 8)} (h : Bs w B A n bs) (c : Nat) : (convert 44 9 (.slice A n c)).run Tryz.prog w = .ok (.string (str bs)) w :=
  Bp.string (Bs.bp h) c Tryz.underlying44 Tryz.underlying5 Tryz.underlying9

/-- A slice of records. -/
structure Rd (w : World) (B : Nat) (A : Option Addr) (n : Nat) (rs : List (List (BitVec 8))) : Prop where
  len : rs.length = n
  at_ : ∀ i b, rs[i]? = some b → ∃ ad Ai ci, A = some ad ∧ ad.block < B ∧ w.cell? (ad.add i) = some (.slice Ai b.length ci) ∧ Bs w B Ai b.length b
theorem Rd.below {w w' : World} {B n : Nat} {A : Option Addr} {rs : List (List (BitVec 8))} (h : Rd w B A n rs) (hb : Below B w w') : Rd w' B A n rs :=
  ⟨h.len, fun i b hi => by
    obtain ⟨ad, Ai, ci, hA, hl, hc, hs⟩ := h.at_ i b hi
    exact ⟨ad, Ai, ci, hA, hl, (hb.cell (by rw [add_block]; exact hl)).trans hc, hs.below hb⟩⟩
theorem Rd.more {w : World} {B B' n : Nat} {A : Option Addr} {rs : List (List (BitVec 8))} (h : Rd w B A n rs) (hB : B ≤ B') : Rd w B' A n rs :=
  ⟨h.len, fun i b hi => by
    obtain ⟨ad, Ai, ci, hA, hl, hc, hs⟩ := h.at_ i b hi
    exact ⟨ad, Ai, ci, hA, by omega, hc, hs.more hB⟩⟩
theorem Rd.of_own {w : World} {base n c : Nat} {A : Option Addr} {rs : List Rv} (h : w.ownsRow base 44 1 (.slice A n c) n (rs.map Rv.val)) (hb : ∀ x ∈ rs, By w x.A x.bs.length x.bs) : Rd w w.heap.size A n (rs.map (·.bs)) := by
  have hl : rs.length = n := by simpa using h.1
  refine ⟨by rw [List.length_map, hl], fun i b hi => ?_⟩
  rw [List.getElem?_map] at hi
  obtain ⟨x, hx, rfl⟩ := Option.map_eq_some_iff.1 hi
  have hil : i < n := by
    rw [← hl]; exact (List.getElem?_eq_some_iff.1 hx).1
  obtain ⟨g, cap, hv, hbg, hlt⟩ := h.form (by omega)
  have hA : A = some ⟨g, 0, none⟩ := by injection hv
  subst hA
  refine ⟨_, x.A, x.c, rfl, hlt, ?_, (hb x (List.mem_of_getElem? hx)).rd⟩
  rw [add_row]
  have := h.cells (g := g) rfl i x.val (by rw [List.getElem?_map, hx]; rfl)
  rwa [add_row] at this

end Go.Proofs.YtbomgglmplecpaaGreat.Frag
