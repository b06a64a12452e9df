/-
  A record that came in by value (layer 15): nine fields, the second of them a struct of five; opened.
-/
import Derived.Lib.SmallJoins
import Derived.Test.YthaebchmlicgaaaRows
namespace Go.Proofs.Ythaebchmlicgaaa
open Go.ChangeShapes Go.WideShapes Go.RowKit Go.Deep Go.WideElems
set_option linter.unusedVariables false
section
variable {H : Type} {enc : TypeId × Value → H} {P : Program} {w : World} {base : Nat} {spare : Nat → Bool} {held : Bool}
theorem array13 {α : Type} {cs : Array α} (h : cs.size = 13) : ∃ c0 c1 c2 c3 c4 c5 c6 c7 c8 c9 c10 c11 c12, cs = #[c0, c1, c2, c3, c4, c5, c6, c7, c8, c9, c10, c11, c12] := by
  obtain ⟨l⟩ := cs
  match l, h with
  | [c0, c1, c2, c3, c4, c5, c6, c7, c8, c9, c10, c11, c12], _ => exact ⟨c0, c1, c2, c3, c4, c5, c6, c7, c8, c9, c10, c11, c12, rfl⟩
set_option maxHeartbeats 2000000 in
theorem open_rec {r : Reach} {bb : Nat} {t : TypeId} {f0 f1 f2 f3 f4 f5 f6 f7 f8 g0 g1 g2 g3 g4 : Field} {v : Value} {d : DataW H} {p : List MemPlace} (hs : P.underlying t = some (.struct #[f0, f1, f2, f3, f4, f5, f6, f7, f8])) (hg : P.underlying f1.type = some (.struct #[g0, g1, g2, g3, g4]))
    (ho : [f0, f1, f2, f3, f4, f5, f6, f7, f8].map (fun f => (f.offset, P.cellsOf f.type)) = [(0, 1), (1, 5), (6, 1), (7, 1), (8, 1), (9, 1), (10, 1), (11, 1), (12, 1)]) (hog : [g0, g1, g2, g3, g4].map (fun f => (f.offset, P.cellsOf f.type)) = [(0, 1), (1, 1), (2, 1), (3, 1), (4, 1)]) (hC : P.cellsOf t = 13)
    (hv : Value.okWide P w r bb t v) (h : DataW.Trod enc P w base spare held t v d p) :
    ∃ (v0 v1 v2 v3 v4 v5 v6 v7 v8 v9 v10 v11 v12 : Value) (y0 y2 y3 y4 y5 y6 y7 y8 z0 z1 z2 z3 z4 : DataW H × List MemPlace) (n m : Nat), v = .agg #[v0, v1, v2, v3, v4, v5, v6, v7, v8, v9, v10, v11, v12] ∧ d = .agg [y0.1, .agg [z0.1, z1.1, z2.1, z3.1, z4.1], y2.1, y3.1, y4.1, y5.1, y6.1, y7.1, y8.1] ∧ p = y0.2 ++ ((z0.2 ++ (z1.2 ++ (z2.2 ++ (z3.2 ++ (z4.2))))) ++ (y2.2 ++ (y3.2 ++ (y4.2 ++ (y5.2 ++ (y6.2 ++ (y7.2 ++ (y8.2)))))))) ∧ DataW.trod enc P w base spare held n f0.type [v0] = some y0 ∧ DataW.trod enc P w base spare held m g0.type [v1] = some z0 ∧ DataW.trod enc P w base spare held m g1.type [v2] = some z1 ∧ DataW.trod enc P w base spare held m g2.type [v3] = some z2 ∧ DataW.trod enc P w base spare held m g3.type [v4] = some z3 ∧ DataW.trod enc P w base spare held m g4.type [v5] = some z4 ∧ DataW.trod enc P w base spare held n f2.type [v6] = some y2 ∧ DataW.trod enc P w base spare held n f3.type [v7] = some y3 ∧ DataW.trod enc P w base spare held n f4.type [v8] = some y4 ∧ DataW.trod enc P w base spare held n f5.type [v9] = some y5 ∧ DataW.trod enc P w base spare held n f6.type [v10] = some y6 ∧ DataW.trod enc P w base spare held n f7.type [v11] = some y7 ∧ DataW.trod enc P w base spare held n f8.type [v12] = some y8 := by
  obtain ⟨cs, rfl, hsz⟩ := okWide_struct hs hv
  obtain ⟨c0, c1, c2, c3, c4, c5, c6, c7, c8, c9, c10, c11, c12, rfl⟩ := array13 (hsz.trans hC)
  obtain ⟨fuel, hf⟩ := h
  obtain ⟨xs, n, _, hx, _, hlen, hq⟩ := DataW.trod_struct hs hf
  simp only [List.map_cons, List.map_nil, List.cons.injEq, Prod.mk.injEq, and_true] at ho hog
  obtain ⟨⟨a0, b0⟩, ⟨a1, b1⟩, ⟨a2, b2⟩, ⟨a3, b3⟩, ⟨a4, b4⟩, ⟨a5, b5⟩, ⟨a6, b6⟩, ⟨a7, b7⟩, ⟨a8, b8⟩⟩ := ho
  obtain ⟨⟨p0, q0⟩, ⟨p1, q1⟩, ⟨p2, q2⟩, ⟨p3, q3⟩, ⟨p4, q4⟩⟩ := hog
  match xs, hlen with
  | [y0, y1, y2, y3, y4, y5, y6, y7, y8], _ =>
    have h0 := hq 0 f0 rfl
    have h1 := hq 1 f1 rfl
    have h2 := hq 2 f2 rfl
    have h3 := hq 3 f3 rfl
    have h4 := hq 4 f4 rfl
    have h5 := hq 5 f5 rfl
    have h6 := hq 6 f6 rfl
    have h7 := hq 7 f7 rfl
    have h8 := hq 8 f8 rfl
    rw [a1, b1] at h1
    obtain ⟨us, m, _, hu, _, hlu, hqu⟩ := DataW.trod_struct hg h1
    match us, hlu with
    | [z0, z1, z2, z3, z4], _ =>
      have k0 := hqu 0 g0 rfl
      have k1 := hqu 1 g1 rfl
      have k2 := hqu 2 g2 rfl
      have k3 := hqu 3 g3 rfl
      have k4 := hqu 4 g4 rfl
      simp only [Prod.mk.injEq] at hx
      subst hu
      exact ⟨c0, c1, c2, c3, c4, c5, c6, c7, c8, c9, c10, c11, c12, y0, y2, y3, y4, y5, y6, y7, y8, z0, z1, z2, z3, z4, n, m, rfl, by simpa using hx.1, by simpa using hx.2, by simpa [Value.cells, a0, b0] using h0, by simpa [Value.cells, p0, q0] using k0, by simpa [Value.cells, p1, q1] using k1, by simpa [Value.cells, p2, q2] using k2, by simpa [Value.cells, p3, q3] using k3, by simpa [Value.cells, p4, q4] using k4, by simpa [Value.cells, a2, b2] using h2, by simpa [Value.cells, a3, b3] using h3, by simpa [Value.cells, a4, b4] using h4, by simpa [Value.cells, a5, b5] using h5, by simpa [Value.cells, a6, b6] using h6, by simpa [Value.cells, a7, b7] using h7, by simpa [Value.cells, a8, b8] using h8⟩
end
end Go.Proofs.Ythaebchmlicgaaa
