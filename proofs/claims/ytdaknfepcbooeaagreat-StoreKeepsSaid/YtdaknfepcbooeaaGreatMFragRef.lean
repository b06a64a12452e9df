/-
  What the document's own functions for frag come to.
-/
import Derived.Test.YtdaknfepcbooeaaGreatMFragB
namespace Go.Proofs.YtdaknfepcbooeaaGreat.Frag
open Go.RowKit
set_option linter.unusedVariables false
set_option linter.unusedSimpArgs false

theorem results_cell {P : Program} {fn : Func} {tmps : Array Value} {w : World} (a : Tmp) (t : TypeId) (hr : fn.results = #[.cell a t]) (ad : Addr) (ha : tmps.getD a undef = .pointer (some ad)) (v : Value) (hl : (loadVar t ad).run P w = .ok v w) :
    (results fn tmps).run P w = .ok v w := by
  unfold results
  rw [hr]
  simp only [List.mapM_toArray, List.mapM_cons, List.mapM_nil, ha, asAddr]
  simp [hl]
theorem load_ref {w : World} {g : Nat} {a b c d : Value} (h : Cel w g 100 [a, b, c, d]) : (loadVar 100 ⟨g, 0, none⟩).run Tryz.prog w = .ok (.agg #[a, b, c, d]) w := by
  have c0 := h.cell 0
  have c1 := h.cell 1
  have c2 := h.cell 2
  have c3 := h.cell 3
  go_simp

theorem toStr {w : World} {B : Nat} {A : Option Addr} {n : Nat} {bs : List (BitVec 8)} (h : Bs w B A n bs) (c : Nat) : (convert 44 9 (.slice A n c)).run Tryz.prog w = .ok (.string (str bs)) w :=
  Bp.string (Bs.bp h) c Tryz.underlying44 Tryz.underlying5 Tryz.underlying9

/-- A slice of records. -/
structure Rd (w : World) (B : Nat) (A : Option Addr) (n : Nat) (rs : List (List (BitVec 8))) : Prop where
  len : rs.length = n
  at_ : ∀ i b, rs[i]? = some b → ∃ ad Ai ci, A = some ad ∧ ad.block < B ∧ w.cell? (ad.add i) = some (.slice Ai b.length ci) ∧ Bs w B Ai b.length b
theorem Rd.below {w w' : World} {B n : Nat} {A : Option Addr} {rs : List (List (BitVec 8))} (h : Rd w B A n rs) (hb : Below B w w') : Rd w' B A n rs :=
  ⟨h.len, fun i b hi => by
    obtain ⟨ad, Ai, ci, hA, hl, hc, hs⟩ := h.at_ i b hi
    exact ⟨ad, Ai, ci, hA, hl, (hb.cell (by rw [add_block]; exact hl)).trans hc, hs.below hb⟩⟩
theorem Rd.more {w : World} {B B' n : Nat} {A : Option Addr} {rs : List (List (BitVec 8))} (h : Rd w B A n rs) (hB : B ≤ B') : Rd w B' A n rs :=
  ⟨h.len, fun i b hi => by
    obtain ⟨ad, Ai, ci, hA, hl, hc, hs⟩ := h.at_ i b hi
    exact ⟨ad, Ai, ci, hA, by omega, hc, hs.more hB⟩⟩
theorem Rd.of_own {w : World} {base n c : Nat} {A : Option Addr} {rs : List Rv} (h : w.ownsRow base 44 1 (.slice A n c) n (rs.map Rv.val)) (hb : ∀ x ∈ rs, By w x.A x.bs.length x.bs) : Rd w w.heap.size A n (rs.map (·.bs)) := by
  have hl : rs.length = n := by simpa using h.1
  refine ⟨by rw [List.length_map, hl], fun i b hi => ?_⟩
  rw [List.getElem?_map] at hi
  obtain ⟨x, hx, rfl⟩ := Option.map_eq_some_iff.1 hi
  have hil : i < n := by
    rw [← hl]; exact (List.getElem?_eq_some_iff.1 hx).1
  obtain ⟨g, cap, hv, hbg, hlt⟩ := h.form (by omega)
  have hA : A = some ⟨g, 0, none⟩ := by injection hv
  subst hA
  refine ⟨_, x.A, x.c, rfl, hlt, ?_, (hb x (List.mem_of_getElem? hx)).rd⟩
  rw [add_row]
  have := h.cells (g := g) rfl i x.val (by rw [List.getElem?_map, hx]; rfl)
  rwa [add_row] at this

set_option maxRecDepth 100000 in
set_option maxHeartbeats 2000000 in
theorem refSame (A1 A2 : Option Addr) (n c1 c2 : Nat) (rs : List (List (BitVec 8))) (B : Nat) (w : World) (h1 : Rd w B A1 n rs) (h2 : Rd w B A2 n rs) (hB : B ≤ w.heap.size) (hn : n ≤ 4096) :
    Calls Tryz.prog 23 #[.slice A1 n c1, .slice A2 n c2] w fun r w' => r = .returned (.bool true) ∧ Below w.heap.size w w' := by
  have H1 := Lib.hid h1
  have H2 := Lib.hid h2
  clear h1 h2
  go_enter Tryz.func23, Tryz.ntmps23
  go_wp2_with fail
  go_loopw [5] (fun i wr => ∃ k : Nat, k ≤ n ∧ i = .int .i64 (k : Int) ∧ Below w.heap.size w wr) (fun i _ => n - (intOf i).toNat)
  case atStart => exact ⟨0, Nat.zero_le _, rfl, Below.refl _ _⟩
  case round =>
    obtain ⟨k, hk, rfl, hb⟩ := hrel
    have hkm : k ≤ 4096 := by omega
    by_cases hlt : k < n
    · obtain ⟨b, hbk⟩ : ∃ b, rs[k]? = some b := ⟨_, List.getElem?_eq_getElem (by rw [H1.out.len]; exact hlt)⟩
      obtain ⟨ad1, B1, d1, rfl, l1, k1, s1⟩ := (H1.out.below (hb.mono hB)).at_ k _ hbk
      obtain ⟨ad2, B2, d2, rfl, l2, k2, s2⟩ := (H2.out.below (hb.mono hB)).at_ k _ hbk
      have q1 := toStr s1.drew d1
      have q2 := toStr s2.drew d2
      have k1' : wr.drew.cell? (ad1.add k) = _ := k1
      have k2' : wr.drew.cell? (ad2.add k) = _ := k2
      clear s1 s2 hbk l1 l2
      generalize str b = sb at *
      generalize b.length = m at *
      go_wp2_with fail
      go_region
      all_goals go_wp2_with fail
      exact ⟨⟨k + 1, by omega, by go_num, hb.drew⟩, by simp [intOf]; omega⟩
    · obtain rfl : k = n := by omega
      go_wp2_with fail
      go_ret
      exact ⟨rfl, hb⟩
end Go.Proofs.YtdaknfepcbooeaaGreat.Frag
