/-
  The document's cutter (layer 11): one token.
-/
import Derived.Test.YthaebchmlicgaaaLexText
namespace Go.Proofs.Ythaebchmlicgaaa.Lex
open Go.RowKit
set_option linter.unusedVariables false
set_option linter.unusedSimpArgs false

theorem take_while {α : Type} (p : α → Bool) (l : List α) : l.takeWhile p = l.take (l.takeWhile p).length := List.prefix_iff_eq_take.1 (List.takeWhile_prefix p)
/-- How far one goes on from a place. -/
def far (p : B → Bool) (s : List B) (q : Nat) : Nat := ((s.drop q).takeWhile p).length
theorem far_go {p : B → Bool} {s : List B} {q : Nat} {x : B} (hx : s[q]? = some x) (hp : p x = true) : far p s q = 1 + far p s (q + 1) := by
  unfold far; rw [drop_at hx, List.takeWhile_cons, if_pos hp, List.length_cons, Nat.add_comm]
theorem far_no {p : B → Bool} {s : List B} {q : Nat} {x : B} (hx : s[q]? = some x) (hp : p x = false) : far p s q = 0 := by
  unfold far; rw [drop_at hx, List.takeWhile_cons, if_neg (by simp [hp])]; rfl
theorem far_end {p : B → Bool} {s : List B} {q : Nat} (h : s.length ≤ q) : far p s q = 0 := by unfold far; rw [List.drop_eq_nil_of_le h]; rfl
/-- Bytes that can be read: below block B, or in a block of bytes. -/
def Tx (w : World) (B : Nat) (A : Option Addr) (t : List (BitVec 8)) : Prop := Bs w B A t.length t ∨ By w A t.length t
theorem Tx.below {w w' : World} {B : Nat} {A : Option Addr} {t : List (BitVec 8)} (h : Tx w B A t) (hB : B ≤ w.heap.size) (hb : Below w.heap.size w w') : Tx w' B A t := by
  rcases h with h | h
  · exact .inl (h.below (hb.mono hB))
  · exact .inr (h.below hb)
/-- What One returns. -/
def OnSays (w : World) (B p : Nat) (r : Except Nat (Tk × Nat)) (e : Ending) (w' : World) : Prop := Below w.heap.size w w' ∧ match r with
  | .error k => ∃ v, e = .returned v ∧ ∃ (y0 y1 y2 z : Int) (A' : Option Addr) (l' c' : Nat), v = .tuple #[.agg #[.int .i64 y0, .int .i64 y1, .int .i64 y2, .slice A' l' c'], .int .i64 z, .int .i64 ((p + k : Nat) : Int)]
  | .ok (x, k) => ∃ A' c', e = .returned (.tuple #[.agg #[.int .i64 x.kind, .int .i64 (p : Int), .int .i64 x.n, .slice A' x.text.length c'], .int .i64 ((p + k : Nat) : Int), .int .i64 (-1)]) ∧ Tx w' B A' x.text ∧ x.text.length ≤ c'
theorem results_at3 {P : Program} {fn : Func} {tmps : Array Value} {w : World} (a : Tmp) (t : TypeId) (b c : Tmp) (hr : fn.results = #[.cell a t, .tmp b, .tmp c]) (ad : Addr) (ha : tmps.getD a undef = .pointer (some ad)) (v u x : Value) (hu : tmps.getD b undef = u) (hx : tmps.getD c undef = x) (hl : (loadVar t ad).run P w = .ok v w) :
    (results fn tmps).run P w = .ok (.tuple #[v, u, x]) w := by
  unfold results
  rw [hr]
  simp only [List.mapM_toArray, List.mapM_cons, List.mapM_nil, ha, hu, hx, asAddr]
  simp [hl]
/-- A struct of four cells is stored. -/
def fw4 (w : World) (g : Nat) (a b c d : Value) : World := (((w.setCell ⟨g, 0, none⟩ a).setCell ⟨g, 1, none⟩ b).setCell ⟨g, 2, none⟩ c).setCell ⟨g, 3, none⟩ d
theorem fw4_cel {w : World} {g : Nat} {t : TypeId} {x y z u a b c d : Value} (h : Cel w g t [x, y, z, u]) : Cel (fw4 w g a b c d) g t [a, b, c, d] := (((h.set 0 a).set 1 b).set 2 c).set 3 d
theorem fw4_frm (w : World) (g : Nat) (a b c d : Value) : Frm [g] w (fw4 w g a b c d) := ((((Frm.refl [g] w).set (p := ⟨g, 0, none⟩) (by simp) a).set (p := ⟨g, 1, none⟩) (by simp) b).set (p := ⟨g, 2, none⟩) (by simp) c).set (p := ⟨g, 3, none⟩) (by simp) d
theorem run_cutMid {P : Program} (w : World) {t e : TypeId} {size : Nat} (ht : P.underlying t = some (.slice e)) (hs : (P.info? e).map (·.size) = some size) (A : Option Addr) (n c l h : Nat) (q q' : IntKind) (hl : l ≤ h) (hh : h ≤ c) :
    (Instr.sliceAt t (.slice A n c) (some (.int q l)) (some (.int q' h)) none).run P w = .ok (.slice (if c = l then A else A.map (·.add (l * size))) (h - l) (c - l)) w := by
  have he : P.elem t = e := by unfold Program.elem; rw [ht]
  have ht' : P.underlying t = some (.slice (P.elem t)) := by rw [he]; exact ht
  rw [run_sliceAt_slice w t _ _ _ _ ht', run_slice_lh w t A n c ht' q q' l h (by omega) (by omega) (by omega)]
  have hso : (sizeOf (P.elem t)).run P w = .ok size w := by
    rw [he]
    cases hq : P.info? e with
    | none => rw [hq] at hs; cases hs
    | some i => rw [hq] at hs; simp at hs; simp [sizeOf, typeInfo, hq, hs]
  rw [hso]
  simp only [Result.andThen, sliced, Int.toNat_natCast]
theorem bs_cut {w : World} {B m c f t : Nat} {A : Option Addr} {bs : List (BitVec 8)} (h : Bs w B A m bs) (hf : f ≤ t) (ht : t ≤ m) (hc : m ≤ c) : Bs w B (if c = f then A else A.map (·.add (f * 1))) (t - f) ((bs.take t).drop f) := by
  have := ((Bs.bp h).take ht).cut (cap := c) hf (by omega)
  rw [Nat.mul_one]
  exact this
end Go.Proofs.Ythaebchmlicgaaa.Lex
