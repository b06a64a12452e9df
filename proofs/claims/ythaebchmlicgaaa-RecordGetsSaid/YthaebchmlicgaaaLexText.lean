/-
  The document's cutter (layer 11): a text's bytes.
-/
import Derived.Test.YthaebchmlicgaaaLexRef
namespace Go.Proofs.Ythaebchmlicgaaa.Lex
open Go.RowKit
set_option linter.unusedVariables false
set_option linter.unusedSimpArgs false

theorem rowB : ByteRow Try.prog 25 5 := ByteRow.mk' Try.underlying25 (by kernel_rfl)
/-- Bytes in an own row, from block B on. -/
theorem own_room {w : World} {base n c e size : Nat} {A : Option Addr} {us : List Value} (h : w.ownsRow base e size (.slice A n c) n us) : n ≤ c := by
  rcases h.2 with ⟨hv, rfl⟩ | ⟨g, cap, cur, hv, _, _, h1, _⟩
  · exact Nat.zero_le _
  · simp only [Value.slice.injEq] at hv
    obtain ⟨_, _, rfl⟩ := hv
    exact h1
def Owb (w : World) (B : Nat) (A : Option Addr) (n c : Nat) (o : List (BitVec 8)) : Prop := w.ownsRow B 5 1 (.slice A n c) n (o.map v8)
theorem Owb.len {w : World} {B n c : Nat} {A : Option Addr} {o : List (BitVec 8)} (h : Owb w B A n c o) : o.length = n := by have := h.1; simpa using this
theorem Owb.nil_ (w : World) (B : Nat) : Owb w B none 0 0 [] := World.ownsRow_nil _ _ _ _
theorem Owb.below {w w' : World} {B n c : Nat} {A : Option Addr} {o : List (BitVec 8)} (h : Owb w B A n c o) (hb : Below w.heap.size w w') : Owb w' B A n c o := own_frm (l := []) h (Frm.of_below hb) (by simp)
theorem lit_one (w : World) (x : BitVec 8) : Bs (w.alloc (.cells #[v8 x] 5)) (w.heap.size + 1) (some ⟨w.heap.size, 0, none⟩) 1 [x] := Bs.lit w 5 (0, 0) #[v8 x] [x] rfl 1 rfl
theorem Owb.grew {w w' : World} {B n c : Nat} {A : Option Addr} {o : List (BitVec 8)} (h : Owb w B A n c o) (hg : w.grownBy w' (Value.slice A n c).ownBlock) (hB : B ≤ w.heap.size) : Below B w w' :=
  ⟨hg.os, hg.tape, hg.output, hg.size, fun k hk => hg.block k (by omega) fun e => by have := own_ge h k e.symm; omega⟩
/-- What Text returns. -/
def TxSays (w : World) (p : Nat) (r : Except Nat (List (BitVec 8) × Nat)) (e : Ending) (w' : World) : Prop := Below w.heap.size w w' ∧ match r with
  | .error k => e = .returned (.tuple #[.slice none 0 0, .int .i64 ((p + k : Nat) : Int), .int .i64 ((p + k : Nat) : Int)])
  | .ok (t, k) => ∃ A' c', e = .returned (.tuple #[.slice A' t.length c', .int .i64 ((p + k : Nat) : Int), .int .i64 (-1)]) ∧ Owb w' w.heap.size A' t.length c' t
theorem add_pos' (ad : Addr) (k : Nat) (h : 0 < k) : ad.add k = ⟨ad.block, ad.off + k, none⟩ := by
  unfold Addr.add; rw [if_neg (by omega)]
theorem tx_bad {w w' : World} {p k : Nat} {z : Int} {r : Except Nat (List (BitVec 8) × Nat)} (hb : Below w.heap.size w w') (hr : r = .error k) (hz : z = ((p + k : Nat) : Int)) : TxSays w p r (.returned (.tuple #[.slice none 0 0, .int .i64 z, .int .i64 z])) w' := by
  subst hr; subst hz; exact ⟨hb, rfl⟩
theorem tx_ok {w w' : World} {p k m c : Nat} {z : Int} {A : Option Addr} {t : List (BitVec 8)} {r : Except Nat (List (BitVec 8) × Nat)} (hb : Below w.heap.size w w') (hr : r = .ok (t, k)) (hz : z = ((p + k : Nat) : Int)) (ho : Owb w' w.heap.size A m c t) : TxSays w p r (.returned (.tuple #[.slice A m c, .int .i64 z, .int .i64 (-1)])) w' := by
  have := ho.len
  subst hr; subst hz; subst this; exact ⟨hb, A, c, rfl, ho⟩
end Go.Proofs.Ythaebchmlicgaaa.Lex
