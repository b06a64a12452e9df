/-
  The program's ops as the document's (layer 8): davitlaw08.As.
-/
import Derived.Test.YtjpbndpfbdfhjaaMNfaAs
namespace Go.Proofs.Ytjpbndpfbdfhjaa.Nfa
open Go.RowKit Go.Proofs.Ytjpbndpfbdfhjaa.Ord
open Go.Proofs.Ytjpbndpfbdfhjaa.Reg (Ov oflat Sp RSpn Spn sflat sflat_length sflat_snoc rrowSpan oflat_length)
set_option linter.unusedVariables false
set_option linter.unusedSimpArgs false

/-- The program's ops, that can be read. -/
structure Pr8 (w : World) (A : Option Addr) (us : List Ov) : Prop where
  ry : Cz w A (oflat us)
  sp : ∀ u ∈ us, Cz w u.A (sflat u.o.sp)
/-- The cells of an op in a row. -/
theorem cz_three {w : World} {A : Option Addr} {us : List Ov} (h : Cz w A (oflat us)) {i : Nat} {u : Ov} (hi : us[i]? = some u) : ∃ ad, A = some ad ∧ w.cell? (ad.add (i * 3)) = some (.int .i64 u.o.kind) ∧
    w.cell? ⟨(ad.add (i * 3)).block, (ad.add (i * 3)).off + 1, none⟩ = some (.bool u.o.neg) ∧ w.cell? ⟨(ad.add (i * 3)).block, (ad.add (i * 3)).off + 2, none⟩ = some (.slice u.A u.o.sp.length u.c) := by
  have e : ∀ k, k < 3 → (oflat us)[i * 3 + k]? = u.cells[k]? := fun k hk => Nfa.flat_at Ov.cells 3 (fun _ => rfl) us i k u hi hk
  obtain ⟨ad, rfl, hc⟩ := h (fun q => by have := e 0 (by decide); rw [q] at this; simp [Ov.cells] at this)
  exact ⟨ad, rfl, hc _ _ (e 0 (by decide)), by rw [add_at _ _ 1 (by decide)]; exact hc _ _ (e 1 (by decide)), by rw [add_at _ _ 2 (by decide)]; exact hc _ _ (e 2 (by decide))⟩
theorem rinfoOp9 : (Try.prog.info? 109).map (fun i => (i.zero, i.size, i.bytes)) = some (some (.agg #[.int .i64 0, .bool false, .slice none 0 0]), 3, 40) := by kernel_rfl
theorem rrowOp9 : ElemRow Try.prog 52 109 3 40 := ElemRow.mk' Try.underlying52 rinfoOp9 rfl (by decide)
/-- The document's ops, in an own row. -/
structure Ro (w : World) (B : Nat) (A : Option Addr) (n c : Nat) (us : List Ov) : Prop where
  own : w.ownsRow B 109 3 (.slice A n c) n (oflat us)
  len : us.length = n
  sp : ∀ u ∈ us, RSpn w u.A u.o.sp
section
variable {w w' : World} {B B' n c : Nat} {A : Option Addr} {us : List Ov}
theorem Ro.rl (h : Ro w B A n c us) : Rl w A us := ⟨Ry.of_own h.own (by decide), h.sp⟩
theorem Ro.below (h : Ro w B A n c us) (hb : Below w.heap.size w w') : Ro w' B A n c us := ⟨own_frm (l := []) h.own (Frm.of_below hb) (by simp), h.len, fun u hu => Ry.below (h.sp u hu) hb⟩
theorem Ro.nil_ (w : World) (B : Nat) : Ro w B none 0 0 [] := ⟨World.ownsRow_nil _ _ _ _, rfl, by simp⟩
theorem Ro.pushed {c' n' : Nat} {A' : Option Addr} {vs : List Ov} {cs : List Value} (h : Ro w B A n c us) (hv : ∀ u ∈ vs, RSpn w u.A u.o.sp) (hn : n' = n + vs.length) (hcs : cs = oflat us ++ oflat vs) (hg : w.grownBy w' (Value.slice A n c).ownBlock) (ho : w'.ownsRow B 109 3 (.slice A' n' c') n' cs) : Ro w' B A' n' c' (us ++ vs) := by
  subst hcs
  refine ⟨by rw [show oflat (us ++ vs) = oflat us ++ oflat vs by simp [oflat]]; exact ho, by rw [List.length_append, h.len, hn], fun u hu => ?_⟩
  rcases List.mem_append.1 hu with q | q
  · exact Ry.grown (h.sp u q) hg (own_not_ty h.own (by decide))
  · exact Ry.grown (hv u q) hg (own_not_ty h.own (by decide))
theorem Ro.grew (h : Ro w B A n c us) (hg : w.grownBy w' (Value.slice A n c).ownBlock) (hB : B ≤ w.heap.size) : Below B w w' :=
  ⟨hg.os, hg.tape, hg.output, hg.size, fun k hk => hg.block k (by omega) fun e => by have := own_ge h.own k e.symm; omega⟩
end
theorem take_snocO (l : List Ov) (k : Nat) (x : Ov) (h : l[k]? = some x) : l.take (k + 1) = l.take k ++ [x] := by rw [List.take_add_one, h]; rfl

/-- What As returns. -/
def As8Says (w : World) (n : Nat) (us : List Ov) (e : Ending) (w' : World) : Prop := ∃ A' c' vs, e = .returned (.slice A' n c') ∧ Ro w' w.heap.size A' n c' vs ∧ vs.map (·.o) = us.map (·.o) ∧ Below w.heap.size w w'
end Go.Proofs.Ytjpbndpfbdfhjaa.Nfa
