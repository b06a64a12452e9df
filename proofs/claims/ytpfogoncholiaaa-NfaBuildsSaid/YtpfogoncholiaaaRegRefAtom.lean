/-
  The document's parser of patterns (layer 8): atoms.
-/
import Derived.Test.YtpfogoncholiaaaRegRefItems
import Derived.Test.YtpfogoncholiaaaRegMem
namespace Go.Proofs.Ytpfogoncholiaaa.Reg
open Go.RowKit
set_option linter.unusedVariables false
set_option linter.unusedSimpArgs false

/-- The cells cs lie at a slice of the document's ops. -/
def Sl (w : World) (A : Option Addr) (m : Nat) (cs : List Value) : Prop := cs.length = m * 3 ∧ (∀ u ∈ cs, u.oneCell' = true) ∧ Ry 60 w A cs
/-- Cells that are ops. -/
def Gd (w : World) (cs : List Value) (ops : List Rop) : Prop := ∃ us : List Ov, cs = oflat us ∧ us.map (·.o) = ops ∧ ∀ u ∈ us, RSpn w u.A u.o.sp
theorem oflat_length (us : List Ov) : (oflat us).length = us.length * 3 := by
  induction us with
  | nil => rfl
  | cons x l ih => rw [oflat, List.flatMap_cons, List.length_append, show (l.flatMap Ov.cells) = oflat l from rfl, ih]; show 3 + l.length * 3 = (l.length + 1) * 3; omega
theorem oflat_one (us : List Ov) : ∀ u ∈ oflat us, u.oneCell' = true := by
  intro u hu
  obtain ⟨x, _, hx⟩ := List.mem_flatMap.1 hu
  simp [Ov.cells] at hx
  rcases hx with rfl | rfl | rfl <;> rfl
/-- A slice of one op. -/
theorem Sl.one {w : World} {g : Nat} {x0 x1 x2 : Value} (h : Cel w g 60 [x0, x1, x2]) (h0 : x0.oneCell' = true) (h1 : x1.oneCell' = true) (h2 : x2.oneCell' = true) : Sl w (some ⟨g, 0, none⟩) 1 [x0, x1, x2] :=
  ⟨rfl, by intro u hu; simp at hu; rcases hu with rfl | rfl | rfl <;> assumption, Ry.of_cel h⟩
theorem Gd.one {w : World} {A : Option Addr} {c : Nat} (o : Rop) (h : RSpn w A o.sp) : Gd w [.int .i64 o.kind, .bool o.neg, .slice A o.sp.length c] [o] := ⟨[⟨o, A, c⟩], by simp [oflat, Ov.cells], rfl, by simpa using h⟩

/-- The document's ops, in an own row. -/
structure ROws (w : World) (B : Nat) (v : Value) (ops : List Rop) : Prop where
  row : ∃ us : List Ov, w.ownsRow B 60 3 v ops.length (oflat us) ∧ us.map (·.o) = ops ∧ ∀ u ∈ us, RSpn w u.A u.o.sp

def AtOk (s : List (BitVec 8)) (deep k : Nat) (ops : List Rop) (j : Nat) : Prop := ∀ (o : List Rop) (lv : Lv) (K : List Lv), K.length = deep → run s ⟨k, o, lv, K⟩ = run s (pieceEnd s ⟨j, o ++ ops, lv, K⟩)
def AtBad (s : List (BitVec 8)) (deep k bad q : Nat) : Prop := ∀ (o : List Rop) (lv : Lv) (K : List Lv), K.length = deep → run s ⟨k, o, lv, K⟩ = .error (bad, q)
def AltOk (s : List (BitVec 8)) (deep k : Nat) (ops : List Rop) (j : Nat) : Prop := ∀ (o : List Rop) (K : List Lv), K.length = deep → ∃ y : St, run s ⟨k, o, ⟨false, false⟩, K⟩ = run s y ∧ y.at_ = j ∧ y.outer = K ∧ (branchEnd y).ops = o ++ ops
def AltBad (s : List (BitVec 8)) (deep k bad q : Nat) : Prop := ∀ (o : List Rop) (K : List Lv), K.length = deep → run s ⟨k, o, ⟨false, false⟩, K⟩ = .error (bad, q)
theorem at_ok {s : List (BitVec 8)} {deep k : Nat} {y : BitVec 8} {o : Rop} {j : Nat} (hy : s[k]? = some y) (h40 : y ≠ 40#8) (h41 : y ≠ 41#8) (h124 : y ≠ 124#8) (h : atomL s k y = .ok (o, j)) : AtOk s deep k [o] j := fun o' lv K _ => by
  rw [run_step (x := ⟨k, o', lv, K⟩) hy]
  unfold step
  rw [if_neg h40, if_neg h41, if_neg h124, h]
theorem at_bad {s : List (BitVec 8)} {deep k : Nat} {y : BitVec 8} {q : Nat} (hy : s[k]? = some y) (h40 : y ≠ 40#8) (h41 : y ≠ 41#8) (h124 : y ≠ 124#8) (h : atomL s k y = .error q) : AtBad s deep k 2 q := fun o' lv K _ => by
  rw [run_step (x := ⟨k, o', lv, K⟩) hy]
  unfold step
  rw [if_neg h40, if_neg h41, if_neg h124, h]
theorem at_deep {s : List (BitVec 8)} {k : Nat} (hy : s[k]? = some 40#8) : AtBad s 8 k 5 k := fun o' lv K hK => by
  rw [run_step (x := ⟨k, o', lv, K⟩) hy]
  unfold step
  rw [if_pos rfl, if_pos (by exact hK)]
theorem run_open {s : List (BitVec 8)} {k : Nat} (hy : s[k]? = some 40#8) {o : List Rop} {lv : Lv} {K : List Lv} (hK : K.length ≠ 8) : run s ⟨k, o, lv, K⟩ = run s ⟨k + 1, o, ⟨false, false⟩, lv :: K⟩ := by
  rw [run_step (x := ⟨k, o, lv, K⟩) hy]
  unfold step
  rw [if_pos rfl, if_neg (by exact hK)]
theorem at_in_bad {s : List (BitVec 8)} {deep k bad q : Nat} (hd : deep < 8) (hy : s[k]? = some 40#8) (h : AltBad s (deep + 1) (k + 1) bad q) : AtBad s deep k bad q := fun o' lv K hK => by
  rw [run_open hy (by omega)]
  exact h o' (lv :: K) (by simp [hK])
theorem at_in_end {s : List (BitVec 8)} {deep k j : Nat} {ops : List Rop} (hd : deep < 8) (hy : s[k]? = some 40#8) (h : AltOk s (deep + 1) (k + 1) ops j) (hj : j = s.length) : AtBad s deep k 2 j := fun o' lv K hK => by
  rw [run_open hy (by omega)]
  obtain ⟨y, h1, h2, h3, h4⟩ := h o' (lv :: K) (by simp [hK])
  rw [h1, run_end (h2.trans hj), if_pos (by rw [h3]; simp), h2]
theorem at_in_ok {s : List (BitVec 8)} {deep k j : Nat} {ops : List Rop} (hd : deep < 8) (hy : s[k]? = some 40#8) (h : AltOk s (deep + 1) (k + 1) ops j) (hj : s[j]? = some 41#8) : AtOk s deep k ops (j + 1) := fun o' lv K hK => by
  rw [run_open hy (by omega)]
  obtain ⟨y, h1, h2, h3, h4⟩ := h o' (lv :: K) (by simp [hK])
  rw [h1, run_step (x := y) (by rw [h2]; exact hj)]
  unfold step
  rw [if_neg (by decide), if_pos rfl, h3]
  dsimp only
  rw [h2, h4]

section
variable (w : World) (B b : Nat) (A : Option Addr) (n c p k deep : Nat) (s : List (BitVec 8)) (y : BitVec 8)
end
end Go.Proofs.Ytpfogoncholiaaa.Reg
