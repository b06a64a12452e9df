/-
  Words for layer 4 (frag): bytes by the type of their block; rows of parts, rows of records.
-/
import Derived.Test.YtmchpakefddinaaAppend
import Derived.Test.YtmchpakefddinaaMem
import Derived.Test.YtmchpakefddinaaFragPure
import Derived.RangeFuncBox
import Derived.WalkKit
import Derived.ProofKit
import Derived.Below
import Derived.Lib.SlBytesConst
import Derived.Outline
import Derived.Laws.BitsAllLaws
import Derived.OwnWalk
import Derived.RegionTactic
import Derived.Lib.Hide
import Derived.Deep.WholeRow
import Derived.Deep.MidRow
import Derived.Test.YtmchpakefddinaaRows
namespace Go.Proofs.Ytmchpakefddinaa.Frag
open Go.RowKit
set_option linter.unusedVariables false

/-- Bytes that lie in a block of bytes. -/
def By (w : World) (A : Option Addr) (n : Nat) (bs : List (BitVec 8)) : Prop :=
  bs.length = n ∧ (0 < n → ∃ ad, A = some ad ∧ (∃ cs fz, w.heap[ad.block]? = some (.cells cs 5 fz)) ∧ ∀ j, j < n → w.cell? (ad.add j) = some (v8 (bs.getD j 0#8)))
namespace By
variable {w w' : World} {A : Option Addr} {n : Nat} {bs : List (BitVec 8)}
theorem len (h : By w A n bs) : bs.length = n := h.1
theorem keep (h : By w A n bs) (hk : ∀ (k : Nat) cs fz, w.heap[k]? = some (Obj.cells cs 5 fz) → w'.heap[k]? = w.heap[k]?) : By w' A n bs :=
  ⟨h.1, fun hn => by
    obtain ⟨ad, e, ⟨cs, fz, hb⟩, hc⟩ := h.2 hn
    have h1 := hk _ _ _ hb
    exact ⟨ad, e, ⟨cs, fz, h1.trans hb⟩, fun j hj => (World.cell?_of_block (by rw [add_block]; exact h1)).trans (hc j hj)⟩⟩
theorem rd (h : By w A n bs) : Bs w w.heap.size A n bs :=
  ⟨h.1, fun hn => by
    obtain ⟨ad, e, ⟨cs, fz, hb⟩, hc⟩ := h.2 hn
    exact ⟨ad, e, (Array.getElem?_eq_some_iff.1 hb).1, hc⟩⟩
theorem below (h : By w A n bs) (hb : Below w.heap.size w w') : By w' A n bs := h.keep fun k _ _ hk => hb.block k (Array.getElem?_eq_some_iff.1 hk).1
theorem drew (h : By w A n bs) : By w.drew A n bs := h
theorem alloc (h : By w A n bs) (o : Obj) : By (w.alloc o) A n bs := h.below ((Below.refl _ _).alloc (Nat.le_refl _) _)
theorem grown (h : By w A n bs) {row : Option Nat} (hg : w.grownBy w' row) (hr : ∀ (g : Nat) cs fz, row = some g → w.heap[g]? ≠ some (Obj.cells cs 5 fz)) : By w' A n bs :=
  h.keep fun k cs fz hk => hg.block k (Array.getElem?_eq_some_iff.1 hk).1 (fun e => hr k cs fz e.symm hk)
theorem set (h : By w A n bs) {b : Nat} {t : TypeId} {v : Value} (hb : Boxed w b t v) (ht : t ≠ 5) (u : Value) : By (w.setCell ⟨b, 0, none⟩ u) A n bs :=
  h.grown (grownBy_setCell' w b u) fun g cs fz e hg => by
    cases e
    have := (show w.heap[b]? = _ from hb).symm.trans hg
    simp at this
    exact ht this.2.1
theorem putObj (h : By w A n bs) {l : Nat} {o : Obj} (o' : Obj) (hl : w.heap[l]? = some o) (ho : o.isCells = false) : By (w.putObj l o') A n bs :=
  h.grown (grownBy_putObj' w l o') fun g cs fz e hg => by
    cases e
    rw [hl] at hg; cases hg; cases ho
theorem of_own {base c : Nat} (h : w.ownsRow base 5 1 (.slice A n c) n (bs.map v8)) : By w A n bs := by
  have hl : bs.length = n := by simpa using h.1
  refine ⟨hl, fun hn => ?_⟩
  rcases h.2 with ⟨hv, h0⟩ | ⟨g, cap, cur, hv, hb, hg, _⟩
  · omega
  · have hA : A = some ⟨g, 0, none⟩ := by injection hv
    subst hA
    refine ⟨_, rfl, ⟨_, _, hg⟩, fun j hj => h.cells (g := g) rfl j _ ?_⟩
    rw [List.getElem?_map, List.getElem?_eq_getElem (by omega), List.getD_eq_getElem?_getD, List.getElem?_eq_getElem (by omega)]
    rfl
end By

/-- A row of another type is not a block of bytes. -/
theorem not_bytes {w : World} {base e size n : Nat} {v : Value} {xs : List Value} (h : w.ownsRow base e size v n xs) (he : e ≠ 5) : ∀ (g : Nat) cs fz, v.ownBlock = some g → w.heap[g]? ≠ some (Obj.cells cs 5 fz) := by
  intro g cs fz hv hg
  rcases h.2 with ⟨rfl, _⟩ | ⟨g', cap, cur, rfl, _, hg', _⟩
  · simp [Value.ownBlock] at hv
  · obtain rfl : g' = g := by simpa [Value.ownBlock] using hv
    rw [hg] at hg'
    simp at hg'
    exact he hg'.2.1.symm

/-- A part, and where its body lies. -/
structure Pv where
  p : Pt
  A : Option Addr
  c : Nat
def Pv.val (x : Pv) : Value := .agg #[v32 x.p.epoch, v32 x.p.seq, .int .i64 x.p.flags, .slice x.A x.p.body.length x.c]
def Pv.cells (x : Pv) : List Value := [v32 x.p.epoch, v32 x.p.seq, .int .i64 x.p.flags, .slice x.A x.p.body.length x.c]
def flat (xs : List Pv) : List Value := xs.flatMap Pv.cells
theorem flat_length (xs : List Pv) : (flat xs).length = xs.length * 4 := by
  induction xs with
  | nil => rfl
  | cons x xs ih => rw [flat, List.flatMap_cons, List.length_append, List.length_cons, show (List.flatMap Pv.cells xs) = flat xs from rfl, ih]; show 4 + xs.length * 4 = _; omega
theorem flat_append (xs ys : List Pv) : flat (xs ++ ys) = flat xs ++ flat ys := by rw [flat, List.flatMap_append]; rfl
theorem flat_one (xs : List Pv) : ∀ u ∈ flat xs, u.oneCell' = true := by
  intro u hu
  obtain ⟨x, _, hx⟩ := List.mem_flatMap.1 hu
  simp [Pv.cells] at hx
  rcases hx with rfl | rfl | rfl | rfl <;> rfl
theorem flat_at : ∀ (xs : List Pv) (i k : Nat) (x : Pv), xs[i]? = some x → k < 4 → (flat xs)[i * 4 + k]? = x.cells[k]?
  | [], _, _, _, h, _ => by simp at h
  | y :: ys, 0, k, x, h, hk => by
    simp at h
    subst h
    rw [flat, List.flatMap_cons, List.getElem?_append_left (by show _ < 4; omega), Nat.zero_mul, Nat.zero_add]
  | y :: ys, i + 1, k, x, h, hk => by
    have h1 := flat_at ys i k x (by simpa using h) hk
    rw [flat, List.flatMap_cons, List.getElem?_append_right (by show 4 ≤ _; omega)]
    rw [← h1]
    congr 1
    show _ - 4 = _
    omega
theorem flat_drop (xs : List Pv) (k : Nat) : flat (xs.drop k) = (flat xs).drop (k * 4) := by
  induction k generalizing xs with
  | zero => simp
  | succ k ih =>
    cases xs with
    | nil => rfl
    | cons x xs =>
      have e : flat (x :: xs) = x.cells ++ flat xs := List.flatMap_cons ..
      rw [List.drop_succ_cons, ih, e, List.drop_append, show x.cells.drop ((k + 1) * 4) = [] from List.drop_eq_nil_of_le (by show 4 ≤ _; omega), List.nil_append]
      congr 1
      show _ = _ - 4
      omega
theorem flat_take (xs : List Pv) (k : Nat) : flat (xs.take k) = (flat xs).take (k * 4) := by
  induction k generalizing xs with
  | zero => simp [flat]
  | succ k ih =>
    cases xs with
    | nil => rfl
    | cons x xs =>
      have e : ∀ xs : List Pv, flat (x :: xs) = x.cells ++ flat xs := fun _ => List.flatMap_cons ..
      rw [List.take_succ_cons, e, e, List.take_append, List.take_of_length_le (l := x.cells) (by show 4 ≤ _; omega), ih]
      congr 2
      show _ = _ - 4
      omega

/-- The slice '.slice A n c' holds the parts xs; all lies below block B. -/
structure Pr (w : World) (B : Nat) (A : Option Addr) (n : Nat) (xs : List Pv) : Prop where
  len : xs.length = n
  cells : 0 < n → ∃ ad, A = some ad ∧ ad.block < B ∧ ∀ j u, (flat xs)[j]? = some u → w.cell? (ad.add j) = some u
  bodies : ∀ x ∈ xs, Bs w B x.A x.p.body.length x.p.body
namespace Pr
variable {w w' : World} {B n : Nat} {A : Option Addr} {xs : List Pv}
theorem below (h : Pr w B A n xs) (hb : Below B w w') : Pr w' B A n xs :=
  ⟨h.len, fun hn => by
    obtain ⟨ad, e, hl, hc⟩ := h.cells hn
    exact ⟨ad, e, hl, fun j u hu => (hb.cell (by rw [add_block]; exact hl)).trans (hc j u hu)⟩, fun x hx => (h.bodies x hx).below hb⟩
theorem take (h : Pr w B A n xs) {k : Nat} (hk : k ≤ n) : Pr w B A k (xs.take k) := by
  refine ⟨by rw [List.length_take, h.len]; omega, fun hn => ?_, fun x hx => h.bodies x (List.mem_of_mem_take hx)⟩
  obtain ⟨ad, e, hl, hc⟩ := h.cells (by omega)
  refine ⟨ad, e, hl, fun j u hu => hc j u ?_⟩
  rw [flat_take, List.getElem?_take] at hu
  split at hu
  · exact hu
  · cases hu
theorem drop (h : Pr w B A n xs) {k cap : Nat} (hk : k ≤ n) (hc : n ≤ cap) : Pr w B (if cap = k then A else A.map (·.add (k * 4))) (n - k) (xs.drop k) := by
  refine ⟨by rw [List.length_drop, h.len], fun hn => ?_, fun x hx => h.bodies x (List.mem_of_mem_drop hx)⟩
  obtain ⟨ad, rfl, hl, hcell⟩ := h.cells (by omega)
  rw [if_neg (by omega)]
  refine ⟨ad.add (k * 4), rfl, by rw [add_block]; exact hl, fun j u hu => ?_⟩
  rw [flat_drop, List.getElem?_drop] at hu
  rw [add_add]
  exact hcell _ _ hu
theorem at_ (h : Pr w B A n xs) {i : Nat} (hi : i < n) : ∃ ad x, A = some ad ∧ xs[i]? = some x ∧ Bs w B x.A x.p.body.length x.p.body ∧ ad.block < B ∧
    w.cell? (ad.add (i * 4)) = some (v32 x.p.epoch) ∧ w.cell? ⟨(ad.add (i * 4)).block, (ad.add (i * 4)).off + 1, none⟩ = some (v32 x.p.seq) ∧ w.cell? ⟨(ad.add (i * 4)).block, (ad.add (i * 4)).off + 2, none⟩ = some (.int .i64 x.p.flags) ∧ w.cell? ⟨(ad.add (i * 4)).block, (ad.add (i * 4)).off + 3, none⟩ = some (.slice x.A x.p.body.length x.c) := by
  obtain ⟨ad, rfl, hl, hc⟩ := h.cells (by omega)
  have hl' : i < xs.length := by rw [h.len]; exact hi
  have hx := List.getElem?_eq_getElem hl'
  have e : ∀ k, 0 < k → (⟨(ad.add (i * 4)).block, (ad.add (i * 4)).off + k, none⟩ : Addr) = ad.add (i * 4 + k) := fun k hk => by
    rw [← add_add]
    generalize ad.add (i * 4) = q
    unfold Addr.add
    rw [if_neg (by omega)]
  exact ⟨ad, xs[i], rfl, hx, h.bodies _ (List.getElem_mem hl'), hl, hc _ _ (flat_at xs i 0 _ hx (by decide)), by rw [e 1 (by decide)]; exact hc _ _ (flat_at xs i 1 _ hx (by decide)), by rw [e 2 (by decide)]; exact hc _ _ (flat_at xs i 2 _ hx (by decide)), by rw [e 3 (by decide)]; exact hc _ _ (flat_at xs i 3 _ hx (by decide))⟩
end Pr
end Go.Proofs.Ytmchpakefddinaa.Frag
