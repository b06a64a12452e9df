/-
  A region that draws its order and whose last operations write what its first ones read.
-/
import Derived.WalkKit
import Derived.ProofKit
import Derived.OrdersHeld
import Derived.Deep.RegionHeld
namespace Go.Proofs.Ythaebchmlicgaaa.Ord
open Go.RowKit

section
variable {l n : Nat} {P : Program} {ops : Array Oper} {Q : Exit → Act → World → Prop} {md : Region.Mode}

/-! ### A region whose last operations write what its first ones read: S is asked behind all operations but those of N. -/
variable {S : World → Prop} {N : List Nat}
def wpAnyN (P : Program) (md : Region.Mode) (ops : Array Oper) (Q : Exit → Act → World → Prop) (S : World → Prop) (N : List Nat) : Nat → Array Bool → Act → World → Prop
  | 0, listed, a, w => Region.ready md ops listed = [] ∧ Q .normal a w
  | fuel + 1, listed, a, w =>
    (Region.ready md ops listed = [] → Q .normal a w) ∧
    ∀ i ∈ Region.ready md ops listed, wpOp P ops Q i (fun a' w' => (i ∉ N → S w') ∧ wpAnyN P md ops Q S N fuel (listed.setIfInBounds i true) a' w') a w
theorem wpAny_of_N : ∀ (fuel : Nat) (listed : Array Bool) (a : Act) (w : World), wpAnyN P md ops Q S N fuel listed a w → wpAny P md ops Q fuel listed a w
  | 0, _, _, _, h => h
  | fuel + 1, _, _, _, h => ⟨h.1, fun i hi => wpOp_mono (fun a' w' h' => wpAny_of_N fuel _ a' w' h'.2) (h.2 i hi)⟩

/-- Each of D waits for number i, or for another of D. -/
def waits (md : Region.Mode) (ops : Array Oper) (i : Nat) (D : List Nat) : Bool := D.all fun j => match ops[j]? with
  | some o => o.after.any fun e => Region.binds md e && (e.on == i || D.contains e.on)
  | none => false
/-- Number i may come up, and none of D has. -/
structure Pend (md : Region.Mode) (ops : Array Oper) (i : Nat) (D : List Nat) (L : Array Bool) : Prop where
  now : i ∈ Region.ready md ops L
  none : ∀ d ∈ D, L.getD d true = false
/-- What is listed is no longer to come. -/
theorem listed_no {L : Array Bool} {k : Nat} (h : L.getD k true = false) (h' : L.getD k false = true) : False := by
  rcases Nat.lt_or_ge k L.size with hk | hk
  · simp [hk] at h h'
    rw [h] at h'
    cases h'
  · simp [Array.getElem?_eq_none hk] at h'
theorem ready_edge {L : Array Bool} {j : Nat} {o : Oper} (hj : j ∈ Region.ready md ops L) (ho : ops[j]? = some o) : ∀ e ∈ o.after, Region.binds md e = true → L.getD e.on true ≠ false := by
  obtain ⟨_, o', ho', hall⟩ := mem_ready.1 hj
  rw [ho] at ho'
  cases ho'
  intro e he hb hc
  exact listed_no hc (by simpa using hall e he hb)
namespace Pend
variable {i j : Nat} {D : List Nat} {L : Array Bool} {oj : Oper}
theorem open_ (h : Pend md ops i D L) : L.getD i true = false := (mem_ready.1 h.now).1
/-- Another that may come up does not wait for number i. -/
theorem apart_ (h : Pend md ops i D L) (hj : j ∈ Region.ready md ops L) (ho : ops[j]? = some oj) : ∀ e ∈ oj.after, Region.binds md e = true → e.on ≠ i :=
  fun e he hb hi => ready_edge hj ho e he hb (by rw [hi]; exact h.open_)
/-- Nor is it one of D. -/
theorem not_D (h : Pend md ops i D L) (hD : waits md ops i D = true) (hj : j ∈ Region.ready md ops L) : j ∉ D := by
  intro hm
  have h1 := List.all_eq_true.1 hD j hm
  cases ho : ops[j]? with
  | none => rw [ho] at h1; cases h1
  | some o =>
    rw [ho] at h1
    simp only [Array.any_eq_true] at h1
    obtain ⟨k, hk, h2⟩ := h1
    rw [Bool.and_eq_true, Bool.or_eq_true, beq_iff_eq, List.contains_iff_mem] at h2
    refine ready_edge hj ho _ (Array.getElem_mem hk) h2.1 ?_
    rcases h2.2 with e | e
    · rw [e]; exact h.open_
    · exact h.none _ e
theorem step (h : Pend md ops i D L) (hD : waits md ops i D = true) (hj : j ∈ Region.ready md ops L) (hne : j ≠ i) : Pend md ops i D (L.setIfInBounds j true) :=
  ⟨ready_mono h.now (Ne.symm hne), fun d hd => by
    have hjd : j ≠ d := fun e => h.not_D hD hj (by rw [e]; exact hd)
    rw [getD_set_ne true hjd]
    exact h.none d hd⟩
end Pend

/-- Number i may be carried out first: in every order that is left, S holds till it comes up. -/
theorem wpAnyN_first {i : Nat} {oi : Oper} {v : Value} {D : List Nat} (hDw : waits md ops i D = true) (hND : ∀ n ∈ N, n ∈ D) (hi : ops[i]? = some oi) (hsel : ∀ (j : Nat) (o : Oper) cs b, ops[j]? = some o → o.op ≠ .select cs b)
    (hQ : ∀ c a w, Q (.panic c) (a.put oi.dst v) w → Q (.panic c) a w) {L0 : Array Bool}
    (hfree : ∀ j oj, ops[j]? = some oj → j ≠ i → L0.getD j true = false → (∀ e ∈ oj.after, Region.binds md e = true → e.on ≠ i) → oi.apart ops oj = true) :
    ∀ (fuel : Nat) (L : Array Bool) (a : Act) (w : World), (∀ j, L.getD j true = false → L0.getD j true = false) → Pend md ops i D L → YieldsIf P ops S oi v a → S w →
      wpAnyN P md ops Q S N fuel (L.setIfInBounds i true) (a.put oi.dst v) w → wpAnyN P md ops Q S N (fuel + 1) L a w := by
  intro fuel
  induction fuel with
  | zero =>
    intro L a w _ hp hy hS H
    refine ⟨fun h => absurd hp.now (by rw [h]; simp), fun j hj => ?_⟩
    rcases Decidable.em (j = i) with rfl | hne
    · exact hy.wpOp hi hS ⟨fun _ => hS, H⟩
    · exact absurd (ready_mono hj hne) (by rw [H.1]; simp)
  | succ fuel ih =>
    intro L a w hL hp hy hS H
    refine ⟨fun h => absurd hp.now (by rw [h]; simp), fun j hj => ?_⟩
    rcases Decidable.em (j = i) with rfl | hne
    · exact hy.wpOp hi hS ⟨fun _ => hS, H⟩
    · obtain ⟨hju, oj, hoj, _⟩ := mem_ready.1 hj
      have hap := hfree j oj hoj hne (hL j hju) (hp.apart_ hj hoj)
      have hnN : j ∉ N := fun hn => hp.not_D hDw hj (hND j hn)
      refine wpOp_mono (fun a' w' h => ⟨h.2.1, ih _ a' w' (fun k hk => ?_) (hp.step hDw hj hne) h.1 (h.2.1 hnN) (by rw [Array.setIfInBounds_comm _ _ hne]; exact h.2.2)⟩)
        (wpOp_putIf hoj hap (fun cs b => hsel i oi cs b hi) (fun cs b => hsel j oj cs b hoj) hQ hy (H.2 j (ready_mono hj hne)))
      rcases Decidable.em (j = k) with rfl | hjk
      · exact hL j hju
      · rw [getD_set_ne true hjk] at hk; exact hL k hk

theorem wpAnyN_take {i : Nat} {oi : Oper} {v : Value} {fuel : Nat} {listed : Array Bool} {a : Act} {w : World} (D : List Nat) (hDw : (waits md ops i D && N.all D.contains && !D.contains i && D.all (fun d => !listed.getD d true)) = true) (hi : ops[i]? = some oi)
    (hs : Region.noSelect ops = true) (hf : Region.free md ops listed i = true) (hr : (Region.ready md ops listed).contains i = true)
    (hQ : ∀ c a w, Q (.panic c) (a.put oi.dst v) w → Q (.panic c) a w) (hy : YieldsIf P ops S oi v a) (hS : S w)
    (h : wpAnyN P md ops Q S N fuel (listed.setIfInBounds i true) (a.put oi.dst v) w) : wpAnyN P md ops Q S N (fuel + 1) listed a w := by
  simp only [Bool.and_eq_true] at hDw
  obtain ⟨⟨⟨h1, h2⟩, _⟩, h4⟩ := hDw
  rw [List.all_eq_true] at h2 h4
  exact wpAnyN_first h1 (fun n hn => List.contains_iff_mem.1 (h2 n hn)) hi (Region.noSelect_spec hs) hQ (Region.free_spec hi hf) fuel listed a w (fun _ h => h) ⟨by simpa using hr, fun d hd => by simpa using h4 d hd⟩ hy hS h

theorem wpAnyN_one {i : Nat} {o : Oper} {fuel : Nat} {listed : Array Bool} {a : Act} {w : World} (hr : Region.ready md ops listed = [i]) (ho : ops[i]? = some o)
    (h : ∀ K' : Act → World → Prop, Shut (∀ a w, (i ∈ N ∨ S w) → wpAnyN P md ops Q S N fuel (listed.setIfInBounds i true) a w → K' a w) → if Region.wanted o (yielded ops a.tmps) = true then Oper.wp P o a w K' Q else K' (a.put o.dst undef) w) :
    wpAnyN P md ops Q S N (fuel + 1) listed a w :=
  ⟨fun h0 => (by rw [hr] at h0; cases h0), fun j hj => by
    rw [hr, List.mem_singleton] at hj
    subst hj
    exact wpOp_step ho (fun K' hK => h K' (fun a w hS hW => hK a w ⟨fun hn => hS.resolve_left hn, hW⟩))⟩

theorem wpAnyN_done {listed : Array Bool} {a : Act} {w : World} (hr : Region.ready md ops listed = []) (h : Q .normal a w) :
    ∀ fuel, wpAnyN P md ops Q S N fuel listed a w
  | 0 => ⟨hr, h⟩
  | _ + 1 => ⟨fun _ => h, by rw [hr]; simp⟩

theorem wp_region_N (N : List Nat) (S : World → Prop) {id : Nat} {a : Act} {w : World} (hm : P.follows .mixedOrders = true)
    (h : wpAnyN P .any ops Q S N ops.size (Array.replicate ops.size false) a w.drew) : (Code.region id ops true).wp P Q a w :=
  wp_region_any hm (wpAny_of_N _ _ _ _ h)
end
end Go.Proofs.Ythaebchmlicgaaa.Ord
