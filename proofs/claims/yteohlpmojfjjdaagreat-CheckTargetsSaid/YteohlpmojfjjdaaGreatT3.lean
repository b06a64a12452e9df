/-
Texts: AppendAny RowTy
-/
import Derived.Test.YteohlpmojfjjdaaGreatT0
import Derived.Test.YteohlpmojfjjdaaGreatT2
import Derived.WalkKit
import Derived.ProofKit
set_option linter.unusedVariables false
set_option linter.unusedSimpArgs false
section
namespace Go.Proofs.YteohlpmojfjjdaaGreat
open Go.RowKit
structure ElemRow (P : Program) (t e : TypeId) (size bytes : Nat) : Prop where
 und : P.underlying t = some (.slice e)
 info : ∃ i z, P.info? e = some i ∧ i.zero = some z ∧ i.size = size ∧ i.bytes = bytes ∧ z.cells.size = size
 pos : 0 < size
theorem ElemRow.mk' {P : Program} {t e : TypeId} {size bytes : Nat} {z : Value} (h : P.underlying t = some (.slice e)) (k : (P.info? e).map (fun i => (i.zero, i.size, i.bytes)) = some (some z, size, bytes)) (hz : z.cells.size = size) (hp : 0 < size) : ElemRow P t e size bytes := by
 refine ⟨h, ?_, hp⟩
 cases hi : P.info? e with
 | none => rw [hi] at k; cases k
 | some i =>
  rw [hi] at k
  simp only [Option.map_some, Option.some.injEq, Prod.mk.injEq] at k
  exact ⟨i, z, rfl, k.1, k.2.1, k.2.2, hz⟩
def Src (w : World) (A : Option Addr) (m : Nat) (cs : List Value) : Prop := 0 < m → ∃ ad, A = some ad ∧ ∀ j u, cs[j]? = some u → w.cell? (ad.add j) = some u
section
variable {P : Program} (w : World)
theorem run_append_any (base : Nat) (t ty e : TypeId) {size bytes : Nat} (hT : ElemRow P t e size bytes) (v : Value) (n : Nat) (us : List Value) (hown : w.ownsRow base e size v n us)
  (A : Option Addr) (m c : Nat) (cs : List Value) (hl : cs.length = m * size) (hr : Src w A m cs) (h1 : ∀ u ∈ cs, u.oneCell' = true) (h63 : n + m ≤ maxLen) (h47 : (n + m) * bytes ≤ 140737488355328) (hbase : base ≤ w.heap.size) :
  ∃ A' c' w', (Builtin.append_ #[t, t] ty #[v, .slice A m c]).run P w = .ok (.slice A' (n + m) c') w' ∧ w'.ownsRow base e size (.slice A' (n + m) c') (n + m) (us ++ cs) ∧ w.grownBy w' v.ownBlock ∧
   ((Value.slice A' (n + m) c').ownBlock = v.ownBlock ∨ (Value.slice A' (n + m) c').ownBlock = some w.heap.size) := by
 obtain ⟨ht, ⟨i, z, hi, hz, hsz, hby, hzs⟩, hp⟩ := hT
 have form : ∀ {w : World} {v : Value} {n : Nat} {us : List Value}, w.ownsRow base e size v n us → ∃ A c, v = .slice A n c := fun h => by
  rcases h.2 with ⟨rfl, rfl⟩ | ⟨g, cap, cur, rfl, _⟩ <;> exact ⟨_, _, rfl⟩
 rcases A with _ | ad
 ·have hm : m = 0 := by
   rcases Nat.eq_zero_or_pos m with h0 | h0
   ·exact h0
   ·obtain ⟨ad, h, _⟩ := hr h0
    cases h
  subst hm
  have hn : cs = [] := List.eq_nil_of_length_eq_zero (by omega)
  subst hn
  obtain ⟨A', c', rfl⟩ := form hown
  have hrun : (Builtin.append_ #[t, t] ty #[.slice A' n c', .slice none 0 c]).run P w = .ok (.slice A' n c') w := by
   rcases hown.2 with ⟨hv, rfl⟩ | ⟨g, cap, cur, hv, _, _, hnc, _⟩
   ·cases hv
    simp [Builtin.append_, run_underlying ht, sizeOf, typeInfo, hi, Builtin.lenOf, Builtin.firstCells]
   ·cases hv
    simp [Builtin.append_, run_underlying ht, sizeOf, typeInfo, hi, Builtin.lenOf, Builtin.firstCells, hnc, storeCells]
  exact ⟨A', c', w, hrun, by simpa using hown, World.grownBy.refl w _, .inl rfl⟩
 ·have hcells : ∀ j u, cs[j]? = some u → w.cell? (ad.add j) = some u := by
   intro j u hu
   have hj := (List.getElem?_eq_some_iff.1 hu).1
   have hm : 0 < m := by
    rcases Nat.eq_zero_or_pos m with h0 | h0
    ·subst h0; omega
    ·exact h0
   obtain ⟨ad', h, hc⟩ := hr hm
   injection h with h
   subst h
   exact hc j u hu
  obtain ⟨v', w', hrun, h2, h3, _, h5⟩ := run_append_own_at (P := P) w base t ty e i z size bytes ht hi hz hsz hby hzs hp v n us hown ad m c cs hl hcells h1 h63 h47 hbase
  obtain ⟨A', c', rfl⟩ := form h2
  exact ⟨A', c', w', hrun, h2, h3, h5⟩
theorem wp_append_any {o : Oper} {a : Act} {K : Act → World → Prop} {Q : Exit → Act → World → Prop} (s x : Operand) (t : TypeId)
  (ho : o.op = .call { callee := .builtin .append, args := #[s, x], argTypes := #[t, t] }) (base : Nat) (e : TypeId) {size bytes : Nat} (hT : ElemRow P t e size bytes)
  (v : Value) (n : Nat) (us : List Value) (hs : a.eval s = v) (hown : w.ownsRow base e size v n us)
  (A : Option Addr) (m c : Nat) (cs : List Value) (hx : a.eval x = .slice A m c) (hl : cs.length = m * size) (hr : Src w A m cs) (h1 : ∀ u ∈ cs, u.oneCell' = true)
  (n' : Nat) (us' : List Value) (hn' : n + m = n') (hus' : us ++ cs = us') (h63 : n' ≤ maxLen) (h47 : n' * bytes ≤ 140737488355328) (hbase : base ≤ w.heap.size)
  (h : ∀ A' c' w', w'.ownsRow base e size (.slice A' n' c') n' us' → w.grownBy w' v.ownBlock → ((Value.slice A' n' c').ownBlock = v.ownBlock ∨ (Value.slice A' n' c').ownBlock = some w.heap.size) → K (a.put o.dst (.slice A' n' c')) w') : o.wp P a w K Q := by
 subst hn' hus'
 obtain ⟨A', c', w', hrun, h2, h3, h4⟩ := run_append_any (P := P) w base t o.type e hT v n us hown A m c cs hl hr h1 h63 h47 hbase
 unfold Oper.wp execOp
 simp only [ho, resolve, invoke, builtin, Sem.run_bind, Sem.run_pure, Result.andThen_ok, List.map_toArray, List.map_cons, List.map_nil, hs, hx, hrun]
 exact h A' c' w' h2 h3 h4
theorem wpList_append_any {ops : Array Oper} {rest : List Oper} {o : Oper} {a : Act} {Q : Exit → Act → World → Prop} (hgd : o.guard = none) (s x : Operand) (t : TypeId)
  (ho : o.op = .call { callee := .builtin .append, args := #[s, x], argTypes := #[t, t] }) (base : Nat) (e : TypeId) {size bytes : Nat} (hT : ElemRow P t e size bytes)
  (v : Value) (n : Nat) (us : List Value) (hs : a.eval s = v) (hown : w.ownsRow base e size v n us)
  (A : Option Addr) (m c : Nat) (cs : List Value) (hx : a.eval x = .slice A m c) (hl : cs.length = m * size) (hr : Src w A m cs) (h1 : ∀ u ∈ cs, u.oneCell' = true)
  (n' : Nat) (us' : List Value) (hn' : n + m = n') (hus' : us ++ cs = us') (h63 : n' ≤ maxLen) (h47 : n' * bytes ≤ 140737488355328) (hbase : base ≤ w.heap.size)
  (h : ∀ A' c' w', w'.ownsRow base e size (.slice A' n' c') n' us' → w.grownBy w' v.ownBlock → ((Value.slice A' n' c').ownBlock = v.ownBlock ∨ (Value.slice A' n' c').ownBlock = some w.heap.size) → wpList P ops Q rest (a.put o.dst (.slice A' n' c')) w') : wpList P ops Q (o :: rest) a w :=
 wpList_plain hgd fun _ hK => wp_append_any w s x t ho base e hT v n us hs hown A m c cs hx hl hr h1 n' us' hn' hus' h63 h47 hbase fun A' c' w' h2 h3 h4 => hK _ _ (h A' c' w' h2 h3 h4)
end
end Go.Proofs.YteohlpmojfjjdaaGreat
end
section
namespace Go.Proofs.YteohlpmojfjjdaaGreat
open Go.RowKit
def Ry (t : TypeId) (w : World) (A : Option Addr) (cs : List Value) : Prop :=
 cs ≠ [] → ∃ ad, A = some ad ∧ (∃ o fz, w.heap[ad.block]? = some (.cells o t fz)) ∧ ∀ j u, cs[j]? = some u → w.cell? (ad.add j) = some u
namespace Ry
variable {w w' : World} {t : TypeId} {A : Option Addr} {cs : List Value}
theorem nil_ : Ry t w A [] := fun h => absurd rfl h
theorem keep (h : Ry t w A cs) (hk : ∀ (k : Nat) o fz, w.heap[k]? = some (Obj.cells o t fz) → w'.heap[k]? = w.heap[k]?) : Ry t w' A cs := fun hn => by
 obtain ⟨ad, e, ⟨o, fz, hb⟩, hc⟩ := h hn
 have h1 := hk _ _ _ hb
 exact ⟨ad, e, ⟨o, fz, h1.trans hb⟩, fun j u hj => (World.cell?_of_block (by rw [add_block]; exact h1)).trans (hc j u hj)⟩
theorem below (h : Ry t w A cs) (hb : Below w.heap.size w w') : Ry t w' A cs := h.keep fun k _ _ hk => hb.block k (Array.getElem?_eq_some_iff.1 hk).1
theorem frm (h : Ry t w A cs) {l : List Nat} (hf : Frm l w w') (hl : ∀ k ∈ l, ∀ o fz, w.heap[k]? ≠ some (Obj.cells o t fz)) : Ry t w' A cs :=
 h.keep fun k o fz hk => hf.block k (Array.getElem?_eq_some_iff.1 hk).1 fun hm => hl k hm o fz hk
theorem grown (h : Ry t w A cs) {row : Option Nat} (hg : w.grownBy w' row) (hr : ∀ (g : Nat) o fz, row = some g → w.heap[g]? ≠ some (Obj.cells o t fz)) : Ry t w' A cs :=
 h.keep fun k o fz hk => hg.block k (Array.getElem?_eq_some_iff.1 hk).1 (fun e => hr k o fz e.symm hk)
theorem set (h : Ry t w A cs) {p : Addr} (hp : ∀ o fz, w.heap[p.block]? ≠ some (Obj.cells o t fz)) (u : Value) : Ry t (w.setCell p u) A cs :=
 h.keep fun k o fz hk => Below.heap_setCell _ _ _ _ fun e => hp o fz (e ▸ hk)
theorem of_cel {g : Nat} (h : Cel w g t cs) : Ry t w (some ⟨g, 0, none⟩) cs := fun _ => ⟨_, rfl, ⟨_, _, h⟩, fun j u hj => by rw [add_row, h.cell j, hj]⟩
theorem of_own {base size n c : Nat} (h : w.ownsRow base t size (.slice A n c) n cs) (hs : 0 < size) : Ry t w A cs := fun hn => by
 have hl : cs.length = n * size := h.1
 rcases h.2 with ⟨hv, h0⟩ | ⟨g, cap, cur, hv, hb, hg, _⟩
 ·exfalso
  subst h0
  exact hn (List.eq_nil_of_length_eq_zero (by omega))
 ·have hA : A = some ⟨g, 0, none⟩ := by injection hv
  subst hA
  refine ⟨_, rfl, ⟨_, _, hg⟩, fun j u hj => h.cells (g := g) rfl j _ ?_⟩
  exact hj
theorem src (h : Ry t w A cs) {m : Nat} (hm : 0 < m → cs ≠ []) : 0 < m → ∃ ad, A = some ad ∧ ∀ j u, cs[j]? = some u → w.cell? (ad.add j) = some u := fun h0 => by
 obtain ⟨ad, e, _, hc⟩ := h (hm h0)
 exact ⟨ad, e, hc⟩
end Ry
theorem Cel.not_ty {w : World} {g : Nat} {t t' : TypeId} {cs : List Value} (h : Cel w g t cs) (hne : t ≠ t') : ∀ o fz, w.heap[g]? ≠ some (Obj.cells o t' fz) := fun o fz e => by
 unfold Cel at h
 rw [h] at e
 injection e with e
 injection e with _ e2
 exact hne e2
theorem own_not_ty {w : World} {base e size n : Nat} {v : Value} {xs : List Value} {t' : TypeId} (h : w.ownsRow base e size v n xs) (hne : e ≠ t') : ∀ (g : Nat) o fz, v.ownBlock = some g → w.heap[g]? ≠ some (Obj.cells o t' fz) := fun g o fz hv hg => by
 rcases h.2 with ⟨rfl, _⟩ | ⟨g', cap, cur, rfl, _, hg', _⟩
 ·simp [Value.ownBlock] at hv
 ·obtain rfl : g' = g := by simpa [Value.ownBlock] using hv
  rw [hg] at hg'
  simp at hg'
  exact hne hg'.2.1.symm
theorem Cel.grown {w w' : World} {g : Nat} {t : TypeId} {cs : List Value} (h : Cel w g t cs) {row : Option Nat} (hg : w.grownBy w' row) (hr : row ≠ some g) : Cel w' g t cs := (hg.block g h.lt (fun e => hr e.symm)).trans h
theorem own_frm {w w' : World} {base e size n : Nat} {v : Value} {us : List Value} {l : List Nat} (h : w.ownsRow base e size v n us) (hf : Frm l w w') (hl : ∀ g ∈ l, v.ownBlock ≠ some g) : w'.ownsRow base e size v n us := by
 refine ⟨h.1, h.2.imp id fun ⟨g', cap, cur, h1, h2, h3, h4⟩ => ⟨g', cap, cur, h1, h2, ?_, h4⟩⟩
 rw [hf.block g' (Array.getElem?_eq_some_iff.1 h3).1 (fun hm => hl g' hm (by rw [h1]; simp [Value.ownBlock]))]
 exact h3
theorem own_ne {w : World} {base e size n g : Nat} {v : Value} {us : List Value} (h : w.ownsRow base e size v n us) (hg : g < base) : v.ownBlock ≠ some g := fun e' => by
 rcases h.2 with ⟨rfl, _⟩ | ⟨g', cap, cur, rfl, hb, _⟩
 ·simp [Value.ownBlock] at e'
 ·obtain rfl : g' = g := by simpa [Value.ownBlock] using e'
  omega
theorem own_ty_ne {w : World} {base e size n g : Nat} {t : TypeId} {v : Value} {us cs : List Value} (h : w.ownsRow base e size v n us) (hc : Cel w g t cs) (hne : e ≠ t) : v.ownBlock ≠ some g := fun e' =>
 own_not_ty h hne g _ _ e' hc
theorem own_ge {w : World} {base e size n : Nat} {v : Value} {us : List Value} (h : w.ownsRow base e size v n us) : ∀ g, v.ownBlock = some g → base ≤ g := fun g e' =>
 Nat.le_of_not_lt fun hg => own_ne h hg e'
theorem own_form {w : World} {base e size n : Nat} {v : Value} {us : List Value} (h : w.ownsRow base e size v n us) : ∃ A c, v = .slice A n c := by
 rcases h.2 with ⟨rfl, rfl⟩ | ⟨g, cap, cur, rfl, _⟩
 ·exact ⟨_, _, rfl⟩
 ·exact ⟨_, _, rfl⟩
theorem own_two {w : World} {base base' e e' size size' n n' : Nat} {v v' : Value} {us us' : List Value} (h : w.ownsRow base e size v n us) (h' : w.ownsRow base' e' size' v' n' us') (hne : e ≠ e') : ∀ g, v.ownBlock = some g → v'.ownBlock ≠ some g := fun g hg hg' => by
 rcases h.2 with ⟨rfl, _⟩ | ⟨g1, cap, cur, rfl, _, h1, _⟩
 ·simp [Value.ownBlock] at hg
 ·obtain rfl : g1 = g := by simpa [Value.ownBlock] using hg
  exact own_not_ty h' (fun q => hne q.symm) g1 _ _ hg' h1
theorem own_lt {w : World} {base e size n : Nat} {v : Value} {us : List Value} (h : w.ownsRow base e size v n us) : ∀ g, v.ownBlock = some g → g < w.heap.size := fun g e' => by
 rcases h.2 with ⟨rfl, _⟩ | ⟨g', cap, cur, rfl, _, h1, _⟩
 ·simp [Value.ownBlock] at e'
 ·obtain rfl : g' = g := by simpa [Value.ownBlock] using e'
  exact (Array.getElem?_eq_some_iff.1 h1).1
theorem own_cut {w : World} {base e size n cap g : Nat} {us : List Value} (h : w.ownsRow base e size (.slice (some ⟨g, 0, none⟩) n cap) n us) {k : Nat} (hk : k ≤ n) : w.ownsRow base e size (.slice (some ⟨g, 0, none⟩) k cap) k (us.take (k * size)) := by
 have hm : k * size ≤ n * size := Nat.mul_le_mul_right _ hk
 refine ⟨by rw [List.length_take, h.1]; omega, .inr ?_⟩
 rcases h.2 with ⟨hv, _⟩ | ⟨g', cap', cur, hv, hb, hg, h1, h2, h3, h4⟩
 ·cases hv
 ·cases hv
  exact ⟨g, cap, cur, rfl, hb, hg, by omega, h2, h3, by rw [← h4, List.take_take, Nat.min_eq_left hm]⟩
theorem own_ne_of {w : World} {base e size n cap g b : Nat} {t : TypeId} {us cs : List Value} (h : w.ownsRow base e size (.slice (some ⟨g, 0, none⟩) n cap) n us) (hc : Cel w b t cs) (hne : e ≠ t := by decide) : g ≠ b := fun e' => own_ty_ne h hc hne (by rw [← e']; rfl)
end Go.Proofs.YteohlpmojfjjdaaGreat
end
