/-
  Appending bytes to a slice of bytes that has no room, whatever its block is ('append([]byte("..."), x...)').
-/
import Derived.Test.YtadfoilbcipdjaaAppend
import Derived.Deep.AppendSrc
namespace Go.Proofs.Ytadfoilbcipdjaa
open Go.RowKit
set_option linter.unusedVariables false
section
variable {P : Program} (w : World)
theorem run_append_full (t ty e : TypeId) (hT : ByteRow P t e) (g n : Nat) (bs : List (BitVec 8)) (hb : Bs w w.heap.size (some ⟨g, 0, none⟩) n bs)
    (B : Nat) (A : Option Addr) (m c : Nat) (cs : List (BitVec 8)) (hr : Bs w B A m cs) (h47 : n + m ≤ 1000000) :
    ∃ A' c' w', (Builtin.append_ #[t, t] ty #[.slice (some ⟨g, 0, none⟩) n n, .slice A m c]).run P w = .ok (.slice A' (n + m) c') w' ∧ Below w.heap.size w w' ∧ Bs w' w'.heap.size A' (n + m) (bs ++ cs) := by
  obtain ⟨ht, i, hi, hz, hsz, hby⟩ := id hT
  have hbl := hb.len
  have hcl := hr.len
  have hold : ∀ j u, (bs.map v8)[j]? = some u → w.cell? ((⟨g, 0, none⟩ : Addr).add j) = some u := by
    intro j u hu
    have hj : j < bs.length := by
      rcases Nat.lt_or_ge j bs.length with h | h
      · exact h
      · rw [List.getElem?_eq_none (by simpa using h)] at hu; cases hu
    obtain ⟨ad', h, _, hc⟩ := hb.2 (by omega)
    injection h with h
    subst h
    rw [hc j (by omega)]
    rw [List.getElem?_map, List.getElem?_eq_getElem hj] at hu
    rw [List.getD_eq_getElem?_getD, List.getElem?_eq_getElem hj]
    exact hu
  rcases Nat.eq_zero_or_pos m with hm | hm
  · subst hm
    obtain rfl : cs = [] := List.eq_nil_of_length_eq_zero hcl
    refine ⟨some ⟨g, 0, none⟩, n, w, ?_, Below.refl _ _, by rw [List.append_nil]; exact hb⟩
    cases A with
    | none => simp [Builtin.append_, run_underlying ht, sizeOf, typeInfo, hi, Builtin.lenOf, Builtin.firstCells, storeCells]
    | some ad =>
      have := run_append_room_src (P := P) w t t ty e i ht hi g 0 n n (.slice (some ad) 0 c) 0 [] (Src.ofSlice w ht ad 0 c [] (by simp) (by simp) (by simp)) (by omega) (by simp) (by simp)
      exact this
  · obtain ⟨ad, rfl, _, hc⟩ := hr.2 hm
    have hnew : ∀ j u, (cs.map v8)[j]? = some u → w.cell? (ad.add j) = some u := by
      intro j u hu
      have hj : j < cs.length := by
        rcases Nat.lt_or_ge j cs.length with h | h
        · exact h
        · rw [List.getElem?_eq_none (by simpa using h)] at hu; cases hu
      rw [hc j (by omega)]
      rw [List.getElem?_map, List.getElem?_eq_getElem hj] at hu
      rw [List.getD_eq_getElem?_getD, List.getElem?_eq_getElem hj]
      exact hu
    have hrun := run_append_grow_src (P := P) w t t ty e i (.int .u8 0) ht hi hz (some ⟨g, 0, none⟩) n n (bs.map v8) (run_firstCells_some (P := P) w.drew i.size n _ n n (bs.map v8) (by rw [List.length_map, hsz]; omega) (by simpa using hold)) (.slice (some ad) m c) m (cs.map v8)
      (Src.ofSlice w ht ad m c (cs.map v8) (by rw [List.length_map, hsz]; omega) hnew (by intro u hu; obtain ⟨x, _, rfl⟩ := List.mem_map.1 hu; rfl)) (by omega) (by omega) (growslice_fits (by omega) (by rw [hby]; omega))
    refine ⟨_, _, _, hrun, (Below.refl _ _).drew.alloc (Nat.le_refl _) _, by simp [hbl, hcl], fun _ => ⟨_, rfl, by simp, fun j hj => ?_⟩⟩
    have hb2 : (w.drew.alloc (.cells ((bs.map v8 ++ cs.map v8).toArray ++ Builtin.zeroCells (Value.cells (.int .u8 0)) (grownCap w (n + m) n e - (n + m))) e)).heap[w.heap.size]? = some (.cells ((bs.map v8 ++ cs.map v8).toArray ++ Builtin.zeroCells (Value.cells (.int .u8 0)) (grownCap w (n + m) n e - (n + m))) e) := heap_alloc_new w.drew _
    rw [add_row, cell_of_row _ w.heap.size j _ e (0, 0) hb2]
    have hj2 : j < (bs ++ cs).length := by rw [List.length_append]; omega
    rw [Array.getElem?_append_left (by simp; omega), ← List.map_append]
    simp only [List.getElem?_toArray, List.getElem?_map]
    rw [List.getElem?_eq_getElem hj2, List.getD_eq_getElem?_getD, List.getElem?_eq_getElem hj2]
    rfl
theorem wpList_append_full {ops : Array Oper} {rest : List Oper} {o : Oper} {a : Act} {Q : Exit → Act → World → Prop} (hgd : o.guard = none) (s x : Operand) (t : TypeId)
    (ho : o.op = .call { callee := .builtin .append, args := #[s, x], argTypes := #[t, t] }) (e : TypeId) (hT : ByteRow P t e)
    (g n : Nat) (bs : List (BitVec 8)) (hs : a.eval s = .slice (some ⟨g, 0, none⟩) n n) (hb : Bs w w.heap.size (some ⟨g, 0, none⟩) n bs) (B : Nat) (A : Option Addr) (m c : Nat) (cs : List (BitVec 8)) (hx : a.eval x = .slice A m c) (hr : Bs w B A m cs) (h47 : n + m ≤ 1000000)
    (h : ∀ A' c' w', Below w.heap.size w w' → Bs w' w'.heap.size A' (n + m) (bs ++ cs) → wpList P ops Q rest (a.put o.dst (.slice A' (n + m) c')) w') : wpList P ops Q (o :: rest) a w :=
  wpList_plain hgd fun K hK => by
    obtain ⟨A', c', w', hrun, h2, h3⟩ := run_append_full (P := P) w t o.type e hT g n bs hb B A m c cs hr h47
    unfold Oper.wp execOp
    simp only [ho, resolve, invoke, builtin, Sem.run_bind, Sem.run_pure, Result.andThen_ok, List.map_toArray, List.map_cons, List.map_nil, hs, hx, hrun]
    exact hK _ _ (h A' c' w' h2 h3)
end
end Go.Proofs.Ytadfoilbcipdjaa
