/-
  append of bytes onto a row of the call's own, whatever the source (nil, empty or not).
-/
import Derived.Test.YthaebchmlicgaaaBytes
import Derived.Maps.AppendAt
import Derived.RegionTactic
import Derived.OwnWalk
namespace Go.Proofs.Ythaebchmlicgaaa
open Go.RowKit

/-- t is the type of slices of e, and e is a kind of bytes. -/
structure ByteRow (P : Program) (t e : TypeId) : Prop where
  und : P.underlying t = some (.slice e)
  info : ∃ i, P.info? e = some i ∧ i.zero = some (.int .u8 0) ∧ i.size = 1 ∧ i.bytes = 1

theorem ByteRow.mk' {P : Program} {t e : TypeId} (h : P.underlying t = some (.slice e)) (k : (P.info? e).map (fun i => (i.zero, i.size, i.bytes)) = some (some (.int .u8 0), 1, 1)) : ByteRow P t e := by
  refine ⟨h, ?_⟩
  cases hi : P.info? e with
  | none => rw [hi] at k; cases k
  | some i =>
    rw [hi] at k
    simp only [Option.map_some, Option.some.injEq, Prod.mk.injEq] at k
    exact ⟨i, rfl, k.1, k.2.1, k.2.2⟩

section
variable {P : Program} (w : World)

theorem run_append_none (base : Nat) (t ty e : TypeId) (hT : ByteRow P t e) (v : Value) (n : Nat) (us : List Value) (hown : w.ownsRow base e 1 v n us) (c : Nat) :
    (Builtin.append_ #[t, t] ty #[v, .slice none 0 c]).run P w = .ok v w := by
  obtain ⟨ht, i, hi, _, hsz, _⟩ := hT
  rcases hown.2 with ⟨rfl, rfl⟩ | ⟨g, cap, cur, rfl, _, _, hnc, _⟩
  · simp [Builtin.append_, run_underlying ht, sizeOf, typeInfo, hi, Builtin.lenOf, Builtin.firstCells]
  · simp [Builtin.append_, run_underlying ht, sizeOf, typeInfo, hi, Builtin.lenOf, Builtin.firstCells, hnc, storeCells]

theorem own_slice {base n : Nat} {e : TypeId} {v : Value} {us : List Value} (h : w.ownsRow base e 1 v n us) : ∃ A c, v = .slice A n c := by
  rcases h.2 with ⟨rfl, rfl⟩ | ⟨g, cap, cur, rfl, _⟩
  · exact ⟨_, _, rfl⟩
  · exact ⟨_, _, rfl⟩

theorem run_append_bs (base : Nat) (t ty e : TypeId) (hT : ByteRow P t e) (v : Value) (n : Nat) (bs : List (BitVec 8)) (hown : w.ownsRow base e 1 v n (bs.map v8))
    (B : Nat) (A : Option Addr) (m c : Nat) (cs : List (BitVec 8)) (hr : Bs w B A m cs) (h47 : n + m ≤ 140737488355328) (hbase : base ≤ w.heap.size) :
    ∃ A' c' w', (Builtin.append_ #[t, t] ty #[v, .slice A m c]).run P w = .ok (.slice A' (n + m) c') w' ∧ w'.ownsRow base e 1 (.slice A' (n + m) c') (n + m) ((bs ++ cs).map v8) ∧ w.grownBy w' v.ownBlock ∧
      ((Value.slice A' (n + m) c').ownBlock = v.ownBlock ∨ (Value.slice A' (n + m) c').ownBlock = some w.heap.size) := by
  obtain ⟨ht, i, hi, hz, hsz, hby⟩ := id hT
  rcases A with _ | ad
  · have hm : m = 0 := by
      rcases Nat.eq_zero_or_pos m with h0 | h0
      · exact h0
      · obtain ⟨ad, h, _⟩ := hr.2 h0
        cases h
    subst hm
    have hn : cs = [] := List.eq_nil_of_length_eq_zero hr.1
    subst hn
    obtain ⟨A', c', rfl⟩ := own_slice w hown
    exact ⟨A', c', w, run_append_none w base t ty e hT _ n _ hown c, by simpa using hown, World.grownBy.refl w _, .inl rfl⟩
  · have hcells : ∀ j u, (cs.map v8)[j]? = some u → w.cell? (ad.add j) = some u := by
      intro j u hu
      have hj : j < cs.length := by
        rcases Nat.lt_or_ge j cs.length with h | h
        · exact h
        · rw [List.getElem?_eq_none (by simpa using h)] at hu; cases hu
      obtain ⟨ad', h, _, hc⟩ := hr.2 (by rw [← hr.1]; omega)
      injection h with h
      subst h
      rw [hc j (by rw [← hr.1]; exact hj)]
      rw [List.getElem?_map, List.getElem?_eq_getElem hj] at hu
      rw [List.getD_eq_getElem?_getD, List.getElem?_eq_getElem hj]
      exact hu
    obtain ⟨v', w', hrun, h2, h3, _, h5⟩ := run_append_own_at (P := P) w base t ty e i (.int .u8 0) 1 1 ht hi hz hsz hby rfl (by decide) v n (bs.map v8) hown ad m c (cs.map v8) (by simp [hr.1]) hcells
      (by intro u hu; obtain ⟨x, _, rfl⟩ := List.mem_map.1 hu; rfl) (by unfold maxLen; omega) (by omega) hbase
    obtain ⟨A', c', rfl⟩ := own_slice w' h2
    exact ⟨A', c', w', hrun, by rw [List.map_append]; exact h2, h3, h5⟩

theorem wp_append_bs {o : Oper} {a : Act} {K : Act → World → Prop} {Q : Exit → Act → World → Prop} (s x : Operand) (t : TypeId)
    (ho : o.op = .call { callee := .builtin .append, args := #[s, x], argTypes := #[t, t] }) (base : Nat) (e : TypeId) (hT : ByteRow P t e)
    (v : Value) (n : Nat) (bs : List (BitVec 8)) (hs : a.eval s = v) (hown : w.ownsRow base e 1 v n (bs.map v8))
    (B : Nat) (A : Option Addr) (m c : Nat) (cs : List (BitVec 8)) (hx : a.eval x = .slice A m c) (hr : Bs w B A m cs) (h47 : n + m ≤ 140737488355328) (hbase : base ≤ w.heap.size)
    (h : ∀ A' c' w', w'.ownsRow base e 1 (.slice A' (n + m) c') (n + m) ((bs ++ cs).map v8) → w.grownBy w' v.ownBlock → ((Value.slice A' (n + m) c').ownBlock = v.ownBlock ∨ (Value.slice A' (n + m) c').ownBlock = some w.heap.size) → K (a.put o.dst (.slice A' (n + m) c')) w') : o.wp P a w K Q := by
  obtain ⟨A', c', w', hrun, h2, h3, h4⟩ := run_append_bs (P := P) w base t o.type e hT v n bs hown B A m c cs hr h47 hbase
  unfold Oper.wp execOp
  simp only [ho, resolve, invoke, builtin, Sem.run_bind, Sem.run_pure, Result.andThen_ok, List.map_toArray, List.map_cons, List.map_nil, hs, hx, hrun]
  exact h A' c' w' h2 h3 h4

theorem wpList_append_bs {ops : Array Oper} {rest : List Oper} {o : Oper} {a : Act} {Q : Exit → Act → World → Prop} (hgd : o.guard = none) (s x : Operand) (t : TypeId)
    (ho : o.op = .call { callee := .builtin .append, args := #[s, x], argTypes := #[t, t] }) (base : Nat) (e : TypeId) (hT : ByteRow P t e)
    (v : Value) (n : Nat) (bs : List (BitVec 8)) (hs : a.eval s = v) (hown : w.ownsRow base e 1 v n (bs.map v8))
    (B : Nat) (A : Option Addr) (m c : Nat) (cs : List (BitVec 8)) (hx : a.eval x = .slice A m c) (hr : Bs w B A m cs) (n' : Nat) (bs' : List (BitVec 8)) (hn' : n + m = n') (hbs' : bs ++ cs = bs') (h47 : n' ≤ 140737488355328) (hbase : base ≤ w.heap.size)
    (h : ∀ A' c' w', w'.ownsRow base e 1 (.slice A' n' c') n' (bs'.map v8) → w.grownBy w' v.ownBlock → ((Value.slice A' n' c').ownBlock = v.ownBlock ∨ (Value.slice A' n' c').ownBlock = some w.heap.size) → wpList P ops Q rest (a.put o.dst (.slice A' n' c')) w') : wpList P ops Q (o :: rest) a w := by
  subst hn' hbs'
  exact wpList_plain hgd fun _ hK => wp_append_bs w s x t ho base e hT v n bs hs hown B A m c cs hx hr h47 hbase fun A' c' w' h2 h3 h4 => hK _ _ (h A' c' w' h2 h3 h4)

theorem made_bytes (k : Nat) : madeCells (Value.cells (.int .u8 0)) (k * 1) = (List.replicate k (v8 0#8)).toArray := by
  apply Array.ext
  · simp [size_madeCells]
  · intro i h1 h2
    simp [madeCells, Value.cells, Nat.mod_one]
/-- make([]byte, k). -/
theorem run_make_bytes (t e : TypeId) (hT : ByteRow P t e) (kl kc : IntKind) (k : Nat) (hk : k ≤ 140737488355328) :
    (Instr.makeSlice t (.int kl (k : Int)) (.int kc (k : Int))).run P w = .ok (.slice (some ⟨w.heap.size, 0, none⟩) k k) (w.alloc (.cells (List.replicate k (v8 0#8)).toArray e)) := by
  obtain ⟨ht, i, hi, hz, hsz, hby⟩ := hT
  have h := run_make (P := P) w t e i (.int .u8 0) ht hi hz kl kc k k (by omega) (Int.le_refl _) (by rw [hby]; omega) (by omega)
  simp only [Int.toNat_natCast] at h
  rw [h, hsz, made_bytes]

/-- 'append([]byte{}, x...)': a copy, in a row of the call's own. -/
theorem wpList_append_new {ops : Array Oper} {rest : List Oper} {o : Oper} {a : Act} {Q : Exit → Act → World → Prop} (hgd : o.guard = none) (s x : Operand) (t : TypeId)
    (ho : o.op = .call { callee := .builtin .append, args := #[s, x], argTypes := #[t, t] }) (e : TypeId) (hT : ByteRow P t e)
    (hs : a.eval s = .slice (some ⟨w.heap.size, 0, none⟩) 0 0) (B : Nat) (A : Option Addr) (m c : Nat) (cs : List (BitVec 8)) (hx : a.eval x = .slice A m c) (hr : Bs w B A m cs) (hB : B ≤ w.heap.size) (h47 : m ≤ 140737488355328)
    (h : ∀ A' c' w', w'.ownsRow w.heap.size e 1 (.slice A' m c') m (cs.map v8) → Below w.heap.size w w' → wpList P ops Q rest (a.put o.dst (.slice A' m c')) w') : wpList P ops Q (o :: rest) a (w.alloc (.cells #[] e)) := by
  have o0 : (w.alloc (.cells #[] e)).ownsRow w.heap.size e 1 (.slice (some ⟨w.heap.size, 0, none⟩) 0 0) 0 (([] : List (BitVec 8)).map v8) :=
    World.ownsRow_lit w #[] 0 (Nat.le_refl _) (Nat.zero_le _) rfl
  refine wpList_append_bs _ hgd s x t ho w.heap.size e hT _ 0 [] hs o0 B A m c cs hx (hr.alloc hB _) m cs (Nat.zero_add _) (List.nil_append _) h47 (by simp) fun A' c' w' h1 h2 _ => h A' c' w' h1 ?_
  exact Below.grown ((Below.refl _ _).alloc (Nat.le_refl _) _) h2 (by simp) (by intro g hg; simp [Value.ownBlock] at hg; omega)
end
end Go.Proofs.Ythaebchmlicgaaa
