/-
  slices.Insert of one instruction into a row of the call's own (layer 9, the program's nfa).
-/
import Derived.Test.YtjpbndpfbdfhjaaMBaseB
import Derived.Test.YtjpbndpfbdfhjaaMNfaAs
import Derived.Laws.CopyRow
import Derived.Lib.AppendZerosOnto
import Derived.Lib.Overlaps
import Derived.Laws.Externs
import Derived.Laws.CopyOwn
namespace Go.Proofs.Ytjpbndpfbdfhjaa.Nfa
open Go.RowKit Go.Proofs.Ytjpbndpfbdfhjaa.Ord
open Go.Proofs.Ytjpbndpfbdfhjaa.Reg (Sp sflat)
set_option linter.unusedVariables false
set_option linter.unusedSimpArgs false

theorem cut_mid {α : Type} (L D T x : List α) (a m : Nat) (hx : x.length = m) (hL : a + m ≤ L.length) : splice (L.take (a + m) ++ (D ++ T)) a x = L.take a ++ (x ++ (D ++ T)) := by
  have h1 : (L.take (a + m)).length = a + m := by rw [List.length_take]; omega
  unfold splice
  rw [List.take_append_of_le_length (by omega), List.take_take, Nat.min_eq_left (by omega), hx, List.drop_append_of_le_length (by omega)]
  rw [show (L.take (a + m)).drop (a + m) = [] from List.drop_eq_nil_of_le (by omega), List.nil_append]
theorem splice_in {α : Type} (cur us x : List α) (a m N : Nat) (hx : x.length = m) (h : cur.take N = us) (hN : us.length = N) (ha : a ≤ N) (hc : N + m ≤ cur.length) :
    (splice (splice cur (a + m) (us.drop a)) a x).take (N + m) = us.take a ++ (x ++ us.drop a) := by
  have e : splice cur (a + m) (us.drop a) = cur.take (a + m) ++ (us.drop a ++ cur.drop (a + m + (us.drop a).length)) := rfl
  rw [e, cut_mid _ _ _ _ _ _ hx (by omega)]
  have h2 : cur.take a = us.take a := by rw [← h, List.take_take, Nat.min_eq_left ha]
  rw [h2, ← List.append_assoc, ← List.append_assoc, List.take_append_of_le_length (by simp; omega), List.take_of_length_le (by simp; omega), List.append_assoc]
theorem splice_new {α : Type} (us Z x : List α) (a m N : Nat) (hx : x.length = m) (hN : us.length = N) (ha : a ≤ N) (hZ : m + (N - a) ≤ Z.length) :
    (splice (splice (us.take a ++ Z) a x) (a + m) (us.drop a)).take (N + m) = us.take a ++ (x ++ us.drop a) := by
  have h1 : (us.take a).length = a := by rw [List.length_take]; omega
  have e : splice (us.take a ++ Z) a x = us.take a ++ (x ++ Z.drop m) := by
    unfold splice
    rw [List.take_append_of_le_length (by omega), List.take_of_length_le (by omega), List.drop_append, List.drop_eq_nil_of_le (by omega), List.nil_append, h1, hx]
    congr 3; omega
  rw [e]
  unfold splice
  have e2 : (us.take a ++ (x ++ Z.drop m)).take (a + m) = us.take a ++ x := by
    rw [← List.append_assoc, List.take_append_of_le_length (by simp; omega), List.take_of_length_le (by simp; omega)]
  rw [e2, ← List.append_assoc, List.take_append_of_le_length (by simp; omega), List.take_of_length_le (by simp; omega), List.append_assoc]

section
variable {P : Program}
/-- copy, into a block that is known whole; elements of any size. -/
theorem run_copy_cel (w : World) (dT sT ty elem : TypeId) (size g o dLen dCap : Nat) (a : Addr) (sLen sCap : Nat) (cur : List Value) (t : TypeId) (cs : List Value)
    (hu : P.underlying dT = some (.slice elem)) (hs : (P.info? elem).map (·.size) = some size)
    (hg : Cel w g t cur) (hn : cs.length = Nat.min sLen dLen * size)
    (hsrc : ∀ j v, cs[j]? = some v → w.cell? (a.add j) = some v) (hfit : o + cs.length ≤ cur.length) (h1 : ∀ v ∈ cs, v.oneCell' = true) :
    ∃ w', (Builtin.copy_ #[dT, sT] ty #[.slice (some ⟨g, o, none⟩) dLen dCap, .slice (some a) sLen sCap]).run P w = .ok (goInt (Nat.min sLen dLen)) w' ∧ Cel w' g t (splice cur o cs) ∧ Frm [g] w w' := by
  have hl := run_loadCells_list (P := P) w a cs hsrc
  have hst := run_storeCells_at P g o t cs 0 cur.toArray w hg (by simpa using hfit) h1
  refine ⟨w.setRow g (splice cur o cs).toArray, ?_, setRow_heap w g cur.toArray (splice cur o cs).toArray t (0, 0) hg, ⟨rfl, rfl, rfl, by simp [World.setRow], fun k hk hl => setRow_other w g k _ (by simpa using hl)⟩⟩
  cases hq : P.info? elem with
  | none => simp [hq] at hs
  | some i =>
    have hi : i.size = size := by simpa [hq] using hs
    simp [Builtin.copy_, run_underlying hu, Builtin.lenOf, Builtin.firstCells, sizeOf, typeInfo, hq, hi, ← hn, hl, hst, splice]
theorem wpList_copy_cel {w : World} {ops : Array Oper} {rest : List Oper} {o : Oper} {a : Act} {Q : Exit → Act → World → Prop} (hgd : o.guard = none) (d s : Operand) (dT sT : TypeId)
    (ho : o.op = .call { callee := .builtin .copy, args := #[d, s], argTypes := #[dT, sT] }) (elem : TypeId) (size : Nat) (hu : P.underlying dT = some (.slice elem)) (hs : (P.info? elem).map (·.size) = some size)
    (g off dLen dCap : Nat) (ad : Addr) (sLen sCap : Nat) (hd : a.eval d = .slice (some ⟨g, off, none⟩) dLen dCap) (hx : a.eval s = .slice (some ad) sLen sCap)
    (cur : List Value) (t : TypeId) (hg : Cel w g t cur) (cs : List Value) (hn : cs.length = Nat.min sLen dLen * size)
    (hsrc : ∀ j v, cs[j]? = some v → w.cell? (ad.add j) = some v) (hfit : off + cs.length ≤ cur.length) (h1 : ∀ v ∈ cs, v.oneCell' = true)
    (h : ∀ w', Cel w' g t (splice cur off cs) → Frm [g] w w' → wpList P ops Q rest (a.put o.dst (goInt (Nat.min sLen dLen))) w') : wpList P ops Q (o :: rest) a w := by
  refine wpList_plain hgd fun K hK => ?_
  obtain ⟨w', hrun, h2, h3⟩ := run_copy_cel (P := P) w dT sT o.type elem size g off dLen dCap ad sLen sCap cur t cs hu hs hg hn hsrc hfit h1
  unfold Oper.wp execOp
  simp only [ho, resolve, invoke, builtin, Sem.run_bind, Sem.run_pure, Result.andThen_ok, List.map_toArray, List.map_cons, List.map_nil, hd, hx, hrun]
  exact hK _ _ (h w' h2 h3)
theorem step_copy_cel {w : World} {ops : Array Oper} {o : Oper} {a : Act} {K : Act → World → Prop} {Q : Exit → Act → World → Prop} {E : Prop} (hgd : o.guard = none) (d s : Operand) (dT sT : TypeId)
    (ho : o.op = .call { callee := .builtin .copy, args := #[d, s], argTypes := #[dT, sT] }) (elem : TypeId) (size : Nat) (hu : P.underlying dT = some (.slice elem)) (hs : (P.info? elem).map (·.size) = some size)
    (g off dLen dCap : Nat) (ad : Addr) (sLen sCap : Nat) (hd : a.eval d = .slice (some ⟨g, off, none⟩) dLen dCap) (hx : a.eval s = .slice (some ad) sLen sCap)
    (cur : List Value) (t : TypeId) (hg : Cel w g t cur) (cs : List Value) (hn : cs.length = Nat.min sLen dLen * size)
    (hsrc : ∀ j v, cs[j]? = some v → w.cell? (ad.add j) = some v) (hfit : off + cs.length ≤ cur.length) (h1 : ∀ v ∈ cs, v.oneCell' = true)
    (h : ∀ w', Cel w' g t (splice cur off cs) → Frm [g] w w' → K (a.put o.dst (goInt (Nat.min sLen dLen))) w') :
    if Region.wanted o (yielded ops a.tmps) = true then Oper.wp P o a w K Q else E := by
  have hw : Region.wanted o (yielded ops a.tmps) = true := by simp [Region.wanted, hgd]
  rw [if_pos hw]
  obtain ⟨w', hrun, h2, h3⟩ := run_copy_cel (P := P) w dT sT o.type elem size g off dLen dCap ad sLen sCap cur t cs hu hs hg hn hsrc hfit h1
  unfold Oper.wp execOp
  simp only [ho, resolve, invoke, builtin, Sem.run_bind, Sem.run_pure, Result.andThen_ok, List.map_toArray, List.map_cons, List.map_nil, hd, hx, hrun]
  exact h w' h2 h3
end
end Go.Proofs.Ytjpbndpfbdfhjaa.Nfa
