/-
Texts: Append Mem PackNum PackRead
-/
import Derived.Test.YtfmkkklcgiaacaaFA0
import Derived.Maps.AppendAt
import Derived.RegionTactic
import Derived.OwnWalk
import Derived.Laws.Rows
import Derived.Laws.BytesString
import Derived.Lib.BufferRead
import Derived.Lib.Hide
import Derived.Test.YtfmkkklcgiaacaaChecked
import Derived.WalkKit
import Derived.ProofKit
import Derived.Below
import Derived.Lib.SlBytesConst
import Derived.Outline
import Derived.Laws.BitsAllLaws
import Derived.Laws.Shifts
import Derived.Laws.ShiftsVarLaws
import Derived.WalkSpells
import Derived.Laws.EntriesVeiled
import Derived.Deep.QuietTactic
import Derived.BigQuiet
set_option linter.unusedVariables false
set_option linter.unusedSimpArgs false
set_option maxRecDepth 100000
set_option maxHeartbeats 4000000
section
namespace Go.Proofs.Ytfmkkklcgiaacaa
open Go.RowKit
structure ByteRow (P : Program) (t e : TypeId) : Prop where
 und : P.underlying t = some (.slice e)
 info : ∃ i, P.info? e = some i ∧ i.zero = some (.int .u8 0) ∧ i.size = 1 ∧ i.bytes = 1
theorem ByteRow.mk' {P : Program} {t e : TypeId} (h : P.underlying t = some (.slice e)) (k : (P.info? e).map (fun i => (i.zero, i.size, i.bytes)) = some (some (.int .u8 0), 1, 1)) : ByteRow P t e := by
 refine ⟨h, ?_⟩
 cases hi : P.info? e with
 | none => rw [hi] at k; cases k
 | some i =>
  rw [hi] at k
  simp only [Option.map_some, Option.some.injEq, Prod.mk.injEq] at k
  exact ⟨i, rfl, k.1, k.2.1, k.2.2⟩
section
variable {P : Program} (w : World)
theorem run_append_none (base : Nat) (t ty e : TypeId) (hT : ByteRow P t e) (v : Value) (n : Nat) (us : List Value) (hown : w.ownsRow base e 1 v n us) (c : Nat) :
  (Builtin.append_ #[t, t] ty #[v, .slice none 0 c]).run P w = .ok v w := by
 obtain ⟨ht, i, hi, _, hsz, _⟩ := hT
 rcases hown.2 with ⟨rfl, rfl⟩ | ⟨g, cap, cur, rfl, _, _, hnc, _⟩
 ·simp [Builtin.append_, run_underlying ht, sizeOf, typeInfo, hi, Builtin.lenOf, Builtin.firstCells]
 ·simp [Builtin.append_, run_underlying ht, sizeOf, typeInfo, hi, Builtin.lenOf, Builtin.firstCells, hnc, storeCells]
theorem own_slice {base n : Nat} {e : TypeId} {v : Value} {us : List Value} (h : w.ownsRow base e 1 v n us) : ∃ A c, v = .slice A n c := by
 rcases h.2 with ⟨rfl, rfl⟩ | ⟨g, cap, cur, rfl, _⟩
 ·exact ⟨_, _, rfl⟩
 ·exact ⟨_, _, rfl⟩
theorem run_append_bs (base : Nat) (t ty e : TypeId) (hT : ByteRow P t e) (v : Value) (n : Nat) (bs : List (BitVec 8)) (hown : w.ownsRow base e 1 v n (bs.map v8))
  (B : Nat) (A : Option Addr) (m c : Nat) (cs : List (BitVec 8)) (hr : Bs w B A m cs) (h47 : n + m ≤ 140737488355328) (hbase : base ≤ w.heap.size) :
  ∃ A' c' w', (Builtin.append_ #[t, t] ty #[v, .slice A m c]).run P w = .ok (.slice A' (n + m) c') w' ∧ w'.ownsRow base e 1 (.slice A' (n + m) c') (n + m) ((bs ++ cs).map v8) ∧ w.grownBy w' v.ownBlock ∧
   ((Value.slice A' (n + m) c').ownBlock = v.ownBlock ∨ (Value.slice A' (n + m) c').ownBlock = some w.heap.size) := by
 obtain ⟨ht, i, hi, hz, hsz, hby⟩ := id hT
 rcases A with _ | ad
 ·have hm : m = 0 := by
   rcases Nat.eq_zero_or_pos m with h0 | h0
   ·exact h0
   ·obtain ⟨ad, h, _⟩ := hr.2 h0
    cases h
  subst hm
  have hn : cs = [] := List.eq_nil_of_length_eq_zero hr.1
  subst hn
  obtain ⟨A', c', rfl⟩ := own_slice w hown
  exact ⟨A', c', w, run_append_none w base t ty e hT _ n _ hown c, by simpa using hown, World.grownBy.refl w _, .inl rfl⟩
 ·have hcells : ∀ j u, (cs.map v8)[j]? = some u → w.cell? (ad.add j) = some u := by
   intro j u hu
   have hj : j < cs.length := by
    rcases Nat.lt_or_ge j cs.length with h | h
    ·exact h
    ·rw [List.getElem?_eq_none (by simpa using h)] at hu; cases hu
   obtain ⟨ad', h, _, hc⟩ := hr.2 (by rw [← hr.1]; omega)
   injection h with h
   subst h
   rw [hc j (by rw [← hr.1]; exact hj)]
   rw [List.getElem?_map, List.getElem?_eq_getElem hj] at hu
   rw [List.getD_eq_getElem?_getD, List.getElem?_eq_getElem hj]
   exact hu
  obtain ⟨v', w', hrun, h2, h3, _, h5⟩ := run_append_own_at (P := P) w base t ty e i (.int .u8 0) 1 1 ht hi hz hsz hby rfl (by decide) v n (bs.map v8) hown ad m c (cs.map v8) (by simp [hr.1]) hcells
   (by intro u hu; obtain ⟨x, _, rfl⟩ := List.mem_map.1 hu; rfl) (by unfold maxLen; omega) (by omega) hbase
  obtain ⟨A', c', rfl⟩ := own_slice w' h2
  exact ⟨A', c', w', hrun, by rw [List.map_append]; exact h2, h3, h5⟩
theorem wp_append_bs {o : Oper} {a : Act} {K : Act → World → Prop} {Q : Exit → Act → World → Prop} (s x : Operand) (t : TypeId)
  (ho : o.op = .call { callee := .builtin .append, args := #[s, x], argTypes := #[t, t] }) (base : Nat) (e : TypeId) (hT : ByteRow P t e)
  (v : Value) (n : Nat) (bs : List (BitVec 8)) (hs : a.eval s = v) (hown : w.ownsRow base e 1 v n (bs.map v8))
  (B : Nat) (A : Option Addr) (m c : Nat) (cs : List (BitVec 8)) (hx : a.eval x = .slice A m c) (hr : Bs w B A m cs) (h47 : n + m ≤ 140737488355328) (hbase : base ≤ w.heap.size)
  (h : ∀ A' c' w', w'.ownsRow base e 1 (.slice A' (n + m) c') (n + m) ((bs ++ cs).map v8) → w.grownBy w' v.ownBlock → ((Value.slice A' (n + m) c').ownBlock = v.ownBlock ∨ (Value.slice A' (n + m) c').ownBlock = some w.heap.size) → K (a.put o.dst (.slice A' (n + m) c')) w') : o.wp P a w K Q := by
 obtain ⟨A', c', w', hrun, h2, h3, h4⟩ := run_append_bs (P := P) w base t o.type e hT v n bs hown B A m c cs hr h47 hbase
 unfold Oper.wp execOp
 simp only [ho, resolve, invoke, builtin, Sem.run_bind, Sem.run_pure, Result.andThen_ok, List.map_toArray, List.map_cons, List.map_nil, hs, hx, hrun]
 exact h A' c' w' h2 h3 h4
theorem wpList_append_bs {ops : Array Oper} {rest : List Oper} {o : Oper} {a : Act} {Q : Exit → Act → World → Prop} (hgd : o.guard = none) (s x : Operand) (t : TypeId)
  (ho : o.op = .call { callee := .builtin .append, args := #[s, x], argTypes := #[t, t] }) (base : Nat) (e : TypeId) (hT : ByteRow P t e)
  (v : Value) (n : Nat) (bs : List (BitVec 8)) (hs : a.eval s = v) (hown : w.ownsRow base e 1 v n (bs.map v8))
  (B : Nat) (A : Option Addr) (m c : Nat) (cs : List (BitVec 8)) (hx : a.eval x = .slice A m c) (hr : Bs w B A m cs) (n' : Nat) (bs' : List (BitVec 8)) (hn' : n + m = n') (hbs' : bs ++ cs = bs') (h47 : n' ≤ 140737488355328) (hbase : base ≤ w.heap.size)
  (h : ∀ A' c' w', w'.ownsRow base e 1 (.slice A' n' c') n' (bs'.map v8) → w.grownBy w' v.ownBlock → ((Value.slice A' n' c').ownBlock = v.ownBlock ∨ (Value.slice A' n' c').ownBlock = some w.heap.size) → wpList P ops Q rest (a.put o.dst (.slice A' n' c')) w') : wpList P ops Q (o :: rest) a w := by
 subst hn' hbs'
 exact wpList_plain hgd fun _ hK => wp_append_bs w s x t ho base e hT v n bs hs hown B A m c cs hx hr h47 hbase fun A' c' w' h2 h3 h4 => hK _ _ (h A' c' w' h2 h3 h4)
theorem wpList_append_new {ops : Array Oper} {rest : List Oper} {o : Oper} {a : Act} {Q : Exit → Act → World → Prop} (hgd : o.guard = none) (s x : Operand) (t : TypeId)
  (ho : o.op = .call { callee := .builtin .append, args := #[s, x], argTypes := #[t, t] }) (e : TypeId) (hT : ByteRow P t e)
  (hs : a.eval s = .slice (some ⟨w.heap.size, 0, none⟩) 0 0) (B : Nat) (A : Option Addr) (m c : Nat) (cs : List (BitVec 8)) (hx : a.eval x = .slice A m c) (hr : Bs w B A m cs) (hB : B ≤ w.heap.size) (h47 : m ≤ 140737488355328)
  (h : ∀ A' c' w', w'.ownsRow w.heap.size e 1 (.slice A' m c') m (cs.map v8) → Below w.heap.size w w' → wpList P ops Q rest (a.put o.dst (.slice A' m c')) w') : wpList P ops Q (o :: rest) a (w.alloc (.cells #[] e)) := by
 have o0 : (w.alloc (.cells #[] e)).ownsRow w.heap.size e 1 (.slice (some ⟨w.heap.size, 0, none⟩) 0 0) 0 (([] : List (BitVec 8)).map v8) :=
  World.ownsRow_lit w #[] 0 (Nat.le_refl _) (Nat.zero_le _) rfl
 refine wpList_append_bs _ hgd s x t ho w.heap.size e hT _ 0 [] hs o0 B A m c cs hx (hr.alloc hB _) m cs (Nat.zero_add _) (List.nil_append _) h47 (by simp) fun A' c' w' h1 h2 _ => h A' c' w' h1 ?_
 exact Below.grown ((Below.refl _ _).alloc (Nat.le_refl _) _) h2 (by simp) (by intro g hg; simp [Value.ownBlock] at hg; omega)
end
end Go.Proofs.Ytfmkkklcgiaacaa
end
section
namespace Go.Proofs.Ytfmkkklcgiaacaa
open Go.RowKit
def Cel (w : World) (g : Nat) (t : TypeId) (cs : List Value) : Prop := w.heap[g]? = some (.cells cs.toArray t (0, 0))
structure Frm (l : List Nat) (w w' : World) : Prop where
 os : w'.os = w.os
 tape : w'.tape = w.tape
 output : w'.output = w.output
 size : w.heap.size ≤ w'.heap.size
 block : ∀ k, k < w.heap.size → k ∉ l → w'.heap[k]? = w.heap[k]?
namespace Frm
variable {l l' : List Nat} {w w' w1 w2 : World}
theorem refl (l : List Nat) (w : World) : Frm l w w := ⟨rfl, rfl, rfl, Nat.le_refl _, fun _ _ _ => rfl⟩
theorem then_ (h : Frm l w w1) (h2 : Frm l' w1 w2) (hs : ∀ k, k ∈ l' → k < w.heap.size → k ∈ l) : Frm l w w2 :=
 ⟨h2.os.trans h.os, h2.tape.trans h.tape, h2.output.trans h.output, Nat.le_trans h.size h2.size, fun k hk hn => by
  rw [h2.block k (Nat.lt_of_lt_of_le hk h.size) (fun hm => hn (hs k hm hk)), h.block k hk hn]⟩
theorem trans (h : Frm l w w1) (h2 : Frm l w1 w2) : Frm l w w2 := h.then_ h2 fun _ hk _ => hk
theorem mono (h : Frm l w w') (hs : ∀ k, k ∈ l → k < w.heap.size → k ∈ l') : Frm l' w w' :=
 ⟨h.os, h.tape, h.output, h.size, fun k hk hn => h.block k hk fun hm => hn (hs k hm hk)⟩
theorem below (h : Frm l w w') {B : Nat} (hB : B ≤ w.heap.size) (hl : ∀ k, k ∈ l → B ≤ k) : Below B w w' :=
 ⟨h.os, h.tape, h.output, h.size, fun k hk => h.block k (Nat.lt_of_lt_of_le hk hB) fun hm => absurd (hl k hm) (by omega)⟩
theorem of_below (h : Below w.heap.size w w') : Frm l w w' := ⟨h.os, h.tape, h.output, h.size, fun k hk _ => h.block k hk⟩
theorem alloc (h : Frm l w w') (o : Obj) : Frm l w (w'.alloc o) := h.trans (of_below ((Below.refl _ _).alloc (Nat.le_refl _) _))
theorem drew (h : Frm l w w') : Frm l w w'.drew := ⟨h.os, h.tape, h.output, h.size, h.block⟩
theorem set (h : Frm l w w') {p : Addr} (hp : p.block ∈ l) (u : Value) : Frm l w (w'.setCell p u) :=
 h.trans ⟨rfl, rfl, rfl, by simp [World.setCell], fun k _ hn => Below.heap_setCell _ _ _ _ (fun e => hn (e ▸ hp))⟩
end Frm
namespace Cel
variable {w w' : World} {g : Nat} {t : TypeId} {cs : List Value}
theorem lt (h : Cel w g t cs) : g < w.heap.size := (Array.getElem?_eq_some_iff.1 h).1
theorem cell (h : Cel w g t cs) (i : Nat) : w.cell? ⟨g, i, none⟩ = cs[i]? := by
 rw [cell_of_row w g i cs.toArray t (0, 0) h]; simp
theorem free (h : Cel w g t cs) (i : Nat) : w.frozen? ⟨g, i, none⟩ = false := by
 unfold Cel at h
 simp [World.frozen?, h]
theorem new (w : World) (t : TypeId) (cs : List Value) : Cel (w.alloc (.cells cs.toArray t)) w.heap.size t cs := heap_alloc_new w _
theorem drew (h : Cel w g t cs) : Cel w.drew g t cs := h
theorem alloc (h : Cel w g t cs) (o : Obj) : Cel (w.alloc o) g t cs := (Below.heap_alloc w o g h.lt).trans h
theorem set (h : Cel w g t cs) (i : Nat) (u : Value) : Cel (w.setCell ⟨g, i, none⟩ u) g t (cs.set i u) := by
 unfold Cel at h ⊢
 simp [World.setCell, Array.getElem?_modify, h]
theorem far (h : Cel w g t cs) {p : Addr} (hp : g ≠ p.block) (u : Value) : Cel (w.setCell p u) g t cs := (Below.heap_setCell w p u g hp).trans h
theorem below {B : Nat} (h : Cel w g t cs) (hb : Below B w w') (hg : g < B) : Cel w' g t cs := (hb.block g hg).trans h
theorem frm {l : List Nat} (h : Cel w g t cs) (hf : Frm l w w') (hg : g ∉ l) : Cel w' g t cs := (hf.block g h.lt hg).trans h
theorem ne {g' : Nat} {t' : TypeId} {cs' : List Value} (h : Cel w g t cs) (h' : Cel w g' t' cs') (hne : t ≠ t') : g ≠ g' := by
 rintro rfl
 unfold Cel at h h'
 rw [h] at h'
 injection h' with h'
 injection h' with _ ht
 exact hne ht
end Cel
def Bp (w : World) (p : Nat → Prop) (A : Option Addr) (n : Nat) (bs : List (BitVec 8)) : Prop :=
 bs.length = n ∧ (0 < n → ∃ ad, A = some ad ∧ p ad.block ∧ ∀ j, j < n → w.cell? (ad.add j) = some (v8 (bs.getD j 0#8)))
theorem Bs.bp {w : World} {B n : Nat} {A : Option Addr} {bs : List (BitVec 8)} (h : Bs w B A n bs) : Bp w (· < B) A n bs := h
theorem add_add (a : Addr) (i j : Nat) : (a.add i).add j = a.add (i + j) := by
 unfold Addr.add
 by_cases hi : i = 0 <;> by_cases hj : j = 0 <;> simp [hi, hj, Nat.add_assoc]
namespace Bp
variable {w w' : World} {p q : Nat → Prop} {A : Option Addr} {n : Nat} {bs : List (BitVec 8)}
theorem nil_ : Bp w p A 0 [] := ⟨rfl, fun h => absurd h (by omega)⟩
theorem len (h : Bp w p A n bs) : bs.length = n := h.1
theorem at_ (h : Bp w p A n bs) {k : Nat} (hk : k < n) : ∃ ad, A = some ad ∧ p ad.block ∧ w.cell? (ad.add k) = some (v8 (bs.getD k 0#8)) := by
 obtain ⟨ad, e, hb, hc⟩ := h.2 (by omega)
 exact ⟨ad, e, hb, hc k hk⟩
theorem keep (h : Bp w p A n bs) (hk : ∀ k, p k → k < w.heap.size → w'.heap[k]? = w.heap[k]?) : Bp w' p A n bs :=
 ⟨h.1, fun hn => by
  obtain ⟨ad, e, hb, hc⟩ := h.2 hn
  have hlt : ad.block < w.heap.size := by have := cell_lt (hc 0 hn); rwa [add_block] at this
  exact ⟨ad, e, hb, fun j hj => (World.cell?_of_block (by rw [add_block]; exact hk _ hb hlt)).trans (hc j hj)⟩⟩
theorem mono (h : Bp w p A n bs) (hpq : ∀ k, p k → k < w.heap.size → q k) : Bp w q A n bs :=
 ⟨h.1, fun hn => by
  obtain ⟨ad, e, hb, hc⟩ := h.2 hn
  have hlt : ad.block < w.heap.size := by have := cell_lt (hc 0 hn); rwa [add_block] at this
  exact ⟨ad, e, hpq _ hb hlt, hc⟩⟩
theorem low (h : Bp w p A n bs) : Bs w w.heap.size A n bs := h.mono fun _ _ hk => hk
theorem frm {l : List Nat} (h : Bp w p A n bs) (hf : Frm l w w') (hp : ∀ k, p k → k ∉ l) : Bp w' p A n bs := h.keep fun k hk hl => hf.block k hl (hp k hk)
theorem below {B : Nat} (h : Bp w p A n bs) (hb : Below B w w') (hp : ∀ k, p k → k < B) : Bp w' p A n bs := h.keep fun k hk _ => hb.block k (hp k hk)
theorem take (h : Bp w p A n bs) {k : Nat} (hk : k ≤ n) : Bp w p A k (bs.take k) := by
 refine ⟨by rw [List.length_take, h.1]; omega, fun hn => ?_⟩
 obtain ⟨ad, rfl, hb, hc⟩ := h.2 (by omega)
 refine ⟨ad, rfl, hb, fun j hj => ?_⟩
 rw [hc j (by omega), List.getD_eq_getElem?_getD, List.getD_eq_getElem?_getD, List.getElem?_take, if_pos hj]
theorem cut (h : Bp w p A n bs) {k cap : Nat} (hk : k ≤ n) (hc : n ≤ cap) : Bp w p (if cap = k then A else A.map (·.add k)) (n - k) (bs.drop k) := by
 refine ⟨by rw [List.length_drop, h.1], fun hn => ?_⟩
 obtain ⟨ad, rfl, hb, hcell⟩ := h.2 (by omega)
 rw [if_neg (by omega)]
 refine ⟨ad.add k, rfl, by rw [add_block]; exact hb, fun j hj => ?_⟩
 rw [add_add, hcell _ (by omega), List.getD_eq_getElem?_getD, List.getD_eq_getElem?_getD, List.getElem?_drop]
theorem of_own {base : Nat} {e : TypeId} {c : Nat} {us : List Value} (h : w.ownsRow base e 1 (.slice A n c) n us) (hu : us = bs.map v8) : Bp w (fun k => (Value.slice A n c).ownBlock = some k ∧ base ≤ k) A n bs := by
 subst hu
 have hl : bs.length = n := by simpa using h.1
 refine ⟨hl, fun hn => ?_⟩
 obtain ⟨g, cap, hv, hbg, hlt⟩ := h.form hn
 have hA : A = some ⟨g, 0, none⟩ := by injection hv
 subst hA
 refine ⟨_, rfl, ⟨rfl, hbg⟩, fun j hj => h.cells (g := g) rfl j _ ?_⟩
 rw [List.getElem?_map, List.getElem?_eq_getElem (by omega), List.getD_eq_getElem?_getD, List.getElem?_eq_getElem (by omega)]
 rfl
end Bp
def str (bs : List (BitVec 8)) : ByteArray := ⟨(bs.map UInt8.ofBitVec).toArray⟩
theorem push_all (ns : List (BitVec 8)) : ∀ s : ByteArray, (ns.map fun b => (b.toNat : Int)).foldl (fun r n => r.push (UInt8.ofNat n.toNat)) s = ⟨(s.data.toList ++ ns.map UInt8.ofBitVec).toArray⟩ := by
 induction ns with
 | nil => intro s; simp
 | cons b ns ih =>
  intro s
  rw [List.map_cons, List.foldl_cons, ih]
  have : UInt8.ofNat ((b.toNat : Int).toNat) = UInt8.ofBitVec b := by
   rw [Int.toNat_natCast]
   apply UInt8.toNat_inj.1
   rw [UInt8.toNat_ofNat', UInt8.toNat_ofBitVec]
   exact Nat.mod_eq_of_lt b.isLt
  rw [this]
  simp [ByteArray.push]
theorem Bp.string {P : Program} {w : World} {p : Nat → Prop} {A : Option Addr} {n : Nat} {bs : List (BitVec 8)} (h : Bp w p A n bs) (c : Nat) {src dst e : TypeId}
  (hs : P.underlying src = some (.slice e)) (he : P.underlying e = some (.int .u8)) (hd : P.underlying dst = some .string) :
  (convert src dst (.slice A n c)).run P w = .ok (.string (str bs)) w := by
 rw [run_convert_bytes_string w src dst e A n c hs he hd]
 rcases A with _ | ad
 ·have hn : n = 0 := by
   rcases Nat.eq_zero_or_pos n with h0 | h0
   ·exact h0
   ·obtain ⟨ad, h', _⟩ := h.2 h0; cases h'
  subst hn
  have hb : bs = [] := List.eq_nil_of_length_eq_zero h.1
  subst hb
  rw [← run_convert_bytes_string w src dst e none 0 c hs he hd, Lib.run_convert_nil_bytes w src dst e c hs he hd]
  rfl
 ·have hl : (loadCells ad n).run P w = .ok ((bs.map fun b => (b.toNat : Int)).map (Value.int .u8)).toArray w := by
   have hx := run_firstCells_some (P := P) w 1 n ad n c (bs.map v8) (by simp [h.1]) (by
    intro j u hu
    have hj : j < bs.length := by
     rcases Nat.lt_or_ge j bs.length with h' | h'
     ·exact h'
     ·rw [List.getElem?_eq_none (by simpa using h')] at hu; cases hu
    obtain ⟨ad', h', _, hc⟩ := h.2 (by rw [← h.1]; omega)
    injection h' with h'
    subst h'
    rw [hc j (by rw [← h.1]; exact hj)]
    rw [List.getElem?_map, List.getElem?_eq_getElem hj] at hu
    rw [List.getD_eq_getElem?_getD, List.getElem?_eq_getElem hj]
    exact hu)
   have e : (bs.map fun b => (b.toNat : Int)).map (Value.int .u8) = bs.map v8 := by rw [List.map_map]; rfl
   rw [e]
   simpa [Builtin.firstCells] using hx
  rw [run_bytesToString w ad n c _ hl, push_all]
  rfl
section
variable {P : Program} (w : World)
theorem run_equalIn_fn_nil (d : Nat) {t : TypeId} {ps rs : Array TypeId} {vr : Bool} (h : P.underlying t = some (.func ps rs vr)) (fn : Fn) (a b : Array Value) : (Op.equalIn (d + 1) t (.func fn a b) .nilFunc).run P w = .ok false w := by
 simp [Op.equalIn, run_underlying h]
theorem run_equalIn_nil_fn (d : Nat) {t : TypeId} {ps rs : Array TypeId} {vr : Bool} (h : P.underlying t = some (.func ps rs vr)) : (Op.equalIn (d + 1) t .nilFunc .nilFunc).run P w = .ok true w := by
 simp [Op.equalIn, run_underlying h]
theorem run_eql_fn_nil {t : TypeId} {ps rs : Array TypeId} {vr : Bool} (h : P.underlying t = some (.func ps rs vr)) (fn : Fn) (a b : Array Value) : (binOp .eql t (.func fn a b) .nilFunc).run P w = .ok (.bool false) w := by
 simp only [binOp]
 simp [Op.equal, Op.maxDepth, run_equalIn_fn_nil w 9999 h fn a b]
theorem run_eql_nil_nil_fn {t : TypeId} {ps rs : Array TypeId} {vr : Bool} (h : P.underlying t = some (.func ps rs vr)) : (binOp .eql t .nilFunc .nilFunc).run P w = .ok (.bool true) w := by
 simp only [binOp]
 simp [Op.equal, Op.maxDepth, run_equalIn_nil_fn w 9999 h]
end
namespace Vp
variable {w w' : World} {p q : Nat → Prop} {A : Option Addr} {n : Nat} {us : List Value}
end Vp
end Go.Proofs.Ytfmkkklcgiaacaa
end
section
namespace Go.Proofs.Ytfmkkklcgiaacaa.Pack
open Go.RowKit
abbrev v64 (x : BitVec 64) : Value := .int .u64 (x.toNat : Int)
theorem bytesT : ByteRow Try.prog 29 5 := ByteRow.mk' Try.underlying29 (by kernel_rfl)
def Own (w : World) (B : Nat) (A : Option Addr) (n c : Nat) (bs : List (BitVec 8)) : Prop := w.ownsRow B 5 1 (.slice A n c) n (bs.map v8)
theorem isSize_yes (size : Int) (w : World) (h : okSize size = true) : Calls Try.prog 39 #[.int .i64 size] w fun e w' => e = .returned (.bool true) ∧ w = w' := by
 have h1 : decide (1 ≤ size) = true := by simp [okSize] at h ⊢; omega
 have h2 : decide (size ≤ 8) = true := by simp [okSize] at h ⊢; omega
 clear h
 go_enter Try.func39, Try.ntmps39
 go_wp2
 go_ret
 exact ⟨rfl, rfl⟩
theorem isSize_no (size : Int) (w : World) (h : okSize size = false) : Calls Try.prog 39 #[.int .i64 size] w fun e w' => e = .returned (.bool false) ∧ w = w' := by
 by_cases h1 : 1 ≤ size
 ·have g1 : decide (1 ≤ size) = true := by simp; omega
  have g2 : decide (size ≤ 8) = false := by simp [okSize, g1] at h ⊢; omega
  clear h h1
  go_enter Try.func39, Try.ntmps39
  go_wp2
  go_ret
  exact ⟨rfl, rfl⟩
 ·have g1 : decide (1 ≤ size) = false := by simp; omega
  clear h h1
  go_enter Try.func39, Try.ntmps39
  go_wp2
  go_ret
  exact ⟨rfl, rfl⟩
theorem Own.of_nil (w : World) (B : Nat) : Own w B none 0 0 [] := World.ownsRow_nil w B _ _
end Go.Proofs.Ytfmkkklcgiaacaa.Pack
end
section
namespace Go.Proofs.Ytfmkkklcgiaacaa.Pack
open Go.RowKit
theorem Own.bp {w : World} {B : Nat} {A : Option Addr} {n c : Nat} {bs : List (BitVec 8)} (h : Own w B A n c bs) : Bp w (fun k => B ≤ k) A n bs := (Bp.of_own h rfl).mono fun _ hk _ => hk.2
theorem Own.room {w : World} {B : Nat} {A : Option Addr} {n c : Nat} {bs : List (BitVec 8)} (h : Own w B A n c bs) : n ≤ c ∧ c ≤ maxLen := by
 rcases h.2 with ⟨e, _⟩ | ⟨g, cap, cur, e, _, _, h1, h2, _⟩
 ·injection e with _ e1 e2; omega
 ·injection e with _ e1 e2; omega
theorem Own.base {w : World} {B B' : Nat} {A : Option Addr} {n c : Nat} {bs : List (BitVec 8)} (h : Own w B A n c bs) (hB : B' ≤ B) : Own w B' A n c bs :=
 ⟨h.1, h.2.imp id fun ⟨g', cap, cur, h1, h2, h3⟩ => ⟨g', cap, cur, h1, by omega, h3⟩⟩
theorem Own.frm {w w' : World} {B : Nat} {A : Option Addr} {n c : Nat} {bs : List (BitVec 8)} {l : List Nat} (h : Own w B A n c bs) (hf : Frm l w w') (hl : ∀ k, k ∈ l → k < B) : Own w' B A n c bs := by
 refine ⟨h.1, h.2.imp id fun ⟨g', cap, cur, h1, h2, h3, h4⟩ => ⟨g', cap, cur, h1, h2, ?_, h4⟩⟩
 rw [hf.block g' (Array.getElem?_eq_some_iff.1 h3).1 (fun hm => by have := hl g' hm; omega)]
 exact h3
theorem clone (B : Nat) (A : Option Addr) (n c : Nat) (bs : List (BitVec 8)) (w : World) (hbs : Bs w B A n bs) (hB : B ≤ w.heap.size) (hn : n ≤ 140737488355328) :
  Calls Try.prog 34 #[.slice A n c] w fun e w' => ∃ A' c', e = .returned (.slice A' n c') ∧ Own w' w.heap.size A' n c' bs ∧ Below w.heap.size w w' := by
 have hq := fun w : World => Lib.run_eql_slice_nil (P := Try.prog) w 29 5 A n c 0 0 Try.underlying29
 rcases A with _ | ad
 ·have h0 : n = 0 := by
   rcases Nat.eq_zero_or_pos n with h0 | h0
   ·exact h0
   ·obtain ⟨ad, h, _⟩ := hbs.2 h0; cases h
  subst h0
  have hb : bs = [] := List.eq_nil_of_length_eq_zero hbs.1
  subst hb
  clear hbs
  go_enter Try.func34, Try.ntmps34
  go_wp2_with fail
  go_ret
  exact ⟨_, _, rfl, Own.of_nil _ _, Below.refl _ _⟩
 ·have HB := Lib.hid hbs
  clear hbs
  go_enter Try.func34, Try.ntmps34
  go_wp2_with ((at_builtin; refine wpList_append_new _ rfl _ _ 29 rfl 5 bytesT rfl B (some ad) n c bs rfl HB.out hB hn ?_; intro A3 c3 w3 o3 g3))
  go_ret
  exact ⟨A3, c3, rfl, o3, g3⟩
abbrev takeOf (h : Nat) : Value := .func (.func 37) #[.pointer (some ⟨h, 0, none⟩)] #[]
abbrev atEndOf (h : Nat) : Value := .func (.func 38) #[.pointer (some ⟨h, 0, none⟩)] #[]
def Rd (w : World) (B h g : Nat) (st : St) : Prop :=
 B ≤ h ∧ h < g ∧ (st = none ∧ Cel w g 94 [.nilFunc, .nilFunc] ∨
 ∃ r A n c, st = some r ∧ Cel w g 94 [takeOf h, atEndOf h] ∧ Cel w h 91 [.slice A n c] ∧ Bp w (fun k => B ≤ k ∧ k < h) A n r ∧ n ≤ c ∧ c ≤ maxLen)
theorem Rd.frm {w w' : World} {B h g : Nat} {st : St} {l : List Nat} (hr : Rd w B h g st) (hf : Frm l w w') (hl : ∀ k, k ∈ l → k < B ∨ g < k) : Rd w' B h g st := by
 obtain ⟨h1, h2, h3⟩ := hr
 refine ⟨h1, h2, ?_⟩
 have no : ∀ k, B ≤ k → k ≤ g → k ∉ l := fun k a b hm => by have := hl k hm; omega
 rcases h3 with ⟨rfl, hc⟩ | ⟨r, A, n, c, rfl, hc, hd, hb, hn, hm⟩
 ·exact .inl ⟨rfl, hc.frm hf (no g (by omega) (by omega))⟩
 ·exact .inr ⟨r, A, n, c, rfl, hc.frm hf (no g (by omega) (by omega)), hd.frm hf (no h (by omega) (by omega)), hb.frm hf (fun k hk => no k hk.1 (by omega)), hn, hm⟩
theorem fail_at (g : Nat) (a b : Value) (w : World) (h : Cel w g 94 [a, b]) :
  Calls Try.prog 40 #[.pointer (some ⟨g, 0, none⟩)] w fun e w' => e = .returned (.tuple #[]) ∧ Cel w' g 94 [.nilFunc, .nilFunc] ∧ Frm [g] w w' := by
 have h0 := h.cell 0
 have h1 := h.cell 1
 have f0 := h.free 0
 have f1 := h.free 1
 have H := Lib.hid h
 clear h
 go_enter Try.func40, Try.ntmps40
 go_wp2_with fail
 go_end0
 exact ⟨rfl, (H.out.set 0 _).set 1 _, ((Frm.refl _ _).set (by simp) _).set (by simp) _⟩
theorem failed_yes (g : Nat) (w : World) (h : Cel w g 94 [.nilFunc, .nilFunc]) : Calls Try.prog 43 #[.pointer (some ⟨g, 0, none⟩)] w fun e w' => e = .returned (.bool true) ∧ w = w' := by
 have h0 := h.cell 0
 clear h
 have q1 := fun w : World => run_eql_nil_nil_fn (P := Try.prog) w (t := 92) Try.underlying92
 have q2 := fun (w : World) (fn : Fn) (a b : Array Value) => run_eql_fn_nil (P := Try.prog) w (t := 92) Try.underlying92 fn a b
 go_enter Try.func43, Try.ntmps43
 go_wp2_with fail
 go_ret
 exact ⟨rfl, rfl⟩
theorem failed_no (g d : Nat) (w : World) (h : Cel w g 94 [takeOf d, atEndOf d]) : Calls Try.prog 43 #[.pointer (some ⟨g, 0, none⟩)] w fun e w' => e = .returned (.bool false) ∧ w = w' := by
 have h0 := h.cell 0
 clear h
 have q1 := fun w : World => run_eql_nil_nil_fn (P := Try.prog) w (t := 92) Try.underlying92
 have q2 := fun (w : World) (fn : Fn) (a b : Array Value) => run_eql_fn_nil (P := Try.prog) w (t := 92) Try.underlying92 fn a b
 go_enter Try.func43, Try.ntmps43
 go_wp2_with fail
 go_ret
 exact ⟨rfl, rfl⟩
theorem take_no (d k : Nat) (A : Option Addr) (n c : Nat) (w : World) (hc : Cel w d 91 [.slice A n c]) (hk : n < k) :
  Calls Try.prog 37 #[.pointer (some ⟨d, 0, none⟩), .int .i64 (k : Int)] w fun e w' => e = .returned (.tuple #[.slice none 0 0, .bool false]) ∧ w = w' := by
 have h0 := hc.cell 0
 clear hc
 have hd : decide (n < k) = true := by simp; omega
 go_enter Try.func37, Try.ntmps37
 go_wp2_with fail
 go_ret2
 exact ⟨rfl, rfl⟩
theorem take_ok (d k : Nat) (A : Option Addr) (n c : Nat) (w : World) (p : Nat → Prop) (r : List (BitVec 8)) (hc : Cel w d 91 [.slice A n c]) (hk : k ≤ n) (hn : n ≤ c) (hm : c ≤ maxLen) (hb : Bp w p A n r) (hp : ¬ p d) :
  Calls Try.prog 37 #[.pointer (some ⟨d, 0, none⟩), .int .i64 (k : Int)] w fun e w' => e = .returned (.tuple #[.slice A k c, .bool true]) ∧ Bp w' p A k (r.take k) ∧
   (∃ A' c', Cel w' d 91 [.slice A' (n - k) c'] ∧ n - k ≤ c' ∧ c' ≤ maxLen ∧ Bp w' p A' (n - k) (r.drop k)) ∧ Frm [d] w w' := by
 have h0 := hc.cell 0
 have f0 := hc.free 0
 have H := Lib.hid hc
 have hcut := Lib.hid (hb.cut hk hn)
 have htake := Lib.hid (hb.take hk)
 have hset : ∀ u, Frm [d] w (w.setCell ⟨d, 0, none⟩ u) := fun u => (Frm.refl _ _).set (by simp) _
 have hpd : ∀ k, p k → k ∉ [d] := fun k hk hm => hp (by simp at hm; exact hm ▸ hk)
 have HS := Lib.hid hset
 have HP := Lib.hid hpd
 clear hc hb hset hpd
 unfold maxLen at hm ⊢
 have hd : decide (n < k) = false := by simp; omega
 by_cases hck : c = k
 ·have hnk : n = k := by omega
  subst hck
  subst hnk
  rw [if_pos rfl] at hcut
  go_enter Try.func37, Try.ntmps37
  go_wp2_with fail
  go_ret2
  exact ⟨rfl, htake.out.frm (HS.out _) HP.out, ⟨A, 0, by rw [Nat.sub_self]; exact H.out.set 0 _, by omega, by omega, hcut.out.frm (HS.out _) HP.out⟩, HS.out _⟩
 ·rw [if_neg hck] at hcut
  go_enter Try.func37, Try.ntmps37
  go_wp2_with fail
  go_ret2
  exact ⟨rfl, htake.out.frm (HS.out _) HP.out, ⟨_, _, H.out.set 0 _, by omega, by omega, hcut.out.frm (HS.out _) HP.out⟩, HS.out _⟩
theorem atEnd (d : Nat) (A : Option Addr) (n c : Nat) (w : World) (hc : Cel w d 91 [.slice A n c]) :
  Calls Try.prog 38 #[.pointer (some ⟨d, 0, none⟩)] w fun e w' => e = .returned (.bool ((n : Int) == 0)) ∧ w = w' := by
 have h0 := hc.cell 0
 clear hc
 go_enter Try.func38, Try.ntmps38
 go_wp2_with fail
 go_ret
 exact ⟨rfl, rfl⟩
def After (w : World) (B d g : Nat) (st : St) (w' : World) : Prop := Rd w' B d g st ∧ Frm [d, g] w w'
theorem next (B d g k : Nat) (st : St) (w : World) (hr : Rd w B d g st) (hk : k ≤ maxLen) :
  Calls Try.prog 41 #[.pointer (some ⟨g, 0, none⟩), .int .i64 (k : Int)] w fun e w' =>
   ∃ A c, e = .returned (.slice A (rnext k st).1.length c) ∧ Bp w' (fun k => B ≤ k ∧ k < d) A (rnext k st).1.length (rnext k st).1 ∧ After w B d g (rnext k st).2 w' := by
 obtain ⟨h1, h2, h3⟩ := hr
 unfold maxLen at hk
 rcases h3 with ⟨rfl, hc⟩ | ⟨r, A, n, c, rfl, hc, hd, hb, hn, hm⟩
 ·have HC := Lib.hid hc
  clear hc
  go_enter Try.func41, Try.ntmps41
  go_wp2_with fail
  refine (failed_yes g _ HC.out).mono ?_
  rintro e w' ⟨rfl, rfl⟩
  go_wp2_with fail
  go_ret
  exact ⟨_, _, rfl, Bp.nil_, ⟨h1, h2, .inl ⟨rfl, HC.out⟩⟩, Frm.refl _ _⟩
 ·have c0 := hc.cell 0
  have HC := Lib.hid hc
  have HD := Lib.hid hd
  have HB := Lib.hid hb
  clear hc hd hb
  by_cases hkn : k ≤ n
  ·go_enter Try.func41, Try.ntmps41
   go_wp2_with fail
   refine (failed_no g d _ HC.out).mono ?_
   rintro e w' ⟨rfl, rfl⟩
   go_wp2_with fail
   refine (take_ok d k A n c _ _ r HD.out hkn hn hm HB.out (by omega)).mono ?_
   rintro e w1 ⟨rfl, ht, ⟨A', c', hd', hn', hm', hb'⟩, hf⟩
   have HT := Lib.hid ht
   have HD' := Lib.hid hd'
   have HB' := Lib.hid hb'
   clear ht hd' hb'
   go_wp2_with fail
   go_ret
   have e1 : rnext k (some r) = (r.take k, some (r.drop k)) := by rw [rnext, if_pos (by rw [HB.out.len]; exact hkn)]
   have e2 : (r.take k).length = k := by rw [List.length_take, HB.out.len]; omega
   rw [e1]
   simp only [e2]
   exact ⟨_, _, rfl, HT.out, ⟨h1, h2, .inr ⟨_, _, _, _, rfl, HC.out.frm hf (by simp; omega), HD'.out, HB'.out, hn', hm'⟩⟩, hf.mono (by simp)⟩
  ·go_enter Try.func41, Try.ntmps41
   go_wp2_with fail
   refine (failed_no g d _ HC.out).mono ?_
   rintro e w' ⟨rfl, rfl⟩
   go_wp2_with fail
   refine (take_no d k A n c _ HD.out (by omega)).mono ?_
   rintro e w' ⟨rfl, rfl⟩
   go_wp2_with fail
   refine (fail_at g _ _ _ HC.out).mono ?_
   rintro e w1 ⟨rfl, hc, hf⟩
   have HC' := Lib.hid hc
   clear hc
   go_wp2_with fail
   go_ret
   have e1 : rnext k (some r) = ([], none) := by rw [rnext, if_neg (by rw [HB.out.len]; omega)]
   rw [e1]
   exact ⟨_, _, rfl, Bp.nil_, ⟨h1, h2, .inl ⟨rfl, HC'.out⟩⟩, hf.mono (by simp)⟩
theorem shl64 (n : BitVec 64) (b : BitVec 8) : bits .or .u64 (IntKind.u64.wrap ((n.toNat : Int) * (256 : Int))) (b.toNat : Int) = (((n <<< 8) ||| b.setWidth 64).toNat : Int) := by
 have hb := b.isLt
 have e1 : IntKind.u64.wrap ((n.toNat : Int) * (256 : Int)) = ((n.toNat * 256 % 18446744073709551616 : Nat) : Int) := by
  rw [IntKind.wrap_u64]; omega
 rw [e1, u64_or_nat _ _ (Nat.mod_lt _ (by decide)) (by omega), BitVec.toNat_or, BitVec.toNat_shiftLeft, BitVec.toNat_setWidth, Nat.shiftLeft_eq, Nat.mod_eq_of_lt (a := b.toNat) (by omega)]
theorem rNumber (B d g : Nat) (size : Int) (st : St) (w : World) (hr : Rd w B d g st) :
  Calls Try.prog 24 #[.pointer (some ⟨g, 0, none⟩), .int .i64 size] w fun e w' =>
   e = .returned (v64 (rnum size st).1) ∧ After w B d g (rnum size st).2 w' := by
 have HR := Lib.hid hr
 clear hr
 cases hs : okSize size
 ·have HS := Lib.hid hs
  clear hs
  have hc : ∃ a b, Cel w g 94 [a, b] := by
   obtain ⟨_, _, ⟨_, hc⟩ | ⟨_, _, _, _, _, hc, _⟩⟩ := HR.out <;> exact ⟨_, _, hc⟩
  obtain ⟨a, b, hc⟩ := hc
  have HC := Lib.hid hc
  clear hc
  go_enter Try.func24, Try.ntmps24
  go_wp2_with fail
  refine (isSize_no _ _ HS.out).mono ?_
  rintro e w' ⟨rfl, rfl⟩
  go_wp2_with fail
  refine (fail_at g _ _ _ HC.out).mono ?_
  rintro e w1 ⟨rfl, hc, hf⟩
  go_wp2_with fail
  go_ret
  rw [rnum_bad _ _ HS.out]
  exact ⟨rfl, ⟨HR.out.1, HR.out.2.1, .inl ⟨rfl, hc⟩⟩, hf.mono (by simp)⟩
 ·obtain ⟨k, rfl⟩ : ∃ k : Nat, size = (k : Int) := ⟨size.toNat, by simp [okSize] at hs; omega⟩
  have hk8 : k ≤ 8 := by simp [okSize] at hs; omega
  have HS := Lib.hid hs
  clear hs
  go_enter Try.func24, Try.ntmps24
  go_wp2_with fail
  refine (isSize_yes _ _ HS.out).mono ?_
  rintro e w' ⟨rfl, rfl⟩
  go_wp2_with fail
  refine (next B d g k st _ HR.out (by unfold maxLen; omega)).mono ?_
  rintro e w1 ⟨A, c, rfl, hb, ha⟩
  generalize hl : (rnext k st).1 = l at hb ⊢
  have hl8 : l.length ≤ 8 := by
   subst hl; cases st with
   | none => simp [rnext]
   | some r => by_cases hkr : k ≤ r.length <;> simp [rnext, hkr] <;> omega
  have HL := Lib.hid hl
  have HB := Lib.hid hb
  have HA := Lib.hid ha
  clear hb ha hl
  go_wp2_with fail
  go_loop [5, 17] (fun x i => ∃ j : Nat, j ≤ l.length ∧ i = .int .i64 (j : Int) ∧ x = v64 (val (l.take j))) (fun _ i => l.length - (intOf i).toNat)
  case atStart => exact ⟨0, Nat.zero_le _, rfl, rfl⟩
  case round =>
   obtain ⟨j, hj, rfl, rfl⟩ := hrel
   by_cases hlt : j < l.length
   ·obtain ⟨ad, rfl, _, hcell⟩ := HB.out.at_ hlt
    generalize hX : val (l.take j) = X
    generalize hY : l.getD j 0#8 = Y at hcell
    have HX := Lib.hid hX
    have HY := Lib.hid hY
    clear hX hY
    go_wp2_with fail
    go_round
    case rel => exact ⟨j + 1, by omega, by go_num, by rw [take_snoc8 _ _ hlt, val_snoc, HX.out, HY.out]; exact congrArg (Value.int .u64) (shl64 X Y)⟩
    case measure => simp [intOf]; omega
   ·go_wp2_with fail
    go_ret
    have : j = l.length := by omega
    subst this
    rw [List.take_length, rnum_next _ _ HS.out, Int.toNat_natCast, HL.out]
    exact ⟨rfl, HA.out⟩
theorem rnum2_small (st : St) : (rnum 2 st).1.toNat ≤ 65535 := by
 have h : okSize 2 = true := rfl
 rw [rnum_next _ _ h]
 have hl : (rnext 2 st).1.length ≤ 2 := by
  cases st with
  | none => simp [rnext]
  | some r => by_cases hkr : 2 ≤ r.length <;> simp [rnext, hkr]
 have h2 := valN_lt _ (rnext 2 st).1 rfl
 have h3 : (256 : Nat) ^ (rnext 2 st).1.length ≤ 256 ^ 2 := Nat.pow_le_pow_right (by decide) hl
 have h4 := val_toNat _ (rnext 2 st).1 rfl (by omega)
 show (val (rnext 2 st).1).toNat ≤ 65535
 omega
theorem rText (B d g : Nat) (st : St) (w : World) (hr : Rd w B d g st) :
  Calls Try.prog 99 #[.pointer (some ⟨g, 0, none⟩)] w fun e w' =>
   ∃ A c, e = .returned (.slice A (rtext st).1.length c) ∧ Own w' w.heap.size A (rtext st).1.length c (rtext st).1 ∧ After w B d g (rtext st).2 w' := by
 have HR := Lib.hid hr
 clear hr
 go_enter Try.func99, Try.ntmps99
 go_wp2_with fail
 refine (rNumber B d g 2 st _ HR.out).mono ?_
 rintro e w1 ⟨rfl, ha⟩
 have hs := rnum2_small st
 generalize hx : (rnum 2 st).1 = x at hs ⊢
 have HX := Lib.hid hx
 have HA := Lib.hid ha
 clear ha hx
 go_wp2_with fail
 refine (next B d g x.toNat _ _ HA.out.1 (by unfold maxLen; omega)).mono ?_
 rintro e w2 ⟨A, c, rfl, hb, ha⟩
 have f1 := HA.out.2
 have s1 := f1.size
 have s2 := ha.2.size
 have hl : (rnext x.toNat (rnum 2 st).2).1.length ≤ 65535 := by
  cases (rnum 2 st).2 with
  | none => simp [rnext]
  | some r => by_cases hkr : x.toNat ≤ r.length <;> simp [rnext, hkr] <;> omega
 have HB := Lib.hid hb
 have HA2 := Lib.hid ha
 have HF1 := Lib.hid f1
 clear hb ha f1
 generalize hy : (rnext x.toNat (rnum 2 st).2).1 = y at *
 have HY := Lib.hid hy
 clear hy
 go_wp2_with fail
 refine (clone _ A y.length c y _ HB.out.low (Nat.le_refl _) (by omega)).mono ?_
 rintro e w3 ⟨A3, c3, rfl, ho, hb3⟩
 have HO := Lib.hid ho
 clear ho
 go_wp2_with fail
 go_ret
 have e1 : (rtext st).1 = y := by rw [rtext, HX.out, HY.out]
 have e2 : (rtext st).2 = (rnext x.toNat (rnum 2 st).2).2 := by rw [rtext, HX.out]
 rw [e1, e2]
 have hf3 : Frm [d, g] w2 w3 := Frm.of_below hb3
 refine ⟨A3, c3, rfl, ?_, (HA2.out.1.frm (l := []) (Frm.of_below hb3) (by simp)), (HF1.out.trans HA2.out.2).trans hf3⟩
 exact HO.out.base (by omega)
theorem read (B : Nat) (A : Option Addr) (n c : Nat) (bs : List (BitVec 8)) (w : World) (hbs : Bs w B A n bs) (hB : B ≤ w.heap.size) (hn : n ≤ 140737488355328) :
  Calls Try.prog 23 #[.slice A n c] w fun e w' => ∃ d g, e = .returned (.pointer (some ⟨g, 0, none⟩)) ∧ Rd w' w.heap.size d g (some bs) ∧ w'.heap.size = g + 1 ∧ Below w.heap.size w w' := by
 have HB := Lib.hid hbs
 clear hbs
 go_enter Try.func23, Try.ntmps23
 go_wp2_with fail
 refine (clone B A n c bs _ HB.out hB hn).mono ?_
 rintro e w1 ⟨A1, c1, rfl, ho, hb⟩
 have HO := Lib.hid ho
 have s1 := hb.size
 clear ho
 go_wp2_with fail
 go_ret
 refine ⟨w1.heap.size, w1.heap.size + 1, rfl, ⟨by omega, by omega, .inr ⟨bs, A1, n, c1, rfl, ?_, ?_, ?_, HO.out.room.1, HO.out.room.2⟩⟩, by simp, (hb.alloc s1 _).alloc (by simp; omega) _⟩
 ·have h := Cel.new (w1.alloc (.cells #[.slice A1 n c1] 91)) 94 [takeOf w1.heap.size, atEndOf w1.heap.size]
  simpa using h
 ·exact (Cel.new w1 91 [.slice A1 n c1]).alloc _
 ·refine (HO.out.bp.mono (q := fun k => w.heap.size ≤ k ∧ k < w1.heap.size) fun k hk hl => ⟨hk, hl⟩).keep fun k hk hl => ?_
  rw [Below.heap_alloc _ _ _ (by simp; omega), Below.heap_alloc _ _ _ (by omega)]
end Go.Proofs.Ytfmkkklcgiaacaa.Pack
end
