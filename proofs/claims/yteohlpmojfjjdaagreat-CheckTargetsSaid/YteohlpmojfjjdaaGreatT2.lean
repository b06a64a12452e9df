/-
Texts: Mem Append By RegRead
-/
import Derived.Test.YteohlpmojfjjdaaGreatT0
import Derived.Test.YteohlpmojfjjdaaGreatT1
import Derived.Laws.Rows
import Derived.Laws.BytesString
import Derived.Lib.BufferRead
import Derived.Lib.Hide
import Derived.Maps.AppendAt
import Derived.RegionTactic
import Derived.OwnWalk
import Derived.WalkKit
import Derived.ProofKit
import Derived.WalkSpells
import Derived.Laws.EntriesVeiled
import Derived.Below
import Derived.Outline
import Derived.Laws.BitsAllLaws
import Derived.Deep.QuietTactic
import Derived.BigQuiet
import Derived.Test.YteohlpmojfjjdaaGreatRows
set_option linter.unusedVariables false
set_option linter.unusedSimpArgs false
set_option maxRecDepth 100000
set_option maxHeartbeats 4000000
section
namespace Go.Proofs.YteohlpmojfjjdaaGreat
open Go.RowKit
def Cel (w : World) (g : Nat) (t : TypeId) (cs : List Value) : Prop := w.heap[g]? = some (.cells cs.toArray t (0, 0))
structure Frm (l : List Nat) (w w' : World) : Prop where
 os : w'.os = w.os
 tape : w'.tape = w.tape
 output : w'.output = w.output
 size : w.heap.size ≤ w'.heap.size
 block : ∀ k, k < w.heap.size → k ∉ l → w'.heap[k]? = w.heap[k]?
namespace Frm
variable {l l' : List Nat} {w w' w1 w2 : World}
theorem refl (l : List Nat) (w : World) : Frm l w w := ⟨rfl, rfl, rfl, Nat.le_refl _, fun _ _ _ => rfl⟩
theorem then_ (h : Frm l w w1) (h2 : Frm l' w1 w2) (hs : ∀ k, k ∈ l' → k < w.heap.size → k ∈ l) : Frm l w w2 :=
 ⟨h2.os.trans h.os, h2.tape.trans h.tape, h2.output.trans h.output, Nat.le_trans h.size h2.size, fun k hk hn => by
  rw [h2.block k (Nat.lt_of_lt_of_le hk h.size) (fun hm => hn (hs k hm hk)), h.block k hk hn]⟩
theorem trans (h : Frm l w w1) (h2 : Frm l w1 w2) : Frm l w w2 := h.then_ h2 fun _ hk _ => hk
theorem below (h : Frm l w w') {B : Nat} (hB : B ≤ w.heap.size) (hl : ∀ k, k ∈ l → B ≤ k) : Below B w w' :=
 ⟨h.os, h.tape, h.output, h.size, fun k hk => h.block k (Nat.lt_of_lt_of_le hk hB) fun hm => absurd (hl k hm) (by omega)⟩
theorem of_below (h : Below w.heap.size w w') : Frm l w w' := ⟨h.os, h.tape, h.output, h.size, fun k hk _ => h.block k hk⟩
theorem drew (h : Frm l w w') : Frm l w w'.drew := ⟨h.os, h.tape, h.output, h.size, h.block⟩
theorem set (h : Frm l w w') {p : Addr} (hp : p.block ∈ l) (u : Value) : Frm l w (w'.setCell p u) :=
 h.trans ⟨rfl, rfl, rfl, by simp [World.setCell], fun k _ hn => Below.heap_setCell _ _ _ _ (fun e => hn (e ▸ hp))⟩
theorem setNew (h : Frm l w w') {p : Addr} (hp : w.heap.size ≤ p.block) (u : Value) : Frm l w (w'.setCell p u) :=
 h.then_ (l' := [p.block]) ⟨rfl, rfl, rfl, by simp [World.setCell], fun k _ hn => Below.heap_setCell _ _ _ _ (fun e => hn (by simp [e]))⟩ (by intro k hk hl; simp at hk; omega)
theorem grown (h : Frm l w w') {row : Option Nat} (hg : w'.grownBy w1 row) (hr : ∀ g, row = some g → g < w.heap.size → g ∈ l) : Frm l w w1 :=
 h.then_ (l' := row.toList) ⟨hg.os, hg.tape, hg.output, hg.size, fun k hk hn => hg.block k hk (fun e => hn (by simp [← e]))⟩ (by intro k hk hl; exact hr k (by simpa using hk) hl)
end Frm
namespace Cel
variable {w w' : World} {g : Nat} {t : TypeId} {cs : List Value}
theorem lt (h : Cel w g t cs) : g < w.heap.size := (Array.getElem?_eq_some_iff.1 h).1
theorem cell (h : Cel w g t cs) (i : Nat) : w.cell? ⟨g, i, none⟩ = cs[i]? := by
 rw [cell_of_row w g i cs.toArray t (0, 0) h]; simp
theorem free (h : Cel w g t cs) (i : Nat) : w.frozen? ⟨g, i, none⟩ = false := by
 unfold Cel at h
 simp [World.frozen?, h]
theorem new (w : World) (t : TypeId) (cs : List Value) : Cel (w.alloc (.cells cs.toArray t)) w.heap.size t cs := heap_alloc_new w _
theorem drew (h : Cel w g t cs) : Cel w.drew g t cs := h
theorem alloc (h : Cel w g t cs) (o : Obj) : Cel (w.alloc o) g t cs := (Below.heap_alloc w o g h.lt).trans h
theorem set (h : Cel w g t cs) (i : Nat) (u : Value) : Cel (w.setCell ⟨g, i, none⟩ u) g t (cs.set i u) := by
 unfold Cel at h ⊢
 simp [World.setCell, Array.getElem?_modify, h]
theorem far (h : Cel w g t cs) {p : Addr} (hp : g ≠ p.block) (u : Value) : Cel (w.setCell p u) g t cs := (Below.heap_setCell w p u g hp).trans h
theorem below {B : Nat} (h : Cel w g t cs) (hb : Below B w w') (hg : g < B) : Cel w' g t cs := (hb.block g hg).trans h
theorem frm {l : List Nat} (h : Cel w g t cs) (hf : Frm l w w') (hg : g ∉ l) : Cel w' g t cs := (hf.block g h.lt hg).trans h
theorem ne {g' : Nat} {t' : TypeId} {cs' : List Value} (h : Cel w g t cs) (h' : Cel w g' t' cs') (hne : t ≠ t') : g ≠ g' := by
 rintro rfl
 unfold Cel at h h'
 rw [h] at h'
 injection h' with h'
 injection h' with _ ht
 exact hne ht
end Cel
def Bp (w : World) (p : Nat → Prop) (A : Option Addr) (n : Nat) (bs : List (BitVec 8)) : Prop :=
 bs.length = n ∧ (0 < n → ∃ ad, A = some ad ∧ p ad.block ∧ ∀ j, j < n → w.cell? (ad.add j) = some (v8 (bs.getD j 0#8)))
theorem Bs.bp {w : World} {B n : Nat} {A : Option Addr} {bs : List (BitVec 8)} (h : Bs w B A n bs) : Bp w (· < B) A n bs := h
theorem add_add (a : Addr) (i j : Nat) : (a.add i).add j = a.add (i + j) := by
 unfold Addr.add
 by_cases hi : i = 0 <;> by_cases hj : j = 0 <;> simp [hi, hj, Nat.add_assoc]
namespace Bp
variable {w w' : World} {p q : Nat → Prop} {A : Option Addr} {n : Nat} {bs : List (BitVec 8)}
theorem take (h : Bp w p A n bs) {k : Nat} (hk : k ≤ n) : Bp w p A k (bs.take k) := by
 refine ⟨by rw [List.length_take, h.1]; omega, fun hn => ?_⟩
 obtain ⟨ad, rfl, hb, hc⟩ := h.2 (by omega)
 refine ⟨ad, rfl, hb, fun j hj => ?_⟩
 rw [hc j (by omega), List.getD_eq_getElem?_getD, List.getD_eq_getElem?_getD, List.getElem?_take, if_pos hj]
theorem cut (h : Bp w p A n bs) {k cap : Nat} (hk : k ≤ n) (hc : n ≤ cap) : Bp w p (if cap = k then A else A.map (·.add k)) (n - k) (bs.drop k) := by
 refine ⟨by rw [List.length_drop, h.1], fun hn => ?_⟩
 obtain ⟨ad, rfl, hb, hcell⟩ := h.2 (by omega)
 rw [if_neg (by omega)]
 refine ⟨ad.add k, rfl, by rw [add_block]; exact hb, fun j hj => ?_⟩
 rw [add_add, hcell _ (by omega), List.getD_eq_getElem?_getD, List.getD_eq_getElem?_getD, List.getElem?_drop]
end Bp
def str (bs : List (BitVec 8)) : ByteArray := ⟨(bs.map UInt8.ofBitVec).toArray⟩
theorem push_all (ns : List (BitVec 8)) : ∀ s : ByteArray, (ns.map fun b => (b.toNat : Int)).foldl (fun r n => r.push (UInt8.ofNat n.toNat)) s = ⟨(s.data.toList ++ ns.map UInt8.ofBitVec).toArray⟩ := by
 induction ns with
 | nil => intro s; simp
 | cons b ns ih =>
  intro s
  rw [List.map_cons, List.foldl_cons, ih]
  have : UInt8.ofNat ((b.toNat : Int).toNat) = UInt8.ofBitVec b := by
   rw [Int.toNat_natCast]
   apply UInt8.toNat_inj.1
   rw [UInt8.toNat_ofNat', UInt8.toNat_ofBitVec]
   exact Nat.mod_eq_of_lt b.isLt
  rw [this]
  simp [ByteArray.push]
theorem Bp.string {P : Program} {w : World} {p : Nat → Prop} {A : Option Addr} {n : Nat} {bs : List (BitVec 8)} (h : Bp w p A n bs) (c : Nat) {src dst e : TypeId}
  (hs : P.underlying src = some (.slice e)) (he : P.underlying e = some (.int .u8)) (hd : P.underlying dst = some .string) :
  (convert src dst (.slice A n c)).run P w = .ok (.string (str bs)) w := by
 rw [run_convert_bytes_string w src dst e A n c hs he hd]
 rcases A with _ | ad
 ·have hn : n = 0 := by
   rcases Nat.eq_zero_or_pos n with h0 | h0
   ·exact h0
   ·obtain ⟨ad, h', _⟩ := h.2 h0; cases h'
  subst hn
  have hb : bs = [] := List.eq_nil_of_length_eq_zero h.1
  subst hb
  rw [← run_convert_bytes_string w src dst e none 0 c hs he hd, Lib.run_convert_nil_bytes w src dst e c hs he hd]
  rfl
 ·have hl : (loadCells ad n).run P w = .ok ((bs.map fun b => (b.toNat : Int)).map (Value.int .u8)).toArray w := by
   have hx := run_firstCells_some (P := P) w 1 n ad n c (bs.map v8) (by simp [h.1]) (by
    intro j u hu
    have hj : j < bs.length := by
     rcases Nat.lt_or_ge j bs.length with h' | h'
     ·exact h'
     ·rw [List.getElem?_eq_none (by simpa using h')] at hu; cases hu
    obtain ⟨ad', h', _, hc⟩ := h.2 (by rw [← h.1]; omega)
    injection h' with h'
    subst h'
    rw [hc j (by rw [← h.1]; exact hj)]
    rw [List.getElem?_map, List.getElem?_eq_getElem hj] at hu
    rw [List.getD_eq_getElem?_getD, List.getElem?_eq_getElem hj]
    exact hu)
   have e : (bs.map fun b => (b.toNat : Int)).map (Value.int .u8) = bs.map v8 := by rw [List.map_map]; rfl
   rw [e]
   simpa [Builtin.firstCells] using hx
  rw [run_bytesToString w ad n c _ hl, push_all]
  rfl
section
variable {P : Program} (w : World)
theorem run_equalIn_fn_nil (d : Nat) {t : TypeId} {ps rs : Array TypeId} {vr : Bool} (h : P.underlying t = some (.func ps rs vr)) (fn : Fn) (a b : Array Value) : (Op.equalIn (d + 1) t (.func fn a b) .nilFunc).run P w = .ok false w := by
 simp [Op.equalIn, run_underlying h]
theorem run_equalIn_nil_fn (d : Nat) {t : TypeId} {ps rs : Array TypeId} {vr : Bool} (h : P.underlying t = some (.func ps rs vr)) : (Op.equalIn (d + 1) t .nilFunc .nilFunc).run P w = .ok true w := by
 simp [Op.equalIn, run_underlying h]
theorem run_eql_fn_nil {t : TypeId} {ps rs : Array TypeId} {vr : Bool} (h : P.underlying t = some (.func ps rs vr)) (fn : Fn) (a b : Array Value) : (binOp .eql t (.func fn a b) .nilFunc).run P w = .ok (.bool false) w := by
 simp only [binOp]
 simp [Op.equal, Op.maxDepth, run_equalIn_fn_nil w 9999 h fn a b]
theorem run_eql_nil_nil_fn {t : TypeId} {ps rs : Array TypeId} {vr : Bool} (h : P.underlying t = some (.func ps rs vr)) : (binOp .eql t .nilFunc .nilFunc).run P w = .ok (.bool true) w := by
 simp only [binOp]
 simp [Op.equal, Op.maxDepth, run_equalIn_nil_fn w 9999 h]
end
namespace Vp
variable {w w' : World} {p q : Nat → Prop} {A : Option Addr} {n : Nat} {us : List Value}
end Vp
end Go.Proofs.YteohlpmojfjjdaaGreat
end
section
namespace Go.Proofs.YteohlpmojfjjdaaGreat
open Go.RowKit
structure ByteRow (P : Program) (t e : TypeId) : Prop where
 und : P.underlying t = some (.slice e)
 info : ∃ i, P.info? e = some i ∧ i.zero = some (.int .u8 0) ∧ i.size = 1 ∧ i.bytes = 1
theorem ByteRow.mk' {P : Program} {t e : TypeId} (h : P.underlying t = some (.slice e)) (k : (P.info? e).map (fun i => (i.zero, i.size, i.bytes)) = some (some (.int .u8 0), 1, 1)) : ByteRow P t e := by
 refine ⟨h, ?_⟩
 cases hi : P.info? e with
 | none => rw [hi] at k; cases k
 | some i =>
  rw [hi] at k
  simp only [Option.map_some, Option.some.injEq, Prod.mk.injEq] at k
  exact ⟨i, rfl, k.1, k.2.1, k.2.2⟩
section
variable {P : Program} (w : World)
theorem run_append_none (base : Nat) (t ty e : TypeId) (hT : ByteRow P t e) (v : Value) (n : Nat) (us : List Value) (hown : w.ownsRow base e 1 v n us) (c : Nat) :
  (Builtin.append_ #[t, t] ty #[v, .slice none 0 c]).run P w = .ok v w := by
 obtain ⟨ht, i, hi, _, hsz, _⟩ := hT
 rcases hown.2 with ⟨rfl, rfl⟩ | ⟨g, cap, cur, rfl, _, _, hnc, _⟩
 ·simp [Builtin.append_, run_underlying ht, sizeOf, typeInfo, hi, Builtin.lenOf, Builtin.firstCells]
 ·simp [Builtin.append_, run_underlying ht, sizeOf, typeInfo, hi, Builtin.lenOf, Builtin.firstCells, hnc, storeCells]
theorem own_slice {base n : Nat} {e : TypeId} {v : Value} {us : List Value} (h : w.ownsRow base e 1 v n us) : ∃ A c, v = .slice A n c := by
 rcases h.2 with ⟨rfl, rfl⟩ | ⟨g, cap, cur, rfl, _⟩
 ·exact ⟨_, _, rfl⟩
 ·exact ⟨_, _, rfl⟩
theorem run_append_bs (base : Nat) (t ty e : TypeId) (hT : ByteRow P t e) (v : Value) (n : Nat) (bs : List (BitVec 8)) (hown : w.ownsRow base e 1 v n (bs.map v8))
  (B : Nat) (A : Option Addr) (m c : Nat) (cs : List (BitVec 8)) (hr : Bs w B A m cs) (h47 : n + m ≤ 140737488355328) (hbase : base ≤ w.heap.size) :
  ∃ A' c' w', (Builtin.append_ #[t, t] ty #[v, .slice A m c]).run P w = .ok (.slice A' (n + m) c') w' ∧ w'.ownsRow base e 1 (.slice A' (n + m) c') (n + m) ((bs ++ cs).map v8) ∧ w.grownBy w' v.ownBlock ∧
   ((Value.slice A' (n + m) c').ownBlock = v.ownBlock ∨ (Value.slice A' (n + m) c').ownBlock = some w.heap.size) := by
 obtain ⟨ht, i, hi, hz, hsz, hby⟩ := id hT
 rcases A with _ | ad
 ·have hm : m = 0 := by
   rcases Nat.eq_zero_or_pos m with h0 | h0
   ·exact h0
   ·obtain ⟨ad, h, _⟩ := hr.2 h0
    cases h
  subst hm
  have hn : cs = [] := List.eq_nil_of_length_eq_zero hr.1
  subst hn
  obtain ⟨A', c', rfl⟩ := own_slice w hown
  exact ⟨A', c', w, run_append_none w base t ty e hT _ n _ hown c, by simpa using hown, World.grownBy.refl w _, .inl rfl⟩
 ·have hcells : ∀ j u, (cs.map v8)[j]? = some u → w.cell? (ad.add j) = some u := by
   intro j u hu
   have hj : j < cs.length := by
    rcases Nat.lt_or_ge j cs.length with h | h
    ·exact h
    ·rw [List.getElem?_eq_none (by simpa using h)] at hu; cases hu
   obtain ⟨ad', h, _, hc⟩ := hr.2 (by rw [← hr.1]; omega)
   injection h with h
   subst h
   rw [hc j (by rw [← hr.1]; exact hj)]
   rw [List.getElem?_map, List.getElem?_eq_getElem hj] at hu
   rw [List.getD_eq_getElem?_getD, List.getElem?_eq_getElem hj]
   exact hu
  obtain ⟨v', w', hrun, h2, h3, _, h5⟩ := run_append_own_at (P := P) w base t ty e i (.int .u8 0) 1 1 ht hi hz hsz hby rfl (by decide) v n (bs.map v8) hown ad m c (cs.map v8) (by simp [hr.1]) hcells
   (by intro u hu; obtain ⟨x, _, rfl⟩ := List.mem_map.1 hu; rfl) (by unfold maxLen; omega) (by omega) hbase
  obtain ⟨A', c', rfl⟩ := own_slice w' h2
  exact ⟨A', c', w', hrun, by rw [List.map_append]; exact h2, h3, h5⟩
theorem wp_append_bs {o : Oper} {a : Act} {K : Act → World → Prop} {Q : Exit → Act → World → Prop} (s x : Operand) (t : TypeId)
  (ho : o.op = .call { callee := .builtin .append, args := #[s, x], argTypes := #[t, t] }) (base : Nat) (e : TypeId) (hT : ByteRow P t e)
  (v : Value) (n : Nat) (bs : List (BitVec 8)) (hs : a.eval s = v) (hown : w.ownsRow base e 1 v n (bs.map v8))
  (B : Nat) (A : Option Addr) (m c : Nat) (cs : List (BitVec 8)) (hx : a.eval x = .slice A m c) (hr : Bs w B A m cs) (h47 : n + m ≤ 140737488355328) (hbase : base ≤ w.heap.size)
  (h : ∀ A' c' w', w'.ownsRow base e 1 (.slice A' (n + m) c') (n + m) ((bs ++ cs).map v8) → w.grownBy w' v.ownBlock → ((Value.slice A' (n + m) c').ownBlock = v.ownBlock ∨ (Value.slice A' (n + m) c').ownBlock = some w.heap.size) → K (a.put o.dst (.slice A' (n + m) c')) w') : o.wp P a w K Q := by
 obtain ⟨A', c', w', hrun, h2, h3, h4⟩ := run_append_bs (P := P) w base t o.type e hT v n bs hown B A m c cs hr h47 hbase
 unfold Oper.wp execOp
 simp only [ho, resolve, invoke, builtin, Sem.run_bind, Sem.run_pure, Result.andThen_ok, List.map_toArray, List.map_cons, List.map_nil, hs, hx, hrun]
 exact h A' c' w' h2 h3 h4
theorem wpList_append_bs {ops : Array Oper} {rest : List Oper} {o : Oper} {a : Act} {Q : Exit → Act → World → Prop} (hgd : o.guard = none) (s x : Operand) (t : TypeId)
  (ho : o.op = .call { callee := .builtin .append, args := #[s, x], argTypes := #[t, t] }) (base : Nat) (e : TypeId) (hT : ByteRow P t e)
  (v : Value) (n : Nat) (bs : List (BitVec 8)) (hs : a.eval s = v) (hown : w.ownsRow base e 1 v n (bs.map v8))
  (B : Nat) (A : Option Addr) (m c : Nat) (cs : List (BitVec 8)) (hx : a.eval x = .slice A m c) (hr : Bs w B A m cs) (n' : Nat) (bs' : List (BitVec 8)) (hn' : n + m = n') (hbs' : bs ++ cs = bs') (h47 : n' ≤ 140737488355328) (hbase : base ≤ w.heap.size)
  (h : ∀ A' c' w', w'.ownsRow base e 1 (.slice A' n' c') n' (bs'.map v8) → w.grownBy w' v.ownBlock → ((Value.slice A' n' c').ownBlock = v.ownBlock ∨ (Value.slice A' n' c').ownBlock = some w.heap.size) → wpList P ops Q rest (a.put o.dst (.slice A' n' c')) w') : wpList P ops Q (o :: rest) a w := by
 subst hn' hbs'
 exact wpList_plain hgd fun _ hK => wp_append_bs w s x t ho base e hT v n bs hs hown B A m c cs hx hr h47 hbase fun A' c' w' h2 h3 h4 => hK _ _ (h A' c' w' h2 h3 h4)
theorem wpList_append_new {ops : Array Oper} {rest : List Oper} {o : Oper} {a : Act} {Q : Exit → Act → World → Prop} (hgd : o.guard = none) (s x : Operand) (t : TypeId)
  (ho : o.op = .call { callee := .builtin .append, args := #[s, x], argTypes := #[t, t] }) (e : TypeId) (hT : ByteRow P t e)
  (hs : a.eval s = .slice (some ⟨w.heap.size, 0, none⟩) 0 0) (B : Nat) (A : Option Addr) (m c : Nat) (cs : List (BitVec 8)) (hx : a.eval x = .slice A m c) (hr : Bs w B A m cs) (hB : B ≤ w.heap.size) (h47 : m ≤ 140737488355328)
  (h : ∀ A' c' w', w'.ownsRow w.heap.size e 1 (.slice A' m c') m (cs.map v8) → Below w.heap.size w w' → wpList P ops Q rest (a.put o.dst (.slice A' m c')) w') : wpList P ops Q (o :: rest) a (w.alloc (.cells #[] e)) := by
 have o0 : (w.alloc (.cells #[] e)).ownsRow w.heap.size e 1 (.slice (some ⟨w.heap.size, 0, none⟩) 0 0) 0 (([] : List (BitVec 8)).map v8) :=
  World.ownsRow_lit w #[] 0 (Nat.le_refl _) (Nat.zero_le _) rfl
 refine wpList_append_bs _ hgd s x t ho w.heap.size e hT _ 0 [] hs o0 B A m c cs hx (hr.alloc hB _) m cs (Nat.zero_add _) (List.nil_append _) h47 (by simp) fun A' c' w' h1 h2 _ => h A' c' w' h1 ?_
 exact Below.grown ((Below.refl _ _).alloc (Nat.le_refl _) _) h2 (by simp) (by intro g hg; simp [Value.ownBlock] at hg; omega)
end
end Go.Proofs.YteohlpmojfjjdaaGreat
end
section
namespace Go.Proofs.YteohlpmojfjjdaaGreat
open Go.RowKit
def By (w : World) (A : Option Addr) (n : Nat) (bs : List (BitVec 8)) : Prop :=
 bs.length = n ∧ (0 < n → ∃ ad, A = some ad ∧ (∃ cs fz, w.heap[ad.block]? = some (.cells cs 5 fz)) ∧ ∀ j, j < n → w.cell? (ad.add j) = some (v8 (bs.getD j 0#8)))
namespace By
variable {w w' : World} {A : Option Addr} {n : Nat} {bs : List (BitVec 8)}
theorem keep (h : By w A n bs) (hk : ∀ (k : Nat) cs fz, w.heap[k]? = some (Obj.cells cs 5 fz) → w'.heap[k]? = w.heap[k]?) : By w' A n bs :=
 ⟨h.1, fun hn => by
  obtain ⟨ad, e, ⟨cs, fz, hb⟩, hc⟩ := h.2 hn
  have h1 := hk _ _ _ hb
  exact ⟨ad, e, ⟨cs, fz, h1.trans hb⟩, fun j hj => (World.cell?_of_block (by rw [add_block]; exact h1)).trans (hc j hj)⟩⟩
theorem rd (h : By w A n bs) : Bs w w.heap.size A n bs :=
 ⟨h.1, fun hn => by
  obtain ⟨ad, e, ⟨cs, fz, hb⟩, hc⟩ := h.2 hn
  exact ⟨ad, e, (Array.getElem?_eq_some_iff.1 hb).1, hc⟩⟩
theorem below (h : By w A n bs) (hb : Below w.heap.size w w') : By w' A n bs := h.keep fun k _ _ hk => hb.block k (Array.getElem?_eq_some_iff.1 hk).1
theorem of_own {base c : Nat} (h : w.ownsRow base 5 1 (.slice A n c) n (bs.map v8)) : By w A n bs := by
 have hl : bs.length = n := by simpa using h.1
 refine ⟨hl, fun hn => ?_⟩
 rcases h.2 with ⟨hv, h0⟩ | ⟨g, cap, cur, hv, hb, hg, _⟩
 ·omega
 ·have hA : A = some ⟨g, 0, none⟩ := by injection hv
  subst hA
  refine ⟨_, rfl, ⟨_, _, hg⟩, fun j hj => h.cells (g := g) rfl j _ ?_⟩
  rw [List.getElem?_map, List.getElem?_eq_getElem (by omega), List.getD_eq_getElem?_getD, List.getElem?_eq_getElem (by omega)]
  rfl
end By
theorem not_bytes {w : World} {base e size n : Nat} {v : Value} {xs : List Value} (h : w.ownsRow base e size v n xs) (he : e ≠ 5) : ∀ (g : Nat) cs fz, v.ownBlock = some g → w.heap[g]? ≠ some (Obj.cells cs 5 fz) := by
 intro g cs fz hv hg
 rcases h.2 with ⟨rfl, _⟩ | ⟨g', cap, cur, rfl, _, hg', _⟩
 ·simp [Value.ownBlock] at hv
 ·obtain rfl : g' = g := by simpa [Value.ownBlock] using hv
  rw [hg] at hg'
  simp at hg'
  exact he hg'.2.1.symm
end Go.Proofs.YteohlpmojfjjdaaGreat
end
section
namespace Go.Proofs.YteohlpmojfjjdaaGreat.Reg
open Go.RowKit
def Pc (w : World) (b : Nat) (sv : Value) (k : Nat) (ov : Value) (hb hp : Bool) (iv : Value) : Prop := Cel w b 195 [sv, .int .i64 (k : Int), ov, .bool hb, .bool hp, iv]
structure Dr (w w' : World) : Prop where
 os : w'.os = w.os
 tape : w'.tape = w.tape
 output : w'.output = w.output
 heap : w'.heap = w.heap
theorem Dr.below {w w' : World} (h : Dr w w') (B : Nat) : Below B w w' := ⟨h.os, h.tape, h.output, by rw [h.heap]; exact Nat.le_refl _, fun _ _ => by rw [h.heap]⟩
theorem Dr.cel {w w' : World} (h : Dr w w') {g : Nat} {t : TypeId} {cs : List Value} (hc : Cel w g t cs) : Cel w' g t cs := by
 unfold Cel at hc ⊢
 rw [h.heap]; exact hc
theorem Dr.frm {w w' : World} (h : Dr w w') (l : List Nat) : Frm l w w' := ⟨h.os, h.tape, h.output, by rw [h.heap]; exact Nat.le_refl _, fun _ _ _ => by rw [h.heap]⟩
theorem peek_no (w : World) (b : Nat) (A : Option Addr) (n c : Nat) (ov : Value) (hb hp : Bool) (iv : Value) (h : Pc w b (.slice A n c) n ov hb hp iv) :
  Calls Tryz.prog 154 #[.pointer (some ⟨b, 0, none⟩)] w fun e w' => e = .returned (.tuple #[.int .u8 0, .bool false]) ∧ Dr w w' := by
 have h0 := Cel.cell h 0
 have h1 := Cel.cell h 1
 clear h
 go_enter Tryz.func154, Tryz.ntmps154
 go_wp2_with fail
 go_quiet (fail)
 go_wp2_with fail
 go_ret2
 exact ⟨rfl, rfl, rfl, rfl, rfl⟩
theorem peek_ok (w : World) (B b : Nat) (A : Option Addr) (n c k : Nat) (s : List (BitVec 8)) (ov : Value) (hb hp : Bool) (iv : Value) (h : Pc w b (.slice A n c) k ov hb hp iv) (hs : Bs w B A n s) (hk : k < n) :
  Calls Tryz.prog 154 #[.pointer (some ⟨b, 0, none⟩)] w fun e w' => e = .returned (.tuple #[v8 (s.getD k 0#8), .bool true]) ∧ Dr w w' := by
 have h0 := Cel.cell h 0
 have h1 := Cel.cell h 1
 obtain ⟨ad, rfl, _, hc⟩ := hs.at_ hk
 have d1 : ((k : Int) == (n : Int)) = false := by simp; omega
 clear h hs
 generalize s.getD k 0#8 = x at *
 go_enter Tryz.func154, Tryz.ntmps154
 go_wp2_with fail
 go_quiet (fail)
 go_wp2_with fail
 go_quiet (fail)
 go_wp2_with fail
 go_ret2
 exact ⟨rfl, rfl, rfl, rfl, rfl⟩
def PkSays (s : List (BitVec 8)) (k : Nat) : Value := match s[k]? with
 | none => .tuple #[.int .u8 0, .bool false]
 | some x => .tuple #[v8 x, .bool true]
theorem peek_call (w : World) (B b : Nat) (A : Option Addr) (n c k : Nat) (s : List (BitVec 8)) (ov : Value) (hb hp : Bool) (iv : Value) (h : Pc w b (.slice A n c) k ov hb hp iv) (hs : Bs w B A n s) (hk : k ≤ n) :
  Calls Tryz.prog 154 #[.pointer (some ⟨b, 0, none⟩)] w fun e w' => e = .returned (PkSays s k) ∧ Dr w w' := by
 unfold PkSays
 have hl := hs.len
 rcases Nat.lt_or_ge k n with hlt | hge
 ·have e : s[k]? = some (s.getD k 0#8) := by
   rw [List.getD_eq_getElem?_getD, List.getElem?_eq_getElem (by omega)]; rfl
  rw [e]
  exact peek_ok w B b A n c k s ov hb hp iv h hs hlt
 ·obtain rfl : k = n := by omega
  rw [List.getElem?_eq_none (by omega)]
  exact peek_no w b A k c ov hb hp iv h
structure At (w w' : World) (b : Nat) (sv : Value) (k : Nat) (ov : Value) (hb hp : Bool) (iv : Value) : Prop where
 pc : Pc w' b sv k ov hb hp iv
 frm : Frm [b] w w'
theorem Pc.lt {w : World} {b k : Nat} {sv ov iv : Value} {hb hp : Bool} (h : Pc w b sv k ov hb hp iv) : b < w.heap.size := Cel.lt h
theorem At.bs {w w' : World} {b k : Nat} {sv ov iv : Value} {hb hp : Bool} (h : At w w' b sv k ov hb hp iv) {A : Option Addr} {B n : Nat} {s : List (BitVec 8)} (hs : Bs w B A n s) (hB : B ≤ b) (hw : b < w.heap.size) : Bs w' B A n s :=
 hs.below (h.frm.below (by omega) (by simp; omega))
theorem At.refl {w : World} {b k : Nat} {sv ov iv : Value} {hb hp : Bool} (h : Pc w b sv k ov hb hp iv) : At w w b sv k ov hb hp iv := ⟨h, Frm.refl _ _⟩
theorem At.trans {w w1 w2 : World} {b k k' : Nat} {sv ov iv : Value} {hb hp : Bool} (h : At w w1 b sv k ov hb hp iv) (h2 : At w1 w2 b sv k' ov hb hp iv) : At w w2 b sv k' ov hb hp iv := ⟨h2.pc, h.frm.trans h2.frm⟩
theorem At.of_dr {w w' : World} {b k : Nat} {sv ov iv : Value} {hb hp : Bool} (h : Pc w b sv k ov hb hp iv) (hd : Dr w w') : At w w' b sv k ov hb hp iv := ⟨hd.cel h, hd.frm _⟩
theorem At.dr {w w1 w2 : World} {b k : Nat} {sv ov iv : Value} {hb hp : Bool} (h : At w w1 b sv k ov hb hp iv) (hd : Dr w1 w2) : At w w2 b sv k ov hb hp iv := h.trans (At.of_dr h.pc hd)
theorem Pc.next {w : World} {b k : Nat} {sv ov iv : Value} {hb hp : Bool} (h : Pc w b sv k ov hb hp iv) : At w (w.setCell ⟨b, 1, none⟩ (.int .i64 ((k : Int) + 1))) b sv (k + 1) ov hb hp iv :=
 ⟨by
  have := Cel.set h 1 (.int .i64 ((k : Int) + 1))
  unfold Pc
  rw [show ((k + 1 : Nat) : Int) = (k : Int) + 1 by omega]
  exact this, (Frm.refl _ _).set (by simp) _⟩
theorem At.below {w w1 w2 : World} {b k : Nat} {sv ov iv : Value} {hb hp : Bool} (h : At w w1 b sv k ov hb hp iv) (hb2 : Below w1.heap.size w1 w2) : At w w2 b sv k ov hb hp iv :=
 ⟨Cel.below h.pc hb2 (Cel.lt h.pc), h.frm.trans (Frm.of_below hb2)⟩
theorem skip_yes (w : World) (B b : Nat) (A : Option Addr) (n c k : Nat) (s : List (BitVec 8)) (x : BitVec 8) (ov : Value) (hb hp : Bool) (iv : Value) (h : Pc w b (.slice A n c) k ov hb hp iv) (hs : Bs w B A n s) (hn : n ≤ 100000) (hx : s[k]? = some x) :
  Calls Tryz.prog 193 #[.pointer (some ⟨b, 0, none⟩), v8 x] w fun e w' => e = .returned (.bool true) ∧ At w w' b (.slice A n c) (k + 1) ov hb hp iv := by
 have hk := get_lt hx
 rw [hs.len] at hk
 have con := peek_call w B b A n c k s ov hb hp iv h hs (by omega)
 unfold PkSays at con
 rw [hx] at con
 dsimp only at con
 have H := Lib.hid h
 clear h hs hx
 go_enter Tryz.func193, Tryz.ntmps193
 go_wp2_with fail
 refine con.mono ?_
 rintro e w' ⟨rfl, hd⟩
 have h1 := Cel.cell (hd.cel H.out) 1
 have f1 := Cel.free (hd.cel H.out) 1
 have HD := Lib.hid hd
 clear hd
 go_wp2_with fail
 go_ret
 exact ⟨rfl, (At.of_dr H.out HD.out).trans (Pc.next (At.of_dr H.out HD.out).pc)⟩
theorem skip_no (w : World) (B b : Nat) (A : Option Addr) (n c k : Nat) (s : List (BitVec 8)) (x : BitVec 8) (ov : Value) (hb hp : Bool) (iv : Value) (h : Pc w b (.slice A n c) k ov hb hp iv) (hs : Bs w B A n s) (hk : k ≤ n) (hx : s[k]? ≠ some x) :
  Calls Tryz.prog 193 #[.pointer (some ⟨b, 0, none⟩), v8 x] w fun e w' => e = .returned (.bool false) ∧ Dr w w' := by
 have con := peek_call w B b A n c k s ov hb hp iv h hs hk
 unfold PkSays at con
 clear h hs
 rcases hy : s[k]? with _ | y <;> rw [hy] at con hx <;> dsimp only at con
 ·clear hx hy
  go_enter Tryz.func193, Tryz.ntmps193
  go_wp2_with fail
  refine con.mono ?_
  rintro e w' ⟨rfl, hd⟩
  have HD := Lib.hid hd
  clear hd
  go_wp2_with fail
  go_ret
  exact ⟨rfl, HD.out⟩
 ·have d1 : ((y.toNat : Int) == (x.toNat : Int)) = false := by
   rw [beq_eq_false_iff_ne]
   intro e
   exact hx (by congr 1; apply BitVec.eq_of_toNat_eq; omega)
  clear hx hy
  go_enter Tryz.func193, Tryz.ntmps193
  go_wp2_with fail
  refine con.mono ?_
  rintro e w' ⟨rfl, hd⟩
  have HD := Lib.hid hd
  clear hd
  go_wp2_with fail
  go_ret
  exact ⟨rfl, HD.out⟩
theorem skip_call (w : World) (B b : Nat) (A : Option Addr) (n c k : Nat) (s : List (BitVec 8)) (x : BitVec 8) (ov : Value) (hb hp : Bool) (iv : Value) (h : Pc w b (.slice A n c) k ov hb hp iv) (hs : Bs w B A n s) (hk : k ≤ n) (hn : n ≤ 100000) :
  Calls Tryz.prog 193 #[.pointer (some ⟨b, 0, none⟩), v8 x] w fun e w' => e = .returned (.bool (decide (s[k]? = some x))) ∧ At w w' b (.slice A n c) (if s[k]? = some x then k + 1 else k) ov hb hp iv := by
 by_cases hx : s[k]? = some x
 ·rw [if_pos hx, decide_eq_true hx]
  exact skip_yes w B b A n c k s x ov hb hp iv h hs hn hx
 ·rw [if_neg hx, decide_eq_false hx]
  exact (skip_no w B b A n c k s x ov hb hp iv h hs hk hx).mono fun e w' q => ⟨q.1, At.of_dr h q.2⟩
theorem named_call (w : World) (x : BitVec 8) :
  Calls Tryz.prog 201 #[v8 x] w fun e w' => e = .returned (.bool (named x)) ∧ w = w' := by
 unfold named
 by_cases h1 : 48 ≤ x.toNat
 all_goals by_cases h2 : x.toNat ≤ 57
 all_goals by_cases h3 : 65 ≤ x.toNat
 all_goals by_cases h4 : x.toNat ≤ 90
 all_goals by_cases h5 : 97 ≤ x.toNat
 all_goals by_cases h6 : x.toNat ≤ 122
 all_goals first | (exfalso; omega) | skip
 all_goals
  go_enter Tryz.func201, Tryz.ntmps201
  go_wp2_with fail
  go_ret
  simp [*] <;> omega
theorem v8_lit {x : BitVec 8} {k : Nat} (hk : k < 256) : ((x.toNat : Int) == (k : Int)) = decide (x = BitVec.ofNat 8 k) := by
 rw [Bool.eq_iff_iff]
 simp only [beq_iff_eq, decide_eq_true_eq]
 constructor
 ·intro h
  apply BitVec.eq_of_toNat_eq
  rw [BitVec.toNat_ofNat, Nat.mod_eq_of_lt (by omega)]
  omega
 ·rintro rfl
  rw [BitVec.toNat_ofNat, Nat.mod_eq_of_lt (by omega)]
theorem escapedByte_call (w : World) (x : BitVec 8) :
  Calls Tryz.prog 198 #[v8 x] w fun e w' => e = .returned (match escB x with | none => .tuple #[.int .u8 0, .bool false] | some y => .tuple #[v8 y, .bool true]) ∧ w = w' := by
 unfold escB
 have e1 : ((x.toNat : Int) == 110) = decide (x = 110#8) := v8_lit (by decide)
 have e2 : ((x.toNat : Int) == 116) = decide (x = 116#8) := v8_lit (by decide)
 have e3 : ((x.toNat : Int) == 114) = decide (x = 114#8) := v8_lit (by decide)
 by_cases h1 : x = 110#8
 ·subst h1
  go_enter Tryz.func198, Tryz.ntmps198
  go_wp2_with fail
  go_ret2
  exact ⟨rfl, rfl⟩
 by_cases h2 : x = 116#8
 ·subst h2
  go_enter Tryz.func198, Tryz.ntmps198
  go_wp2_with fail
  go_ret2
  exact ⟨rfl, rfl⟩
 by_cases h3 : x = 114#8
 ·subst h3
  go_enter Tryz.func198, Tryz.ntmps198
  go_wp2_with fail
  go_ret2
  exact ⟨rfl, rfl⟩
 rw [decide_eq_false h1] at e1
 rw [decide_eq_false h2] at e2
 rw [decide_eq_false h3] at e3
 rw [if_neg h1, if_neg h2, if_neg h3]
 have con := named_call w x
 clear h1 h2 h3
 cases hn : named x <;> rw [hn] at con <;> clear hn
 ·go_enter Tryz.func198, Tryz.ntmps198
  go_wp2_with fail
  refine con.mono ?_
  rintro e w' ⟨rfl, rfl⟩
  go_wp2_with fail
  go_ret2
  exact ⟨rfl, rfl⟩
 ·go_enter Tryz.func198, Tryz.ntmps198
  go_wp2_with fail
  refine con.mono ?_
  rintro e w' ⟨rfl, rfl⟩
  go_wp2_with fail
  go_ret2
  exact ⟨rfl, rfl⟩
def alone (x : BitVec 8) : Bool := decide (x ≠ 93#8 ∧ x ≠ 92#8 ∧ x ≠ 45#8 ∧ x ≠ 94#8)
theorem alone_call (w : World) (x : BitVec 8) :
  Calls Tryz.prog 200 #[v8 x] w fun e w' => e = .returned (.bool (alone x)) ∧ w = w' := by
 have e1 : ((x.toNat : Int) == 93) = decide (x = 93#8) := v8_lit (by decide)
 have e2 : ((x.toNat : Int) == 92) = decide (x = 92#8) := v8_lit (by decide)
 have e3 : ((x.toNat : Int) == 45) = decide (x = 45#8) := v8_lit (by decide)
 have e4 : ((x.toNat : Int) == 94) = decide (x = 94#8) := v8_lit (by decide)
 by_cases h1 : x = 93#8
 ·subst h1
  go_enter Tryz.func200, Tryz.ntmps200
  go_wp2_with fail
  go_ret
  exact ⟨rfl, rfl⟩
 by_cases h2 : x = 92#8
 ·subst h2
  go_enter Tryz.func200, Tryz.ntmps200
  go_wp2_with fail
  go_ret
  exact ⟨rfl, rfl⟩
 by_cases h3 : x = 45#8
 ·subst h3
  go_enter Tryz.func200, Tryz.ntmps200
  go_wp2_with fail
  go_ret
  exact ⟨rfl, rfl⟩
 by_cases h4 : x = 94#8
 ·subst h4
  go_enter Tryz.func200, Tryz.ntmps200
  go_wp2_with fail
  go_ret
  exact ⟨rfl, rfl⟩
 have e5 : alone x = true := decide_eq_true ⟨h1, h2, h3, h4⟩
 rw [e5]
 rw [decide_eq_false h1] at e1
 rw [decide_eq_false h2] at e2
 rw [decide_eq_false h3] at e3
 rw [decide_eq_false h4] at e4
 clear h1 h2 h3 h4 e5
 go_enter Tryz.func200, Tryz.ntmps200
 go_wp2_with fail
 go_ret
 exact ⟨rfl, rfl⟩
def SbSays (x : Except Nat (BitVec 8 × Nat)) : Value × Nat := match x with
 | .error e => (.tuple #[.int .u8 0, .bool false], e)
 | .ok (y, j) => (.tuple #[v8 y, .bool true], j)
theorem setByte_e1 {s : List (BitVec 8)} {k : Nat} {least : BitVec 8} (h : s[k]? = some 92#8) (h1 : s[k + 1]? = none) : setByte s k least = .error (k + 1) := by simp [setByte, h, h1]
theorem setByte_e2 {s : List (BitVec 8)} {k : Nat} {least y : BitVec 8} (h : s[k]? = some 92#8) (h1 : s[k + 1]? = some y) (h2 : escB y = none) : setByte s k least = .error (k + 1) := by simp [setByte, h, h1, h2]
theorem setByte_e3 {s : List (BitVec 8)} {k : Nat} {least y z : BitVec 8} (h : s[k]? = some 92#8) (h1 : s[k + 1]? = some y) (h2 : escB y = some z) (h3 : z.toNat < least.toNat) : setByte s k least = .error (k + 1) := by simp [setByte, h, h1, h2, h3]
theorem setByte_o3 {s : List (BitVec 8)} {k : Nat} {least y z : BitVec 8} (h : s[k]? = some 92#8) (h1 : s[k + 1]? = some y) (h2 : escB y = some z) (h3 : ¬ z.toNat < least.toNat) : setByte s k least = .ok (z, k + 2) := by
 unfold setByte; rw [if_pos h, h1]; dsimp only; rw [h2]; dsimp only; rw [if_neg h3]
theorem setByte_e4 {s : List (BitVec 8)} {k : Nat} {least : BitVec 8} (h : s[k]? = none) : setByte s k least = .error k := by simp [setByte, h]
theorem setByte_e5 {s : List (BitVec 8)} {k : Nat} {least y : BitVec 8} (h : s[k]? = some y) (h92 : y ≠ 92#8) (h3 : y = 93#8 ∨ y = 45#8 ∨ y = 94#8 ∨ y.toNat < least.toNat) : setByte s k least = .error k := by
 unfold setByte; rw [if_neg (by rw [h]; simpa using h92), h]; dsimp only; rw [if_pos h3]
theorem setByte_o5 {s : List (BitVec 8)} {k : Nat} {least y : BitVec 8} (h : s[k]? = some y) (h92 : y ≠ 92#8) (h3 : ¬ (y = 93#8 ∨ y = 45#8 ∨ y = 94#8 ∨ y.toNat < least.toNat)) : setByte s k least = .ok (y, k + 1) := by
 unfold setByte; rw [if_neg (by rw [h]; simpa using h92), h]; dsimp only; rw [if_neg h3]
theorem setByte_call (w : World) (B b : Nat) (A : Option Addr) (n c k : Nat) (s : List (BitVec 8)) (least : BitVec 8) (ov : Value) (hb hp : Bool) (iv : Value) (h : Pc w b (.slice A n c) k ov hb hp iv) (hs : Bs w B A n s) (hB : B ≤ b) (hk : k ≤ n) (hn : n ≤ 100000) :
  Calls Tryz.prog 197 #[.pointer (some ⟨b, 0, none⟩), v8 least] w fun e w' => e = .returned (SbSays (setByte s k least)).1 ∧ At w w' b (.slice A n c) (SbSays (setByte s k least)).2 ov hb hp iv := by
 have hl := hs.len
 have con := skip_call w B b A n c k s 92#8 ov hb hp iv h hs hk hn
 replace con : Calls Tryz.prog 193 #[.pointer (some ⟨b, 0, none⟩), .int .u8 92] w fun e w' => e = .returned (.bool (decide (s[k]? = some 92#8))) ∧ At w w' b (.slice A n c) (if s[k]? = some 92#8 then k + 1 else k) ov hb hp iv := con
 have hbw := h.lt
 have HS := Lib.hid hs
 clear h hs
 generalize hr : setByte s k least = r
 by_cases h92 : s[k]? = some 92#8
 ·rw [if_pos h92, decide_eq_true h92] at con
  have hk1 : k + 1 ≤ n := by have := get_lt h92; omega
  have H92 := Lib.hid h92
  clear h92
  go_enter Tryz.func197, Tryz.ntmps197
  go_wp2_with fail
  refine con.mono ?_
  rintro e w1 ⟨rfl, hw1⟩
  have HW1 := Lib.hid hw1
  go_wp2_with fail
  refine (peek_call w1 B b A n c (k + 1) s ov hb hp iv hw1.pc (hw1.bs HS.out hB hbw) hk1).mono ?_
  clear hw1
  rintro e w2 ⟨rfl, hd⟩
  have HD := Lib.hid (HW1.out.dr hd)
  clear hd
  unfold PkSays
  rcases hy : s[k + 1]? with _ | y <;> dsimp only
  ·have HR := Lib.hid (setByte_e1 (least := least) H92.out hy)
   clear hy
   go_wp2_with fail
   go_ret2
   rw [← hr, HR.out]
   exact ⟨rfl, HD.out⟩
  ·have HY := Lib.hid hy
   clear hy
   go_wp2_with fail
   refine (escapedByte_call _ y).mono ?_
   rintro e w3 ⟨rfl, rfl⟩
   rcases hz : escB y with _ | z <;> dsimp only
   ·have HR := Lib.hid (setByte_e2 (least := least) H92.out HY.out hz)
    clear hz
    go_wp2_with fail
    go_ret2
    rw [← hr, HR.out]
    exact ⟨rfl, HD.out⟩
   ·have HZ := Lib.hid hz
    clear hz
    by_cases hlt : z.toNat < least.toNat
    ·have HR := Lib.hid (setByte_e3 (least := least) H92.out HY.out HZ.out hlt)
     have d1 : decide (z.toNat < least.toNat) = true := decide_eq_true hlt
     clear hlt
     go_wp2_with fail
     go_ret2
     rw [← hr, HR.out]
     exact ⟨rfl, HD.out⟩
    ·have HR := Lib.hid (setByte_o3 (least := least) H92.out HY.out HZ.out hlt)
     have d1 : decide (z.toNat < least.toNat) = false := decide_eq_false hlt
     clear hlt
     have h1 := Cel.cell HD.out.pc 1
     have f1 := Cel.free HD.out.pc 1
     go_wp2_with fail
     go_ret2
     rw [← hr, HR.out]
     exact ⟨rfl, HD.out.trans (Pc.next HD.out.pc)⟩
 ·rw [if_neg h92, decide_eq_false h92] at con
  have H92 := Lib.hid h92
  clear h92
  go_enter Tryz.func197, Tryz.ntmps197
  go_wp2_with fail
  refine con.mono ?_
  rintro e w1 ⟨rfl, hw1⟩
  have HW1 := Lib.hid hw1
  go_wp2_with fail
  refine (peek_call w1 B b A n c k s ov hb hp iv hw1.pc (hw1.bs HS.out hB hbw) hk).mono ?_
  clear hw1
  rintro e w2 ⟨rfl, hd⟩
  have HD := Lib.hid (HW1.out.dr hd)
  clear hd
  unfold PkSays
  rcases hy : s[k]? with _ | y <;> dsimp only
  ·have HR := Lib.hid (setByte_e4 (least := least) hy)
   clear hy
   go_wp2_with fail
   go_ret2
   rw [← hr, HR.out]
   exact ⟨rfl, HD.out⟩
  ·have HY := Lib.hid hy
   have h9 := Lib.hid (show y ≠ 92#8 from fun e => H92.out (by rw [hy, e]))
   clear hy
   go_wp2_with fail
   refine (alone_call _ y).mono ?_
   rintro e w3 ⟨rfl, rfl⟩
   rcases ha : alone y with _ | _
   ·have HR := Lib.hid (setByte_e5 (least := least) HY.out h9.out (by
     by_cases q1 : y = 93#8
     ·exact .inl q1
     by_cases q2 : y = 45#8
     ·exact .inr (.inl q2)
     by_cases q3 : y = 94#8
     ·exact .inr (.inr (.inl q3))
     ·have q : alone y = true := decide_eq_true ⟨q1, h9.out, q2, q3⟩
      rw [ha] at q; cases q))
    clear ha
    go_wp2_with fail
    go_ret2
    rw [← hr, HR.out]
    exact ⟨rfl, HD.out⟩
   ·have HA := Lib.hid (of_decide_eq_true (show decide (y ≠ 93#8 ∧ y ≠ 92#8 ∧ y ≠ 45#8 ∧ y ≠ 94#8) = true from ha))
    clear ha
    by_cases hlt : y.toNat < least.toNat
    ·have HR := Lib.hid (setByte_e5 (least := least) HY.out h9.out (.inr (.inr (.inr hlt))))
     have d1 : decide (y.toNat < least.toNat) = true := decide_eq_true hlt
     clear hlt
     go_wp2_with fail
     go_ret2
     rw [← hr, HR.out]
     exact ⟨rfl, HD.out⟩
    ·have HR := Lib.hid (setByte_o5 (least := least) HY.out h9.out (by
      rintro (q | q | q | q)
      ·exact HA.out.1 q
      ·exact HA.out.2.2.1 q
      ·exact HA.out.2.2.2 q
      ·exact hlt q))
     have d1 : decide (y.toNat < least.toNat) = false := decide_eq_false hlt
     clear hlt
     have h1 := Cel.cell HD.out.pc 1
     have f1 := Cel.free HD.out.pc 1
     go_wp2_with fail
     go_ret2
     rw [← hr, HR.out]
     exact ⟨rfl, HD.out.trans (Pc.next HD.out.pc)⟩
end Go.Proofs.YteohlpmojfjjdaaGreat.Reg
end
