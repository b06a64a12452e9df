/-
Texts: Append By RegRead AppendAny RowTy
-/
import Derived.Test.YteohlpmojfjjdaaGreatR0
import Derived.Test.YteohlpmojfjjdaaGreatR1
import Derived.Maps.AppendAt
import Derived.RegionTactic
import Derived.OwnWalk
import Derived.WalkKit
import Derived.ProofKit
import Derived.WalkSpells
import Derived.Laws.EntriesVeiled
import Derived.Below
import Derived.Outline
import Derived.Laws.BitsAllLaws
import Derived.Lib.Hide
import Derived.Deep.QuietTactic
import Derived.BigQuiet
import Derived.Test.YteohlpmojfjjdaaGreatRows
set_option linter.unusedVariables false
set_option linter.unusedSimpArgs false
set_option maxRecDepth 100000
set_option maxHeartbeats 4000000
section
namespace Go.Proofs.YteohlpmojfjjdaaGreat
open Go.RowKit
structure ByteRow (P : Program) (t e : TypeId) : Prop where
 und : P.underlying t = some (.slice e)
 info : ∃ i, P.info? e = some i ∧ i.zero = some (.int .u8 0) ∧ i.size = 1 ∧ i.bytes = 1
theorem ByteRow.mk' {P : Program} {t e : TypeId} (h : P.underlying t = some (.slice e)) (k : (P.info? e).map (fun i => (i.zero, i.size, i.bytes)) = some (some (.int .u8 0), 1, 1)) : ByteRow P t e := by
 refine ⟨h, ?_⟩
 cases hi : P.info? e with
 | none => rw [hi] at k; cases k
 | some i =>
  rw [hi] at k
  simp only [Option.map_some, Option.some.injEq, Prod.mk.injEq] at k
  exact ⟨i, rfl, k.1, k.2.1, k.2.2⟩
section
variable {P : Program} (w : World)
theorem run_append_none (base : Nat) (t ty e : TypeId) (hT : ByteRow P t e) (v : Value) (n : Nat) (us : List Value) (hown : w.ownsRow base e 1 v n us) (c : Nat) :
  (Builtin.append_ #[t, t] ty #[v, .slice none 0 c]).run P w = .ok v w := by
 obtain ⟨ht, i, hi, _, hsz, _⟩ := hT
 rcases hown.2 with ⟨rfl, rfl⟩ | ⟨g, cap, cur, rfl, _, _, hnc, _⟩
 ·simp [Builtin.append_, run_underlying ht, sizeOf, typeInfo, hi, Builtin.lenOf, Builtin.firstCells]
 ·simp [Builtin.append_, run_underlying ht, sizeOf, typeInfo, hi, Builtin.lenOf, Builtin.firstCells, hnc, storeCells]
theorem own_slice {base n : Nat} {e : TypeId} {v : Value} {us : List Value} (h : w.ownsRow base e 1 v n us) : ∃ A c, v = .slice A n c := by
 rcases h.2 with ⟨rfl, rfl⟩ | ⟨g, cap, cur, rfl, _⟩
 ·exact ⟨_, _, rfl⟩
 ·exact ⟨_, _, rfl⟩
theorem run_append_bs (base : Nat) (t ty e : TypeId) (hT : ByteRow P t e) (v : Value) (n : Nat) (bs : List (BitVec 8)) (hown : w.ownsRow base e 1 v n (bs.map v8))
  (B : Nat) (A : Option Addr) (m c : Nat) (cs : List (BitVec 8)) (hr : Bs w B A m cs) (h47 : n + m ≤ 140737488355328) (hbase : base ≤ w.heap.size) :
  ∃ A' c' w', (Builtin.append_ #[t, t] ty #[v, .slice A m c]).run P w = .ok (.slice A' (n + m) c') w' ∧ w'.ownsRow base e 1 (.slice A' (n + m) c') (n + m) ((bs ++ cs).map v8) ∧ w.grownBy w' v.ownBlock ∧
   ((Value.slice A' (n + m) c').ownBlock = v.ownBlock ∨ (Value.slice A' (n + m) c').ownBlock = some w.heap.size) := by
 obtain ⟨ht, i, hi, hz, hsz, hby⟩ := id hT
 rcases A with _ | ad
 ·have hm : m = 0 := by
   rcases Nat.eq_zero_or_pos m with h0 | h0
   ·exact h0
   ·obtain ⟨ad, h, _⟩ := hr.2 h0
    cases h
  subst hm
  have hn : cs = [] := List.eq_nil_of_length_eq_zero hr.1
  subst hn
  obtain ⟨A', c', rfl⟩ := own_slice w hown
  exact ⟨A', c', w, run_append_none w base t ty e hT _ n _ hown c, by simpa using hown, World.grownBy.refl w _, .inl rfl⟩
 ·have hcells : ∀ j u, (cs.map v8)[j]? = some u → w.cell? (ad.add j) = some u := by
   intro j u hu
   have hj : j < cs.length := by
    rcases Nat.lt_or_ge j cs.length with h | h
    ·exact h
    ·rw [List.getElem?_eq_none (by simpa using h)] at hu; cases hu
   obtain ⟨ad', h, _, hc⟩ := hr.2 (by rw [← hr.1]; omega)
   injection h with h
   subst h
   rw [hc j (by rw [← hr.1]; exact hj)]
   rw [List.getElem?_map, List.getElem?_eq_getElem hj] at hu
   rw [List.getD_eq_getElem?_getD, List.getElem?_eq_getElem hj]
   exact hu
  obtain ⟨v', w', hrun, h2, h3, _, h5⟩ := run_append_own_at (P := P) w base t ty e i (.int .u8 0) 1 1 ht hi hz hsz hby rfl (by decide) v n (bs.map v8) hown ad m c (cs.map v8) (by simp [hr.1]) hcells
   (by intro u hu; obtain ⟨x, _, rfl⟩ := List.mem_map.1 hu; rfl) (by unfold maxLen; omega) (by omega) hbase
  obtain ⟨A', c', rfl⟩ := own_slice w' h2
  exact ⟨A', c', w', hrun, by rw [List.map_append]; exact h2, h3, h5⟩
theorem wp_append_bs {o : Oper} {a : Act} {K : Act → World → Prop} {Q : Exit → Act → World → Prop} (s x : Operand) (t : TypeId)
  (ho : o.op = .call { callee := .builtin .append, args := #[s, x], argTypes := #[t, t] }) (base : Nat) (e : TypeId) (hT : ByteRow P t e)
  (v : Value) (n : Nat) (bs : List (BitVec 8)) (hs : a.eval s = v) (hown : w.ownsRow base e 1 v n (bs.map v8))
  (B : Nat) (A : Option Addr) (m c : Nat) (cs : List (BitVec 8)) (hx : a.eval x = .slice A m c) (hr : Bs w B A m cs) (h47 : n + m ≤ 140737488355328) (hbase : base ≤ w.heap.size)
  (h : ∀ A' c' w', w'.ownsRow base e 1 (.slice A' (n + m) c') (n + m) ((bs ++ cs).map v8) → w.grownBy w' v.ownBlock → ((Value.slice A' (n + m) c').ownBlock = v.ownBlock ∨ (Value.slice A' (n + m) c').ownBlock = some w.heap.size) → K (a.put o.dst (.slice A' (n + m) c')) w') : o.wp P a w K Q := by
 obtain ⟨A', c', w', hrun, h2, h3, h4⟩ := run_append_bs (P := P) w base t o.type e hT v n bs hown B A m c cs hr h47 hbase
 unfold Oper.wp execOp
 simp only [ho, resolve, invoke, builtin, Sem.run_bind, Sem.run_pure, Result.andThen_ok, List.map_toArray, List.map_cons, List.map_nil, hs, hx, hrun]
 exact h A' c' w' h2 h3 h4
theorem wpList_append_bs {ops : Array Oper} {rest : List Oper} {o : Oper} {a : Act} {Q : Exit → Act → World → Prop} (hgd : o.guard = none) (s x : Operand) (t : TypeId)
  (ho : o.op = .call { callee := .builtin .append, args := #[s, x], argTypes := #[t, t] }) (base : Nat) (e : TypeId) (hT : ByteRow P t e)
  (v : Value) (n : Nat) (bs : List (BitVec 8)) (hs : a.eval s = v) (hown : w.ownsRow base e 1 v n (bs.map v8))
  (B : Nat) (A : Option Addr) (m c : Nat) (cs : List (BitVec 8)) (hx : a.eval x = .slice A m c) (hr : Bs w B A m cs) (n' : Nat) (bs' : List (BitVec 8)) (hn' : n + m = n') (hbs' : bs ++ cs = bs') (h47 : n' ≤ 140737488355328) (hbase : base ≤ w.heap.size)
  (h : ∀ A' c' w', w'.ownsRow base e 1 (.slice A' n' c') n' (bs'.map v8) → w.grownBy w' v.ownBlock → ((Value.slice A' n' c').ownBlock = v.ownBlock ∨ (Value.slice A' n' c').ownBlock = some w.heap.size) → wpList P ops Q rest (a.put o.dst (.slice A' n' c')) w') : wpList P ops Q (o :: rest) a w := by
 subst hn' hbs'
 exact wpList_plain hgd fun _ hK => wp_append_bs w s x t ho base e hT v n bs hs hown B A m c cs hx hr h47 hbase fun A' c' w' h2 h3 h4 => hK _ _ (h A' c' w' h2 h3 h4)
theorem wpList_append_new {ops : Array Oper} {rest : List Oper} {o : Oper} {a : Act} {Q : Exit → Act → World → Prop} (hgd : o.guard = none) (s x : Operand) (t : TypeId)
  (ho : o.op = .call { callee := .builtin .append, args := #[s, x], argTypes := #[t, t] }) (e : TypeId) (hT : ByteRow P t e)
  (hs : a.eval s = .slice (some ⟨w.heap.size, 0, none⟩) 0 0) (B : Nat) (A : Option Addr) (m c : Nat) (cs : List (BitVec 8)) (hx : a.eval x = .slice A m c) (hr : Bs w B A m cs) (hB : B ≤ w.heap.size) (h47 : m ≤ 140737488355328)
  (h : ∀ A' c' w', w'.ownsRow w.heap.size e 1 (.slice A' m c') m (cs.map v8) → Below w.heap.size w w' → wpList P ops Q rest (a.put o.dst (.slice A' m c')) w') : wpList P ops Q (o :: rest) a (w.alloc (.cells #[] e)) := by
 have o0 : (w.alloc (.cells #[] e)).ownsRow w.heap.size e 1 (.slice (some ⟨w.heap.size, 0, none⟩) 0 0) 0 (([] : List (BitVec 8)).map v8) :=
  World.ownsRow_lit w #[] 0 (Nat.le_refl _) (Nat.zero_le _) rfl
 refine wpList_append_bs _ hgd s x t ho w.heap.size e hT _ 0 [] hs o0 B A m c cs hx (hr.alloc hB _) m cs (Nat.zero_add _) (List.nil_append _) h47 (by simp) fun A' c' w' h1 h2 _ => h A' c' w' h1 ?_
 exact Below.grown ((Below.refl _ _).alloc (Nat.le_refl _) _) h2 (by simp) (by intro g hg; simp [Value.ownBlock] at hg; omega)
end
end Go.Proofs.YteohlpmojfjjdaaGreat
end
section
namespace Go.Proofs.YteohlpmojfjjdaaGreat
open Go.RowKit
def By (w : World) (A : Option Addr) (n : Nat) (bs : List (BitVec 8)) : Prop :=
 bs.length = n ∧ (0 < n → ∃ ad, A = some ad ∧ (∃ cs fz, w.heap[ad.block]? = some (.cells cs 5 fz)) ∧ ∀ j, j < n → w.cell? (ad.add j) = some (v8 (bs.getD j 0#8)))
namespace By
variable {w w' : World} {A : Option Addr} {n : Nat} {bs : List (BitVec 8)}
theorem keep (h : By w A n bs) (hk : ∀ (k : Nat) cs fz, w.heap[k]? = some (Obj.cells cs 5 fz) → w'.heap[k]? = w.heap[k]?) : By w' A n bs :=
 ⟨h.1, fun hn => by
  obtain ⟨ad, e, ⟨cs, fz, hb⟩, hc⟩ := h.2 hn
  have h1 := hk _ _ _ hb
  exact ⟨ad, e, ⟨cs, fz, h1.trans hb⟩, fun j hj => (World.cell?_of_block (by rw [add_block]; exact h1)).trans (hc j hj)⟩⟩
theorem rd (h : By w A n bs) : Bs w w.heap.size A n bs :=
 ⟨h.1, fun hn => by
  obtain ⟨ad, e, ⟨cs, fz, hb⟩, hc⟩ := h.2 hn
  exact ⟨ad, e, (Array.getElem?_eq_some_iff.1 hb).1, hc⟩⟩
theorem below (h : By w A n bs) (hb : Below w.heap.size w w') : By w' A n bs := h.keep fun k _ _ hk => hb.block k (Array.getElem?_eq_some_iff.1 hk).1
theorem grown (h : By w A n bs) {row : Option Nat} (hg : w.grownBy w' row) (hr : ∀ (g : Nat) cs fz, row = some g → w.heap[g]? ≠ some (Obj.cells cs 5 fz)) : By w' A n bs :=
 h.keep fun k cs fz hk => hg.block k (Array.getElem?_eq_some_iff.1 hk).1 (fun e => hr k cs fz e.symm hk)
theorem of_own {base c : Nat} (h : w.ownsRow base 5 1 (.slice A n c) n (bs.map v8)) : By w A n bs := by
 have hl : bs.length = n := by simpa using h.1
 refine ⟨hl, fun hn => ?_⟩
 rcases h.2 with ⟨hv, h0⟩ | ⟨g, cap, cur, hv, hb, hg, _⟩
 ·omega
 ·have hA : A = some ⟨g, 0, none⟩ := by injection hv
  subst hA
  refine ⟨_, rfl, ⟨_, _, hg⟩, fun j hj => h.cells (g := g) rfl j _ ?_⟩
  rw [List.getElem?_map, List.getElem?_eq_getElem (by omega), List.getD_eq_getElem?_getD, List.getElem?_eq_getElem (by omega)]
  rfl
end By
theorem not_bytes {w : World} {base e size n : Nat} {v : Value} {xs : List Value} (h : w.ownsRow base e size v n xs) (he : e ≠ 5) : ∀ (g : Nat) cs fz, v.ownBlock = some g → w.heap[g]? ≠ some (Obj.cells cs 5 fz) := by
 intro g cs fz hv hg
 rcases h.2 with ⟨rfl, _⟩ | ⟨g', cap, cur, rfl, _, hg', _⟩
 ·simp [Value.ownBlock] at hv
 ·obtain rfl : g' = g := by simpa [Value.ownBlock] using hv
  rw [hg] at hg'
  simp at hg'
  exact he hg'.2.1.symm
end Go.Proofs.YteohlpmojfjjdaaGreat
end
section
namespace Go.Proofs.YteohlpmojfjjdaaGreat.Reg
open Go.RowKit
def Pc (w : World) (b : Nat) (sv : Value) (k : Nat) (ov : Value) (hb hp : Bool) (iv : Value) : Prop := Cel w b 195 [sv, .int .i64 (k : Int), ov, .bool hb, .bool hp, iv]
structure Dr (w w' : World) : Prop where
 os : w'.os = w.os
 tape : w'.tape = w.tape
 output : w'.output = w.output
 heap : w'.heap = w.heap
theorem Dr.below {w w' : World} (h : Dr w w') (B : Nat) : Below B w w' := ⟨h.os, h.tape, h.output, by rw [h.heap]; exact Nat.le_refl _, fun _ _ => by rw [h.heap]⟩
theorem Dr.cel {w w' : World} (h : Dr w w') {g : Nat} {t : TypeId} {cs : List Value} (hc : Cel w g t cs) : Cel w' g t cs := by
 unfold Cel at hc ⊢
 rw [h.heap]; exact hc
theorem Dr.frm {w w' : World} (h : Dr w w') (l : List Nat) : Frm l w w' := ⟨h.os, h.tape, h.output, by rw [h.heap]; exact Nat.le_refl _, fun _ _ _ => by rw [h.heap]⟩
theorem peek_no (w : World) (b : Nat) (A : Option Addr) (n c : Nat) (ov : Value) (hb hp : Bool) (iv : Value) (h : Pc w b (.slice A n c) n ov hb hp iv) :
  Calls Tryz.prog 154 #[.pointer (some ⟨b, 0, none⟩)] w fun e w' => e = .returned (.tuple #[.int .u8 0, .bool false]) ∧ Dr w w' := by
 have h0 := Cel.cell h 0
 have h1 := Cel.cell h 1
 clear h
 go_enter Tryz.func154, Tryz.ntmps154
 go_wp2_with fail
 go_quiet (fail)
 go_wp2_with fail
 go_ret2
 exact ⟨rfl, rfl, rfl, rfl, rfl⟩
theorem peek_ok (w : World) (B b : Nat) (A : Option Addr) (n c k : Nat) (s : List (BitVec 8)) (ov : Value) (hb hp : Bool) (iv : Value) (h : Pc w b (.slice A n c) k ov hb hp iv) (hs : Bs w B A n s) (hk : k < n) :
  Calls Tryz.prog 154 #[.pointer (some ⟨b, 0, none⟩)] w fun e w' => e = .returned (.tuple #[v8 (s.getD k 0#8), .bool true]) ∧ Dr w w' := by
 have h0 := Cel.cell h 0
 have h1 := Cel.cell h 1
 obtain ⟨ad, rfl, _, hc⟩ := hs.at_ hk
 have d1 : ((k : Int) == (n : Int)) = false := by simp; omega
 clear h hs
 generalize s.getD k 0#8 = x at *
 go_enter Tryz.func154, Tryz.ntmps154
 go_wp2_with fail
 go_quiet (fail)
 go_wp2_with fail
 go_quiet (fail)
 go_wp2_with fail
 go_ret2
 exact ⟨rfl, rfl, rfl, rfl, rfl⟩
def PkSays (s : List (BitVec 8)) (k : Nat) : Value := match s[k]? with
 | none => .tuple #[.int .u8 0, .bool false]
 | some x => .tuple #[v8 x, .bool true]
theorem peek_call (w : World) (B b : Nat) (A : Option Addr) (n c k : Nat) (s : List (BitVec 8)) (ov : Value) (hb hp : Bool) (iv : Value) (h : Pc w b (.slice A n c) k ov hb hp iv) (hs : Bs w B A n s) (hk : k ≤ n) :
  Calls Tryz.prog 154 #[.pointer (some ⟨b, 0, none⟩)] w fun e w' => e = .returned (PkSays s k) ∧ Dr w w' := by
 unfold PkSays
 have hl := hs.len
 rcases Nat.lt_or_ge k n with hlt | hge
 ·have e : s[k]? = some (s.getD k 0#8) := by
   rw [List.getD_eq_getElem?_getD, List.getElem?_eq_getElem (by omega)]; rfl
  rw [e]
  exact peek_ok w B b A n c k s ov hb hp iv h hs hlt
 ·obtain rfl : k = n := by omega
  rw [List.getElem?_eq_none (by omega)]
  exact peek_no w b A k c ov hb hp iv h
structure At (w w' : World) (b : Nat) (sv : Value) (k : Nat) (ov : Value) (hb hp : Bool) (iv : Value) : Prop where
 pc : Pc w' b sv k ov hb hp iv
 frm : Frm [b] w w'
theorem Pc.lt {w : World} {b k : Nat} {sv ov iv : Value} {hb hp : Bool} (h : Pc w b sv k ov hb hp iv) : b < w.heap.size := Cel.lt h
theorem At.bs {w w' : World} {b k : Nat} {sv ov iv : Value} {hb hp : Bool} (h : At w w' b sv k ov hb hp iv) {A : Option Addr} {B n : Nat} {s : List (BitVec 8)} (hs : Bs w B A n s) (hB : B ≤ b) (hw : b < w.heap.size) : Bs w' B A n s :=
 hs.below (h.frm.below (by omega) (by simp; omega))
theorem At.refl {w : World} {b k : Nat} {sv ov iv : Value} {hb hp : Bool} (h : Pc w b sv k ov hb hp iv) : At w w b sv k ov hb hp iv := ⟨h, Frm.refl _ _⟩
theorem At.trans {w w1 w2 : World} {b k k' : Nat} {sv ov iv : Value} {hb hp : Bool} (h : At w w1 b sv k ov hb hp iv) (h2 : At w1 w2 b sv k' ov hb hp iv) : At w w2 b sv k' ov hb hp iv := ⟨h2.pc, h.frm.trans h2.frm⟩
theorem At.of_dr {w w' : World} {b k : Nat} {sv ov iv : Value} {hb hp : Bool} (h : Pc w b sv k ov hb hp iv) (hd : Dr w w') : At w w' b sv k ov hb hp iv := ⟨hd.cel h, hd.frm _⟩
theorem At.dr {w w1 w2 : World} {b k : Nat} {sv ov iv : Value} {hb hp : Bool} (h : At w w1 b sv k ov hb hp iv) (hd : Dr w1 w2) : At w w2 b sv k ov hb hp iv := h.trans (At.of_dr h.pc hd)
theorem Pc.next {w : World} {b k : Nat} {sv ov iv : Value} {hb hp : Bool} (h : Pc w b sv k ov hb hp iv) : At w (w.setCell ⟨b, 1, none⟩ (.int .i64 ((k : Int) + 1))) b sv (k + 1) ov hb hp iv :=
 ⟨by
  have := Cel.set h 1 (.int .i64 ((k : Int) + 1))
  unfold Pc
  rw [show ((k + 1 : Nat) : Int) = (k : Int) + 1 by omega]
  exact this, (Frm.refl _ _).set (by simp) _⟩
theorem At.below {w w1 w2 : World} {b k : Nat} {sv ov iv : Value} {hb hp : Bool} (h : At w w1 b sv k ov hb hp iv) (hb2 : Below w1.heap.size w1 w2) : At w w2 b sv k ov hb hp iv :=
 ⟨Cel.below h.pc hb2 (Cel.lt h.pc), h.frm.trans (Frm.of_below hb2)⟩
theorem skip_yes (w : World) (B b : Nat) (A : Option Addr) (n c k : Nat) (s : List (BitVec 8)) (x : BitVec 8) (ov : Value) (hb hp : Bool) (iv : Value) (h : Pc w b (.slice A n c) k ov hb hp iv) (hs : Bs w B A n s) (hn : n ≤ 100000) (hx : s[k]? = some x) :
  Calls Tryz.prog 193 #[.pointer (some ⟨b, 0, none⟩), v8 x] w fun e w' => e = .returned (.bool true) ∧ At w w' b (.slice A n c) (k + 1) ov hb hp iv := by
 have hk := get_lt hx
 rw [hs.len] at hk
 have con := peek_call w B b A n c k s ov hb hp iv h hs (by omega)
 unfold PkSays at con
 rw [hx] at con
 dsimp only at con
 have H := Lib.hid h
 clear h hs hx
 go_enter Tryz.func193, Tryz.ntmps193
 go_wp2_with fail
 refine con.mono ?_
 rintro e w' ⟨rfl, hd⟩
 have h1 := Cel.cell (hd.cel H.out) 1
 have f1 := Cel.free (hd.cel H.out) 1
 have HD := Lib.hid hd
 clear hd
 go_wp2_with fail
 go_ret
 exact ⟨rfl, (At.of_dr H.out HD.out).trans (Pc.next (At.of_dr H.out HD.out).pc)⟩
theorem skip_no (w : World) (B b : Nat) (A : Option Addr) (n c k : Nat) (s : List (BitVec 8)) (x : BitVec 8) (ov : Value) (hb hp : Bool) (iv : Value) (h : Pc w b (.slice A n c) k ov hb hp iv) (hs : Bs w B A n s) (hk : k ≤ n) (hx : s[k]? ≠ some x) :
  Calls Tryz.prog 193 #[.pointer (some ⟨b, 0, none⟩), v8 x] w fun e w' => e = .returned (.bool false) ∧ Dr w w' := by
 have con := peek_call w B b A n c k s ov hb hp iv h hs hk
 unfold PkSays at con
 clear h hs
 rcases hy : s[k]? with _ | y <;> rw [hy] at con hx <;> dsimp only at con
 ·clear hx hy
  go_enter Tryz.func193, Tryz.ntmps193
  go_wp2_with fail
  refine con.mono ?_
  rintro e w' ⟨rfl, hd⟩
  have HD := Lib.hid hd
  clear hd
  go_wp2_with fail
  go_ret
  exact ⟨rfl, HD.out⟩
 ·have d1 : ((y.toNat : Int) == (x.toNat : Int)) = false := by
   rw [beq_eq_false_iff_ne]
   intro e
   exact hx (by congr 1; apply BitVec.eq_of_toNat_eq; omega)
  clear hx hy
  go_enter Tryz.func193, Tryz.ntmps193
  go_wp2_with fail
  refine con.mono ?_
  rintro e w' ⟨rfl, hd⟩
  have HD := Lib.hid hd
  clear hd
  go_wp2_with fail
  go_ret
  exact ⟨rfl, HD.out⟩
theorem skip_call (w : World) (B b : Nat) (A : Option Addr) (n c k : Nat) (s : List (BitVec 8)) (x : BitVec 8) (ov : Value) (hb hp : Bool) (iv : Value) (h : Pc w b (.slice A n c) k ov hb hp iv) (hs : Bs w B A n s) (hk : k ≤ n) (hn : n ≤ 100000) :
  Calls Tryz.prog 193 #[.pointer (some ⟨b, 0, none⟩), v8 x] w fun e w' => e = .returned (.bool (decide (s[k]? = some x))) ∧ At w w' b (.slice A n c) (if s[k]? = some x then k + 1 else k) ov hb hp iv := by
 by_cases hx : s[k]? = some x
 ·rw [if_pos hx, decide_eq_true hx]
  exact skip_yes w B b A n c k s x ov hb hp iv h hs hn hx
 ·rw [if_neg hx, decide_eq_false hx]
  exact (skip_no w B b A n c k s x ov hb hp iv h hs hk hx).mono fun e w' q => ⟨q.1, At.of_dr h q.2⟩
theorem named_call (w : World) (x : BitVec 8) :
  Calls Tryz.prog 201 #[v8 x] w fun e w' => e = .returned (.bool (named x)) ∧ w = w' := by
 unfold named
 by_cases h1 : 48 ≤ x.toNat
 all_goals by_cases h2 : x.toNat ≤ 57
 all_goals by_cases h3 : 65 ≤ x.toNat
 all_goals by_cases h4 : x.toNat ≤ 90
 all_goals by_cases h5 : 97 ≤ x.toNat
 all_goals by_cases h6 : x.toNat ≤ 122
 all_goals first | (exfalso; omega) | skip
 all_goals
  go_enter Tryz.func201, Tryz.ntmps201
  go_wp2_with fail
  go_ret
  simp [*] <;> omega
theorem v8_lit {x : BitVec 8} {k : Nat} (hk : k < 256) : ((x.toNat : Int) == (k : Int)) = decide (x = BitVec.ofNat 8 k) := by
 rw [Bool.eq_iff_iff]
 simp only [beq_iff_eq, decide_eq_true_eq]
 constructor
 ·intro h
  apply BitVec.eq_of_toNat_eq
  rw [BitVec.toNat_ofNat, Nat.mod_eq_of_lt (by omega)]
  omega
 ·rintro rfl
  rw [BitVec.toNat_ofNat, Nat.mod_eq_of_lt (by omega)]
theorem escapedByte_call (w : World) (x : BitVec 8) :
  Calls Tryz.prog 198 #[v8 x] w fun e w' => e = .returned (match escB x with | none => .tuple #[.int .u8 0, .bool false] | some y => .tuple #[v8 y, .bool true]) ∧ w = w' := by
 unfold escB
 have e1 : ((x.toNat : Int) == 110) = decide (x = 110#8) := v8_lit (by decide)
 have e2 : ((x.toNat : Int) == 116) = decide (x = 116#8) := v8_lit (by decide)
 have e3 : ((x.toNat : Int) == 114) = decide (x = 114#8) := v8_lit (by decide)
 by_cases h1 : x = 110#8
 ·subst h1
  go_enter Tryz.func198, Tryz.ntmps198
  go_wp2_with fail
  go_ret2
  exact ⟨rfl, rfl⟩
 by_cases h2 : x = 116#8
 ·subst h2
  go_enter Tryz.func198, Tryz.ntmps198
  go_wp2_with fail
  go_ret2
  exact ⟨rfl, rfl⟩
 by_cases h3 : x = 114#8
 ·subst h3
  go_enter Tryz.func198, Tryz.ntmps198
  go_wp2_with fail
  go_ret2
  exact ⟨rfl, rfl⟩
 rw [decide_eq_false h1] at e1
 rw [decide_eq_false h2] at e2
 rw [decide_eq_false h3] at e3
 rw [if_neg h1, if_neg h2, if_neg h3]
 have con := named_call w x
 clear h1 h2 h3
 cases hn : named x <;> rw [hn] at con <;> clear hn
 ·go_enter Tryz.func198, Tryz.ntmps198
  go_wp2_with fail
  refine con.mono ?_
  rintro e w' ⟨rfl, rfl⟩
  go_wp2_with fail
  go_ret2
  exact ⟨rfl, rfl⟩
 ·go_enter Tryz.func198, Tryz.ntmps198
  go_wp2_with fail
  refine con.mono ?_
  rintro e w' ⟨rfl, rfl⟩
  go_wp2_with fail
  go_ret2
  exact ⟨rfl, rfl⟩
def alone (x : BitVec 8) : Bool := decide (x ≠ 93#8 ∧ x ≠ 92#8 ∧ x ≠ 45#8 ∧ x ≠ 94#8)
theorem alone_call (w : World) (x : BitVec 8) :
  Calls Tryz.prog 200 #[v8 x] w fun e w' => e = .returned (.bool (alone x)) ∧ w = w' := by
 have e1 : ((x.toNat : Int) == 93) = decide (x = 93#8) := v8_lit (by decide)
 have e2 : ((x.toNat : Int) == 92) = decide (x = 92#8) := v8_lit (by decide)
 have e3 : ((x.toNat : Int) == 45) = decide (x = 45#8) := v8_lit (by decide)
 have e4 : ((x.toNat : Int) == 94) = decide (x = 94#8) := v8_lit (by decide)
 by_cases h1 : x = 93#8
 ·subst h1
  go_enter Tryz.func200, Tryz.ntmps200
  go_wp2_with fail
  go_ret
  exact ⟨rfl, rfl⟩
 by_cases h2 : x = 92#8
 ·subst h2
  go_enter Tryz.func200, Tryz.ntmps200
  go_wp2_with fail
  go_ret
  exact ⟨rfl, rfl⟩
 by_cases h3 : x = 45#8
 ·subst h3
  go_enter Tryz.func200, Tryz.ntmps200
  go_wp2_with fail
  go_ret
  exact ⟨rfl, rfl⟩
 by_cases h4 : x = 94#8
 ·subst h4
  go_enter Tryz.func200, Tryz.ntmps200
  go_wp2_with fail
  go_ret
  exact ⟨rfl, rfl⟩
 have e5 : alone x = true := decide_eq_true ⟨h1, h2, h3, h4⟩
 rw [e5]
 rw [decide_eq_false h1] at e1
 rw [decide_eq_false h2] at e2
 rw [decide_eq_false h3] at e3
 rw [decide_eq_false h4] at e4
 clear h1 h2 h3 h4 e5
 go_enter Tryz.func200, Tryz.ntmps200
 go_wp2_with fail
 go_ret
 exact ⟨rfl, rfl⟩
def SbSays (x : Except Nat (BitVec 8 × Nat)) : Value × Nat := match x with
 | .error e => (.tuple #[.int .u8 0, .bool false], e)
 | .ok (y, j) => (.tuple #[v8 y, .bool true], j)
theorem setByte_e1 {s : List (BitVec 8)} {k : Nat} {least : BitVec 8} (h : s[k]? = some 92#8) (h1 : s[k + 1]? = none) : setByte s k least = .error (k + 1) := by simp [setByte, h, h1]
theorem setByte_e2 {s : List (BitVec 8)} {k : Nat} {least y : BitVec 8} (h : s[k]? = some 92#8) (h1 : s[k + 1]? = some y) (h2 : escB y = none) : setByte s k least = .error (k + 1) := by simp [setByte, h, h1, h2]
theorem setByte_e3 {s : List (BitVec 8)} {k : Nat} {least y z : BitVec 8} (h : s[k]? = some 92#8) (h1 : s[k + 1]? = some y) (h2 : escB y = some z) (h3 : z.toNat < least.toNat) : setByte s k least = .error (k + 1) := by simp [setByte, h, h1, h2, h3]
theorem setByte_o3 {s : List (BitVec 8)} {k : Nat} {least y z : BitVec 8} (h : s[k]? = some 92#8) (h1 : s[k + 1]? = some y) (h2 : escB y = some z) (h3 : ¬ z.toNat < least.toNat) : setByte s k least = .ok (z, k + 2) := by
 unfold setByte; rw [if_pos h, h1]; dsimp only; rw [h2]; dsimp only; rw [if_neg h3]
theorem setByte_e4 {s : List (BitVec 8)} {k : Nat} {least : BitVec 8} (h : s[k]? = none) : setByte s k least = .error k := by simp [setByte, h]
theorem setByte_e5 {s : List (BitVec 8)} {k : Nat} {least y : BitVec 8} (h : s[k]? = some y) (h92 : y ≠ 92#8) (h3 : y = 93#8 ∨ y = 45#8 ∨ y = 94#8 ∨ y.toNat < least.toNat) : setByte s k least = .error k := by
 unfold setByte; rw [if_neg (by rw [h]; simpa using h92), h]; dsimp only; rw [if_pos h3]
theorem setByte_o5 {s : List (BitVec 8)} {k : Nat} {least y : BitVec 8} (h : s[k]? = some y) (h92 : y ≠ 92#8) (h3 : ¬ (y = 93#8 ∨ y = 45#8 ∨ y = 94#8 ∨ y.toNat < least.toNat)) : setByte s k least = .ok (y, k + 1) := by
 unfold setByte; rw [if_neg (by rw [h]; simpa using h92), h]; dsimp only; rw [if_neg h3]
theorem setByte_call (w : World) (B b : Nat) (A : Option Addr) (n c k : Nat) (s : List (BitVec 8)) (least : BitVec 8) (ov : Value) (hb hp : Bool) (iv : Value) (h : Pc w b (.slice A n c) k ov hb hp iv) (hs : Bs w B A n s) (hB : B ≤ b) (hk : k ≤ n) (hn : n ≤ 100000) :
  Calls Tryz.prog 197 #[.pointer (some ⟨b, 0, none⟩), v8 least] w fun e w' => e = .returned (SbSays (setByte s k least)).1 ∧ At w w' b (.slice A n c) (SbSays (setByte s k least)).2 ov hb hp iv := by
 have hl := hs.len
 have con := skip_call w B b A n c k s 92#8 ov hb hp iv h hs hk hn
 replace con : Calls Tryz.prog 193 #[.pointer (some ⟨b, 0, none⟩), .int .u8 92] w fun e w' => e = .returned (.bool (decide (s[k]? = some 92#8))) ∧ At w w' b (.slice A n c) (if s[k]? = some 92#8 then k + 1 else k) ov hb hp iv := con
 have hbw := h.lt
 have HS := Lib.hid hs
 clear h hs
 generalize hr : setByte s k least = r
 by_cases h92 : s[k]? = some 92#8
 ·rw [if_pos h92, decide_eq_true h92] at con
  have hk1 : k + 1 ≤ n := by have := get_lt h92; omega
  have H92 := Lib.hid h92
  clear h92
  go_enter Tryz.func197, Tryz.ntmps197
  go_wp2_with fail
  refine con.mono ?_
  rintro e w1 ⟨rfl, hw1⟩
  have HW1 := Lib.hid hw1
  go_wp2_with fail
  refine (peek_call w1 B b A n c (k + 1) s ov hb hp iv hw1.pc (hw1.bs HS.out hB hbw) hk1).mono ?_
  clear hw1
  rintro e w2 ⟨rfl, hd⟩
  have HD := Lib.hid (HW1.out.dr hd)
  clear hd
  unfold PkSays
  rcases hy : s[k + 1]? with _ | y <;> dsimp only
  ·have HR := Lib.hid (setByte_e1 (least := least) H92.out hy)
   clear hy
   go_wp2_with fail
   go_ret2
   rw [← hr, HR.out]
   exact ⟨rfl, HD.out⟩
  ·have HY := Lib.hid hy
   clear hy
   go_wp2_with fail
   refine (escapedByte_call _ y).mono ?_
   rintro e w3 ⟨rfl, rfl⟩
   rcases hz : escB y with _ | z <;> dsimp only
   ·have HR := Lib.hid (setByte_e2 (least := least) H92.out HY.out hz)
    clear hz
    go_wp2_with fail
    go_ret2
    rw [← hr, HR.out]
    exact ⟨rfl, HD.out⟩
   ·have HZ := Lib.hid hz
    clear hz
    by_cases hlt : z.toNat < least.toNat
    ·have HR := Lib.hid (setByte_e3 (least := least) H92.out HY.out HZ.out hlt)
     have d1 : decide (z.toNat < least.toNat) = true := decide_eq_true hlt
     clear hlt
     go_wp2_with fail
     go_ret2
     rw [← hr, HR.out]
     exact ⟨rfl, HD.out⟩
    ·have HR := Lib.hid (setByte_o3 (least := least) H92.out HY.out HZ.out hlt)
     have d1 : decide (z.toNat < least.toNat) = false := decide_eq_false hlt
     clear hlt
     have h1 := Cel.cell HD.out.pc 1
     have f1 := Cel.free HD.out.pc 1
     go_wp2_with fail
     go_ret2
     rw [← hr, HR.out]
     exact ⟨rfl, HD.out.trans (Pc.next HD.out.pc)⟩
 ·rw [if_neg h92, decide_eq_false h92] at con
  have H92 := Lib.hid h92
  clear h92
  go_enter Tryz.func197, Tryz.ntmps197
  go_wp2_with fail
  refine con.mono ?_
  rintro e w1 ⟨rfl, hw1⟩
  have HW1 := Lib.hid hw1
  go_wp2_with fail
  refine (peek_call w1 B b A n c k s ov hb hp iv hw1.pc (hw1.bs HS.out hB hbw) hk).mono ?_
  clear hw1
  rintro e w2 ⟨rfl, hd⟩
  have HD := Lib.hid (HW1.out.dr hd)
  clear hd
  unfold PkSays
  rcases hy : s[k]? with _ | y <;> dsimp only
  ·have HR := Lib.hid (setByte_e4 (least := least) hy)
   clear hy
   go_wp2_with fail
   go_ret2
   rw [← hr, HR.out]
   exact ⟨rfl, HD.out⟩
  ·have HY := Lib.hid hy
   have h9 := Lib.hid (show y ≠ 92#8 from fun e => H92.out (by rw [hy, e]))
   clear hy
   go_wp2_with fail
   refine (alone_call _ y).mono ?_
   rintro e w3 ⟨rfl, rfl⟩
   rcases ha : alone y with _ | _
   ·have HR := Lib.hid (setByte_e5 (least := least) HY.out h9.out (by
     by_cases q1 : y = 93#8
     ·exact .inl q1
     by_cases q2 : y = 45#8
     ·exact .inr (.inl q2)
     by_cases q3 : y = 94#8
     ·exact .inr (.inr (.inl q3))
     ·have q : alone y = true := decide_eq_true ⟨q1, h9.out, q2, q3⟩
      rw [ha] at q; cases q))
    clear ha
    go_wp2_with fail
    go_ret2
    rw [← hr, HR.out]
    exact ⟨rfl, HD.out⟩
   ·have HA := Lib.hid (of_decide_eq_true (show decide (y ≠ 93#8 ∧ y ≠ 92#8 ∧ y ≠ 45#8 ∧ y ≠ 94#8) = true from ha))
    clear ha
    by_cases hlt : y.toNat < least.toNat
    ·have HR := Lib.hid (setByte_e5 (least := least) HY.out h9.out (.inr (.inr (.inr hlt))))
     have d1 : decide (y.toNat < least.toNat) = true := decide_eq_true hlt
     clear hlt
     go_wp2_with fail
     go_ret2
     rw [← hr, HR.out]
     exact ⟨rfl, HD.out⟩
    ·have HR := Lib.hid (setByte_o5 (least := least) HY.out h9.out (by
      rintro (q | q | q | q)
      ·exact HA.out.1 q
      ·exact HA.out.2.2.1 q
      ·exact HA.out.2.2.2 q
      ·exact hlt q))
     have d1 : decide (y.toNat < least.toNat) = false := decide_eq_false hlt
     clear hlt
     have h1 := Cel.cell HD.out.pc 1
     have f1 := Cel.free HD.out.pc 1
     go_wp2_with fail
     go_ret2
     rw [← hr, HR.out]
     exact ⟨rfl, HD.out.trans (Pc.next HD.out.pc)⟩
end Go.Proofs.YteohlpmojfjjdaaGreat.Reg
end
section
namespace Go.Proofs.YteohlpmojfjjdaaGreat
open Go.RowKit
structure ElemRow (P : Program) (t e : TypeId) (size bytes : Nat) : Prop where
 und : P.underlying t = some (.slice e)
 info : ∃ i z, P.info? e = some i ∧ i.zero = some z ∧ i.size = size ∧ i.bytes = bytes ∧ z.cells.size = size
 pos : 0 < size
theorem ElemRow.mk' {P : Program} {t e : TypeId} {size bytes : Nat} {z : Value} (h : P.underlying t = some (.slice e)) (k : (P.info? e).map (fun i => (i.zero, i.size, i.bytes)) = some (some z, size, bytes)) (hz : z.cells.size = size) (hp : 0 < size) : ElemRow P t e size bytes := by
 refine ⟨h, ?_, hp⟩
 cases hi : P.info? e with
 | none => rw [hi] at k; cases k
 | some i =>
  rw [hi] at k
  simp only [Option.map_some, Option.some.injEq, Prod.mk.injEq] at k
  exact ⟨i, z, rfl, k.1, k.2.1, k.2.2, hz⟩
def Src (w : World) (A : Option Addr) (m : Nat) (cs : List Value) : Prop := 0 < m → ∃ ad, A = some ad ∧ ∀ j u, cs[j]? = some u → w.cell? (ad.add j) = some u
section
variable {P : Program} (w : World)
theorem run_append_any (base : Nat) (t ty e : TypeId) {size bytes : Nat} (hT : ElemRow P t e size bytes) (v : Value) (n : Nat) (us : List Value) (hown : w.ownsRow base e size v n us)
  (A : Option Addr) (m c : Nat) (cs : List Value) (hl : cs.length = m * size) (hr : Src w A m cs) (h1 : ∀ u ∈ cs, u.oneCell' = true) (h63 : n + m ≤ maxLen) (h47 : (n + m) * bytes ≤ 140737488355328) (hbase : base ≤ w.heap.size) :
  ∃ A' c' w', (Builtin.append_ #[t, t] ty #[v, .slice A m c]).run P w = .ok (.slice A' (n + m) c') w' ∧ w'.ownsRow base e size (.slice A' (n + m) c') (n + m) (us ++ cs) ∧ w.grownBy w' v.ownBlock ∧
   ((Value.slice A' (n + m) c').ownBlock = v.ownBlock ∨ (Value.slice A' (n + m) c').ownBlock = some w.heap.size) := by
 obtain ⟨ht, ⟨i, z, hi, hz, hsz, hby, hzs⟩, hp⟩ := hT
 have form : ∀ {w : World} {v : Value} {n : Nat} {us : List Value}, w.ownsRow base e size v n us → ∃ A c, v = .slice A n c := fun h => by
  rcases h.2 with ⟨rfl, rfl⟩ | ⟨g, cap, cur, rfl, _⟩ <;> exact ⟨_, _, rfl⟩
 rcases A with _ | ad
 ·have hm : m = 0 := by
   rcases Nat.eq_zero_or_pos m with h0 | h0
   ·exact h0
   ·obtain ⟨ad, h, _⟩ := hr h0
    cases h
  subst hm
  have hn : cs = [] := List.eq_nil_of_length_eq_zero (by omega)
  subst hn
  obtain ⟨A', c', rfl⟩ := form hown
  have hrun : (Builtin.append_ #[t, t] ty #[.slice A' n c', .slice none 0 c]).run P w = .ok (.slice A' n c') w := by
   rcases hown.2 with ⟨hv, rfl⟩ | ⟨g, cap, cur, hv, _, _, hnc, _⟩
   ·cases hv
    simp [Builtin.append_, run_underlying ht, sizeOf, typeInfo, hi, Builtin.lenOf, Builtin.firstCells]
   ·cases hv
    simp [Builtin.append_, run_underlying ht, sizeOf, typeInfo, hi, Builtin.lenOf, Builtin.firstCells, hnc, storeCells]
  exact ⟨A', c', w, hrun, by simpa using hown, World.grownBy.refl w _, .inl rfl⟩
 ·have hcells : ∀ j u, cs[j]? = some u → w.cell? (ad.add j) = some u := by
   intro j u hu
   have hj := (List.getElem?_eq_some_iff.1 hu).1
   have hm : 0 < m := by
    rcases Nat.eq_zero_or_pos m with h0 | h0
    ·subst h0; omega
    ·exact h0
   obtain ⟨ad', h, hc⟩ := hr hm
   injection h with h
   subst h
   exact hc j u hu
  obtain ⟨v', w', hrun, h2, h3, _, h5⟩ := run_append_own_at (P := P) w base t ty e i z size bytes ht hi hz hsz hby hzs hp v n us hown ad m c cs hl hcells h1 h63 h47 hbase
  obtain ⟨A', c', rfl⟩ := form h2
  exact ⟨A', c', w', hrun, h2, h3, h5⟩
theorem wp_append_any {o : Oper} {a : Act} {K : Act → World → Prop} {Q : Exit → Act → World → Prop} (s x : Operand) (t : TypeId)
  (ho : o.op = .call { callee := .builtin .append, args := #[s, x], argTypes := #[t, t] }) (base : Nat) (e : TypeId) {size bytes : Nat} (hT : ElemRow P t e size bytes)
  (v : Value) (n : Nat) (us : List Value) (hs : a.eval s = v) (hown : w.ownsRow base e size v n us)
  (A : Option Addr) (m c : Nat) (cs : List Value) (hx : a.eval x = .slice A m c) (hl : cs.length = m * size) (hr : Src w A m cs) (h1 : ∀ u ∈ cs, u.oneCell' = true)
  (n' : Nat) (us' : List Value) (hn' : n + m = n') (hus' : us ++ cs = us') (h63 : n' ≤ maxLen) (h47 : n' * bytes ≤ 140737488355328) (hbase : base ≤ w.heap.size)
  (h : ∀ A' c' w', w'.ownsRow base e size (.slice A' n' c') n' us' → w.grownBy w' v.ownBlock → ((Value.slice A' n' c').ownBlock = v.ownBlock ∨ (Value.slice A' n' c').ownBlock = some w.heap.size) → K (a.put o.dst (.slice A' n' c')) w') : o.wp P a w K Q := by
 subst hn' hus'
 obtain ⟨A', c', w', hrun, h2, h3, h4⟩ := run_append_any (P := P) w base t o.type e hT v n us hown A m c cs hl hr h1 h63 h47 hbase
 unfold Oper.wp execOp
 simp only [ho, resolve, invoke, builtin, Sem.run_bind, Sem.run_pure, Result.andThen_ok, List.map_toArray, List.map_cons, List.map_nil, hs, hx, hrun]
 exact h A' c' w' h2 h3 h4
theorem wpList_append_any {ops : Array Oper} {rest : List Oper} {o : Oper} {a : Act} {Q : Exit → Act → World → Prop} (hgd : o.guard = none) (s x : Operand) (t : TypeId)
  (ho : o.op = .call { callee := .builtin .append, args := #[s, x], argTypes := #[t, t] }) (base : Nat) (e : TypeId) {size bytes : Nat} (hT : ElemRow P t e size bytes)
  (v : Value) (n : Nat) (us : List Value) (hs : a.eval s = v) (hown : w.ownsRow base e size v n us)
  (A : Option Addr) (m c : Nat) (cs : List Value) (hx : a.eval x = .slice A m c) (hl : cs.length = m * size) (hr : Src w A m cs) (h1 : ∀ u ∈ cs, u.oneCell' = true)
  (n' : Nat) (us' : List Value) (hn' : n + m = n') (hus' : us ++ cs = us') (h63 : n' ≤ maxLen) (h47 : n' * bytes ≤ 140737488355328) (hbase : base ≤ w.heap.size)
  (h : ∀ A' c' w', w'.ownsRow base e size (.slice A' n' c') n' us' → w.grownBy w' v.ownBlock → ((Value.slice A' n' c').ownBlock = v.ownBlock ∨ (Value.slice A' n' c').ownBlock = some w.heap.size) → wpList P ops Q rest (a.put o.dst (.slice A' n' c')) w') : wpList P ops Q (o :: rest) a w :=
 wpList_plain hgd fun _ hK => wp_append_any w s x t ho base e hT v n us hs hown A m c cs hx hl hr h1 n' us' hn' hus' h63 h47 hbase fun A' c' w' h2 h3 h4 => hK _ _ (h A' c' w' h2 h3 h4)
end
end Go.Proofs.YteohlpmojfjjdaaGreat
end
section
namespace Go.Proofs.YteohlpmojfjjdaaGreat
open Go.RowKit
def Ry (t : TypeId) (w : World) (A : Option Addr) (cs : List Value) : Prop :=
 cs ≠ [] → ∃ ad, A = some ad ∧ (∃ o fz, w.heap[ad.block]? = some (.cells o t fz)) ∧ ∀ j u, cs[j]? = some u → w.cell? (ad.add j) = some u
namespace Ry
variable {w w' : World} {t : TypeId} {A : Option Addr} {cs : List Value}
theorem nil_ : Ry t w A [] := fun h => absurd rfl h
theorem keep (h : Ry t w A cs) (hk : ∀ (k : Nat) o fz, w.heap[k]? = some (Obj.cells o t fz) → w'.heap[k]? = w.heap[k]?) : Ry t w' A cs := fun hn => by
 obtain ⟨ad, e, ⟨o, fz, hb⟩, hc⟩ := h hn
 have h1 := hk _ _ _ hb
 exact ⟨ad, e, ⟨o, fz, h1.trans hb⟩, fun j u hj => (World.cell?_of_block (by rw [add_block]; exact h1)).trans (hc j u hj)⟩
theorem below (h : Ry t w A cs) (hb : Below w.heap.size w w') : Ry t w' A cs := h.keep fun k _ _ hk => hb.block k (Array.getElem?_eq_some_iff.1 hk).1
theorem alloc (h : Ry t w A cs) (o : Obj) : Ry t (w.alloc o) A cs := h.below ((Below.refl _ _).alloc (Nat.le_refl _) _)
theorem frm (h : Ry t w A cs) {l : List Nat} (hf : Frm l w w') (hl : ∀ k ∈ l, ∀ o fz, w.heap[k]? ≠ some (Obj.cells o t fz)) : Ry t w' A cs :=
 h.keep fun k o fz hk => hf.block k (Array.getElem?_eq_some_iff.1 hk).1 fun hm => hl k hm o fz hk
theorem grown (h : Ry t w A cs) {row : Option Nat} (hg : w.grownBy w' row) (hr : ∀ (g : Nat) o fz, row = some g → w.heap[g]? ≠ some (Obj.cells o t fz)) : Ry t w' A cs :=
 h.keep fun k o fz hk => hg.block k (Array.getElem?_eq_some_iff.1 hk).1 (fun e => hr k o fz e.symm hk)
theorem set (h : Ry t w A cs) {p : Addr} (hp : ∀ o fz, w.heap[p.block]? ≠ some (Obj.cells o t fz)) (u : Value) : Ry t (w.setCell p u) A cs :=
 h.keep fun k o fz hk => Below.heap_setCell _ _ _ _ fun e => hp o fz (e ▸ hk)
theorem of_cel {g : Nat} (h : Cel w g t cs) : Ry t w (some ⟨g, 0, none⟩) cs := fun _ => ⟨_, rfl, ⟨_, _, h⟩, fun j u hj => by rw [add_row, h.cell j, hj]⟩
theorem of_own {base size n c : Nat} (h : w.ownsRow base t size (.slice A n c) n cs) (hs : 0 < size) : Ry t w A cs := fun hn => by
 have hl : cs.length = n * size := h.1
 rcases h.2 with ⟨hv, h0⟩ | ⟨g, cap, cur, hv, hb, hg, _⟩
 ·exfalso
  subst h0
  exact hn (List.eq_nil_of_length_eq_zero (by omega))
 ·have hA : A = some ⟨g, 0, none⟩ := by injection hv
  subst hA
  refine ⟨_, rfl, ⟨_, _, hg⟩, fun j u hj => h.cells (g := g) rfl j _ ?_⟩
  exact hj
theorem src (h : Ry t w A cs) {m : Nat} (hm : 0 < m → cs ≠ []) : 0 < m → ∃ ad, A = some ad ∧ ∀ j u, cs[j]? = some u → w.cell? (ad.add j) = some u := fun h0 => by
 obtain ⟨ad, e, _, hc⟩ := h (hm h0)
 exact ⟨ad, e, hc⟩
end Ry
theorem Cel.not_ty {w : World} {g : Nat} {t t' : TypeId} {cs : List Value} (h : Cel w g t cs) (hne : t ≠ t') : ∀ o fz, w.heap[g]? ≠ some (Obj.cells o t' fz) := fun o fz e => by
 unfold Cel at h
 rw [h] at e
 injection e with e
 injection e with _ e2
 exact hne e2
theorem own_not_ty {w : World} {base e size n : Nat} {v : Value} {xs : List Value} {t' : TypeId} (h : w.ownsRow base e size v n xs) (hne : e ≠ t') : ∀ (g : Nat) o fz, v.ownBlock = some g → w.heap[g]? ≠ some (Obj.cells o t' fz) := fun g o fz hv hg => by
 rcases h.2 with ⟨rfl, _⟩ | ⟨g', cap, cur, rfl, _, hg', _⟩
 ·simp [Value.ownBlock] at hv
 ·obtain rfl : g' = g := by simpa [Value.ownBlock] using hv
  rw [hg] at hg'
  simp at hg'
  exact hne hg'.2.1.symm
theorem Cel.grown {w w' : World} {g : Nat} {t : TypeId} {cs : List Value} (h : Cel w g t cs) {row : Option Nat} (hg : w.grownBy w' row) (hr : row ≠ some g) : Cel w' g t cs := (hg.block g h.lt (fun e => hr e.symm)).trans h
theorem own_frm {w w' : World} {base e size n : Nat} {v : Value} {us : List Value} {l : List Nat} (h : w.ownsRow base e size v n us) (hf : Frm l w w') (hl : ∀ g ∈ l, v.ownBlock ≠ some g) : w'.ownsRow base e size v n us := by
 refine ⟨h.1, h.2.imp id fun ⟨g', cap, cur, h1, h2, h3, h4⟩ => ⟨g', cap, cur, h1, h2, ?_, h4⟩⟩
 rw [hf.block g' (Array.getElem?_eq_some_iff.1 h3).1 (fun hm => hl g' hm (by rw [h1]; simp [Value.ownBlock]))]
 exact h3
theorem own_ne {w : World} {base e size n g : Nat} {v : Value} {us : List Value} (h : w.ownsRow base e size v n us) (hg : g < base) : v.ownBlock ≠ some g := fun e' => by
 rcases h.2 with ⟨rfl, _⟩ | ⟨g', cap, cur, rfl, hb, _⟩
 ·simp [Value.ownBlock] at e'
 ·obtain rfl : g' = g := by simpa [Value.ownBlock] using e'
  omega
theorem own_ty_ne {w : World} {base e size n g : Nat} {t : TypeId} {v : Value} {us cs : List Value} (h : w.ownsRow base e size v n us) (hc : Cel w g t cs) (hne : e ≠ t) : v.ownBlock ≠ some g := fun e' =>
 own_not_ty h hne g _ _ e' hc
theorem own_ge {w : World} {base e size n : Nat} {v : Value} {us : List Value} (h : w.ownsRow base e size v n us) : ∀ g, v.ownBlock = some g → base ≤ g := fun g e' =>
 Nat.le_of_not_lt fun hg => own_ne h hg e'
theorem own_form {w : World} {base e size n : Nat} {v : Value} {us : List Value} (h : w.ownsRow base e size v n us) : ∃ A c, v = .slice A n c := by
 rcases h.2 with ⟨rfl, rfl⟩ | ⟨g, cap, cur, rfl, _⟩
 ·exact ⟨_, _, rfl⟩
 ·exact ⟨_, _, rfl⟩
theorem own_two {w : World} {base base' e e' size size' n n' : Nat} {v v' : Value} {us us' : List Value} (h : w.ownsRow base e size v n us) (h' : w.ownsRow base' e' size' v' n' us') (hne : e ≠ e') : ∀ g, v.ownBlock = some g → v'.ownBlock ≠ some g := fun g hg hg' => by
 rcases h.2 with ⟨rfl, _⟩ | ⟨g1, cap, cur, rfl, _, h1, _⟩
 ·simp [Value.ownBlock] at hg
 ·obtain rfl : g1 = g := by simpa [Value.ownBlock] using hg
  exact own_not_ty h' (fun q => hne q.symm) g1 _ _ hg' h1
theorem own_lt {w : World} {base e size n : Nat} {v : Value} {us : List Value} (h : w.ownsRow base e size v n us) : ∀ g, v.ownBlock = some g → g < w.heap.size := fun g e' => by
 rcases h.2 with ⟨rfl, _⟩ | ⟨g', cap, cur, rfl, _, h1, _⟩
 ·simp [Value.ownBlock] at e'
 ·obtain rfl : g' = g := by simpa [Value.ownBlock] using e'
  exact (Array.getElem?_eq_some_iff.1 h1).1
theorem own_cut {w : World} {base e size n cap g : Nat} {us : List Value} (h : w.ownsRow base e size (.slice (some ⟨g, 0, none⟩) n cap) n us) {k : Nat} (hk : k ≤ n) : w.ownsRow base e size (.slice (some ⟨g, 0, none⟩) k cap) k (us.take (k * size)) := by
 have hm : k * size ≤ n * size := Nat.mul_le_mul_right _ hk
 refine ⟨by rw [List.length_take, h.1]; omega, .inr ?_⟩
 rcases h.2 with ⟨hv, _⟩ | ⟨g', cap', cur, hv, hb, hg, h1, h2, h3, h4⟩
 ·cases hv
 ·cases hv
  exact ⟨g, cap, cur, rfl, hb, hg, by omega, h2, h3, by rw [← h4, List.take_take, Nat.min_eq_left hm]⟩
theorem own_ne_of {w : World} {base e size n cap g b : Nat} {t : TypeId} {us cs : List Value} (h : w.ownsRow base e size (.slice (some ⟨g, 0, none⟩) n cap) n us) (hc : Cel w b t cs) (hne : e ≠ t := by decide) : g ≠ b := fun e' => own_ty_ne h hc hne (by rw [← e']; rfl)
end Go.Proofs.YteohlpmojfjjdaaGreat
end
