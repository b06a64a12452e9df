/-
  A slice of bytes that reads as a list, nil included: 'Bs w B A n bs'.
  Words for memory: a block that is known whole (Cel), what a call may have written (Frm), bytes in blocks of a kind (Bp), bytes as a string.
  append of bytes onto a row of the call's own, whatever the source (nil, empty or not).
  Bytes that lie in a block of bytes: 'By w A n bs'.
-/
import Derived.Below
import Derived.Laws.OwnMore
import Derived.Deep.AppendLies
import Derived.Deep.Draws
import Derived.Laws.Rows
import Derived.Laws.BytesString
import Derived.Lib.BufferRead
import Derived.Lib.Hide
import Derived.Maps.AppendAt
import Derived.RegionTactic
import Derived.OwnWalk
import Derived.WalkKit
import Derived.ProofKit
section
namespace Go.Proofs.Ytjpbndpfbdfhjaa
open Go.RowKit

abbrev v8 (x : BitVec 8) : Value := .int .u8 (x.toNat : Int)
abbrev v32 (r : BitVec 32) : Value := .int .u32 (r.toNat : Int)

/-- The slice value '.slice A n c' holds the bytes bs, and lies below block B. -/
def Bs (w : World) (B : Nat) (A : Option Addr) (n : Nat) (bs : List (BitVec 8)) : Prop :=
  bs.length = n ∧ (0 < n → ∃ ad, A = some ad ∧ ad.block < B ∧ ∀ j, j < n → w.cell? (ad.add j) = some (v8 (bs.getD j 0#8)))

theorem add_block (a : Addr) (n : Nat) : (a.add n).block = a.block := by unfold Addr.add; split <;> rfl

section
variable {w w' : World} {B B' n : Nat} {A : Option Addr} {bs : List (BitVec 8)}
theorem Bs.nil_ : Bs w B A 0 [] := ⟨rfl, fun h => absurd h (by omega)⟩
theorem Bs.len (h : Bs w B A n bs) : bs.length = n := h.1
theorem Bs.at_ (h : Bs w B A n bs) {k : Nat} (hk : k < n) : ∃ ad, A = some ad ∧ ad.block < B ∧ w.cell? (ad.add k) = some (v8 (bs.getD k 0#8)) := by
  obtain ⟨ad, e, hb, hc⟩ := h.2 (by omega)
  exact ⟨ad, e, hb, hc k hk⟩
theorem Bs.keep (h : Bs w B A n bs) (hk : ∀ p : Addr, p.block < B → w'.cell? p = w.cell? p) : Bs w' B A n bs :=
  ⟨h.1, fun hn => by
    obtain ⟨ad, e, hb, hc⟩ := h.2 hn
    exact ⟨ad, e, hb, fun j hj => (hk _ (by rw [add_block]; exact hb)).trans (hc j hj)⟩⟩
theorem Bs.more (h : Bs w B A n bs) (hB : B ≤ B') : Bs w B' A n bs :=
  ⟨h.1, fun hn => by
    obtain ⟨ad, e, hb, hc⟩ := h.2 hn
    exact ⟨ad, e, by omega, hc⟩⟩
theorem Bs.below (h : Bs w B A n bs) (hb : Below B w w') : Bs w' B A n bs := h.keep fun _ hp => hb.cell hp
theorem Bs.drew (h : Bs w B A n bs) : Bs w.drew B A n bs := h
theorem Bs.drewN (h : Bs w B A n bs) (k : Nat) : Bs (w.drewN k) B A n bs := h
theorem Bs.alloc (h : Bs w B A n bs) (hB : B ≤ w.heap.size) (o : Obj) : Bs (w.alloc o) B A n bs := h.keep fun p hp => World.cell?_alloc_lt w o p (by omega)
theorem Bs.setCell (h : Bs w B A n bs) {p : Addr} (hB : B ≤ p.block) (u : Value) : Bs (w.setCell p u) B A n bs :=
  h.keep fun q hq => World.cell?_setCell_other w p q u (fun e => by subst e; omega)
theorem Bs.grown (h : Bs w B A n bs) {row : Option Nat} (hg : w.grownBy w' row) (hB : B ≤ w.heap.size) (hr : ∀ g, row = some g → B ≤ g) : Bs w' B A n bs :=
  h.keep fun p hp => World.cell?_of_block (hg.block p.block (by omega) (fun e => by have := hr _ e.symm; omega))
theorem Bs.of_own {base : Nat} {e : TypeId} {c : Nat} {us : List Value} (h : w.ownsRow base e 1 (.slice A n c) n us) (hu : us = bs.map v8) : Bs w w.heap.size A n bs := by
  subst hu
  have hl : bs.length = n := by simpa using h.1
  refine ⟨hl, fun hn => ?_⟩
  obtain ⟨g, cap, hv, _, hlt⟩ := h.form hn
  have hA : A = some ⟨g, 0, none⟩ := by injection hv
  subst hA
  refine ⟨_, rfl, hlt, fun j hj => h.cells (g := g) rfl j _ ?_⟩
  rw [List.getElem?_map, List.getElem?_eq_getElem (by omega), List.getD_eq_getElem?_getD, List.getElem?_eq_getElem (by omega)]
  rfl
end

theorem add_row (g j : Nat) : (⟨g, 0, none⟩ : Addr).add j = ⟨g, j, none⟩ := by
  unfold Addr.add; split
  · subst_vars; rfl
  · simp
/-- A literal's row, just laid. -/
theorem Bs.lit (w : World) (T : TypeId) (fz : Nat × Nat) (cs : Array Value) (bs : List (BitVec 8)) (h : cs.toList = bs.map v8) (n : Nat) (hn : bs.length = n) :
    Bs (w.alloc (.cells cs T fz)) (w.heap.size + 1) (some ⟨w.heap.size, 0, none⟩) n bs := by
  refine ⟨hn, fun _ => ⟨_, rfl, Nat.lt_succ_self _, fun j hj => ?_⟩⟩
  rw [add_row]
  have hj' : j < bs.length := by omega
  have : cs[j]? = some (v8 (bs.getD j 0#8)) := by
    rw [← Array.getElem?_toList, h, List.getElem?_map, List.getElem?_eq_getElem hj', List.getD_eq_getElem?_getD, List.getElem?_eq_getElem hj']
    rfl
  have hh : (w.alloc (.cells cs T fz)).heap[w.heap.size]? = some (.cells cs T fz) := by
    show (w.heap.push _)[w.heap.size]? = _
    simp
  unfold World.cell?
  rw [hh]
  exact this

theorem cell_lt {w : World} {p : Addr} {v : Value} (h : w.cell? p = some v) : p.block < w.heap.size := by
  rcases Nat.lt_or_ge p.block w.heap.size with hl | hl
  · exact hl
  · unfold World.cell? at h
    rw [Array.getElem?_eq_none hl] at h
    cases h
/-- What is told of a slice of bytes that came in. -/
theorem Bs.of_row {w : World} {a : Option Addr} {len cap : Nat} {zs : List Int}
    (h : (a = none ∧ len = 0 ∧ cap = 0 ∧ zs = []) ∨ ∃ x, a = some x ∧ len ≤ cap ∧ cap ≤ maxLen ∧ zs.length = cap ∧ (∀ i, i < zs.length → w.cell? (x.add i) = some (.int .u8 (zs.getD i 0))) ∧ ∀ n ∈ zs, (Lit.int .u8 n).wf = true) :
    ∃ bs, Bs w w.heap.size a len bs ∧ len ≤ maxLen := by
  rcases h with ⟨rfl, rfl, rfl, rfl⟩ | ⟨x, rfl, hl, hm, hz, hc, hw⟩
  · exact ⟨[], Bs.nil_, Nat.zero_le _⟩
  · refine ⟨(zs.take len).map fun z => BitVec.ofNat 8 z.toNat, ⟨by simp; omega, fun hn => ⟨x, rfl, ?_, fun j hj => ?_⟩⟩, by omega⟩
    · have := cell_lt (hc 0 (by omega))
      rwa [add_block] at this
    · have hj' : j < zs.length := by omega
      rw [hc j hj']
      have hmem : zs.getD j 0 ∈ zs := by
        rw [List.getD_eq_getElem?_getD, List.getElem?_eq_getElem hj']; exact List.getElem_mem hj'
      have hwf := hw _ hmem
      have hb : 0 ≤ zs.getD j 0 ∧ zs.getD j 0 < 256 := by
        simp [Lit.wf, IntKind.min, IntKind.max, IntKind.bits, IntKind.signed] at hwf
        simp
        omega
      have e : ((zs.take len).map fun z => BitVec.ofNat 8 z.toNat).getD j 0#8 = BitVec.ofNat 8 (zs.getD j 0).toNat := by
        rw [List.getD_eq_getElem?_getD, List.getElem?_map, List.getElem?_take, if_pos hj, List.getD_eq_getElem?_getD, List.getElem?_eq_getElem hj']
        rfl
      rw [e]
      congr 2
      rw [BitVec.toNat_ofNat, Nat.mod_eq_of_lt (by omega)]
      omega
theorem u32_of {z : Int} (h : (Lit.int .u32 z).wf = true) : ∃ r : BitVec 32, z = (r.toNat : Int) := by
  simp [Lit.wf, IntKind.min, IntKind.max, IntKind.bits, IntKind.signed] at h
  exact ⟨BitVec.ofNat 32 z.toNat, by rw [BitVec.toNat_ofNat, Nat.mod_eq_of_lt (by omega)]; omega⟩
theorem u16_of {z : Int} (h : (Lit.int .u16 z).wf = true) : ∃ r : BitVec 16, z = (r.toNat : Int) := by
  simp [Lit.wf, IntKind.min, IntKind.max, IntKind.bits, IntKind.signed] at h
  exact ⟨BitVec.ofNat 16 z.toNat, by rw [BitVec.toNat_ofNat, Nat.mod_eq_of_lt (by omega)]; omega⟩
theorem u8_of {z : Int} (h : (Lit.int .u8 z).wf = true) : ∃ r : BitVec 8, z = (r.toNat : Int) := by
  simp [Lit.wf, IntKind.min, IntKind.max, IntKind.bits, IntKind.signed] at h
  exact ⟨BitVec.ofNat 8 z.toNat, by rw [BitVec.toNat_ofNat, Nat.mod_eq_of_lt (by omega)]; omega⟩

theorem take_snoc8 (bs : List (BitVec 8)) (k : Nat) (h : k < bs.length) : bs.take (k + 1) = bs.take k ++ [bs.getD k 0#8] := by
  rw [List.take_succ_eq_append_getElem h, List.getD_eq_getElem?_getD, List.getElem?_eq_getElem h]; rfl
end Go.Proofs.Ytjpbndpfbdfhjaa
end

section
namespace Go.Proofs.Ytjpbndpfbdfhjaa
open Go.RowKit

/-- Block g is just the cells cs, of element type t; none is frozen. -/
def Cel (w : World) (g : Nat) (t : TypeId) (cs : List Value) : Prop := w.heap[g]? = some (.cells cs.toArray t (0, 0))

/-- What was there stays as it was, but for the blocks l. -/
structure Frm (l : List Nat) (w w' : World) : Prop where
  os : w'.os = w.os
  tape : w'.tape = w.tape
  output : w'.output = w.output
  size : w.heap.size ≤ w'.heap.size
  block : ∀ k, k < w.heap.size → k ∉ l → w'.heap[k]? = w.heap[k]?

namespace Frm
variable {l l' : List Nat} {w w' w1 w2 : World}
theorem refl (l : List Nat) (w : World) : Frm l w w := ⟨rfl, rfl, rfl, Nat.le_refl _, fun _ _ _ => rfl⟩
theorem then_ (h : Frm l w w1) (h2 : Frm l' w1 w2) (hs : ∀ k, k ∈ l' → k < w.heap.size → k ∈ l) : Frm l w w2 :=
  ⟨h2.os.trans h.os, h2.tape.trans h.tape, h2.output.trans h.output, Nat.le_trans h.size h2.size, fun k hk hn => by
    rw [h2.block k (Nat.lt_of_lt_of_le hk h.size) (fun hm => hn (hs k hm hk)), h.block k hk hn]⟩
theorem trans (h : Frm l w w1) (h2 : Frm l w1 w2) : Frm l w w2 := h.then_ h2 fun _ hk _ => hk
theorem mono (h : Frm l w w') (hs : ∀ k, k ∈ l → k < w.heap.size → k ∈ l') : Frm l' w w' :=
  ⟨h.os, h.tape, h.output, h.size, fun k hk hn => h.block k hk fun hm => hn (hs k hm hk)⟩
theorem below (h : Frm l w w') {B : Nat} (hB : B ≤ w.heap.size) (hl : ∀ k, k ∈ l → B ≤ k) : Below B w w' :=
  ⟨h.os, h.tape, h.output, h.size, fun k hk => h.block k (Nat.lt_of_lt_of_le hk hB) fun hm => absurd (hl k hm) (by omega)⟩
theorem of_below (h : Below w.heap.size w w') : Frm l w w' := ⟨h.os, h.tape, h.output, h.size, fun k hk _ => h.block k hk⟩
theorem alloc (h : Frm l w w') (o : Obj) : Frm l w (w'.alloc o) := h.trans (of_below ((Below.refl _ _).alloc (Nat.le_refl _) _))
theorem drew (h : Frm l w w') : Frm l w w'.drew := ⟨h.os, h.tape, h.output, h.size, h.block⟩
theorem set (h : Frm l w w') {p : Addr} (hp : p.block ∈ l) (u : Value) : Frm l w (w'.setCell p u) :=
  h.trans ⟨rfl, rfl, rfl, by simp [World.setCell], fun k _ hn => Below.heap_setCell _ _ _ _ (fun e => hn (e ▸ hp))⟩
theorem setNew (h : Frm l w w') {p : Addr} (hp : w.heap.size ≤ p.block) (u : Value) : Frm l w (w'.setCell p u) :=
  h.then_ (l' := [p.block]) ⟨rfl, rfl, rfl, by simp [World.setCell], fun k _ hn => Below.heap_setCell _ _ _ _ (fun e => hn (by simp [e]))⟩ (by intro k hk hl; simp at hk; omega)
theorem grown (h : Frm l w w') {row : Option Nat} (hg : w'.grownBy w1 row) (hr : ∀ g, row = some g → g < w.heap.size → g ∈ l) : Frm l w w1 :=
  h.then_ (l' := row.toList) ⟨hg.os, hg.tape, hg.output, hg.size, fun k hk hn => hg.block k hk (fun e => hn (by simp [← e]))⟩ (by intro k hk hl; exact hr k (by simpa using hk) hl)
end Frm

namespace Cel
variable {w w' : World} {g : Nat} {t : TypeId} {cs : List Value}
theorem lt (h : Cel w g t cs) : g < w.heap.size := (Array.getElem?_eq_some_iff.1 h).1
theorem cell (h : Cel w g t cs) (i : Nat) : w.cell? ⟨g, i, none⟩ = cs[i]? := by
  rw [cell_of_row w g i cs.toArray t (0, 0) h]; simp
theorem free (h : Cel w g t cs) (i : Nat) : w.frozen? ⟨g, i, none⟩ = false := by
  unfold Cel at h
  simp [World.frozen?, h]
theorem new (w : World) (t : TypeId) (cs : List Value) : Cel (w.alloc (.cells cs.toArray t)) w.heap.size t cs := heap_alloc_new w _
theorem drew (h : Cel w g t cs) : Cel w.drew g t cs := h
theorem alloc (h : Cel w g t cs) (o : Obj) : Cel (w.alloc o) g t cs := (Below.heap_alloc w o g h.lt).trans h
theorem set (h : Cel w g t cs) (i : Nat) (u : Value) : Cel (w.setCell ⟨g, i, none⟩ u) g t (cs.set i u) := by
  unfold Cel at h ⊢
  simp [World.setCell, Array.getElem?_modify, h]
theorem far (h : Cel w g t cs) {p : Addr} (hp : g ≠ p.block) (u : Value) : Cel (w.setCell p u) g t cs := (Below.heap_setCell w p u g hp).trans h
theorem below {B : Nat} (h : Cel w g t cs) (hb : Below B w w') (hg : g < B) : Cel w' g t cs := (hb.block g hg).trans h
theorem frm {l : List Nat} (h : Cel w g t cs) (hf : Frm l w w') (hg : g ∉ l) : Cel w' g t cs := (hf.block g h.lt hg).trans h
theorem ne {g' : Nat} {t' : TypeId} {cs' : List Value} (h : Cel w g t cs) (h' : Cel w g' t' cs') (hne : t ≠ t') : g ≠ g' := by
  rintro rfl
  unfold Cel at h h'
  rw [h] at h'
  injection h' with h'
  injection h' with _ ht
  exact hne ht
end Cel

/-- The slice value '.slice A n c' holds the bytes bs, and lies in a block of which p holds. -/
def Bp (w : World) (p : Nat → Prop) (A : Option Addr) (n : Nat) (bs : List (BitVec 8)) : Prop :=
  bs.length = n ∧ (0 < n → ∃ ad, A = some ad ∧ p ad.block ∧ ∀ j, j < n → w.cell? (ad.add j) = some (v8 (bs.getD j 0#8)))

theorem Bs.bp {w : World} {B n : Nat} {A : Option Addr} {bs : List (BitVec 8)} (h : Bs w B A n bs) : Bp w (· < B) A n bs := h

theorem add_add (a : Addr) (i j : Nat) : (a.add i).add j = a.add (i + j) := by
  unfold Addr.add
  by_cases hi : i = 0 <;> by_cases hj : j = 0 <;> simp [hi, hj, Nat.add_assoc]

namespace Bp
variable {w w' : World} {p q : Nat → Prop} {A : Option Addr} {n : Nat} {bs : List (BitVec 8)}
theorem nil_ : Bp w p A 0 [] := ⟨rfl, fun h => absurd h (by omega)⟩
theorem len (h : Bp w p A n bs) : bs.length = n := h.1
theorem at_ (h : Bp w p A n bs) {k : Nat} (hk : k < n) : ∃ ad, A = some ad ∧ p ad.block ∧ w.cell? (ad.add k) = some (v8 (bs.getD k 0#8)) := by
  obtain ⟨ad, e, hb, hc⟩ := h.2 (by omega)
  exact ⟨ad, e, hb, hc k hk⟩
theorem keep (h : Bp w p A n bs) (hk : ∀ k, p k → k < w.heap.size → w'.heap[k]? = w.heap[k]?) : Bp w' p A n bs :=
  ⟨h.1, fun hn => by
    obtain ⟨ad, e, hb, hc⟩ := h.2 hn
    have hlt : ad.block < w.heap.size := by have := cell_lt (hc 0 hn); rwa [add_block] at this
    exact ⟨ad, e, hb, fun j hj => (World.cell?_of_block (by rw [add_block]; exact hk _ hb hlt)).trans (hc j hj)⟩⟩
theorem mono (h : Bp w p A n bs) (hpq : ∀ k, p k → k < w.heap.size → q k) : Bp w q A n bs :=
  ⟨h.1, fun hn => by
    obtain ⟨ad, e, hb, hc⟩ := h.2 hn
    have hlt : ad.block < w.heap.size := by have := cell_lt (hc 0 hn); rwa [add_block] at this
    exact ⟨ad, e, hpq _ hb hlt, hc⟩⟩
theorem low (h : Bp w p A n bs) : Bs w w.heap.size A n bs := h.mono fun _ _ hk => hk
theorem frm {l : List Nat} (h : Bp w p A n bs) (hf : Frm l w w') (hp : ∀ k, p k → k ∉ l) : Bp w' p A n bs := h.keep fun k hk hl => hf.block k hl (hp k hk)
theorem below {B : Nat} (h : Bp w p A n bs) (hb : Below B w w') (hp : ∀ k, p k → k < B) : Bp w' p A n bs := h.keep fun k hk _ => hb.block k (hp k hk)
theorem take (h : Bp w p A n bs) {k : Nat} (hk : k ≤ n) : Bp w p A k (bs.take k) := by
  refine ⟨by rw [List.length_take, h.1]; omega, fun hn => ?_⟩
  obtain ⟨ad, rfl, hb, hc⟩ := h.2 (by omega)
  refine ⟨ad, rfl, hb, fun j hj => ?_⟩
  rw [hc j (by omega), List.getD_eq_getElem?_getD, List.getD_eq_getElem?_getD, List.getElem?_take, if_pos hj]
theorem cut (h : Bp w p A n bs) {k cap : Nat} (hk : k ≤ n) (hc : n ≤ cap) : Bp w p (if cap = k then A else A.map (·.add k)) (n - k) (bs.drop k) := by
  refine ⟨by rw [List.length_drop, h.1], fun hn => ?_⟩
  obtain ⟨ad, rfl, hb, hcell⟩ := h.2 (by omega)
  rw [if_neg (by omega)]
  refine ⟨ad.add k, rfl, by rw [add_block]; exact hb, fun j hj => ?_⟩
  rw [add_add, hcell _ (by omega), List.getD_eq_getElem?_getD, List.getD_eq_getElem?_getD, List.getElem?_drop]
theorem of_own {base : Nat} {e : TypeId} {c : Nat} {us : List Value} (h : w.ownsRow base e 1 (.slice A n c) n us) (hu : us = bs.map v8) : Bp w (fun k => (Value.slice A n c).ownBlock = some k ∧ base ≤ k) A n bs := by
  subst hu
  have hl : bs.length = n := by simpa using h.1
  refine ⟨hl, fun hn => ?_⟩
  obtain ⟨g, cap, hv, hbg, hlt⟩ := h.form hn
  have hA : A = some ⟨g, 0, none⟩ := by injection hv
  subst hA
  refine ⟨_, rfl, ⟨rfl, hbg⟩, fun j hj => h.cells (g := g) rfl j _ ?_⟩
  rw [List.getElem?_map, List.getElem?_eq_getElem (by omega), List.getD_eq_getElem?_getD, List.getElem?_eq_getElem (by omega)]
  rfl
end Bp

/-- Bytes as a Go string. -/
def str (bs : List (BitVec 8)) : ByteArray := ⟨(bs.map UInt8.ofBitVec).toArray⟩

theorem push_all (ns : List (BitVec 8)) : ∀ s : ByteArray, (ns.map fun b => (b.toNat : Int)).foldl (fun r n => r.push (UInt8.ofNat n.toNat)) s = ⟨(s.data.toList ++ ns.map UInt8.ofBitVec).toArray⟩ := by
  induction ns with
  | nil => intro s; simp
  | cons b ns ih =>
    intro s
    rw [List.map_cons, List.foldl_cons, ih]
    have : UInt8.ofNat ((b.toNat : Int).toNat) = UInt8.ofBitVec b := by
      rw [Int.toNat_natCast]
      apply UInt8.toNat_inj.1
      rw [UInt8.toNat_ofNat', UInt8.toNat_ofBitVec]
      exact Nat.mod_eq_of_lt b.isLt
    rw [this]
    simp [ByteArray.push]

theorem Bp.string {P : Program} {w : World} {p : Nat → Prop} {A : Option Addr} {n : Nat} {bs : List (BitVec 8)} (h : Bp w p A n bs) (c : Nat) {src dst e : TypeId}
    (hs : P.underlying src = some (.slice e)) (he : P.underlying e = some (.int .u8)) (hd : P.underlying dst = some .string) :
    (convert src dst (.slice A n c)).run P w = .ok (.string (str bs)) w := by
  rw [run_convert_bytes_string w src dst e A n c hs he hd]
  rcases A with _ | ad
  · have hn : n = 0 := by
      rcases Nat.eq_zero_or_pos n with h0 | h0
      · exact h0
      · obtain ⟨ad, h', _⟩ := h.2 h0; cases h'
    subst hn
    have hb : bs = [] := List.eq_nil_of_length_eq_zero h.1
    subst hb
    rw [← run_convert_bytes_string w src dst e none 0 c hs he hd, Lib.run_convert_nil_bytes w src dst e c hs he hd]
    rfl
  · have hl : (loadCells ad n).run P w = .ok ((bs.map fun b => (b.toNat : Int)).map (Value.int .u8)).toArray w := by
      have hx := run_firstCells_some (P := P) w 1 n ad n c (bs.map v8) (by simp [h.1]) (by
        intro j u hu
        have hj : j < bs.length := by
          rcases Nat.lt_or_ge j bs.length with h' | h'
          · exact h'
          · rw [List.getElem?_eq_none (by simpa using h')] at hu; cases hu
        obtain ⟨ad', h', _, hc⟩ := h.2 (by rw [← h.1]; omega)
        injection h' with h'
        subst h'
        rw [hc j (by rw [← h.1]; exact hj)]
        rw [List.getElem?_map, List.getElem?_eq_getElem hj] at hu
        rw [List.getD_eq_getElem?_getD, List.getElem?_eq_getElem hj]
        exact hu)
      have e : (bs.map fun b => (b.toNat : Int)).map (Value.int .u8) = bs.map v8 := by rw [List.map_map]; rfl
      rw [e]
      simpa [Builtin.firstCells] using hx
    rw [run_bytesToString w ad n c _ hl, push_all]
    rfl

section
variable {P : Program} (w : World)
theorem run_equalIn_fn_nil (d : Nat) {t : TypeId} {ps rs : Array TypeId} {vr : Bool} (h : P.underlying t = some (.func ps rs vr)) (fn : Fn) (a b : Array Value) : (Op.equalIn (d + 1) t (.func fn a b) .nilFunc).run P w = .ok false w := by
  simp [Op.equalIn, run_underlying h]
theorem run_equalIn_nil_fn (d : Nat) {t : TypeId} {ps rs : Array TypeId} {vr : Bool} (h : P.underlying t = some (.func ps rs vr)) : (Op.equalIn (d + 1) t .nilFunc .nilFunc).run P w = .ok true w := by
  simp [Op.equalIn, run_underlying h]
/-- 'f == nil', of a function value. -/
theorem run_eql_fn_nil {t : TypeId} {ps rs : Array TypeId} {vr : Bool} (h : P.underlying t = some (.func ps rs vr)) (fn : Fn) (a b : Array Value) : (binOp .eql t (.func fn a b) .nilFunc).run P w = .ok (.bool false) w := by
  simp only [binOp]
  simp [Op.equal, Op.maxDepth, run_equalIn_fn_nil w 9999 h fn a b]
theorem run_eql_nil_nil_fn {t : TypeId} {ps rs : Array TypeId} {vr : Bool} (h : P.underlying t = some (.func ps rs vr)) : (binOp .eql t .nilFunc .nilFunc).run P w = .ok (.bool true) w := by
  simp only [binOp]
  simp [Op.equal, Op.maxDepth, run_equalIn_nil_fn w 9999 h]
end

/-- The slice value '.slice A n c' holds the values us, one cell each, and lies in a block of which p holds. -/
def Vp (w : World) (p : Nat → Prop) (A : Option Addr) (n : Nat) (us : List Value) : Prop :=
  us.length = n ∧ (0 < n → ∃ ad, A = some ad ∧ p ad.block ∧ ∀ j u, us[j]? = some u → w.cell? (ad.add j) = some u)
namespace Vp
variable {w w' : World} {p q : Nat → Prop} {A : Option Addr} {n : Nat} {us : List Value}
theorem len (h : Vp w p A n us) : us.length = n := h.1
theorem at_ (h : Vp w p A n us) {k : Nat} (hk : k < n) : ∃ ad u, A = some ad ∧ p ad.block ∧ us[k]? = some u ∧ w.cell? (ad.add k) = some u := by
  obtain ⟨ad, e, hb, hc⟩ := h.2 (by omega)
  have hl : k < us.length := by rw [h.1]; exact hk
  exact ⟨ad, us[k], e, hb, List.getElem?_eq_getElem hl, hc k _ (List.getElem?_eq_getElem hl)⟩
theorem keep (h : Vp w p A n us) (hk : ∀ k, p k → k < w.heap.size → w'.heap[k]? = w.heap[k]?) : Vp w' p A n us :=
  ⟨h.1, fun hn => by
    obtain ⟨ad, e, hb, hc⟩ := h.2 hn
    have h0 : 0 < us.length := by rw [h.1]; exact hn
    have hlt : ad.block < w.heap.size := by have := cell_lt (hc 0 _ (List.getElem?_eq_getElem h0)); rwa [add_block] at this
    exact ⟨ad, e, hb, fun j u hu => (World.cell?_of_block (by rw [add_block]; exact hk _ hb hlt)).trans (hc j u hu)⟩⟩
theorem frm {l : List Nat} (h : Vp w p A n us) (hf : Frm l w w') (hp : ∀ k, p k → k ∉ l) : Vp w' p A n us := h.keep fun k hk hl => hf.block k hl (hp k hk)
theorem below {B : Nat} (h : Vp w p A n us) (hb : Below B w w') (hp : ∀ k, p k → k < B) : Vp w' p A n us := h.keep fun k hk _ => hb.block k (hp k hk)
end Vp

/-- What is told of a slice of integers that came in. -/
theorem Vp.of_row {w : World} {k : IntKind} {a : Option Addr} {len cap : Nat} {zs : List Int}
    (h : (a = none ∧ len = 0 ∧ cap = 0 ∧ zs = []) ∨ ∃ x, a = some x ∧ len ≤ cap ∧ cap ≤ maxLen ∧ zs.length = cap ∧ (∀ i, i < zs.length → w.cell? (x.add i) = some (.int k (zs.getD i 0))) ∧ ∀ n ∈ zs, (Lit.int k n).wf = true) :
    ∃ ys : List Int, Vp w (· < w.heap.size) a len (ys.map (Value.int k)) ∧ len ≤ cap ∧ cap ≤ maxLen ∧ ∀ n ∈ ys, (Lit.int k n).wf = true := by
  rcases h with ⟨rfl, rfl, rfl, rfl⟩ | ⟨x, rfl, hl, hm, hz, hc, hw⟩
  · exact ⟨[], ⟨rfl, fun h => absurd h (by omega)⟩, Nat.le_refl _, Nat.zero_le _, by simp⟩
  · refine ⟨zs.take len, ⟨by simp; omega, fun hn => ⟨x, rfl, ?_, fun j u hu => ?_⟩⟩, hl, hm, fun n hn => hw n (List.mem_of_mem_take hn)⟩
    · have := cell_lt (hc 0 (by omega))
      rwa [add_block] at this
    · rw [List.getElem?_map, List.getElem?_take] at hu
      split at hu
      · rename_i hj
        have hj' : j < zs.length := by omega
        rw [List.getElem?_eq_getElem hj'] at hu
        rw [hc j hj', List.getD_eq_getElem?_getD, List.getElem?_eq_getElem hj']
        exact hu
      · cases hu
theorem row_cap {w : World} {k : IntKind} {a : Option Addr} {len cap : Nat} {zs : List Int}
    (h : (a = none ∧ len = 0 ∧ cap = 0 ∧ zs = []) ∨ ∃ x, a = some x ∧ len ≤ cap ∧ cap ≤ maxLen ∧ zs.length = cap ∧ (∀ i, i < zs.length → w.cell? (x.add i) = some (.int k (zs.getD i 0))) ∧ ∀ n ∈ zs, (Lit.int k n).wf = true) : len ≤ cap ∧ cap ≤ maxLen := by
  rcases h with ⟨rfl, rfl, rfl, rfl⟩ | ⟨x, rfl, hl, hm, _⟩
  · exact ⟨Nat.le_refl _, Nat.zero_le _⟩
  · exact ⟨hl, hm⟩
theorem u64_of {z : Int} (h : (Lit.int .u64 z).wf = true) : ∃ r : BitVec 64, z = (r.toNat : Int) := by
  simp [Lit.wf, IntKind.min, IntKind.max, IntKind.bits, IntKind.signed] at h
  exact ⟨BitVec.ofNat 64 z.toNat, by rw [BitVec.toNat_ofNat, Nat.mod_eq_of_lt (by omega)]; omega⟩
end Go.Proofs.Ytjpbndpfbdfhjaa
end

section
namespace Go.Proofs.Ytjpbndpfbdfhjaa
open Go.RowKit

/-- t is the type of slices of e, and e is a kind of bytes. -/
structure ByteRow (P : Program) (t e : TypeId) : Prop where
  und : P.underlying t = some (.slice e)
  info : ∃ i, P.info? e = some i ∧ i.zero = some (.int .u8 0) ∧ i.size = 1 ∧ i.bytes = 1

theorem ByteRow.mk' {P : Program} {t e : TypeId} (h : P.underlying t = some (.slice e)) (k : (P.info? e).map (fun i => (i.zero, i.size, i.bytes)) = some (some (.int .u8 0), 1, 1)) : ByteRow P t e := by
  refine ⟨h, ?_⟩
  cases hi : P.info? e with
  | none => rw [hi] at k; cases k
  | some i =>
    rw [hi] at k
    simp only [Option.map_some, Option.some.injEq, Prod.mk.injEq] at k
    exact ⟨i, rfl, k.1, k.2.1, k.2.2⟩

section
variable {P : Program} (w : World)

theorem run_append_none (base : Nat) (t ty e : TypeId) (hT : ByteRow P t e) (v : Value) (n : Nat) (us : List Value) (hown : w.ownsRow base e 1 v n us) (c : Nat) :
    (Builtin.append_ #[t, t] ty #[v, .slice none 0 c]).run P w = .ok v w := by
  obtain ⟨ht, i, hi, _, hsz, _⟩ := hT
  rcases hown.2 with ⟨rfl, rfl⟩ | ⟨g, cap, cur, rfl, _, _, hnc, _⟩
  · simp [Builtin.append_, run_underlying ht, sizeOf, typeInfo, hi, Builtin.lenOf, Builtin.firstCells]
  · simp [Builtin.append_, run_underlying ht, sizeOf, typeInfo, hi, Builtin.lenOf, Builtin.firstCells, hnc, storeCells]

theorem own_slice {base n : Nat} {e : TypeId} {v : Value} {us : List Value} (h : w.ownsRow base e 1 v n us) : ∃ A c, v = .slice A n c := by
  rcases h.2 with ⟨rfl, rfl⟩ | ⟨g, cap, cur, rfl, _⟩
  · exact ⟨_, _, rfl⟩
  · exact ⟨_, _, rfl⟩

theorem run_append_bs (base : Nat) (t ty e : TypeId) (hT : ByteRow P t e) (v : Value) (n : Nat) (bs : List (BitVec 8)) (hown : w.ownsRow base e 1 v n (bs.map v8))
    (B : Nat) (A : Option Addr) (m c : Nat) (cs : List (BitVec 8)) (hr : Bs w B A m cs) (h47 : n + m ≤ 140737488355328) (hbase : base ≤ w.heap.size) :
    ∃ A' c' w', (Builtin.append_ #[t, t] ty #[v, .slice A m c]).run P w = .ok (.slice A' (n + m) c') w' ∧ w'.ownsRow base e 1 (.slice A' (n + m) c') (n + m) ((bs ++ cs).map v8) ∧ w.grownBy w' v.ownBlock ∧
      ((Value.slice A' (n + m) c').ownBlock = v.ownBlock ∨ (Value.slice A' (n + m) c').ownBlock = some w.heap.size) := by
  obtain ⟨ht, i, hi, hz, hsz, hby⟩ := id hT
  rcases A with _ | ad
  · have hm : m = 0 := by
      rcases Nat.eq_zero_or_pos m with h0 | h0
      · exact h0
      · obtain ⟨ad, h, _⟩ := hr.2 h0
        cases h
    subst hm
    have hn : cs = [] := List.eq_nil_of_length_eq_zero hr.1
    subst hn
    obtain ⟨A', c', rfl⟩ := own_slice w hown
    exact ⟨A', c', w, run_append_none w base t ty e hT _ n _ hown c, by simpa using hown, World.grownBy.refl w _, .inl rfl⟩
  · have hcells : ∀ j u, (cs.map v8)[j]? = some u → w.cell? (ad.add j) = some u := by
      intro j u hu
      have hj : j < cs.length := by
        rcases Nat.lt_or_ge j cs.length with h | h
        · exact h
        · rw [List.getElem?_eq_none (by simpa using h)] at hu; cases hu
      obtain ⟨ad', h, _, hc⟩ := hr.2 (by rw [← hr.1]; omega)
      injection h with h
      subst h
      rw [hc j (by rw [← hr.1]; exact hj)]
      rw [List.getElem?_map, List.getElem?_eq_getElem hj] at hu
      rw [List.getD_eq_getElem?_getD, List.getElem?_eq_getElem hj]
      exact hu
    obtain ⟨v', w', hrun, h2, h3, _, h5⟩ := run_append_own_at (P := P) w base t ty e i (.int .u8 0) 1 1 ht hi hz hsz hby rfl (by decide) v n (bs.map v8) hown ad m c (cs.map v8) (by simp [hr.1]) hcells
      (by intro u hu; obtain ⟨x, _, rfl⟩ := List.mem_map.1 hu; rfl) (by unfold maxLen; omega) (by omega) hbase
    obtain ⟨A', c', rfl⟩ := own_slice w' h2
    exact ⟨A', c', w', hrun, by rw [List.map_append]; exact h2, h3, h5⟩

theorem wp_append_bs {o : Oper} {a : Act} {K : Act → World → Prop} {Q : Exit → Act → World → Prop} (s x : Operand) (t : TypeId)
    (ho : o.op = .call { callee := .builtin .append, args := #[s, x], argTypes := #[t, t] }) (base : Nat) (e : TypeId) (hT : ByteRow P t e)
    (v : Value) (n : Nat) (bs : List (BitVec 8)) (hs : a.eval s = v) (hown : w.ownsRow base e 1 v n (bs.map v8))
    (B : Nat) (A : Option Addr) (m c : Nat) (cs : List (BitVec 8)) (hx : a.eval x = .slice A m c) (hr : Bs w B A m cs) (h47 : n + m ≤ 140737488355328) (hbase : base ≤ w.heap.size)
    (h : ∀ A' c' w', w'.ownsRow base e 1 (.slice A' (n + m) c') (n + m) ((bs ++ cs).map v8) → w.grownBy w' v.ownBlock → ((Value.slice A' (n + m) c').ownBlock = v.ownBlock ∨ (Value.slice A' (n + m) c').ownBlock = some w.heap.size) → K (a.put o.dst (.slice A' (n + m) c')) w') : o.wp P a w K Q := by
  obtain ⟨A', c', w', hrun, h2, h3, h4⟩ := run_append_bs (P := P) w base t o.type e hT v n bs hown B A m c cs hr h47 hbase
  unfold Oper.wp execOp
  simp only [ho, resolve, invoke, builtin, Sem.run_bind, Sem.run_pure, Result.andThen_ok, List.map_toArray, List.map_cons, List.map_nil, hs, hx, hrun]
  exact h A' c' w' h2 h3 h4

theorem wpList_append_bs {ops : Array Oper} {rest : List Oper} {o : Oper} {a : Act} {Q : Exit → Act → World → Prop} (hgd : o.guard = none) (s x : Operand) (t : TypeId)
    (ho : o.op = .call { callee := .builtin .append, args := #[s, x], argTypes := #[t, t] }) (base : Nat) (e : TypeId) (hT : ByteRow P t e)
    (v : Value) (n : Nat) (bs : List (BitVec 8)) (hs : a.eval s = v) (hown : w.ownsRow base e 1 v n (bs.map v8))
    (B : Nat) (A : Option Addr) (m c : Nat) (cs : List (BitVec 8)) (hx : a.eval x = .slice A m c) (hr : Bs w B A m cs) (n' : Nat) (bs' : List (BitVec 8)) (hn' : n + m = n') (hbs' : bs ++ cs = bs') (h47 : n' ≤ 140737488355328) (hbase : base ≤ w.heap.size)
    (h : ∀ A' c' w', w'.ownsRow base e 1 (.slice A' n' c') n' (bs'.map v8) → w.grownBy w' v.ownBlock → ((Value.slice A' n' c').ownBlock = v.ownBlock ∨ (Value.slice A' n' c').ownBlock = some w.heap.size) → wpList P ops Q rest (a.put o.dst (.slice A' n' c')) w') : wpList P ops Q (o :: rest) a w := by
  subst hn' hbs'
  exact wpList_plain hgd fun _ hK => wp_append_bs w s x t ho base e hT v n bs hs hown B A m c cs hx hr h47 hbase fun A' c' w' h2 h3 h4 => hK _ _ (h A' c' w' h2 h3 h4)

theorem made_bytes (k : Nat) : madeCells (Value.cells (.int .u8 0)) (k * 1) = (List.replicate k (v8 0#8)).toArray := by
  apply Array.ext
  · simp [size_madeCells]
  · intro i h1 h2
    simp [madeCells, Value.cells, Nat.mod_one]
/-- make([]byte, k). -/
theorem run_make_bytes (t e : TypeId) (hT : ByteRow P t e) (kl kc : IntKind) (k : Nat) (hk : k ≤ 140737488355328) :
    (Instr.makeSlice t (.int kl (k : Int)) (.int kc (k : Int))).run P w = .ok (.slice (some ⟨w.heap.size, 0, none⟩) k k) (w.alloc (.cells (List.replicate k (v8 0#8)).toArray e)) := by
  obtain ⟨ht, i, hi, hz, hsz, hby⟩ := hT
  have h := run_make (P := P) w t e i (.int .u8 0) ht hi hz kl kc k k (by omega) (Int.le_refl _) (by rw [hby]; omega) (by omega)
  simp only [Int.toNat_natCast] at h
  rw [h, hsz, made_bytes]

/-- 'append([]byte{}, x...)': a copy, in a row of the call's own. -/
theorem wpList_append_new {ops : Array Oper} {rest : List Oper} {o : Oper} {a : Act} {Q : Exit → Act → World → Prop} (hgd : o.guard = none) (s x : Operand) (t : TypeId)
    (ho : o.op = .call { callee := .builtin .append, args := #[s, x], argTypes := #[t, t] }) (e : TypeId) (hT : ByteRow P t e)
    (hs : a.eval s = .slice (some ⟨w.heap.size, 0, none⟩) 0 0) (B : Nat) (A : Option Addr) (m c : Nat) (cs : List (BitVec 8)) (hx : a.eval x = .slice A m c) (hr : Bs w B A m cs) (hB : B ≤ w.heap.size) (h47 : m ≤ 140737488355328)
    (h : ∀ A' c' w', w'.ownsRow w.heap.size e 1 (.slice A' m c') m (cs.map v8) → Below w.heap.size w w' → wpList P ops Q rest (a.put o.dst (.slice A' m c')) w') : wpList P ops Q (o :: rest) a (w.alloc (.cells #[] e)) := by
  have o0 : (w.alloc (.cells #[] e)).ownsRow w.heap.size e 1 (.slice (some ⟨w.heap.size, 0, none⟩) 0 0) 0 (([] : List (BitVec 8)).map v8) :=
    World.ownsRow_lit w #[] 0 (Nat.le_refl _) (Nat.zero_le _) rfl
  refine wpList_append_bs _ hgd s x t ho w.heap.size e hT _ 0 [] hs o0 B A m c cs hx (hr.alloc hB _) m cs (Nat.zero_add _) (List.nil_append _) h47 (by simp) fun A' c' w' h1 h2 _ => h A' c' w' h1 ?_
  exact Below.grown ((Below.refl _ _).alloc (Nat.le_refl _) _) h2 (by simp) (by intro g hg; simp [Value.ownBlock] at hg; omega)
end
end Go.Proofs.Ytjpbndpfbdfhjaa
end

section
namespace Go.Proofs.Ytjpbndpfbdfhjaa
open Go.RowKit
set_option linter.unusedVariables false

/-- Bytes that lie in a block of bytes. -/
def By (w : World) (A : Option Addr) (n : Nat) (bs : List (BitVec 8)) : Prop :=
  bs.length = n ∧ (0 < n → ∃ ad, A = some ad ∧ (∃ cs fz, w.heap[ad.block]? = some (.cells cs 5 fz)) ∧ ∀ j, j < n → w.cell? (ad.add j) = some (v8 (bs.getD j 0#8)))
namespace By
variable {w w' : World} {A : Option Addr} {n : Nat} {bs : List (BitVec 8)}
theorem len (h : By w A n bs) : bs.length = n := h.1
theorem keep (h : By w A n bs) (hk : ∀ (k : Nat) cs fz, w.heap[k]? = some (Obj.cells cs 5 fz) → w'.heap[k]? = w.heap[k]?) : By w' A n bs :=
  ⟨h.1, fun hn => by
    obtain ⟨ad, e, ⟨cs, fz, hb⟩, hc⟩ := h.2 hn
    have h1 := hk _ _ _ hb
    exact ⟨ad, e, ⟨cs, fz, h1.trans hb⟩, fun j hj => (World.cell?_of_block (by rw [add_block]; exact h1)).trans (hc j hj)⟩⟩
theorem rd (h : By w A n bs) : Bs w w.heap.size A n bs :=
  ⟨h.1, fun hn => by
    obtain ⟨ad, e, ⟨cs, fz, hb⟩, hc⟩ := h.2 hn
    exact ⟨ad, e, (Array.getElem?_eq_some_iff.1 hb).1, hc⟩⟩
theorem below (h : By w A n bs) (hb : Below w.heap.size w w') : By w' A n bs := h.keep fun k _ _ hk => hb.block k (Array.getElem?_eq_some_iff.1 hk).1
theorem drew (h : By w A n bs) : By w.drew A n bs := h
theorem alloc (h : By w A n bs) (o : Obj) : By (w.alloc o) A n bs := h.below ((Below.refl _ _).alloc (Nat.le_refl _) _)
theorem grown (h : By w A n bs) {row : Option Nat} (hg : w.grownBy w' row) (hr : ∀ (g : Nat) cs fz, row = some g → w.heap[g]? ≠ some (Obj.cells cs 5 fz)) : By w' A n bs :=
  h.keep fun k cs fz hk => hg.block k (Array.getElem?_eq_some_iff.1 hk).1 (fun e => hr k cs fz e.symm hk)
theorem of_own {base c : Nat} (h : w.ownsRow base 5 1 (.slice A n c) n (bs.map v8)) : By w A n bs := by
  have hl : bs.length = n := by simpa using h.1
  refine ⟨hl, fun hn => ?_⟩
  rcases h.2 with ⟨hv, h0⟩ | ⟨g, cap, cur, hv, hb, hg, _⟩
  · omega
  · have hA : A = some ⟨g, 0, none⟩ := by injection hv
    subst hA
    refine ⟨_, rfl, ⟨_, _, hg⟩, fun j hj => h.cells (g := g) rfl j _ ?_⟩
    rw [List.getElem?_map, List.getElem?_eq_getElem (by omega), List.getD_eq_getElem?_getD, List.getElem?_eq_getElem (by omega)]
    rfl
end By

/-- A row of another type is not a block of bytes. -/
theorem not_bytes {w : World} {base e size n : Nat} {v : Value} {xs : List Value} (h : w.ownsRow base e size v n xs) (he : e ≠ 5) : ∀ (g : Nat) cs fz, v.ownBlock = some g → w.heap[g]? ≠ some (Obj.cells cs 5 fz) := by
  intro g cs fz hv hg
  rcases h.2 with ⟨rfl, _⟩ | ⟨g', cap, cur, rfl, _, hg', _⟩
  · simp [Value.ownBlock] at hv
  · obtain rfl : g' = g := by simpa [Value.ownBlock] using hv
    rw [hg] at hg'
    simp at hg'
    exact he hg'.2.1.symm
end Go.Proofs.Ytjpbndpfbdfhjaa
end
