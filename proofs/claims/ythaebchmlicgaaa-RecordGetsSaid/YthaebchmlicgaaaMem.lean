/-
  Words for memory: a block that is known whole (Cel), what a call may have written (Frm), bytes in blocks of a kind (Bp), bytes as a string.
-/
import Derived.Test.YthaebchmlicgaaaBytes
import Derived.Laws.Rows
import Derived.Laws.BytesString
import Derived.Lib.BufferRead
import Derived.Lib.Hide
namespace Go.Proofs.Ythaebchmlicgaaa
open Go.RowKit

/-- Block g is just the cells cs, of element type t; none is frozen. -/
def Cel (w : World) (g : Nat) (t : TypeId) (cs : List Value) : Prop := w.heap[g]? = some (.cells cs.toArray t (0, 0))

/-- What was there stays as it was, but for the blocks l. -/
structure Frm (l : List Nat) (w w' : World) : Prop where
  os : w'.os = w.os
  tape : w'.tape = w.tape
  output : w'.output = w.output
  size : w.heap.size ≤ w'.heap.size
  block : ∀ k, k < w.heap.size → k ∉ l → w'.heap[k]? = w.heap[k]?

namespace Frm
variable {l l' : List Nat} {w w' w1 w2 : World}
theorem refl (l : List Nat) (w : World) : Frm l w w := ⟨rfl, rfl, rfl, Nat.le_refl _, fun _ _ _ => rfl⟩
theorem then_ (h : Frm l w w1) (h2 : Frm l' w1 w2) (hs : ∀ k, k ∈ l' → k < w.heap.size → k ∈ l) : Frm l w w2 :=
  ⟨h2.os.trans h.os, h2.tape.trans h.tape, h2.output.trans h.output, Nat.le_trans h.size h2.size, fun k hk hn => by
    rw [h2.block k (Nat.lt_of_lt_of_le hk h.size) (fun hm => hn (hs k hm hk)), h.block k hk hn]⟩
theorem trans (h : Frm l w w1) (h2 : Frm l w1 w2) : Frm l w w2 := h.then_ h2 fun _ hk _ => hk
theorem mono (h : Frm l w w') (hs : ∀ k, k ∈ l → k < w.heap.size → k ∈ l') : Frm l' w w' :=
  ⟨h.os, h.tape, h.output, h.size, fun k hk hn => h.block k hk fun hm => hn (hs k hm hk)⟩
theorem below (h : Frm l w w') {B : Nat} (hB : B ≤ w.heap.size) (hl : ∀ k, k ∈ l → B ≤ k) : Below B w w' :=
  ⟨h.os, h.tape, h.output, h.size, fun k hk => h.block k (Nat.lt_of_lt_of_le hk hB) fun hm => absurd (hl k hm) (by omega)⟩
theorem of_below (h : Below w.heap.size w w') : Frm l w w' := ⟨h.os, h.tape, h.output, h.size, fun k hk _ => h.block k hk⟩
theorem alloc (h : Frm l w w') (o : Obj) : Frm l w (w'.alloc o) := h.trans (of_below ((Below.refl _ _).alloc (Nat.le_refl _) _))
theorem drew (h : Frm l w w') : Frm l w w'.drew := ⟨h.os, h.tape, h.output, h.size, h.block⟩
theorem set (h : Frm l w w') {p : Addr} (hp : p.block ∈ l) (u : Value) : Frm l w (w'.setCell p u) :=
  h.trans ⟨rfl, rfl, rfl, by simp [World.setCell], fun k _ hn => Below.heap_setCell _ _ _ _ (fun e => hn (e ▸ hp))⟩
theorem setNew (h : Frm l w w') {p : Addr} (hp : w.heap.size ≤ p.block) (u : Value) : Frm l w (w'.setCell p u) :=
  h.then_ (l' := [p.block]) ⟨rfl, rfl, rfl, by simp [World.setCell], fun k _ hn => Below.heap_setCell _ _ _ _ (fun e => hn (by simp [e]))⟩ (by intro k hk hl; simp at hk; omega)
theorem grown (h : Frm l w w') {row : Option Nat} (hg : w'.grownBy w1 row) (hr : ∀ g, row = some g → g < w.heap.size → g ∈ l) : Frm l w w1 :=
  h.then_ (l' := row.toList) ⟨hg.os, hg.tape, hg.output, hg.size, fun k hk hn => hg.block k hk (fun e => hn (by simp [← e]))⟩ (by intro k hk hl; exact hr k (by simpa using hk) hl)
end Frm

namespace Cel
variable {w w' : World} {g : Nat} {t : TypeId} {cs : List Value}
theorem lt (h : Cel w g t cs) : g < w.heap.size := (Array.getElem?_eq_some_iff.1 h).1
theorem cell (h : Cel w g t cs) (i : Nat) : w.cell? ⟨g, i, none⟩ = cs[i]? := by
  rw [cell_of_row w g i cs.toArray t (0, 0) h]; simp
theorem free (h : Cel w g t cs) (i : Nat) : w.frozen? ⟨g, i, none⟩ = false := by
  unfold Cel at h
  simp [World.frozen?, h]
theorem new (w : World) (t : TypeId) (cs : List Value) : Cel (w.alloc (.cells cs.toArray t)) w.heap.size t cs := heap_alloc_new w _
theorem drew (h : Cel w g t cs) : Cel w.drew g t cs := h
theorem alloc (h : Cel w g t cs) (o : Obj) : Cel (w.alloc o) g t cs := (Below.heap_alloc w o g h.lt).trans h
theorem set (h : Cel w g t cs) (i : Nat) (u : Value) : Cel (w.setCell ⟨g, i, none⟩ u) g t (cs.set i u) := by
  unfold Cel at h ⊢
  simp [World.setCell, Array.getElem?_modify, h]
theorem far (h : Cel w g t cs) {p : Addr} (hp : g ≠ p.block) (u : Value) : Cel (w.setCell p u) g t cs := (Below.heap_setCell w p u g hp).trans h
theorem below {B : Nat} (h : Cel w g t cs) (hb : Below B w w') (hg : g < B) : Cel w' g t cs := (hb.block g hg).trans h
theorem frm {l : List Nat} (h : Cel w g t cs) (hf : Frm l w w') (hg : g ∉ l) : Cel w' g t cs := (hf.block g h.lt hg).trans h
theorem ne {g' : Nat} {t' : TypeId} {cs' : List Value} (h : Cel w g t cs) (h' : Cel w g' t' cs') (hne : t ≠ t') : g ≠ g' := by
  rintro rfl
  unfold Cel at h h'
  rw [h] at h'
  injection h' with h'
  injection h' with _ ht
  exact hne ht
end Cel

/-- The slice value '.slice A n c' holds the bytes bs, and lies in a block of which p holds. -/
def Bp (w : World) (p : Nat → Prop) (A : Option Addr) (n : Nat) (bs : List (BitVec 8)) : Prop :=
  bs.length = n ∧ (0 < n → ∃ ad, A = some ad ∧ p ad.block ∧ ∀ j, j < n → w.cell? (ad.add j) = some (v8 (bs.getD j 0#8)))

theorem Bs.bp {w : World} {B n : Nat} {A : Option Addr} {bs : List (BitVec 8)} (h : Bs w B A n bs) : Bp w (· < B) A n bs := h

theorem add_add (a : Addr) (i j : Nat) : (a.add i).add j = a.add (i + j) := by
  unfold Addr.add
  by_cases hi : i = 0 <;> by_cases hj : j = 0 <;> simp [hi, hj, Nat.add_assoc]

namespace Bp
variable {w w' : World} {p q : Nat → Prop} {A : Option Addr} {n : Nat} {bs : List (BitVec 8)}
theorem nil_ : Bp w p A 0 [] := ⟨rfl, fun h => absurd h (by omega)⟩
theorem len (h : Bp w p A n bs) : bs.length = n := h.1
theorem at_ (h : Bp w p A n bs) {k : Nat} (hk : k < n) : ∃ ad, A = some ad ∧ p ad.block ∧ w.cell? (ad.add k) = some (v8 (bs.getD k 0#8)) := by
  obtain ⟨ad, e, hb, hc⟩ := h.2 (by omega)
  exact ⟨ad, e, hb, hc k hk⟩
theorem keep (h : Bp w p A n bs) (hk : ∀ k, p k → k < w.heap.size → w'.heap[k]? = w.heap[k]?) : Bp w' p A n bs :=
  ⟨h.1, fun hn => by
    obtain ⟨ad, e, hb, hc⟩ := h.2 hn
    have hlt : ad.block < w.heap.size := by have := cell_lt (hc 0 hn); rwa [add_block] at this
    exact ⟨ad, e, hb, fun j hj => (World.cell?_of_block (by rw [add_block]; exact hk _ hb hlt)).trans (hc j hj)⟩⟩
theorem mono (h : Bp w p A n bs) (hpq : ∀ k, p k → k < w.heap.size → q k) : Bp w q A n bs :=
  ⟨h.1, fun hn => by
    obtain ⟨ad, e, hb, hc⟩ := h.2 hn
    have hlt : ad.block < w.heap.size := by have := cell_lt (hc 0 hn); rwa [add_block] at this
    exact ⟨ad, e, hpq _ hb hlt, hc⟩⟩
theorem low (h : Bp w p A n bs) : Bs w w.heap.size A n bs := h.mono fun _ _ hk => hk
theorem frm {l : List Nat} (h : Bp w p A n bs) (hf : Frm l w w') (hp : ∀ k, p k → k ∉ l) : Bp w' p A n bs := h.keep fun k hk hl => hf.block k hl (hp k hk)
theorem below {B : Nat} (h : Bp w p A n bs) (hb : Below B w w') (hp : ∀ k, p k → k < B) : Bp w' p A n bs := h.keep fun k hk _ => hb.block k (hp k hk)
theorem take (h : Bp w p A n bs) {k : Nat} (hk : k ≤ n) : Bp w p A k (bs.take k) := by
  refine ⟨by rw [List.length_take, h.1]; omega, fun hn => ?_⟩
  obtain ⟨ad, rfl, hb, hc⟩ := h.2 (by omega)
  refine ⟨ad, rfl, hb, fun j hj => ?_⟩
  rw [hc j (by omega), List.getD_eq_getElem?_getD, List.getD_eq_getElem?_getD, List.getElem?_take, if_pos hj]
theorem cut (h : Bp w p A n bs) {k cap : Nat} (hk : k ≤ n) (hc : n ≤ cap) : Bp w p (if cap = k then A else A.map (·.add k)) (n - k) (bs.drop k) := by
  refine ⟨by rw [List.length_drop, h.1], fun hn => ?_⟩
  obtain ⟨ad, rfl, hb, hcell⟩ := h.2 (by omega)
  rw [if_neg (by omega)]
  refine ⟨ad.add k, rfl, by rw [add_block]; exact hb, fun j hj => ?_⟩
  rw [add_add, hcell _ (by omega), List.getD_eq_getElem?_getD, List.getD_eq_getElem?_getD, List.getElem?_drop]
theorem of_own {base : Nat} {e : TypeId} {c : Nat} {us : List Value} (h : w.ownsRow base e 1 (.slice A n c) n us) (hu : us = bs.map v8) : Bp w (fun k => (Value.slice A n c).ownBlock = some k ∧ base ≤ k) A n bs := by
  subst hu
  have hl : bs.length = n := by simpa using h.1
  refine ⟨hl, fun hn => ?_⟩
  obtain ⟨g, cap, hv, hbg, hlt⟩ := h.form hn
  have hA : A = some ⟨g, 0, none⟩ := by injection hv
  subst hA
  refine ⟨_, rfl, ⟨rfl, hbg⟩, fun j hj => h.cells (g := g) rfl j _ ?_⟩
  rw [List.getElem?_map, List.getElem?_eq_getElem (by omega), List.getD_eq_getElem?_getD, List.getElem?_eq_getElem (by omega)]
  rfl
end Bp

/-- Bytes as a Go string. -/
def str (bs : List (BitVec 8)) : ByteArray := ⟨(bs.map UInt8.ofBitVec).toArray⟩

theorem push_all (ns : List (BitVec 8)) : ∀ s : ByteArray, (ns.map fun b => (b.toNat : Int)).foldl (fun r n => r.push (UInt8.ofNat n.toNat)) s = ⟨(s.data.toList ++ ns.map UInt8.ofBitVec).toArray⟩ := by
  induction ns with
  | nil => intro s; simp
  | cons b ns ih =>
    intro s
    rw [List.map_cons, List.foldl_cons, ih]
    have : UInt8.ofNat ((b.toNat : Int).toNat) = UInt8.ofBitVec b := by
      rw [Int.toNat_natCast]
      apply UInt8.toNat_inj.1
      rw [UInt8.toNat_ofNat', UInt8.toNat_ofBitVec]
      exact Nat.mod_eq_of_lt b.isLt
    rw [this]
    simp [ByteArray.push]

theorem Bp.string {P : Program} {w : World} {p : Nat → Prop} {A : Option Addr} {n : Nat} {bs : List (BitVec 8)} (h : Bp w p A n bs) (c : Nat) {src dst e : TypeId}
    (hs : P.underlying src = some (.slice e)) (he : P.underlying e = some (.int .u8)) (hd : P.underlying dst = some .string) :
    (convert src dst (.slice A n c)).run P w = .ok (.string (str bs)) w := by
  rw [run_convert_bytes_string w src dst e A n c hs he hd]
  rcases A with _ | ad
  · have hn : n = 0 := by
      rcases Nat.eq_zero_or_pos n with h0 | h0
      · exact h0
      · obtain ⟨ad, h', _⟩ := h.2 h0; cases h'
    subst hn
    have hb : bs = [] := List.eq_nil_of_length_eq_zero h.1
    subst hb
    rw [← run_convert_bytes_string w src dst e none 0 c hs he hd, Lib.run_convert_nil_bytes w src dst e c hs he hd]
    rfl
  · have hl : (loadCells ad n).run P w = .ok ((bs.map fun b => (b.toNat : Int)).map (Value.int .u8)).toArray w := by
      have hx := run_firstCells_some (P := P) w 1 n ad n c (bs.map v8) (by simp [h.1]) (by
        intro j u hu
        have hj : j < bs.length := by
          rcases Nat.lt_or_ge j bs.length with h' | h'
          · exact h'
          · rw [List.getElem?_eq_none (by simpa using h')] at hu; cases hu
        obtain ⟨ad', h', _, hc⟩ := h.2 (by rw [← h.1]; omega)
        injection h' with h'
        subst h'
        rw [hc j (by rw [← h.1]; exact hj)]
        rw [List.getElem?_map, List.getElem?_eq_getElem hj] at hu
        rw [List.getD_eq_getElem?_getD, List.getElem?_eq_getElem hj]
        exact hu)
      have e : (bs.map fun b => (b.toNat : Int)).map (Value.int .u8) = bs.map v8 := by rw [List.map_map]; rfl
      rw [e]
      simpa [Builtin.firstCells] using hx
    rw [run_bytesToString w ad n c _ hl, push_all]
    rfl

section
variable {P : Program} (w : World)
theorem run_equalIn_fn_nil (d : Nat) {t : TypeId} {ps rs : Array TypeId} {vr : Bool} (h : P.underlying t = some (.func ps rs vr)) (fn : Fn) (a b : Array Value) : (Op.equalIn (d + 1) t (.func fn a b) .nilFunc).run P w = .ok false w := by
  simp [Op.equalIn, run_underlying h]
theorem run_equalIn_nil_fn (d : Nat) {t : TypeId} {ps rs : Array TypeId} {vr : Bool} (h : P.underlying t = some (.func ps rs vr)) : (Op.equalIn (d + 1) t .nilFunc .nilFunc).run P w = .ok true w := by
  simp [Op.equalIn, run_underlying h]
/-- 'f == nil', of a function value. -/
theorem run_eql_fn_nil {t : TypeId} {ps rs : Array TypeId} {vr : Bool} (h : P.underlying t = some (.func ps rs vr)) (fn : Fn) (a b : Array Value) : (binOp .eql t (.func fn a b) .nilFunc).run P w = .ok (.bool false) w := by
  simp only [binOp]
  simp [Op.equal, Op.maxDepth, run_equalIn_fn_nil w 9999 h fn a b]
theorem run_eql_nil_nil_fn {t : TypeId} {ps rs : Array TypeId} {vr : Bool} (h : P.underlying t = some (.func ps rs vr)) : (binOp .eql t .nilFunc .nilFunc).run P w = .ok (.bool true) w := by
  simp only [binOp]
  simp [Op.equal, Op.maxDepth, run_equalIn_nil_fn w 9999 h]
end

/-- The slice value '.slice A n c' holds the values us, one cell each, and lies in a block of which p holds. -/
def Vp (w : World) (p : Nat → Prop) (A : Option Addr) (n : Nat) (us : List Value) : Prop :=
  us.length = n ∧ (0 < n → ∃ ad, A = some ad ∧ p ad.block ∧ ∀ j u, us[j]? = some u → w.cell? (ad.add j) = some u)
namespace Vp
variable {w w' : World} {p q : Nat → Prop} {A : Option Addr} {n : Nat} {us : List Value}
theorem len (h : Vp w p A n us) : us.length = n := h.1
theorem at_ (h : Vp w p A n us) {k : Nat} (hk : k < n) : ∃ ad u, A = some ad ∧ p ad.block ∧ us[k]? = some u ∧ w.cell? (ad.add k) = some u := by
  obtain ⟨ad, e, hb, hc⟩ := h.2 (by omega)
  have hl : k < us.length := by rw [h.1]; exact hk
  exact ⟨ad, us[k], e, hb, List.getElem?_eq_getElem hl, hc k _ (List.getElem?_eq_getElem hl)⟩
theorem keep (h : Vp w p A n us) (hk : ∀ k, p k → k < w.heap.size → w'.heap[k]? = w.heap[k]?) : Vp w' p A n us :=
  ⟨h.1, fun hn => by
    obtain ⟨ad, e, hb, hc⟩ := h.2 hn
    have h0 : 0 < us.length := by rw [h.1]; exact hn
    have hlt : ad.block < w.heap.size := by have := cell_lt (hc 0 _ (List.getElem?_eq_getElem h0)); rwa [add_block] at this
    exact ⟨ad, e, hb, fun j u hu => (World.cell?_of_block (by rw [add_block]; exact hk _ hb hlt)).trans (hc j u hu)⟩⟩
theorem frm {l : List Nat} (h : Vp w p A n us) (hf : Frm l w w') (hp : ∀ k, p k → k ∉ l) : Vp w' p A n us := h.keep fun k hk hl => hf.block k hl (hp k hk)
theorem below {B : Nat} (h : Vp w p A n us) (hb : Below B w w') (hp : ∀ k, p k → k < B) : Vp w' p A n us := h.keep fun k hk _ => hb.block k (hp k hk)
end Vp

/-- What is told of a slice of integers that came in. -/
theorem Vp.of_row {w : World} {k : IntKind} {a : Option Addr} {len cap : Nat} {zs : List Int}
    (h : (a = none ∧ len = 0 ∧ cap = 0 ∧ zs = []) ∨ ∃ x, a = some x ∧ len ≤ cap ∧ cap ≤ maxLen ∧ zs.length = cap ∧ (∀ i, i < zs.length → w.cell? (x.add i) = some (.int k (zs.getD i 0))) ∧ ∀ n ∈ zs, (Lit.int k n).wf = true) :
    ∃ ys : List Int, Vp w (· < w.heap.size) a len (ys.map (Value.int k)) ∧ len ≤ cap ∧ cap ≤ maxLen ∧ ∀ n ∈ ys, (Lit.int k n).wf = true := by
  rcases h with ⟨rfl, rfl, rfl, rfl⟩ | ⟨x, rfl, hl, hm, hz, hc, hw⟩
  · exact ⟨[], ⟨rfl, fun h => absurd h (by omega)⟩, Nat.le_refl _, Nat.zero_le _, by simp⟩
  · refine ⟨zs.take len, ⟨by simp; omega, fun hn => ⟨x, rfl, ?_, fun j u hu => ?_⟩⟩, hl, hm, fun n hn => hw n (List.mem_of_mem_take hn)⟩
    · have := cell_lt (hc 0 (by omega))
      rwa [add_block] at this
    · rw [List.getElem?_map, List.getElem?_take] at hu
      split at hu
      · rename_i hj
        have hj' : j < zs.length := by omega
        rw [List.getElem?_eq_getElem hj'] at hu
        rw [hc j hj', List.getD_eq_getElem?_getD, List.getElem?_eq_getElem hj']
        exact hu
      · cases hu
theorem row_cap {w : World} {k : IntKind} {a : Option Addr} {len cap : Nat} {zs : List Int}
    (h : (a = none ∧ len = 0 ∧ cap = 0 ∧ zs = []) ∨ ∃ x, a = some x ∧ len ≤ cap ∧ cap ≤ maxLen ∧ zs.length = cap ∧ (∀ i, i < zs.length → w.cell? (x.add i) = some (.int k (zs.getD i 0))) ∧ ∀ n ∈ zs, (Lit.int k n).wf = true) : len ≤ cap ∧ cap ≤ maxLen := by
  rcases h with ⟨rfl, rfl, rfl, rfl⟩ | ⟨x, rfl, hl, hm, _⟩
  · exact ⟨Nat.le_refl _, Nat.zero_le _⟩
  · exact ⟨hl, hm⟩
theorem u64_of {z : Int} (h : (Lit.int .u64 z).wf = true) : ∃ r : BitVec 64, z = (r.toNat : Int) := by
  simp [Lit.wf, IntKind.min, IntKind.max, IntKind.bits, IntKind.signed] at h
  exact ⟨BitVec.ofNat 64 z.toNat, by rw [BitVec.toNat_ofNat, Nat.mod_eq_of_lt (by omega)]; omega⟩
end Go.Proofs.Ythaebchmlicgaaa
