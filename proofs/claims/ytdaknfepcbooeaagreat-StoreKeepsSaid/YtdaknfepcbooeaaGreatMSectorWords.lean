/-
  Words for layer 3 (sector): parts as values, what lies where; what sector.isPart comes to.
-/
import Derived.Test.YtdaknfepcbooeaaGreatMPure
import Derived.Test.YtdaknfepcbooeaaGreatMSectorLib
import Derived.Test.YtdaknfepcbooeaaGreatMCrcA
import Derived.Deep.RegionHeld3
import Derived.Deep.RegionWith
import Derived.Deep.RegionLaw
import Derived.Laws.CopyOwn
import Derived.Deep.WholeRow
import Derived.Deep.MidRow
namespace Go.Proofs.YtdaknfepcbooeaaGreat.Sector
open Go.RowKit Go.Proofs.YtdaknfepcbooeaaGreat.Pack
set_option linter.unusedVariables false

/-- A part as a value. -/
abbrev partV (e s : BitVec 32) (f : Int) (A : Option Addr) (n c : Nat) : Value := .agg #[v32 e, v32 s, .int .i64 f, .slice A n c]

theorem isPart_yes (e s : BitVec 32) (f : Int) (A : Option Addr) (n c : Nat) (w : World) (h : mayB f n = true) :
    Calls Tryz.prog 111 #[partV e s f A n c] w fun r w' => r = .returned (.bool true) ∧ Below w.heap.size w w' := by
  have d1 : decide (0 ≤ f) = true := by simp [mayB] at h ⊢; omega
  have d2 : decide (f ≤ 3) = true := by simp [mayB] at h ⊢; omega
  have d3 : decide ((n : Int) ≤ 493) = true := by simp [mayB] at h ⊢; omega
  clear h
  go_enter Tryz.func111, Tryz.ntmps111
  go_wp2_with fail
  go_ret
  exact ⟨rfl, (Below.refl _ _).alloc (Nat.le_refl _) _⟩
theorem isPart_no (e s : BitVec 32) (f : Int) (A : Option Addr) (n c : Nat) (w : World) (h : mayB f n = false) :
    Calls Tryz.prog 111 #[partV e s f A n c] w fun r w' => r = .returned (.bool false) ∧ Below w.heap.size w w' := by
  by_cases h1 : 0 ≤ f
  · have d1 : decide (0 ≤ f) = true := by simpa using h1
    by_cases h2 : f ≤ 3
    · have d2 : decide (f ≤ 3) = true := by simpa using h2
      have d3 : decide ((n : Int) ≤ 493) = false := by simp [mayB] at h ⊢; omega
      clear h h1 h2
      go_enter Tryz.func111, Tryz.ntmps111
      go_wp2_with fail
      go_ret
      exact ⟨rfl, (Below.refl _ _).alloc (Nat.le_refl _) _⟩
    · have d2 : decide (f ≤ 3) = false := by simpa using h2
      clear h h1 h2
      go_enter Tryz.func111, Tryz.ntmps111
      go_wp2_with fail
      go_ret
      exact ⟨rfl, (Below.refl _ _).alloc (Nat.le_refl _) _⟩
  · have d1 : decide (0 ≤ f) = false := by simpa using h1
    clear h h1
    go_enter Tryz.func111, Tryz.ntmps111
    go_wp2_with fail
    go_ret
    exact ⟨rfl, (Below.refl _ _).alloc (Nat.le_refl _) _⟩

theorem wide (r : BitVec 32) : (r.toNat : Int) = ((r.setWidth 64).toNat : Int) := by
  rw [BitVec.toNat_setWidth, Nat.mod_eq_of_lt (by have := r.isLt; omega)]

/-- '[]byte("..")' of a constant: the run-time's mark on its row. -/
def mkd (W : World) (a : Addr) : World := match W.shape? a.block with
  | some (_, n) => W.freeze { block := a.block, off := n } 1
  | none => W
theorem run_convert_self {P : Program} (W : World) (t e : TypeId) (a : Addr) (n c : Nat) (ht : P.underlying t = some (.slice e)) (he : P.underlying e = some (.int .u8)) :
    (convert t t (.slice (some a) n c)).run P W = .ok (.slice (some a) n c) (mkd W a) := by
  unfold mkd
  cases h : W.shape? a.block with
  | none => simp [convert, run_underlying ht, run_underlying he, markStringish, h]
  | some x => obtain ⟨x1, x2⟩ := x; simp [convert, run_underlying ht, run_underlying he, markStringish, h]
theorem heap_freeze (W : World) (a : Addr) (k : Nat) (h : k ≠ a.block) : (W.freeze a 1).heap[k]? = W.heap[k]? := by
  unfold World.freeze
  rw [if_neg (by decide)]
  show (W.heap.modify a.block _)[k]? = _
  rw [Array.getElem?_modify, if_neg (by omega)]
theorem cell_freeze (W : World) (a p : Addr) : (W.freeze a 1).cell? p = W.cell? p := by
  by_cases h : p.block = a.block
  · unfold World.cell? World.freeze
    rw [if_neg (by decide)]
    show (match (W.heap.modify a.block _)[p.block]? with | some (.cells c _ _) => _ | _ => _) = _
    rw [Array.getElem?_modify, if_pos h.symm]
    cases W.heap[p.block]? with
    | none => rfl
    | some o => cases o <;> rfl
  · exact World.cell?_of_block (heap_freeze W a p.block h)
theorem mkd_cell (W : World) (a p : Addr) : (mkd W a).cell? p = W.cell? p := by
  unfold mkd; split
  · exact cell_freeze _ _ _
  · rfl
theorem mkd_size (W : World) (a : Addr) : (mkd W a).heap.size = W.heap.size := by
  unfold mkd; split
  · simp [World.freeze]
  · rfl
theorem mkd_block (W : World) (a : Addr) (k : Nat) (h : k ≠ a.block) : (mkd W a).heap[k]? = W.heap[k]? := by
  unfold mkd; split
  · exact heap_freeze _ _ _ h
  · rfl
theorem mkd_os (W : World) (a : Addr) : (mkd W a).os = W.os ∧ (mkd W a).tape = W.tape ∧ (mkd W a).output = W.output := by
  unfold mkd; split
  · unfold World.freeze; rw [if_neg (by decide)]; exact ⟨rfl, rfl, rfl⟩
  · exact ⟨rfl, rfl, rfl⟩

/-- W is w0, and more. -/
def From (w0 W : World) : Prop := Below w0.heap.size w0 W
theorem From.self (w0 : World) : From w0 w0 := Below.refl _ _
theorem From.drew {w0 W : World} (h : From w0 W) : From w0 W.drew := Below.drew h
theorem From.alloc {w0 W : World} (o : Obj) (h : From w0 W) : From w0 (W.alloc o) := Below.alloc h h.size o
theorem From.call {w0 W W' : World} (h2 : Below W.heap.size W W') (h : From w0 W) : From w0 W' := Below.trans h (h2.mono h.size)
theorem From.mkd {w0 W : World} {a : Addr} (ha : w0.heap.size ≤ a.block) (h : From w0 W) : From w0 (mkd W a) :=
  Below.trans h ⟨(mkd_os W a).1, (mkd_os W a).2.1, (mkd_os W a).2.2, by rw [mkd_size]; exact Nat.le_refl _, fun k hk => mkd_block W a k (by omega)⟩
theorem From.size {w0 W : World} (h : From w0 W) : w0.heap.size ≤ W.heap.size := Below.size h

/-- The slice of bytes lies there. -/
def Lo (W : World) (A : Option Addr) (n : Nat) (bs : List (BitVec 8)) : Prop := Bs W W.heap.size A n bs
theorem Lo.own {W : World} {B : Nat} {A : Option Addr} {n c : Nat} {bs : List (BitVec 8)} (h : Own W B A n c bs) : Lo W A n bs := h.low
theorem Lo.drew {W : World} {A : Option Addr} {n : Nat} {bs : List (BitVec 8)} (h : Lo W A n bs) : Lo W.drew A n bs := h
theorem Lo.alloc {W : World} {A : Option Addr} {n : Nat} {bs : List (BitVec 8)} (o : Obj) (h : Lo W A n bs) : Lo (W.alloc o) A n bs := (Bs.alloc h (Nat.le_refl _) o).more (by simp)
theorem Lo.call {W W' : World} {A : Option Addr} {n : Nat} {bs : List (BitVec 8)} (h2 : Below W.heap.size W W') (h : Lo W A n bs) : Lo W' A n bs := (Bs.below h h2).more h2.size
theorem Lo.mkd {W : World} {A : Option Addr} {n : Nat} {bs : List (BitVec 8)} {a : Addr} (h : Lo W A n bs) : Lo (mkd W a) A n bs := by
  unfold Lo
  rw [mkd_size]
  exact Bs.keep h fun p _ => mkd_cell W a p
theorem Lo.lit (W : World) (T : TypeId) (cs : Array Value) (bs : List (BitVec 8)) (h : cs.toList = bs.map v8) (n : Nat) (hn : bs.length = n) : Lo (W.alloc (.cells cs T)) (some ⟨W.heap.size, 0, none⟩) n bs := by
  have := Bs.lit W T (0, 0) cs bs h n hn
  unfold Lo
  simpa using this

theorem held {b : Nat} {w0 W : World} {x y z : Value} (c0 : w0.cell? ⟨b, 0, none⟩ = some x) (c1 : w0.cell? ⟨b, 1, none⟩ = some y) (c2 : w0.cell? ⟨b, 2, none⟩ = some z) (hb : b < w0.heap.size) (h : From w0 W) :
    From w0 W ∧ W.cell? ⟨b, 0, none⟩ = some x ∧ W.cell? ⟨b, 1, none⟩ = some y ∧ W.cell? ⟨b, 2, none⟩ = some z :=
  ⟨h, (Below.cell h (p := ⟨b, 0, none⟩) hb).trans c0, (Below.cell h (p := ⟨b, 1, none⟩) hb).trans c1, (Below.cell h (p := ⟨b, 2, none⟩) hb).trans c2⟩
theorem wideW (r : BitVec 32) : IntKind.u64.wrap (r.toNat : Int) = ((r.setWidth 64).toNat : Int) := by
  rw [IntKind.wrap_u64, BitVec.toNat_setWidth]
  have := r.isLt
  omega
theorem flagsW {f : Int} (h0 : 0 ≤ f) (h3 : f ≤ 3) : IntKind.u64.wrap f = ((BitVec.ofInt 64 f).toNat : Int) := by
  rw [flags_toNat h0 h3, IntKind.wrap_u64]; omega
theorem five {W : World} {B : Nat} {a b c d e : Sl} (h1 : Bs W B a.A a.n a.bs) (h2 : Bs W B b.A b.n b.bs) (h3 : Bs W B c.A c.n c.bs) (h4 : Bs W B d.A d.n d.bs) (h5 : Bs W B e.A e.n e.bs) :
    ∀ s ∈ [a, b, c, d, e], Bs W B s.A s.n s.bs := by
  intro s hs
  simp at hs
  rcases hs with rfl | rfl | rfl | rfl | rfl <;> assumption

end Go.Proofs.YtdaknfepcbooeaaGreat.Sector
