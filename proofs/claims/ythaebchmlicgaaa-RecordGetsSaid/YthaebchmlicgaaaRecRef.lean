/-
  The document's records (layer 15): Texts, in, May.
-/
import Derived.Test.YthaebchmlicgaaaRecPure
import Derived.Test.YthaebchmlicgaaaPackRef
import Derived.Test.YthaebchmlicgaaaLexOne
import Derived.BigQuiet
import Derived.Deep.Cut
namespace Go.Proofs.Ythaebchmlicgaaa.Rec
open Go.RowKit
open Go.Proofs.Ythaebchmlicgaaa.Pack (Own)
open Go.Proofs.Ythaebchmlicgaaa.Lex (Tx)
set_option linter.unusedVariables false
set_option linter.unusedSimpArgs false

/-- A text with its place. -/
structure Vt where
  A : Option Addr
  c : Nat
  t : List B
def Vt.cell (v : Vt) : Value := .slice v.A v.t.length v.c
/-- Texts that can be read. -/
structure Tvs (w : World) (K : Nat) (A : Option Addr) (vs : List Vt) : Prop where
  cr : ∀ i v, vs[i]? = some v → ∃ ad, A = some ad ∧ w.cell? (ad.add i) = some v.cell
  tx : ∀ v ∈ vs, Tx w K v.A v.t ∧ v.t.length ≤ maxLen
theorem Tvs.below {w w' : World} {K : Nat} {A : Option Addr} {vs : List Vt} (h : Tvs w K A vs) (hK : K ≤ w.heap.size) (hb : Below w.heap.size w w') : Tvs w' K A vs :=
  ⟨fun i v hi => by
    obtain ⟨ad, e, hc⟩ := h.cr i v hi
    exact ⟨ad, e, (hb.cell (cell_lt hc)).trans hc⟩, fun v hv => ⟨(h.tx v hv).1.below hK hb, (h.tx v hv).2⟩⟩
def txt (vs : List Vt) : List (List B) := vs.map (·.t)
/-- The row of texts lies below block K, or in a block of its type. -/
def Trow (w : World) (K : Nat) (A : Option Addr) (vs : List Vt) : Prop := vs ≠ [] → ∃ ad, A = some ad ∧ (ad.block < K ∨ ∃ cs fz, w.heap[ad.block]? = some (Obj.cells cs 25 fz))
theorem trow_nil {w : World} {K : Nat} {A : Option Addr} : Trow w K A [] := fun h => absurd rfl h
theorem Trow.keep {w w' : World} {K : Nat} {A : Option Addr} {vs : List Vt} (h : Trow w K A vs) (hk : ∀ (k : Nat) cs fz, w.heap[k]? = some (Obj.cells cs 25 fz) → w'.heap[k]? = w.heap[k]?) : Trow w' K A vs := fun hn => by
  obtain ⟨ad, e, hc | ⟨cs, fz, hc⟩⟩ := h hn
  · exact ⟨ad, e, .inl hc⟩
  · exact ⟨ad, e, .inr ⟨cs, fz, (hk _ _ _ hc).trans hc⟩⟩
theorem Trow.below {w w' : World} {K : Nat} {A : Option Addr} {vs : List Vt} (h : Trow w K A vs) (hb : Below w.heap.size w w') : Trow w' K A vs := h.keep fun k cs fz e => hb.block k (Array.getElem?_eq_some_iff.1 e).1
theorem trow_own {w : World} {K KB n c : Nat} {A : Option Addr} {vs : List Vt} (h : w.ownsRow KB 25 1 (.slice A n c) n (vs.map Vt.cell)) : Trow w K A vs := fun hn => by
  have hl : vs.length = n := by have := h.1; simpa using this
  have hpos : 0 < n := by rw [← hl]; exact List.length_pos_iff.2 hn
  rcases h.2 with ⟨_, h0⟩ | ⟨g, cap, cur, hv, _, hg, _⟩
  · omega
  · injection hv with hA
    exact ⟨⟨g, 0, none⟩, hA, .inr ⟨_, _, hg⟩⟩
theorem trow_below {w : World} {K : Nat} {A : Option Addr} {vs : List Vt} (h : Tvs w K A vs) (hK : w.heap.size ≤ K) : Trow w K A vs := fun hn => by
  obtain ⟨v, l, rfl⟩ := List.exists_cons_of_ne_nil hn
  obtain ⟨ad, e, hc⟩ := h.cr 0 v rfl
  have := cell_lt hc
  rw [add_block] at this
  exact ⟨ad, e, .inl (by omega)⟩
/-- Texts are kept where only blocks of other types are written. -/
theorem Tvs.frm {w w' : World} {K : Nat} {A : Option Addr} {vs : List Vt} {l : List Nat} (h : Tvs w K A vs) (ht : Trow w K A vs) (hf : Frm l w w') (hl : ∀ k ∈ l, K ≤ k ∧ (∀ cs fz, w.heap[k]? ≠ some (Obj.cells cs 5 fz)) ∧ ∀ cs fz, w.heap[k]? ≠ some (Obj.cells cs 25 fz)) : Tvs w' K A vs ∧ Trow w' K A vs := by
  have hk : ∀ (k : Nat) cs fz, w.heap[k]? = some (Obj.cells cs 25 fz) → w'.heap[k]? = w.heap[k]? := fun k cs fz e => hf.block k (Array.getElem?_eq_some_iff.1 e).1 (fun hm => (hl k hm).2.2 _ _ e)
  refine ⟨⟨fun i v hi => ?_, fun v hv => ⟨?_, (h.tx v hv).2⟩⟩, ht.keep hk⟩
  · obtain ⟨ad, e, hc⟩ := h.cr i v hi
    obtain ⟨ad', e', hg⟩ := ht (fun q => by rw [q] at hi; cases hi)
    rw [e] at e'
    cases e'
    refine ⟨ad, e, (World.cell?_of_block (by
      rw [add_block]
      rcases hg with hg | ⟨cs, fz, hg⟩
      · exact hf.block _ (by have := cell_lt hc; rwa [add_block] at this) (fun hm => by have := (hl _ hm).1; omega)
      · exact hk _ _ _ hg)).trans hc⟩
  · rcases (h.tx v hv).1 with hs | hs
    · refine .inl ((Bs.bp hs).keep fun k hk hlt => hf.block k hlt fun hm => ?_)
      have := (hl k hm).1
      omega
    · refine .inr ⟨hs.1, fun hn => ?_⟩
      obtain ⟨ad, e, ⟨cs, fz, hg⟩, hc⟩ := hs.2 hn
      have hb : w'.heap[ad.block]? = w.heap[ad.block]? := hf.block _ (Array.getElem?_eq_some_iff.1 hg).1 fun hm => (hl _ hm).2.1 _ _ hg
      exact ⟨ad, e, ⟨cs, fz, hb.trans hg⟩, fun j hj => (World.cell?_of_block (by rw [add_block]; exact hb)).trans (hc j hj)⟩
set_option maxRecDepth 100000 in
theorem in_ (w : World) (a b c : Int) :
    Calls Try.prog 20 #[.int .i64 a, .int .i64 b, .int .i64 c] w fun e w' => e = .returned (.bool (inR a b c)) ∧ w = w' := by
  unfold inR
  by_cases h : b ≤ a
  · have h1 : decide (b ≤ a) = true := by simpa using h
    rw [h1, Bool.true_and]
    go_enter Try.func20, Try.ntmps20
    go_wp2_with fail
    go_ret
    exact ⟨rfl, rfl⟩
  · have h1 : decide (b ≤ a) = false := by simpa using h
    rw [h1, Bool.false_and]
    go_enter Try.func20, Try.ntmps20
    go_wp2_with fail
    go_ret
    exact ⟨rfl, rfl⟩
theorem texts_no {vs : List Vt} {v : Vt} (hv : v ∈ vs) (h : 100 < v.t.length) : textsOk (txt vs) = false := by
  unfold textsOk txt
  rw [Bool.and_eq_false_iff]
  left
  rw [List.all_eq_false]
  exact ⟨v.t, List.mem_map.2 ⟨v, hv, rfl⟩, by simp; omega⟩
theorem texts_yes {vs : List Vt} {n : Nat} (hl : vs.length = n) (h : ∀ v ∈ vs, v.t.length ≤ 100) : textsOk (txt vs) = decide ((n : Int) ≤ 8) := by
  unfold textsOk txt
  rw [List.all_eq_true.2 (fun t ht => by
    obtain ⟨v, hv, rfl⟩ := List.mem_map.1 ht
    simpa using h v hv), Bool.true_and, List.length_map, hl]
  apply decide_eq_decide.2
  omega
theorem mem_take {α : Type} {l : List α} {i : Nat} {x y : α} (h : l[i]? = some x) (hy : y ∈ l.take (i + 1)) : y ∈ l.take i ∨ y = x := by
  rw [List.take_add_one, h] at hy
  simpa using hy
set_option maxRecDepth 100000 in
theorem texts_ (w : World) (K : Nat) (A : Option Addr) (n c : Nat) (vs : List Vt) (h : Tvs w K A vs) (hK : K ≤ w.heap.size) (hl : vs.length = n) (hn : n ≤ maxLen) :
    Calls Try.prog 19 #[.slice A n c] w fun e w' => e = .returned (.bool (textsOk (txt vs))) ∧ Below w.heap.size w w' := by
  unfold maxLen at hn
  have H := Lib.hid h
  have HL := Lib.hid hl
  clear h hl
  go_enter Try.func19, Try.ntmps19
  go_wp2_with fail
  go_loopw [3] (fun v3 wr => ∃ (i : Nat), i ≤ n ∧ v3 = .int .i64 (i : Int) ∧ Below w.heap.size w wr ∧ Hid (∀ v ∈ vs.take i, v.t.length ≤ 100)) (fun v3 _ => n - (intOf v3).toNat)
  case atStart => exact ⟨0, Nat.zero_le _, rfl, Below.refl _ _, Lib.hid (by simp)⟩
  case round =>
    obtain ⟨i, hi, rfl, hb, HK⟩ := hrel
    rcases Nat.lt_or_ge i n with hlt | hge
    · obtain ⟨v, hv⟩ : ∃ v, vs[i]? = some v := ⟨_, List.getElem?_eq_getElem (by rw [HL.out]; exact hlt)⟩
      have HT := (H.out.below hK hb)
      obtain ⟨ad, rfl, k0⟩ := HT.cr i v hv
      have hm := (HT.tx v (List.mem_of_getElem? hv)).2
      unfold maxLen at hm
      have HV := Lib.hid hv
      have HB := Lib.hid hb
      clear hv hb HT
      obtain ⟨vA, vc, vt⟩ := v
      change _ = some (Value.slice vA vt.length vc) at k0
      obtain ⟨tl, htl⟩ : ∃ tl, tl = vt.length := ⟨_, rfl⟩
      change vt.length ≤ _ at hm
      rw [← htl] at k0 hm
      have HTL := Lib.hid htl
      clear htl
      by_cases t1 : 100 < tl
      · have dt1 : decide ((100 : Int) < (tl : Int)) = true := by simp; omega
        go_wp2_with fail
        go_ret
        rw [texts_no (List.mem_of_getElem? HV.out) (by show 100 < vt.length; rw [← HTL.out]; exact t1)]
        exact ⟨rfl, HB.out⟩
      · have dt1 : decide ((100 : Int) < (tl : Int)) = false := by simp; omega
        go_wp2_with fail
        refine ⟨⟨i + 1, by omega, by rw [show ((i + 1 : Nat) : Int) = (i : Int) + 1 by omega], HB.out, Lib.hid fun u hu => ?_⟩, by simp [intOf]; omega⟩
        rcases mem_take HV.out hu with hu | rfl
        · exact HK.out u hu
        · show vt.length ≤ 100
          rw [← HTL.out]
          omega
    · obtain rfl : i = n := by omega
      have HB := Lib.hid hb
      have hk := HK.out
      rw [← HL.out, List.take_length] at hk
      have HE := Lib.hid (texts_yes HL.out hk)
      clear hb hk HK
      go_wp2_with fail
      go_ret
      rw [HE.out]
      exact ⟨rfl, HB.out⟩
end Go.Proofs.Ythaebchmlicgaaa.Rec
