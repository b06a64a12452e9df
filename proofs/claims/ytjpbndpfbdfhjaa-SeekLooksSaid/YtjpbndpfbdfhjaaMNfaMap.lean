/-
  The program's map of makers (layer 9): which function does what an op asks for.
-/
import Derived.Test.YtjpbndpfbdfhjaaMNfaA
import Derived.Test.YtjpbndpfbdfhjaaMNfaAs8
import Derived.Maps.OwnSet
import Derived.Maps.Views
namespace Go.Proofs.Ytjpbndpfbdfhjaa.Nfa
open Go.RowKit Go.Proofs.Ytjpbndpfbdfhjaa.Ord Go.Maps
open Go.Proofs.Ytjpbndpfbdfhjaa.Reg (Sp sflat Rop)
set_option linter.unusedVariables false
set_option linter.unusedSimpArgs false

def Ra (v : Value) : Option (DataW Value × List MemPlace) := some (.held v, [])
def kyI (f : Int) : Lit := .int .i64 f
def fv (j : FuncId) : Value := .func (.func j) #[] #[]
theorem wf_kyI {f : Int} (h : -9223372036854775808 ≤ f ∧ f < 9223372036854775808) : (Lit.int .i64 f).wf = true := by
  simp [Lit.wf, IntKind.min, IntKind.max, IntKind.bits, IntKind.signed]; omega
theorem keyedI : Keyed Try.prog 3 := int_keyed Try.underlying3
theorem keyOfI {f : Int} (h : -9223372036854775808 ≤ f ∧ f < 9223372036854775808) : keyOf Try.prog 3 (.int .i64 f) = some (kyI f) := keyOf_int_mk Try.underlying3 (wf_kyI h)
theorem keyI_lit (f : Int) : WideAt.IsKeyLit (kyI f) := trivial
theorem keyI_ne {f g : Int} (h : f ≠ g) : kyI f ≠ kyI g := fun e => h (by unfold kyI at e; injection e)
/-- The map in block b has the functions f. -/
def Mk (w : World) (b n : Nat) (f : Int → Option FuncId) : Prop := ∃ D, w.ownsMap Try.prog 3 Ra b n D ∧ (∀ k, Maps.has D (kyI k) = (f k).isSome) ∧ ∀ k j, f k = some j → ∀ z, D.atKey (kyI k) z = .held (fv j)
theorem Mk.made (w : World) : Mk (w.alloc (.map #[] 0)) w.heap.size 0 (fun _ => none) := ⟨_, World.ownsMap_made w Try.prog 3 Ra, fun _ => rfl, fun _ _ h => by cases h⟩
theorem Mk.store {w : World} {b n : Nat} {f : Int → Option FuncId} (h : Mk w b n f) (k : Int) (hk : -9223372036854775808 ≤ k ∧ k < 9223372036854775808) (hn : n ≤ 1000) (j : FuncId) :
    ∃ w', (Instr.mapUpdate 119 (.map (some b)) (.int .i64 k) (fv j)).run Try.prog w = .ok () w' ∧ Mk w' b (n + 1) (fun i => if i = k then some j else f i) ∧ w.grownBy w' (some b) := by
  obtain ⟨D, ho, h1, h2⟩ := h
  obtain ⟨w', hr, ho', hg⟩ := World.ownsMap.update ho keyedI Try.underlying119 (by unfold maxLen; omega) (keyOfI hk) (val := fv j) (d := .held (fv j)) (ps := []) rfl
  refine ⟨w', hr, ⟨_, ho', fun i => ?_, fun i j' hj z => ?_⟩, hg⟩
  · by_cases e : i = k
    · subst e
      rw [show (fun i' => if i' = i then some j else f i') i = some j from if_pos rfl, has_put_same ho.isMap (keyI_lit _)]; rfl
    · rw [show (fun i' => if i' = k then some j else f i') i = f i from if_neg e, has_put_other (keyI_ne e)]; exact h1 i
  · by_cases e : i = k
    · subst e
      rw [show (fun i' => if i' = i then some j else f i') i = some j from if_pos rfl] at hj
      cases hj
      exact atKey_put_same ho.isMap (keyI_lit _) _ _
    · rw [show (fun i' => if i' = k then some j else f i') i = f i from if_neg e] at hj
      rw [atKey_put_other (keyI_ne e)]; exact h2 i j' hj z
theorem Mk.look {w : World} {b n : Nat} {f : Int → Option FuncId} (h : Mk w b n f) (k : Int) (hk : -9223372036854775808 ≤ k ∧ k < 9223372036854775808) :
    (Instr.lookup 119 (.map (some b)) (.int .i64 k) true).run Try.prog w = .ok (.tuple #[match f k with | some j => fv j | none => .nilFunc, .bool (f k).isSome]) w := by
  obtain ⟨D, ho, h1, h2⟩ := h
  obtain ⟨v, ps, hr, hv⟩ := World.ownsMap.look_ok ho keyedI Try.underlying119 (Try.zeroValue124 w) (zd := .held .nilFunc) (zp := []) rfl (keyOfI hk)
  have hat : D.atKey (kyI k) (.held .nilFunc) = .held v := by
    have e : (DataW.held v, ([] : List MemPlace)) = (D.atKey (kyI k) (.held .nilFunc), ps) := Option.some.inj hv
    exact (Prod.mk.inj e).1.symm
  rw [hr, h1]
  cases hf : f k with
  | none =>
    have := h1 k
    rw [hf] at this
    rw [atKey_of_not_has this] at hat
    cases hat
    rfl
  | some j =>
    rw [h2 k j hf] at hat
    cases hat
    rfl
theorem Mk.kept {w w' : World} {b n : Nat} {f : Int → Option FuncId} (h : Mk w b n f) (he : ∀ es k, w.heap[b]? = some (.map es k) → w'.heap[b]? = w.heap[b]?) : Mk w' b n f := by
  obtain ⟨D, ⟨es, clock, hb, r⟩, h1⟩ := h
  exact ⟨D, ⟨es, clock, (he _ _ hb).trans hb, r⟩, h1⟩
theorem Mk.lt {w : World} {b n : Nat} {f : Int → Option FuncId} (h : Mk w b n f) : b < w.heap.size := by
  obtain ⟨D, ho, _⟩ := h
  exact ho.lt
theorem Mk.wr {w w' : World} {b n : Nat} {f : Int → Option FuncId} (h : Mk w b n f) (hw : Wr w w') : Mk w' b n f := h.kept fun es k e => hw.keep b h.lt (fun o t fz e' => by rw [e] at e'; cases e')
theorem Mk.below {w w' : World} {b n : Nat} {f : Int → Option FuncId} (h : Mk w b n f) (hb : Below w.heap.size w w') : Mk w' b n f := h.kept fun es k e => hb.block b h.lt

/-- The functions that the map has. -/
def mkF (k : Int) : Option FuncId := if k = 7 then some 63 else if k = 6 then some 62 else if k = 5 then some 61 else if k = 4 then some 60 else if k = 3 then some 59 else if k = 2 then some 58 else if k = 1 then some 57 else none

set_option maxRecDepth 100000 in
set_option maxHeartbeats 1000000 in
theorem makers_call (w : World) : Calls Try.prog 48 #[] w fun e w' => e = .returned (.map (some w.heap.size)) ∧ Mk w' w.heap.size 7 mkF ∧ Below w.heap.size w w' := by
  have hmm := @run_makeMap Try.prog
  obtain ⟨w1, r1, m1, g1⟩ := (Mk.made w).store 1 (by decide) (by decide) 57
  obtain ⟨w2, r2, m2, g2⟩ := m1.store 2 (by decide) (by decide) 58
  obtain ⟨w3, r3, m3, g3⟩ := m2.store 3 (by decide) (by decide) 59
  obtain ⟨w4, r4, m4, g4⟩ := m3.store 4 (by decide) (by decide) 60
  obtain ⟨w5, r5, m5, g5⟩ := m4.store 5 (by decide) (by decide) 61
  obtain ⟨w6, r6, m6, g6⟩ := m5.store 6 (by decide) (by decide) 62
  obtain ⟨w7, r7, m7, g7⟩ := m6.store 7 (by decide) (by decide) 63
  have HM := Lib.hid m7
  have hgb : ∀ {a b : World}, Below w.heap.size w a → a.grownBy b (some w.heap.size) → Below w.heap.size w b := fun ha hg => ha.trans ⟨hg.os, hg.tape, hg.output, hg.size, fun k hk => hg.block k (Nat.lt_of_lt_of_le hk ha.size) (fun e => by cases e; omega)⟩
  have HB := Lib.hid (hgb (hgb (hgb (hgb (hgb (hgb (hgb ((Below.refl _ _).alloc (Nat.le_refl _) _) g1) g2) g3) g4) g5) g6) g7)
  clear m1 m2 m3 m4 m5 m6 m7 g1 g2 g3 g4 g5 g6 g7 hgb
  simp only [fv] at r1 r2 r3 r4 r5 r6 r7
  go_enter Try.func48, Try.ntmps48
  go_wp2_with fail
  go_ret
  exact ⟨rfl, HM.out, HB.out⟩

/-- What the map's function does with an op. -/
theorem op_call (w0 w : World) (s : Nat) (q : Lw) (h : Sq w0 w s q) (hlen : q.bs.length ≤ 100000) (o : Rop) (A : Option Addr) (l c : Nat) (hsp : Cz w0 A (sflat o.sp)) (hl : o.sp.length = l) (j : FuncId) (hj : mkF o.kind = some j) :
    Calls Try.prog j #[.pointer (some ⟨s, 0, none⟩), .agg #[.int .i64 o.kind, .bool o.neg, .slice A l c]] w (MSays w0 w s (opL o q)) := by
  unfold mkF at hj
  unfold opL
  obtain ⟨kd, ng, sp⟩ := o
  dsimp only at *
  by_cases h1 : kd = 1
  · subst h1
    cases hj
    exact set_call w0 w s q h hlen 1 ng A l c sp hsp hl
  by_cases h2 : kd = 2
  · subst h2
    cases hj
    exact none_call w0 w s q h hlen 2 ng A l c
  by_cases h3 : kd = 3
  · subst h3
    cases hj
    rw [if_neg h1, if_neg h2, if_pos rfl]
    rcases hb : q.bs with _ | ⟨b, _ | ⟨a, r⟩⟩
    · exact cat_no w0 w s q h hlen 3 ng A l c (by rw [hb]; simp)
    · exact cat_no w0 w s q h hlen 3 ng A l c (by rw [hb]; simp)
    · exact cat_ok w0 w s q h hlen 3 ng A l c a b r hb
  by_cases h4 : kd = 4
  · subst h4
    cases hj
    rw [if_neg h1, if_neg h2, if_neg h3, if_pos rfl]
    rcases hb : q.bs with _ | ⟨b, _ | ⟨a, r⟩⟩
    · exact alt_no w0 w s q h hlen 4 ng A l c (by rw [hb]; simp)
    · exact alt_no w0 w s q h hlen 4 ng A l c (by rw [hb]; simp)
    · exact alt_ok w0 w s q h hlen 4 ng A l c a b r hb
  by_cases h5 : kd = 5
  · subst h5
    cases hj
    rw [if_neg h1, if_neg h2, if_neg h3, if_neg h4, if_pos rfl]
    rcases hb : q.bs with _ | ⟨a, r⟩
    · exact star_no w0 w s q h hlen 5 ng A l c hb
    · exact star_ok w0 w s q h hlen 5 ng A l c a r hb
  by_cases h6 : kd = 6
  · subst h6
    cases hj
    rw [if_neg h1, if_neg h2, if_neg h3, if_neg h4, if_neg h5, if_pos rfl]
    rcases hb : q.bs with _ | ⟨a, r⟩
    · exact plus_no w0 w s q h hlen 6 ng A l c hb
    · exact plus_ok w0 w s q h hlen 6 ng A l c a r hb
  by_cases h7 : kd = 7
  · subst h7
    cases hj
    rw [if_neg h1, if_neg h2, if_neg h3, if_neg h4, if_neg h5, if_neg h6, if_pos rfl]
    rcases hb : q.bs with _ | ⟨a, r⟩
    · exact opt_no w0 w s q h hlen 7 ng A l c hb
    · exact opt_ok w0 w s q h hlen 7 ng A l c a r hb
  rw [if_neg h7, if_neg h6, if_neg h5, if_neg h4, if_neg h3, if_neg h2, if_neg h1] at hj
  cases hj
theorem op_none (q : Lw) (o : Rop) (hj : mkF o.kind = none) : opL o q = none := by
  unfold mkF at hj
  unfold opL
  by_cases h1 : o.kind = 1
  · rw [h1] at hj; cases hj
  by_cases h2 : o.kind = 2
  · rw [h2] at hj; cases hj
  by_cases h3 : o.kind = 3
  · rw [h3] at hj; cases hj
  by_cases h4 : o.kind = 4
  · rw [h4] at hj; cases hj
  by_cases h5 : o.kind = 5
  · rw [h5] at hj; cases hj
  by_cases h6 : o.kind = 6
  · rw [h6] at hj; cases hj
  by_cases h7 : o.kind = 7
  · rw [h7] at hj; cases hj
  rw [if_neg h1, if_neg h2, if_neg h3, if_neg h4, if_neg h5, if_neg h6, if_neg h7]
end Go.Proofs.Ytjpbndpfbdfhjaa.Nfa
