/-
  Words for layer 5 (disk): what a call may have written, by the kinds of blocks; rows of sectors; the map of files.
  What syncAll makes of a row of sectors; words for writing within a row.
-/
import Derived.Test.YtdaknfepcbooeaaGreatMBase
import Derived.Test.YtdaknfepcbooeaaGreatMPure
import Derived.Maps.RangeWalk
import Derived.Maps.OwnSet
import Derived.Lib.SlKeysI
import Derived.WalkKit
import Derived.ProofKit
import Derived.Below
import Derived.Outline
import Derived.Laws.BitsAllLaws
import Derived.OwnWalk
import Derived.RegionTactic
import Derived.Lib.Hide
import Derived.Deep.WholeRow
import Derived.Deep.MidRow
import Derived.Lib.SliceRun
import Derived.Deep.Onto
import Derived.Test.YtdaknfepcbooeaaGreatRows
import Derived.Laws.OwnMore
section
namespace Go.Proofs.YtdaknfepcbooeaaGreat.Disk
open Go.RowKit Go.Maps
set_option linter.unusedVariables false
set_option linter.unusedSimpArgs false

/-- Blocks that the program's disk writes. -/
def Dob : Obj → Prop
  | .map _ _ => True
  | .cells _ t _ => t = 65 ∨ t = 126
  | _ => False
/-- Blocks that the document's disk writes. -/
def Rob : Obj → Prop
  | .cells _ t _ => t = 38 ∨ t = 85
  | _ => False

/-- What was there stays as it was, but for blocks from B on of which T holds. -/
structure Chg (B : Nat) (T : Obj → Prop) (w w' : World) : Prop where
  os : w'.os = w.os
  tape : w'.tape = w.tape
  output : w'.output = w.output
  size : w.heap.size ≤ w'.heap.size
  block : ∀ k o, w.heap[k]? = some o → (k < B ∨ ¬ T o) → w'.heap[k]? = some o
namespace Chg
variable {B : Nat} {T : Obj → Prop} {w w1 w2 : World}
theorem refl (B : Nat) (T : Obj → Prop) (w : World) : Chg B T w w := ⟨rfl, rfl, rfl, Nat.le_refl _, fun _ _ h _ => h⟩
theorem trans (h : Chg B T w w1) (h2 : Chg B T w1 w2) : Chg B T w w2 :=
  ⟨h2.os.trans h.os, h2.tape.trans h.tape, h2.output.trans h.output, Nat.le_trans h.size h2.size, fun k o hk hn => h2.block k o (h.block k o hk hn) hn⟩
theorem of_below (h : Below w.heap.size w w1) : Chg B T w w1 :=
  ⟨h.os, h.tape, h.output, h.size, fun k o hk _ => (h.block k (Array.getElem?_eq_some_iff.1 hk).1).trans hk⟩
theorem call (h : Chg B T w w1) (h2 : Below w1.heap.size w1 w2) : Chg B T w w2 := h.trans (of_below h2)
theorem drew (h : Chg B T w w1) : Chg B T w w1.drew := ⟨h.os, h.tape, h.output, h.size, h.block⟩
theorem alloc (h : Chg B T w w1) (o : Obj) : Chg B T w (w1.alloc o) := h.call ((Below.refl _ _).alloc (Nat.le_refl _) _)
theorem grown (h : Chg B T w w1) {row : Option Nat} (hg : w1.grownBy w2 row) (hr : ∀ g, row = some g → w.heap.size ≤ g ∨ (B ≤ g ∧ ∃ o, w1.heap[g]? = some o ∧ T o)) : Chg B T w w2 := by
  refine ⟨hg.os.trans h.os, hg.tape.trans h.tape, hg.output.trans h.output, Nat.le_trans h.size hg.size, fun k o hk hn => ?_⟩
  have h1 := h.block k o hk hn
  have hk' := (Array.getElem?_eq_some_iff.1 hk).1
  by_cases e : some k = row
  · rcases hr k e.symm with h3 | ⟨h3, o', h4, h5⟩
    · omega
    · rw [h1] at h4
      cases h4
      rcases hn with hn | hn
      · omega
      · exact absurd h5 hn
  · exact (hg.block k (Nat.lt_of_lt_of_le hk' h.size) e).trans h1
theorem set (h : Chg B T w w1) {p : Addr} (u : Value) (hr : w.heap.size ≤ p.block ∨ (B ≤ p.block ∧ ∃ o, w1.heap[p.block]? = some o ∧ T o)) : Chg B T w (w1.setCell p u) :=
  h.grown (row := some p.block) ⟨rfl, rfl, rfl, by simp [World.setCell], fun k _ hk => Below.heap_setCell _ _ _ _ (fun e => hk (by rw [e]))⟩ (fun g e => by cases e; exact hr)
theorem below (h : Chg B T w w1) (hB : B ≤ w.heap.size) : Below B w w1 :=
  ⟨h.os, h.tape, h.output, h.size, fun k hk => by
    have : k < w.heap.size := by omega
    have e := Array.getElem?_eq_getElem this
    rw [h.block k _ e (.inl hk), e]⟩
/-- One that only made memory, out of one that was asked for less. -/
theorem mono {B' : Nat} {T' : Obj → Prop} (h : Chg B T w w1) (hB : B' ≤ B) (hT : ∀ o, T o → T' o) : Chg B' T' w w1 :=
  ⟨h.os, h.tape, h.output, h.size, fun k o hk hn => h.block k o hk (hn.imp (fun h => by omega) (fun hn ht => hn (hT o ht)))⟩
end Chg

theorem Cel.chg {B : Nat} {T : Obj → Prop} {w w' : World} {g : Nat} {t : TypeId} {cs : List Value} (h : Cel w g t cs) (hc : Chg B T w w') (hT : ¬ T (.cells cs.toArray t (0, 0))) : Cel w' g t cs := hc.block _ _ h (.inr hT)

/-- A row of an own type stays if blocks of another kind are written. -/
theorem own_chg {B base e size n : Nat} {T : Obj → Prop} {w w' : World} {v : Value} {xs : List Value} (h : w.ownsRow base e size v n xs) (hc : Chg B T w w') (hT : ∀ cur, ¬ T (.cells cur e (0, 0))) : w'.ownsRow base e size v n xs := by
  refine ⟨h.1, h.2.imp id ?_⟩
  rintro ⟨g, cap, cur, hv, hb, hg, hr⟩
  exact ⟨g, cap, cur, hv, hb, hc.block _ _ hg (.inr (hT cur)), hr⟩

/-- The value v is a slice that holds the bools ks: below B, or in a block of bools. -/
def Bo (w : World) (B : Nat) (v : Value) (ks : List Bool) : Prop :=
  ∃ A c, v = .slice A ks.length c ∧ ks.length ≤ c ∧ (0 < ks.length → ∃ ad, A = some ad ∧ (∃ o, w.heap[ad.block]? = some o ∧ (ad.block < B ∨ ∃ cs fz, o = .cells cs 4 fz)) ∧ ∀ j k, ks[j]? = some k → w.cell? (ad.add j) = some (.bool k))
theorem Bo.chg {B : Nat} {T : Obj → Prop} {w w' : World} {v : Value} {ks : List Bool} (h : Bo w B v ks) (hc : Chg B T w w') (hT : ∀ cs fz, ¬ T (.cells cs 4 fz)) : Bo w' B v ks := by
  obtain ⟨A, c, rfl, hcap, hn⟩ := h
  refine ⟨A, c, rfl, hcap, fun h0 => ?_⟩
  obtain ⟨ad, rfl, ⟨o, ho, hk⟩, hcell⟩ := hn h0
  have hb : w'.heap[ad.block]? = some o := by
    rcases hk with hk | ⟨cs, fz, rfl⟩
    · exact hc.block _ _ ho (.inl hk)
    · exact hc.block _ _ ho (.inr (hT cs fz))
  exact ⟨ad, rfl, ⟨o, hb, hk⟩, fun j k hj => (World.cell?_of_block (by rw [add_block, hb, ho])).trans (hcell j k hj)⟩
theorem Bo.below {B : Nat} {w w' : World} {v : Value} {ks : List Bool} (h : Bo w B v ks) (hb : Below w.heap.size w w') : Bo w' B v ks :=
  h.chg (T := fun _ => False) (Chg.of_below hb) (fun _ _ h => h)
theorem Bo.nil_ (w : World) (B : Nat) : Bo w B (.slice none 0 0) [] := ⟨none, 0, rfl, Nat.le_refl _, fun h => absurd h (by simp)⟩

/-! Rows of sectors -/
def Sc.cells (x : Sc) : List Value := x.b.map v8 ++ [.bool x.s]
def cellsOf (xs : List Sc) : List Value := xs.flatMap Sc.cells
def Full (xs : List Sc) : Prop := ∀ x ∈ xs, x.b.length = 512
theorem Sc.cells_len {x : Sc} (h : x.b.length = 512) : x.cells.length = 513 := by simp [Sc.cells, h]
theorem cellsOf_cons (x : Sc) (xs : List Sc) : cellsOf (x :: xs) = x.cells ++ cellsOf xs := List.flatMap_cons ..
theorem cellsOf_app (xs ys : List Sc) : cellsOf (xs ++ ys) = cellsOf xs ++ cellsOf ys := List.flatMap_append ..
theorem cellsOf_one (x : Sc) : cellsOf [x] = x.cells := by simp [cellsOf]
theorem cellsOf_len {xs : List Sc} (h : Full xs) : (cellsOf xs).length = xs.length * 513 := by
  induction xs with
  | nil => rfl
  | cons x xs ih => rw [cellsOf_cons, List.length_append, Sc.cells_len (h x (by simp)), ih (fun y hy => h y (by simp [hy])), List.length_cons]; omega
theorem cells_one (x : Sc) : ∀ u ∈ x.cells, u.oneCell' = true := by
  intro u hu
  rcases List.mem_append.1 hu with h | h
  · obtain ⟨y, _, rfl⟩ := List.mem_map.1 h; rfl
  · rw [List.mem_singleton.1 h]; rfl
theorem cellsOf_at {xs : List Sc} (h : Full xs) {i : Nat} {x : Sc} (hx : xs[i]? = some x) {k : Nat} (hk : k < 513) : (cellsOf xs)[i * 513 + k]? = x.cells[k]? := by
  induction xs generalizing i with
  | nil => simp at hx
  | cons y ys ih =>
    have hy := Sc.cells_len (h y (by simp))
    rw [cellsOf_cons]
    cases i with
    | zero => simp at hx; subst hx; rw [List.getElem?_append_left (by omega), Nat.zero_mul, Nat.zero_add]
    | succ i =>
      rw [List.getElem?_append_right (by omega), hy, show (i + 1) * 513 + k - 513 = i * 513 + k by omega]
      exact ih (fun z hz => h z (by simp [hz])) (by simpa using hx)
theorem set_cells {xs : List Sc} (h : Full xs) {i : Nat} {x : Sc} (hx : xs[i]? = some x) {k : Nat} (hk : k < 513) (u : Value) (y : Sc) (hy : x.cells.set k u = y.cells) : (cellsOf xs).set (i * 513 + k) u = cellsOf (xs.set i y) := by
  induction xs generalizing i with
  | nil => simp at hx
  | cons z zs ih =>
    have hz := Sc.cells_len (h z (by simp))
    rw [cellsOf_cons]
    cases i with
    | zero =>
      simp at hx; subst hx
      rw [Nat.zero_mul, Nat.zero_add, List.set_append_left _ _ (by omega), hy, List.set_cons_zero, cellsOf_cons]
    | succ i =>
      rw [List.set_append_right _ _ (by omega), hz, List.set_cons_succ, cellsOf_cons, show (i + 1) * 513 + k - 513 = i * 513 + k by omega]
      rw [ih (fun z hz => h z (by simp [hz])) (by simpa using hx)]
theorem cells_syn {x : Sc} (h : x.b.length = 512) : x.cells.set 512 (.bool true) = x.syn.cells := by
  have e : (x.b.map v8).length = 512 := by rw [List.length_map]; exact h
  unfold Sc.cells Sc.syn
  rw [List.set_append_right _ _ (by rw [e]; exact Nat.le_refl _), e, Nat.sub_self]
  rfl

/-- A row of sectors of the disk's own. -/
def Rw (w : World) (B : Nat) (v : Value) (xs : List Sc) : Prop := w.ownsRow B 126 513 v xs.length (cellsOf xs)

/-! The map of files -/
def Rv (v : Value) : Option (DataW Value × List MemPlace) := match v with | .slice A n c => some (.held (.slice A n c), []) | _ => none
theorem Rv_inv {v : Value} {y : DataW Value × List MemPlace} (h : Rv v = some y) : ∃ A n c, v = .slice A n c ∧ y = (.held (.slice A n c), []) := by
  unfold Rv at h
  split at h
  · cases h; exact ⟨_, _, _, rfl, rfl⟩
  · cases h
abbrev ky (f : Int) : Lit := .int .i64 f
def dat (fs : List Int) (vs : Int → Value) : DataW Value := .map (fs.map fun f => (ky f, .held (vs f)))
def upd (vs : Int → Value) (f : Int) (v : Value) : Int → Value := fun g => if g = f then v else vs g
theorem same_ky (f g : Int) : (ky f).sameKey (ky g) = decide (f = g) := by simp [Lit.sameKey]
theorem has_dat (fs : List Int) (vs : Int → Value) (f : Int) : Maps.has (dat fs vs) (ky f) = decide (f ∈ fs) := by
  rw [dat, Maps.has_eq]
  induction fs with
  | nil => simp
  | cons g fs ih =>
    rw [List.map_cons, List.any_cons, ih, same_ky]
    by_cases h : g = f
    · subst h; simp
    · have h' : ¬ f = g := fun e => h e.symm
      simp [h, h']
theorem at_dat {fs : List Int} {vs : Int → Value} {f : Int} (h : f ∈ fs) (z : DataW Value) : (dat fs vs).atKey (ky f) z = .held (vs f) := by
  unfold dat DataW.atKey
  dsimp only
  induction fs with
  | nil => simp at h
  | cons g fs ih =>
    rw [List.map_cons, List.find?_cons]
    simp only [same_ky]
    by_cases hg : g = f
    · simp [hg]
    · simp only [hg, decide_false]
      exact ih (by rcases List.mem_cons.1 h with e | e; exact absurd e.symm hg; exact e)
theorem at_dat_none {fs : List Int} {vs : Int → Value} {f : Int} (h : f ∉ fs) (z : DataW Value) : (dat fs vs).atKey (ky f) z = z := Maps.atKey_of_not_has (by rw [has_dat]; simpa using h) z
theorem insert_dat (fs : List Int) (vs : Int → Value) (f : Int) (v : Value) (hn : f ∉ fs) : DataW.insert (ky f, .held v) (fs.map fun f => (ky f, DataW.held (vs f))) = (ins f fs).map fun g => (ky g, DataW.held (upd vs f v g)) := by
  have key : ∀ fs : List Int, f ∉ fs → (fs.map fun f => (ky f, DataW.held (vs f))) = fs.map fun g => (ky g, DataW.held (upd vs f v g)) := by
    intro fs hn
    refine List.map_congr_left fun g hg => ?_
    have : g ≠ f := fun e => hn (e ▸ hg)
    simp [upd, this]
  induction fs with
  | nil => simp [DataW.insert, ins, upd]
  | cons g fs ih =>
    have hg : g ≠ f := fun e => hn (by simp [e])
    have ih := ih (fun hm => hn (by simp [hm]))
    rw [List.map_cons]
    unfold DataW.insert ins
    simp only [Lit.before]
    by_cases hlt : f < g
    · simp only [hlt, decide_true, if_true]
      rw [List.map_cons, List.map_cons, ← key fs (fun hm => hn (by simp [hm]))]
      simp [upd, hg]
    · simp only [hlt, decide_false, Bool.false_eq_true, if_false]
      rw [ih, List.map_cons]
      simp [upd, hg]
theorem del_dat (fs : List Int) (vs : Int → Value) (f : Int) : (dat fs vs).del (ky f) = dat (without f fs) vs := by
  show DataW.map ((fs.map fun f => (ky f, DataW.held (vs f))).filter fun p => !p.1.sameKey (ky f)) = _
  rw [List.filter_map]
  unfold dat without
  congr 2
  refine List.filter_congr fun g _ => ?_
  simp [same_ky]
theorem put_dat (fs : List Int) (vs : Int → Value) (f : Int) (v : Value) : (dat fs vs).put (ky f) (.held v) = dat (add f fs) (upd vs f v) := by
  show DataW.map (DataW.insert (ky f, .held v) ((fs.map fun f => (ky f, DataW.held (vs f))).filter fun p => !p.1.sameKey (ky f))) = _
  have e := del_dat fs vs f
  have e' : ((fs.map fun f => (ky f, DataW.held (vs f))).filter fun p => !p.1.sameKey (ky f)) = (without f fs).map fun f => (ky f, DataW.held (vs f)) := DataW.map.inj e
  rw [e', insert_dat _ vs f v (by simp [mem_without])]
  rfl
theorem keys_dat (fs : List Int) (vs : Int → Value) : intKeys (dat fs vs) = fs := by
  show (fs.map fun f => (ky f, DataW.held (vs f))).map (fun p => Go.intOf p.1) = fs
  rw [List.map_map]
  conv => rhs; rw [← List.map_id fs]
  rfl
theorem size_dat (fs : List Int) (vs : Int → Value) : Maps.size (dat fs vs) = fs.length := by simp [dat, Maps.size]

theorem wf_ky {f : Int} (h : -9223372036854775808 ≤ f ∧ f < 9223372036854775808) : (Lit.int .i64 f).wf = true := by
  simp [Lit.wf, IntKind.min, IntKind.max, IntKind.bits, IntKind.signed]; omega

/-- The map in block b has the files fs, each with its row's value. -/
def Mp (w : World) (b : Nat) (fs : List Int) (vs : Int → Value) : Prop := w.ownsMap Tryz.prog 3 Rv b fs.length (dat fs vs)
theorem Mp.of_owns {w : World} {b n : Nat} {fs : List Int} {vs : Int → Value} (h : w.ownsMap Tryz.prog 3 Rv b n (dat fs vs)) : Mp w b fs vs := by
  obtain ⟨es, clock, hb, F, hs, hD⟩ := h
  refine ⟨es, clock, hb, F, ?_, hD⟩
  have e : Maps.size (dat fs vs) = es.size := by rw [hD, Maps.size_eq, length_sorted]; simp
  rw [size_dat] at e; omega
theorem Mp.chg {w w' : World} {b B : Nat} {fs : List Int} {vs : Int → Value} {T : Obj → Prop} (h : Mp w b fs vs) (hc : Chg B T w w') (hT : ∀ es k, ¬ T (.map es k)) : Mp w' b fs vs := by
  obtain ⟨es, clock, hb, r⟩ := h
  exact ⟨es, clock, hc.block _ _ hb (.inr (hT _ _)), r⟩
end Go.Proofs.YtdaknfepcbooeaaGreat.Disk
end

section
namespace Go.Proofs.YtdaknfepcbooeaaGreat.Disk
open Go.RowKit
set_option linter.unusedVariables false
set_option linter.unusedSimpArgs false

/-- The value of a row. -/
theorem Rw.form {w : World} {B : Nat} {v : Value} {xs : List Sc} (h : Rw w B v xs) : ∃ A c, v = .slice A xs.length c := by
  rcases h.2 with ⟨rfl, h0⟩ | ⟨g, cap, cur, rfl, _⟩
  · exact ⟨none, 0, by rw [h0]⟩
  · exact ⟨_, _, rfl⟩
/-- A row is nil, or lies in a block. -/
theorem Rw.cases {w : World} {B : Nat} {v : Value} {xs : List Sc} (h : Rw w B v xs) : (v = .slice none 0 0 ∧ xs = []) ∨ ∃ g cap, v = .slice (some ⟨g, 0, none⟩) xs.length cap ∧ B ≤ g ∧ g < w.heap.size ∧ (∃ cur, w.heap[g]? = some (.cells cur 126 (0, 0))) := by
  rcases h.2 with ⟨rfl, h0⟩ | ⟨g, cap, cur, rfl, hB, hg, _⟩
  · exact .inl ⟨rfl, List.length_eq_zero_iff.1 h0⟩
  · exact .inr ⟨g, cap, rfl, hB, (Array.getElem?_eq_some_iff.1 hg).1, cur, hg⟩
theorem Rw.flag {w : World} {B g cap : Nat} {xs : List Sc} (h : Rw w B (.slice (some ⟨g, 0, none⟩) xs.length cap) xs) (hF : Full xs) {i : Nat} {x : Sc} (hx : xs[i]? = some x) : w.cell? ⟨g, i * 513 + 512, none⟩ = some (.bool x.s) := by
  have h1 := cellsOf_at hF hx (k := 512) (by omega)
  have h2 : x.cells[512]? = some (.bool x.s) := by
    have hl := hF x (List.mem_of_getElem? hx)
    unfold Sc.cells
    rw [List.getElem?_append_right (by simp; omega)]
    simp [hl]
  rw [h2] at h1
  have := World.ownsRow.cells h (g := g) rfl _ _ h1
  rwa [Addr.add_lit, Nat.zero_add] at this
theorem Rw.syncAt {w : World} {B g cap : Nat} {xs : List Sc} (h : Rw w B (.slice (some ⟨g, 0, none⟩) xs.length cap) xs) (hF : Full xs) {i : Nat} {x : Sc} (hx : xs[i]? = some x) :
    Rw (w.setCell ⟨g, i * 513 + 512, none⟩ (.bool true)) B (.slice (some ⟨g, 0, none⟩) xs.length cap) (xs.set i x.syn) ∧ w.grownBy (w.setCell ⟨g, i * 513 + 512, none⟩ (.bool true)) (some g) := by
  obtain ⟨h1, h2⟩ := World.ownsRow.stored h (i * 513 + 512) (.bool true)
  refine ⟨?_, h2⟩
  rw [set_cells hF hx (by omega) _ x.syn (cells_syn (hF x (List.mem_of_getElem? hx)))] at h1
  unfold Rw
  rw [List.length_set]
  exact h1
theorem take_syn {xs : List Sc} {k : Nat} {x : Sc} (hx : xs[k]? = some x) : ((xs.take k).map Sc.syn ++ xs.drop k).set k x.syn = (xs.take (k + 1)).map Sc.syn ++ xs.drop (k + 1) := by
  obtain ⟨hk, rfl⟩ := List.getElem?_eq_some_iff.1 hx
  have hl : ((xs.take k).map Sc.syn).length = k := by rw [List.length_map, List.length_take]; omega
  rw [List.set_append_right _ _ (by omega), hl, Nat.sub_self, List.drop_eq_getElem_cons hk, List.take_succ_eq_append_getElem hk, List.set_cons_zero, List.map_append, List.append_assoc]
  rfl
theorem full_syn {xs : List Sc} (h : Full xs) : Full (xs.map Sc.syn) := by
  intro y hy
  obtain ⟨x, hx, rfl⟩ := List.mem_map.1 hy
  exact h x hx
theorem full_app {xs ys : List Sc} (h : Full xs) (h2 : Full ys) : Full (xs ++ ys) := by
  intro y hy
  rcases List.mem_append.1 hy with hy | hy
  · exact h y hy
  · exact h2 y hy
theorem full_take {xs : List Sc} (h : Full xs) (k : Nat) : Full (xs.take k) := fun y hy => h y (List.mem_of_mem_take hy)
theorem full_drop {xs : List Sc} (h : Full xs) (k : Nat) : Full (xs.drop k) := fun y hy => h y (List.mem_of_mem_drop hy)
theorem full_mid {xs : List Sc} (h : Full xs) (k : Nat) : Full ((xs.take k).map Sc.syn ++ xs.drop k) := full_app (full_syn (full_take h k)) (full_drop h k)

set_option maxRecDepth 100000 in
set_option maxHeartbeats 1000000 in
theorem syncAll_ok (w : World) (B : Nat) (v : Value) (xs : List Sc) (h : Rw w B v xs) (hF : Full xs) (hn : xs.length ≤ 1000) :
    Calls Tryz.prog 86 #[v] w fun e w' => e = .returned (.tuple #[]) ∧ Rw w' B v (xs.map Sc.syn) ∧ w.grownBy w' v.ownBlock := by
  rcases h.cases with ⟨rfl, rfl⟩ | ⟨g, cap, rfl, hB, hg, -⟩
  · clear hn hF
    go_enter Tryz.func86, Tryz.ntmps86
    go_wp2_with fail
    refine wp_loop_rounds 1 ?_
    rw [rounds_succ]
    go_wp2_with fail
    go_end0
    exact ⟨rfl, h, ⟨rfl, rfl, rfl, Nat.le_refl _, fun _ _ _ => rfl⟩⟩
  · have HF := Lib.hid hF
    have H := Lib.hid h
    clear h hF hB hg
    go_enter Tryz.func86, Tryz.ntmps86
    go_wp2_with fail
    go_loopw [5] (fun i wr => ∃ k : Nat, k ≤ xs.length ∧ i = .int .i64 k ∧ Rw wr B (.slice (some ⟨g, 0, none⟩) xs.length cap) ((xs.take k).map Sc.syn ++ xs.drop k) ∧ w.grownBy wr (some g)) (fun i wr => xs.length - (Go.RowKit.intOf i).toNat)
    case atStart => exact ⟨0, Nat.zero_le _, rfl, by simpa using H.out, ⟨rfl, rfl, rfl, Nat.le_refl _, fun _ _ _ => rfl⟩⟩
    case round =>
      obtain ⟨k, hk, rfl, hr, hg⟩ := hrel
      have HR := Lib.hid hr
      have HG := Lib.hid hg
      clear hr hg
      by_cases hlt : k < xs.length
      · obtain ⟨x, hx⟩ : ∃ x, xs[k]? = some x := ⟨_, List.getElem?_eq_getElem hlt⟩
        have hx2 : ((xs.take k).map Sc.syn ++ xs.drop k)[k]? = some x := by
          have hl : ((xs.take k).map Sc.syn).length = k := by rw [List.length_map, List.length_take]; omega
          rw [List.getElem?_append_right (by omega), hl, Nat.sub_self, List.getElem?_drop]
          exact hx
        have hlen : ((xs.take k).map Sc.syn ++ xs.drop k).length = xs.length := by simp; omega
        have hr := HR.out
        rw [← hlen] at hr
        have hc := hr.flag (full_mid HF.out k) hx2
        have hfz := World.ownsRow.frozenAt hr (k * 513 + 512)
        obtain ⟨h1, h2⟩ := hr.syncAt (full_mid HF.out k) hx2
        rw [hlen, take_syn hx] at h1
        have H1 := Lib.hid h1
        have H2 := Lib.hid h2
        clear hx hx2 hlen hr h1 h2
        go_wp2_with fail
        go_roundw
        case rel => exact ⟨k + 1, by omega, by go_num, H1.out, HG.out.andThen H2.out (fun j hj => .inr hj)⟩
        case measure => simp [Go.RowKit.intOf]; omega
      · obtain rfl : k = xs.length := by omega
        go_wp2_with fail
        go_end0
        refine ⟨rfl, ?_, HG.out⟩
        have := HR.out
        simpa using this
end Go.Proofs.YtdaknfepcbooeaaGreat.Disk
end
