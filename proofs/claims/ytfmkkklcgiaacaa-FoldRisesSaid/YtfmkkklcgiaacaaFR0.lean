/-
Texts: Open OpenRecs Bytes RecPure FoldPure Append Mem LexPure RowTy By LexOne
-/
import Derived.WalkKit
import Derived.ProofKit
import Derived.OpenShut
import Derived.Deep.Slices
import Derived.Deep.Fields
import Derived.ChangeSame
import Derived.Test.YtfmkkklcgiaacaaRows
import Derived.Below
import Derived.Laws.OwnMore
import Derived.Deep.AppendLies
import Derived.Deep.Draws
import Derived.Maps.AppendAt
import Derived.RegionTactic
import Derived.OwnWalk
import Derived.Laws.Rows
import Derived.Laws.BytesString
import Derived.Lib.BufferRead
import Derived.Lib.Hide
import Derived.Test.YtfmkkklcgiaacaaChecked
import Derived.OrdersHeld
import Derived.Deep.RegionHeld
set_option linter.unusedVariables false
set_option linter.unusedSimpArgs false
set_option maxHeartbeats 4000000
section
namespace Go.Proofs.Ytfmkkklcgiaacaa
open Go.ChangeShapes Go.WideShapes Go.RowKit Go.Deep
inductive Kd
 | int (k : IntKind)
 | bool
 | string
 | slice (e : Kd)
 | recs (fs : List Kd)
inductive IsV (w : World) : Kd → Value → Prop
 | int {k : IntKind} {a : Int} (h : (Lit.int k a).wf = true) : IsV w (.int k) (.int k a)
 | bool (b : Bool) : IsV w .bool (.bool b)
 | string {s : ByteArray} (h : s.size ≤ maxLen) : IsV w .string (.string s)
 | nil {e : Kd} : IsV w (.slice e) (.slice none 0 0)
 | slice {e : Kd} {x : Addr} {l c : Nat} (U : Nat → Value) (hl : l ≤ c) (hc : c ≤ maxLen) (hcell : ∀ i, i < l → w.cell? (x.add i) = some (U i)) (hU : ∀ i, i < l → IsV w e (U i)) : IsV w (.slice e) (.slice (some x) l c)
 | rnil {fs : List Kd} : IsV w (.recs fs) (.slice none 0 0)
 | recs {fs : List Kd} {x : Addr} {l c : Nat} (U : Nat → Nat → Value) (hl : l ≤ c) (hc : c ≤ maxLen) (hcell : ∀ i j, i < l → j < fs.length → w.cell? (x.add (i * fs.length + j)) = some (U i j))
   (hU : ∀ i j k, i < l → fs[j]? = some k → IsV w k (U i j)) : IsV w (.recs fs) (.slice (some x) l c)
def kindOf (P : Program) : Nat → TypeId → Option Kd
 | 0, _ => none
 | n + 1, t => match P.underlying t with
  | some (.int k) => some (.int k)
  | some .bool => some .bool
  | some .string => some .string
  | some (.slice e) =>
   if P.cellsOf e = 1 then (kindOf P n e).map .slice
   else match P.underlying e with
    | some (.struct fs) => if oneCellFields P fs && (P.cellsOf e == fs.size) then (fs.toList.mapM fun f => kindOf P n f.type).map .recs else none
    | _ => none
  | _ => none
section
variable {H : Type} {enc : TypeId × Value → H} {P : Program} {w : World} {base : Nat} {spare : Nat → Bool} {held : Bool}
theorem mapM_at {α β : Type} {f : α → Option β} : ∀ {l : List α} {r : List β}, l.mapM f = some r → r.length = l.length ∧ ∀ (j : Nat) (b : β), r[j]? = some b → ∃ a, l[j]? = some a ∧ f a = some b
 | [], r, h => by simp at h; subst h; exact ⟨rfl, by simp⟩
 | a :: l, r, h => by
  simp only [List.mapM_cons, Option.bind_eq_bind, Option.pure_def] at h
  cases hf : f a with
  | none => rw [hf] at h; cases h
  | some b =>
   rw [hf] at h
   cases hl : l.mapM f with
   | none => rw [hl] at h; cases h
   | some r' =>
    rw [hl] at h
    simp at h
    subst h
    obtain ⟨h1, h2⟩ := mapM_at hl
    refine ⟨by simp [h1], fun j b' hj => ?_⟩
    cases j with
    | zero => simp at hj; subst hj; exact ⟨a, rfl, hf⟩
    | succ j => simpa using h2 j b' (by simpa using hj)
theorem open_kind : ∀ (n : Nat) {t : TypeId} {k : Kd} {fuel : Nat} {v : Value} {y : DataW H × List MemPlace}, kindOf P n t = some k → DataW.trod enc P w base spare held fuel t [v] = some y → IsV w k v := by
 intro n
 induction n with
 | zero => intro t k fuel v y h; cases h
 | succ n ih =>
  intro t k fuel v y h ht
  unfold kindOf at h
  cases hu : P.underlying t with
  | none => rw [hu] at h; cases h
  | some d =>
   rw [hu] at h
   cases d <;> try (cases h; done)
   case int q =>
    cases h
    obtain ⟨a, e, _, hw⟩ := DataW.trod_int hu ht
    obtain rfl : v = .int q a := by simpa using e
    exact .int hw
   case bool =>
    cases h
    obtain ⟨a, e, _⟩ := DataW.trod_bool hu ht
    obtain rfl : v = .bool a := by simpa using e
    exact .bool a
   case string =>
    cases h
    obtain ⟨a, e, _, hw⟩ := DataW.trod_string hu ht
    obtain rfl : v = .string a := by simpa using e
    exact .string hw
   case slice e =>
    simp only at h
    by_cases hc : P.cellsOf e = 1
    ·rw [if_pos hc] at h
     cases hk : kindOf P n e with
     | none => rw [hk] at h; cases h
     | some k' =>
      rw [hk] at h
      cases h
      rcases open_slice1 hu hc ht with ⟨e0, _⟩ | ⟨a, len, cap, m, q, V, D, Pl, e0, _, hl, hm, hmm, _, hel⟩
      ·obtain rfl : v = .slice none 0 0 := by simpa using e0
       exact .nil
      ·obtain rfl : v = .slice (some a) len cap := by simpa using e0
       have hlm : ∀ i, i < len → i < m := fun i hi => by rw [hmm]; split <;> omega
       exact .slice V hl hm (fun i hi => (hel i (hlm i hi)).1) (fun i hi => ih hk (hel i (hlm i hi)).2)
    ·rw [if_neg hc] at h
     cases hs : P.underlying e with
     | none => rw [hs] at h; cases h
     | some d =>
      rw [hs] at h
      cases d <;> try (cases h; done)
      case struct fs =>
       simp only at h
       split at h
       ·rename_i hone
        rw [Bool.and_eq_true, beq_iff_eq] at hone
        cases hk : (fs.toList.mapM fun f => kindOf P n f.type) with
        | none => rw [hk] at h; cases h
        | some ks =>
         rw [hk] at h
         cases h
         obtain ⟨hkl, hka⟩ := mapM_at hk
         have hkl' : ks.length = fs.size := by rw [hkl]; simp
         rcases open_slice hu ht with ⟨e0, _⟩ | ⟨a, len, cap, m, q, D, Pl, e0, _, hl, hm, hmm, _, hel⟩
         ·obtain rfl : v = .slice none 0 0 := by simpa using e0
          exact .rnil
         ·obtain rfl : v = .slice (some a) len cap := by simpa using e0
          have hlm : ∀ i, i < len → i < m := fun i hi => by rw [hmm]; split <;> omega
          rw [hone.2] at hel
          refine .recs (fun i j => (w.cell? (a.add (i * ks.length + j))).getD undef) hl hm (fun i j hi hj => ?_) (fun i j k hi hjk => ?_)
          ·obtain ⟨cs', hcs, _⟩ := hel i (hlm i hi)
           obtain ⟨hcl, _, hat⟩ := World.cells?_some hcs
           have := hat j (by omega)
           rw [add_add, ← hkl'] at this
           rw [this]
           obtain ⟨u, hu⟩ : ∃ u, cs'[j]? = some u := ⟨_, List.getElem?_eq_getElem (by have := World.cells?_some hcs; omega)⟩
           rw [hu]; rfl
          ·obtain ⟨cs', hcs, ht'⟩ := hel i (hlm i hi)
           obtain ⟨ys, n', _, _, hlen, hyl, hf⟩ := DataW.trod_struct hs ht'
           obtain ⟨_, _, hat⟩ := World.cells?_some hcs
           obtain ⟨f, hfj, hkf⟩ := hka j k hjk
           have hfj' : fs[j]? = some f := by simpa using hfj
           have hjl : j < fs.size := (Array.getElem?_eq_some_iff.1 hfj').1
           obtain ⟨ho, hkk⟩ := hone_of hone.1 j f hfj'
           have hcell := hat j hjl
           rw [add_add, ← hkl'] at hcell
           have h1 := hf j f hfj'
           rw [ho, hkk] at h1
           have hlt : j < cs'.length := by omega
           have hone' : (cs'.drop j).take 1 = [cs'[j]] := by
            rw [List.drop_eq_getElem_cons hlt]; rfl
           rw [hone'] at h1
           obtain ⟨y', hy'⟩ : ∃ y', ys[j]? = some y' := ⟨_, List.getElem?_eq_getElem (by omega)⟩
           rw [hy'] at h1
           have hv : (w.cell? (a.add (i * ks.length + j))).getD undef = cs'[j] := by rw [hcell, List.getElem?_eq_getElem hlt]; rfl
           rw [hv]
           exact ih hkf h1
       ·cases h
end
end Go.Proofs.Ytfmkkklcgiaacaa
end
section
namespace Go.Proofs.Ytfmkkklcgiaacaa
open Go.ChangeShapes Go.WideShapes Go.RowKit Go.Deep
section
variable {H : Type} {enc : TypeId × Value → H} {P : Program} {w : World} {base : Nat} {spare : Nat → Bool} {held : Bool}
theorem trod_rec {e : TypeId} {f0 f1 f2 f3 f4 f5 f6 f7 f8 g0 g1 g2 g3 g4 : Field} {fuel : Nat} {cs : List Value} {x : DataW H × List MemPlace} (hs : P.underlying e = some (.struct #[f0, f1, f2, f3, f4, f5, f6, f7, f8])) (hg : P.underlying f1.type = some (.struct #[g0, g1, g2, g3, g4]))
  (ho : [f0, f1, f2, f3, f4, f5, f6, f7, f8].map (fun f => (f.offset, P.cellsOf f.type)) = [(0, 1), (1, 5), (6, 1), (7, 1), (8, 1), (9, 1), (10, 1), (11, 1), (12, 1)]) (hog : [g0, g1, g2, g3, g4].map (fun f => (f.offset, P.cellsOf f.type)) = [(0, 1), (1, 1), (2, 1), (3, 1), (4, 1)])
  (hl : cs.length = 13) (h : DataW.trod enc P w base spare held fuel e cs = some x) :
  ∀ (j : Nat) (T : TypeId), [f0.type, g0.type, g1.type, g2.type, g3.type, g4.type, f2.type, f3.type, f4.type, f5.type, f6.type, f7.type, f8.type][j]? = some T → ∃ (c : Value) (n : Nat) (y : DataW H × List MemPlace), cs[j]? = some c ∧ DataW.trod enc P w base spare held n T [c] = some y := by
 obtain ⟨xs, n, _, hx, _, hlen, hq⟩ := DataW.trod_struct hs h
 simp only [List.map_cons, List.map_nil, List.cons.injEq, Prod.mk.injEq, and_true] at ho hog
 obtain ⟨⟨a0, b0⟩, ⟨a1, b1⟩, ⟨a2, b2⟩, ⟨a3, b3⟩, ⟨a4, b4⟩, ⟨a5, b5⟩, ⟨a6, b6⟩, ⟨a7, b7⟩, ⟨a8, b8⟩⟩ := ho
 obtain ⟨⟨p0, q0⟩, ⟨p1, q1⟩, ⟨p2, q2⟩, ⟨p3, q3⟩, ⟨p4, q4⟩⟩ := hog
 match cs, hl with
 | [c0, c1, c2, c3, c4, c5, c6, c7, c8, c9, c10, c11, c12], _ =>
 match xs, hlen with
 | [y0, y1, y2, y3, y4, y5, y6, y7, y8], _ =>
  have h0 := hq 0 f0 rfl
  have h1 := hq 1 f1 rfl
  have h2 := hq 2 f2 rfl
  have h3 := hq 3 f3 rfl
  have h4 := hq 4 f4 rfl
  have h5 := hq 5 f5 rfl
  have h6 := hq 6 f6 rfl
  have h7 := hq 7 f7 rfl
  have h8 := hq 8 f8 rfl
  rw [a1, b1] at h1
  obtain ⟨us, m, _, hu, _, hlu, hqu⟩ := DataW.trod_struct hg h1
  match us, hlu with
  | [z0, z1, z2, z3, z4], _ =>
   have k0 := hqu 0 g0 rfl
   have k1 := hqu 1 g1 rfl
   have k2 := hqu 2 g2 rfl
   have k3 := hqu 3 g3 rfl
   have k4 := hqu 4 g4 rfl
   intro j T hT
   have hj : j < 13 := (List.getElem?_eq_some_iff.1 hT).1
   match j, hj with
   | 0, _ => cases hT; exact ⟨_, n, y0, rfl, by simpa [a0, b0] using h0⟩
   | 1, _ => cases hT; exact ⟨_, m, z0, rfl, by simpa [p0, q0] using k0⟩
   | 2, _ => cases hT; exact ⟨_, m, z1, rfl, by simpa [p1, q1] using k1⟩
   | 3, _ => cases hT; exact ⟨_, m, z2, rfl, by simpa [p2, q2] using k2⟩
   | 4, _ => cases hT; exact ⟨_, m, z3, rfl, by simpa [p3, q3] using k3⟩
   | 5, _ => cases hT; exact ⟨_, m, z4, rfl, by simpa [p4, q4] using k4⟩
   | 6, _ => cases hT; exact ⟨_, n, y2, rfl, by simpa [a2, b2] using h2⟩
   | 7, _ => cases hT; exact ⟨_, n, y3, rfl, by simpa [a3, b3] using h3⟩
   | 8, _ => cases hT; exact ⟨_, n, y4, rfl, by simpa [a4, b4] using h4⟩
   | 9, _ => cases hT; exact ⟨_, n, y5, rfl, by simpa [a5, b5] using h5⟩
   | 10, _ => cases hT; exact ⟨_, n, y6, rfl, by simpa [a6, b6] using h6⟩
   | 11, _ => cases hT; exact ⟨_, n, y7, rfl, by simpa [a7, b7] using h7⟩
   | 12, _ => cases hT; exact ⟨_, n, y8, rfl, by simpa [a8, b8] using h8⟩
theorem open_recs {N : Nat} {t e : TypeId} {f0 f1 f2 f3 f4 f5 f6 f7 f8 g0 g1 g2 g3 g4 : Field} {ks : List Kd} {fuel : Nat} {v : Value} {y : DataW H × List MemPlace} (hu : P.underlying t = some (.slice e)) (hs : P.underlying e = some (.struct #[f0, f1, f2, f3, f4, f5, f6, f7, f8])) (hg : P.underlying f1.type = some (.struct #[g0, g1, g2, g3, g4]))
  (ho : [f0, f1, f2, f3, f4, f5, f6, f7, f8].map (fun f => (f.offset, P.cellsOf f.type)) = [(0, 1), (1, 5), (6, 1), (7, 1), (8, 1), (9, 1), (10, 1), (11, 1), (12, 1)]) (hog : [g0, g1, g2, g3, g4].map (fun f => (f.offset, P.cellsOf f.type)) = [(0, 1), (1, 1), (2, 1), (3, 1), (4, 1)])
  (hC : P.cellsOf e = 13) (hk : [f0.type, g0.type, g1.type, g2.type, g3.type, g4.type, f2.type, f3.type, f4.type, f5.type, f6.type, f7.type, f8.type].map (kindOf P N) = ks.map some) (h : DataW.trod enc P w base spare held fuel t [v] = some y) : IsV w (.recs ks) v := by
 have hkl : ks.length = 13 := by have := congrArg List.length hk; simpa using this.symm
 rcases open_slice hu h with ⟨e0, _⟩ | ⟨a, len, cap, m, q, D, Pl, e0, _, hl, hm, hmm, _, hel⟩
 ·obtain rfl : v = .slice none 0 0 := by simpa using e0
  exact .rnil
 ·obtain rfl : v = .slice (some a) len cap := by simpa using e0
  have hlm : ∀ i, i < len → i < m := fun i hi => by rw [hmm]; split <;> omega
  rw [hC] at hel
  refine .recs (fun i j => (w.cell? (a.add (i * ks.length + j))).getD undef) hl hm (fun i j hi hj => ?_) (fun i j k hi hjk => ?_)
  ·obtain ⟨cs', hcs, _⟩ := hel i (hlm i hi)
   obtain ⟨hcl, _, hat⟩ := World.cells?_some hcs
   have := hat j (by omega)
   rw [add_add, ← hkl] at this
   rw [this]
   obtain ⟨u, hu⟩ : ∃ u, cs'[j]? = some u := ⟨_, List.getElem?_eq_getElem (by have := World.cells?_some hcs; omega)⟩
   rw [hu]; rfl
  ·obtain ⟨cs', hcs, ht'⟩ := hel i (hlm i hi)
   obtain ⟨hcl, _, hat⟩ := World.cells?_some hcs
   have hj : j < 13 := by have := (List.getElem?_eq_some_iff.1 hjk).1; omega
   obtain ⟨T, hT⟩ : ∃ T, [f0.type, g0.type, g1.type, g2.type, g3.type, g4.type, f2.type, f3.type, f4.type, f5.type, f6.type, f7.type, f8.type][j]? = some T := ⟨_, List.getElem?_eq_getElem (by simpa using hj)⟩
   have hkT : kindOf P N T = some k := by
    have h1 : ([f0.type, g0.type, g1.type, g2.type, g3.type, g4.type, f2.type, f3.type, f4.type, f5.type, f6.type, f7.type, f8.type].map (kindOf P N))[j]? = some (kindOf P N T) := by rw [List.getElem?_map, hT]; rfl
    rw [hk, List.getElem?_map, hjk] at h1
    injection h1 with h1
    exact h1.symm
   obtain ⟨c, n, y', hc, htr⟩ := trod_rec hs hg ho hog (by omega) ht' j T hT
   have hcell := hat j hj
   rw [add_add, ← hkl, hc] at hcell
   have hv : (w.cell? (a.add (i * ks.length + j))).getD undef = c := by rw [hcell]; rfl
   rw [hv]
   exact open_kind N hkT htr
end
end Go.Proofs.Ytfmkkklcgiaacaa
end
section
namespace Go.Proofs.Ytfmkkklcgiaacaa
open Go.RowKit
abbrev v8 (x : BitVec 8) : Value := .int .u8 (x.toNat : Int)
abbrev v32 (r : BitVec 32) : Value := .int .u32 (r.toNat : Int)
def Bs (w : World) (B : Nat) (A : Option Addr) (n : Nat) (bs : List (BitVec 8)) : Prop :=
 bs.length = n ∧ (0 < n → ∃ ad, A = some ad ∧ ad.block < B ∧ ∀ j, j < n → w.cell? (ad.add j) = some (v8 (bs.getD j 0#8)))
theorem add_block (a : Addr) (n : Nat) : (a.add n).block = a.block := by unfold Addr.add; split <;> rfl
section
variable {w w' : World} {B B' n : Nat} {A : Option Addr} {bs : List (BitVec 8)}
theorem Bs.nil_ : Bs w B A 0 [] := ⟨rfl, fun h => absurd h (by omega)⟩
theorem Bs.keep (h : Bs w B A n bs) (hk : ∀ p : Addr, p.block < B → w'.cell? p = w.cell? p) : Bs w' B A n bs :=
 ⟨h.1, fun hn => by
  obtain ⟨ad, e, hb, hc⟩ := h.2 hn
  exact ⟨ad, e, hb, fun j hj => (hk _ (by rw [add_block]; exact hb)).trans (hc j hj)⟩⟩
theorem Bs.more (h : Bs w B A n bs) (hB : B ≤ B') : Bs w B' A n bs :=
 ⟨h.1, fun hn => by
  obtain ⟨ad, e, hb, hc⟩ := h.2 hn
  exact ⟨ad, e, by omega, hc⟩⟩
theorem Bs.below (h : Bs w B A n bs) (hb : Below B w w') : Bs w' B A n bs := h.keep fun _ hp => hb.cell hp
theorem Bs.alloc (h : Bs w B A n bs) (hB : B ≤ w.heap.size) (o : Obj) : Bs (w.alloc o) B A n bs := h.keep fun p hp => World.cell?_alloc_lt w o p (by omega)
end
theorem add_row (g j : Nat) : (⟨g, 0, none⟩ : Addr).add j = ⟨g, j, none⟩ := by
 unfold Addr.add; split
 ·subst_vars; rfl
 ·simp
theorem cell_lt {w : World} {p : Addr} {v : Value} (h : w.cell? p = some v) : p.block < w.heap.size := by
 rcases Nat.lt_or_ge p.block w.heap.size with hl | hl
 ·exact hl
 ·unfold World.cell? at h
  rw [Array.getElem?_eq_none hl] at h
  cases h
theorem u8_of {z : Int} (h : (Lit.int .u8 z).wf = true) : ∃ r : BitVec 8, z = (r.toNat : Int) := by
 simp [Lit.wf, IntKind.min, IntKind.max, IntKind.bits, IntKind.signed] at h
 exact ⟨BitVec.ofNat 8 z.toNat, by rw [BitVec.toNat_ofNat, Nat.mod_eq_of_lt (by omega)]; omega⟩
end Go.Proofs.Ytfmkkklcgiaacaa
end
section
namespace Go.Proofs.Ytfmkkklcgiaacaa.Rec
abbrev B := BitVec 8
structure Stt where
 step : Int
 visit : Int
 tries : Int
 off : Int
 vars : List (List B)
structure Rc where
 kind : Int
 s : Stt
 visit : Int
 step : Int
 try_ : Int
 to : Int
 off : Int
 var : Int
 value : List B
def stt0 : Stt := ⟨0, 0, 0, 0, []⟩
def rc0 : Rc := ⟨0, stt0, 0, 0, 0, 0, 0, 0, []⟩
def inR (n least most : Int) : Bool := decide (least ≤ n) && decide (n ≤ most)
def textsOk (l : List (List B)) : Bool := l.all (fun t => decide (t.length ≤ 100)) && decide (l.length ≤ 8)
def noPoint (r : Rc) : Bool := decide (r.s.step = 0) && decide (r.s.visit = 0) && decide (r.s.tries = 0) && decide (r.s.off = 0) && decide (r.s.vars = [])
def noOutcome (r : Rc) : Bool := decide (r.to = 0) && decide (r.off = 0) && decide (r.var = 0) && decide (r.value = [])
def noIntent (r : Rc) : Bool := decide (r.step = 0) && decide (r.try_ = 0)
def may (r : Rc) : Bool :=
 if r.kind = 1 then noOutcome r && noIntent r && decide (r.visit = 0) && inR r.s.step (-3) 29 && inR r.s.visit 1 1001 && inR r.s.tries 0 6 && inR r.s.off 0 2147483647 && textsOk r.s.vars
 else if r.kind = 2 then noPoint r && noOutcome r && inR r.visit 1 1001 && inR r.step 0 29 && inR r.try_ 0 5
 else if r.kind = 3 then noPoint r && noIntent r && inR r.visit 1 1001 && inR r.to (-3) 29 && inR r.off 0 2147483647 && inR r.var (-1) 7 && decide (r.value.length ≤ 100) && (decide (0 ≤ r.var) || decide (r.value = []))
 else false
theorem inR_iff {n a b : Int} : inR n a b = true ↔ a ≤ n ∧ n ≤ b := by unfold inR; simp
theorem may1 {r : Rc} (h : may r = true) (hk : r.kind = 1) : r = { rc0 with kind := 1, s := r.s } ∧ (-3 ≤ r.s.step ∧ r.s.step ≤ 29) ∧ (1 ≤ r.s.visit ∧ r.s.visit ≤ 1001) ∧ (0 ≤ r.s.tries ∧ r.s.tries ≤ 6) ∧ (0 ≤ r.s.off ∧ r.s.off ≤ 2147483647) ∧ (∀ t ∈ r.s.vars, t.length ≤ 100) ∧ r.s.vars.length ≤ 8 := by
 unfold may noOutcome noIntent textsOk at h
 rw [if_pos hk] at h
 simp only [Bool.and_eq_true, inR_iff, decide_eq_true_eq, List.all_eq_true] at h
 obtain ⟨⟨⟨⟨⟨⟨⟨⟨⟨⟨h1, h2⟩, h3⟩, h4⟩, ⟨h5, h6⟩⟩, h7⟩, h8⟩, h9⟩, h10⟩, h11⟩, h12, h13⟩ := h
 refine ⟨?_, h8, h9, h10, h11, h12, h13⟩
 obtain ⟨k, s, v, st, tr, to, of, va, vl⟩ := r
 simp only at hk h1 h2 h3 h4 h5 h6 h7
 subst hk; subst h1; subst h2; subst h3; subst h4; subst h5; subst h6; subst h7
 rfl
theorem may3 {r : Rc} (h : may r = true) (hk : r.kind = 3) : r = { rc0 with kind := 3, visit := r.visit, to := r.to, off := r.off, var := r.var, value := r.value } ∧ (1 ≤ r.visit ∧ r.visit ≤ 1001) ∧ (-3 ≤ r.to ∧ r.to ≤ 29) ∧ (0 ≤ r.off ∧ r.off ≤ 2147483647) ∧ (-1 ≤ r.var ∧ r.var ≤ 7) ∧ r.value.length ≤ 100 := by
 unfold may noIntent noPoint at h
 rw [if_neg (by omega), if_neg (by omega), if_pos hk] at h
 simp only [Bool.and_eq_true, inR_iff, decide_eq_true_eq] at h
 obtain ⟨⟨⟨⟨⟨⟨⟨⟨⟨⟨⟨p1, p2⟩, p3⟩, p4⟩, p5⟩, ⟨h1, h2⟩⟩, h8⟩, h9⟩, h10⟩, h11⟩, h12⟩, _⟩ := h
 refine ⟨?_, h8, h9, h10, h11, h12⟩
 obtain ⟨k, ⟨a, b, c, d, e⟩, v, st, tr, to, of, va, vl⟩ := r
 simp only at hk h1 h2 p1 p2 p3 p4 p5
 subst hk; subst h1; subst h2; subst p1; subst p2; subst p3; subst p4; subst p5
 rfl
theorem may_kind {r : Rc} (h : may r = true) : r.kind = 1 ∨ r.kind = 2 ∨ r.kind = 3 := by
 unfold may at h
 split at h
 ·exact .inl ‹_›
 ·split at h
  ·exact .inr (.inl ‹_›)
  ·split at h
   ·exact .inr (.inr ‹_›)
   ·cases h
end Go.Proofs.Ytfmkkklcgiaacaa.Rec
end
section
namespace Go.Proofs.Ytfmkkklcgiaacaa.Fold
open Rec (Stt Rc stt0 may)
abbrev B := BitVec 8
structure Sp where
 arms : List (Int × Int)
 try_ : Int
 els : Int
structure Bok where
 steps : List Sp
 nv : Nat
 most : Int
def numsOk (b : Bok) (s : Stt) : Bool := !(decide (s.step < -3) || decide ((b.steps.length : Int) ≤ s.step) || decide (s.visit < 1) || decide (s.tries < 0) || decide (s.off < 0) || decide (2147483647 < s.off) || !decide (s.vars.length = b.nv))
def right (b : Bok) (s : Stt) : Bool :=
 numsOk b s && s.vars.all (fun t => decide (t.length ≤ 100)) &&
  (if s.step < 0 then decide (s.visit ≤ b.most + 1) && decide (s.tries = 0) else match b.steps[s.step.toNat]? with
   | none => false
   | some p => decide (s.visit ≤ b.most) && decide (s.tries ≤ p.try_ + 1))
def armR (p : Sp) (to_ v : Int) : Bool := p.arms.any fun a => decide (a.1 = to_) && decide (a.2 = v)
def setV (l : List (List B)) (v : Int) (x : List B) : List (List B) := (List.range l.length).map fun (i : Nat) => if (i : Int) = v then x else l.getD i []
def goR (b : Bok) (s : Stt) (to_ off v : Int) (x : List B) : Stt := ⟨if 0 ≤ to_ ∧ s.visit = b.most then -2 else to_, s.visit + 1, 0, off, setV s.vars v x⟩
def met (p : Sp) (s : Stt) (r : Rc) : Bool := armR p r.to r.var && decide (s.off ≤ r.off)
def late (p : Sp) (s : Stt) (r : Rc) : Bool := decide (r.off = s.off) && decide (r.var < 0) && (decide (r.to = p.els) || decide (r.to = -2))
def intentR (p : Sp) (s : Stt) (r : Rc) : Option Stt := if r.step ≠ s.step ∨ r.try_ ≠ s.tries ∨ p.try_ < r.try_ then none else some { s with tries := s.tries + 1 }
def outcomeR (b : Bok) (p : Sp) (s : Stt) (r : Rc) : Option Stt :=
 if s.tries = 0 ∨ (b.steps.length : Int) ≤ r.to ∨ (b.nv : Int) ≤ r.var then none else if met p s r || late p s r then some (goR b s r.to r.off r.var r.value) else none
def nextR (b : Bok) (s : Stt) (r : Rc) : Option Stt :=
 if !right b s || !may r || decide (s.step < 0) || !decide (r.visit = s.visit) || decide (r.kind = 1) then none
 else match b.steps[s.step.toNat]? with
  | none => none
  | some p => if r.kind = 2 then intentR p s r else outcomeR b p s r
def startR (b : Bok) : Stt := ⟨0, 1, 0, 0, List.replicate b.nv []⟩
theorem may_kind {r : Rc} (h : may r = true) : r.kind = 1 ∨ r.kind = 2 ∨ r.kind = 3 := by
 unfold Rec.may at h
 split at h
 ·exact .inl ‹_›
 ·split at h
  ·exact .inr (.inl ‹_›)
  ·split at h
   ·exact .inr (.inr ‹_›)
   ·cases h
theorem right_nums {b : Bok} {s : Stt} (h : right b s = true) : -3 ≤ s.step ∧ s.step < b.steps.length ∧ 1 ≤ s.visit ∧ 0 ≤ s.tries ∧ 0 ≤ s.off ∧ s.off ≤ 2147483647 ∧ s.vars.length = b.nv ∧ (∀ t ∈ s.vars, t.length ≤ 100) := by
 unfold right at h
 rw [Bool.and_eq_true, Bool.and_eq_true] at h
 obtain ⟨⟨h1, h2⟩, _⟩ := h
 unfold numsOk at h1
 simp at h1
 rw [List.all_eq_true] at h2
 refine ⟨by omega, by omega, by omega, by omega, by omega, by omega, by omega, fun t ht => by simpa using h2 t ht⟩
theorem right_more {b : Bok} {s : Stt} (h : right b s = true) : (s.step < 0 → s.visit ≤ b.most + 1 ∧ s.tries = 0) ∧ (0 ≤ s.step → s.visit ≤ b.most ∧ ∃ p, b.steps[s.step.toNat]? = some p ∧ s.tries ≤ p.try_ + 1) := by
 unfold right at h
 rw [Bool.and_eq_true] at h
 obtain ⟨_, h3⟩ := h
 constructor
 ·intro hs
  rw [if_pos hs] at h3
  simpa using h3
 ·intro hs
  rw [if_neg (by omega)] at h3
  cases hp : b.steps[s.step.toNat]? with
  | none => rw [hp] at h3; cases h3
  | some p =>
   rw [hp] at h3
   simp at h3
   exact ⟨h3.1, p, rfl, h3.2⟩
theorem next_some {b : Bok} {s t : Stt} {r : Rc} (h : nextR b s r = some t) : right b s = true ∧ may r = true ∧ 0 ≤ s.step ∧ r.visit = s.visit ∧ r.kind ≠ 1 ∧ ∃ p, b.steps[s.step.toNat]? = some p ∧ (if r.kind = 2 then intentR p s r else outcomeR b p s r) = some t := by
 unfold nextR at h
 split at h
 ·cases h
 ·rename_i hc
  simp at hc
  cases hp : b.steps[s.step.toNat]? with
  | none => rw [hp] at h; cases h
  | some p =>
   rw [hp] at h
   exact ⟨hc.1.1.1.1, hc.1.1.1.2, by omega, hc.1.2, hc.2, p, rfl, h⟩
theorem rises {b : Bok} {s t : Stt} {r : Rc} (h : nextR b s r = some t) : (0 ≤ s.step ∧ s.step < b.steps.length) ∧
  (r.kind = 2 → t.visit = s.visit ∧ t.tries = s.tries + 1 ∧ t.step = s.step ∧ t.off = s.off ∧ ∃ p, b.steps[s.step.toNat]? = some p ∧ t.tries ≤ p.try_ + 1) ∧
  (r.kind = 3 → t.visit = s.visit + 1 ∧ t.tries = 0 ∧ s.off ≤ t.off ∧ 1 ≤ s.tries) := by
 obtain ⟨h1, h2, h3, h4, h5, p, hp, ht⟩ := next_some h
 have hn := right_nums h1
 refine ⟨⟨h3, hn.2.1⟩, fun hk => ?_, fun hk => ?_⟩
 ·rw [if_pos hk] at ht
  unfold intentR at ht
  split at ht
  ·cases ht
  ·rename_i hc
   injection ht with ht
   subst ht
   exact ⟨rfl, rfl, rfl, rfl, p, hp, by show s.tries + 1 ≤ _; omega⟩
 ·rw [if_neg (by omega)] at ht
  unfold outcomeR at ht
  split at ht
  ·cases ht
  ·rename_i hc
   split at ht
   ·rename_i hm
    injection ht with ht
    subst ht
    refine ⟨rfl, rfl, ?_, by omega⟩
    show s.off ≤ r.off
    unfold met late at hm
    simp at hm
    rcases hm with hm | hm <;> omega
   ·cases ht
end Go.Proofs.Ytfmkkklcgiaacaa.Fold
end
section
namespace Go.Proofs.Ytfmkkklcgiaacaa
open Go.RowKit
structure ByteRow (P : Program) (t e : TypeId) : Prop where
 und : P.underlying t = some (.slice e)
 info : ∃ i, P.info? e = some i ∧ i.zero = some (.int .u8 0) ∧ i.size = 1 ∧ i.bytes = 1
theorem ByteRow.mk' {P : Program} {t e : TypeId} (h : P.underlying t = some (.slice e)) (k : (P.info? e).map (fun i => (i.zero, i.size, i.bytes)) = some (some (.int .u8 0), 1, 1)) : ByteRow P t e := by
 refine ⟨h, ?_⟩
 cases hi : P.info? e with
 | none => rw [hi] at k; cases k
 | some i =>
  rw [hi] at k
  simp only [Option.map_some, Option.some.injEq, Prod.mk.injEq] at k
  exact ⟨i, rfl, k.1, k.2.1, k.2.2⟩
section
variable {P : Program} (w : World)
theorem run_append_none (base : Nat) (t ty e : TypeId) (hT : ByteRow P t e) (v : Value) (n : Nat) (us : List Value) (hown : w.ownsRow base e 1 v n us) (c : Nat) :
  (Builtin.append_ #[t, t] ty #[v, .slice none 0 c]).run P w = .ok v w := by
 obtain ⟨ht, i, hi, _, hsz, _⟩ := hT
 rcases hown.2 with ⟨rfl, rfl⟩ | ⟨g, cap, cur, rfl, _, _, hnc, _⟩
 ·simp [Builtin.append_, run_underlying ht, sizeOf, typeInfo, hi, Builtin.lenOf, Builtin.firstCells]
 ·simp [Builtin.append_, run_underlying ht, sizeOf, typeInfo, hi, Builtin.lenOf, Builtin.firstCells, hnc, storeCells]
theorem own_slice {base n : Nat} {e : TypeId} {v : Value} {us : List Value} (h : w.ownsRow base e 1 v n us) : ∃ A c, v = .slice A n c := by
 rcases h.2 with ⟨rfl, rfl⟩ | ⟨g, cap, cur, rfl, _⟩
 ·exact ⟨_, _, rfl⟩
 ·exact ⟨_, _, rfl⟩
theorem run_append_bs (base : Nat) (t ty e : TypeId) (hT : ByteRow P t e) (v : Value) (n : Nat) (bs : List (BitVec 8)) (hown : w.ownsRow base e 1 v n (bs.map v8))
  (B : Nat) (A : Option Addr) (m c : Nat) (cs : List (BitVec 8)) (hr : Bs w B A m cs) (h47 : n + m ≤ 140737488355328) (hbase : base ≤ w.heap.size) :
  ∃ A' c' w', (Builtin.append_ #[t, t] ty #[v, .slice A m c]).run P w = .ok (.slice A' (n + m) c') w' ∧ w'.ownsRow base e 1 (.slice A' (n + m) c') (n + m) ((bs ++ cs).map v8) ∧ w.grownBy w' v.ownBlock ∧
   ((Value.slice A' (n + m) c').ownBlock = v.ownBlock ∨ (Value.slice A' (n + m) c').ownBlock = some w.heap.size) := by
 obtain ⟨ht, i, hi, hz, hsz, hby⟩ := id hT
 rcases A with _ | ad
 ·have hm : m = 0 := by
   rcases Nat.eq_zero_or_pos m with h0 | h0
   ·exact h0
   ·obtain ⟨ad, h, _⟩ := hr.2 h0
    cases h
  subst hm
  have hn : cs = [] := List.eq_nil_of_length_eq_zero hr.1
  subst hn
  obtain ⟨A', c', rfl⟩ := own_slice w hown
  exact ⟨A', c', w, run_append_none w base t ty e hT _ n _ hown c, by simpa using hown, World.grownBy.refl w _, .inl rfl⟩
 ·have hcells : ∀ j u, (cs.map v8)[j]? = some u → w.cell? (ad.add j) = some u := by
   intro j u hu
   have hj : j < cs.length := by
    rcases Nat.lt_or_ge j cs.length with h | h
    ·exact h
    ·rw [List.getElem?_eq_none (by simpa using h)] at hu; cases hu
   obtain ⟨ad', h, _, hc⟩ := hr.2 (by rw [← hr.1]; omega)
   injection h with h
   subst h
   rw [hc j (by rw [← hr.1]; exact hj)]
   rw [List.getElem?_map, List.getElem?_eq_getElem hj] at hu
   rw [List.getD_eq_getElem?_getD, List.getElem?_eq_getElem hj]
   exact hu
  obtain ⟨v', w', hrun, h2, h3, _, h5⟩ := run_append_own_at (P := P) w base t ty e i (.int .u8 0) 1 1 ht hi hz hsz hby rfl (by decide) v n (bs.map v8) hown ad m c (cs.map v8) (by simp [hr.1]) hcells
   (by intro u hu; obtain ⟨x, _, rfl⟩ := List.mem_map.1 hu; rfl) (by unfold maxLen; omega) (by omega) hbase
  obtain ⟨A', c', rfl⟩ := own_slice w' h2
  exact ⟨A', c', w', hrun, by rw [List.map_append]; exact h2, h3, h5⟩
theorem wp_append_bs {o : Oper} {a : Act} {K : Act → World → Prop} {Q : Exit → Act → World → Prop} (s x : Operand) (t : TypeId)
  (ho : o.op = .call { callee := .builtin .append, args := #[s, x], argTypes := #[t, t] }) (base : Nat) (e : TypeId) (hT : ByteRow P t e)
  (v : Value) (n : Nat) (bs : List (BitVec 8)) (hs : a.eval s = v) (hown : w.ownsRow base e 1 v n (bs.map v8))
  (B : Nat) (A : Option Addr) (m c : Nat) (cs : List (BitVec 8)) (hx : a.eval x = .slice A m c) (hr : Bs w B A m cs) (h47 : n + m ≤ 140737488355328) (hbase : base ≤ w.heap.size)
  (h : ∀ A' c' w', w'.ownsRow base e 1 (.slice A' (n + m) c') (n + m) ((bs ++ cs).map v8) → w.grownBy w' v.ownBlock → ((Value.slice A' (n + m) c').ownBlock = v.ownBlock ∨ (Value.slice A' (n + m) c').ownBlock = some w.heap.size) → K (a.put o.dst (.slice A' (n + m) c')) w') : o.wp P a w K Q := by
 obtain ⟨A', c', w', hrun, h2, h3, h4⟩ := run_append_bs (P := P) w base t o.type e hT v n bs hown B A m c cs hr h47 hbase
 unfold Oper.wp execOp
 simp only [ho, resolve, invoke, builtin, Sem.run_bind, Sem.run_pure, Result.andThen_ok, List.map_toArray, List.map_cons, List.map_nil, hs, hx, hrun]
 exact h A' c' w' h2 h3 h4
theorem wpList_append_bs {ops : Array Oper} {rest : List Oper} {o : Oper} {a : Act} {Q : Exit → Act → World → Prop} (hgd : o.guard = none) (s x : Operand) (t : TypeId)
  (ho : o.op = .call { callee := .builtin .append, args := #[s, x], argTypes := #[t, t] }) (base : Nat) (e : TypeId) (hT : ByteRow P t e)
  (v : Value) (n : Nat) (bs : List (BitVec 8)) (hs : a.eval s = v) (hown : w.ownsRow base e 1 v n (bs.map v8))
  (B : Nat) (A : Option Addr) (m c : Nat) (cs : List (BitVec 8)) (hx : a.eval x = .slice A m c) (hr : Bs w B A m cs) (n' : Nat) (bs' : List (BitVec 8)) (hn' : n + m = n') (hbs' : bs ++ cs = bs') (h47 : n' ≤ 140737488355328) (hbase : base ≤ w.heap.size)
  (h : ∀ A' c' w', w'.ownsRow base e 1 (.slice A' n' c') n' (bs'.map v8) → w.grownBy w' v.ownBlock → ((Value.slice A' n' c').ownBlock = v.ownBlock ∨ (Value.slice A' n' c').ownBlock = some w.heap.size) → wpList P ops Q rest (a.put o.dst (.slice A' n' c')) w') : wpList P ops Q (o :: rest) a w := by
 subst hn' hbs'
 exact wpList_plain hgd fun _ hK => wp_append_bs w s x t ho base e hT v n bs hs hown B A m c cs hx hr h47 hbase fun A' c' w' h2 h3 h4 => hK _ _ (h A' c' w' h2 h3 h4)
theorem wpList_append_new {ops : Array Oper} {rest : List Oper} {o : Oper} {a : Act} {Q : Exit → Act → World → Prop} (hgd : o.guard = none) (s x : Operand) (t : TypeId)
  (ho : o.op = .call { callee := .builtin .append, args := #[s, x], argTypes := #[t, t] }) (e : TypeId) (hT : ByteRow P t e)
  (hs : a.eval s = .slice (some ⟨w.heap.size, 0, none⟩) 0 0) (B : Nat) (A : Option Addr) (m c : Nat) (cs : List (BitVec 8)) (hx : a.eval x = .slice A m c) (hr : Bs w B A m cs) (hB : B ≤ w.heap.size) (h47 : m ≤ 140737488355328)
  (h : ∀ A' c' w', w'.ownsRow w.heap.size e 1 (.slice A' m c') m (cs.map v8) → Below w.heap.size w w' → wpList P ops Q rest (a.put o.dst (.slice A' m c')) w') : wpList P ops Q (o :: rest) a (w.alloc (.cells #[] e)) := by
 have o0 : (w.alloc (.cells #[] e)).ownsRow w.heap.size e 1 (.slice (some ⟨w.heap.size, 0, none⟩) 0 0) 0 (([] : List (BitVec 8)).map v8) :=
  World.ownsRow_lit w #[] 0 (Nat.le_refl _) (Nat.zero_le _) rfl
 refine wpList_append_bs _ hgd s x t ho w.heap.size e hT _ 0 [] hs o0 B A m c cs hx (hr.alloc hB _) m cs (Nat.zero_add _) (List.nil_append _) h47 (by simp) fun A' c' w' h1 h2 _ => h A' c' w' h1 ?_
 exact Below.grown ((Below.refl _ _).alloc (Nat.le_refl _) _) h2 (by simp) (by intro g hg; simp [Value.ownBlock] at hg; omega)
end
end Go.Proofs.Ytfmkkklcgiaacaa
end
section
namespace Go.Proofs.Ytfmkkklcgiaacaa
open Go.RowKit
def Cel (w : World) (g : Nat) (t : TypeId) (cs : List Value) : Prop := w.heap[g]? = some (.cells cs.toArray t (0, 0))
structure Frm (l : List Nat) (w w' : World) : Prop where
 os : w'.os = w.os
 tape : w'.tape = w.tape
 output : w'.output = w.output
 size : w.heap.size ≤ w'.heap.size
 block : ∀ k, k < w.heap.size → k ∉ l → w'.heap[k]? = w.heap[k]?
namespace Frm
variable {l l' : List Nat} {w w' w1 w2 : World}
theorem refl (l : List Nat) (w : World) : Frm l w w := ⟨rfl, rfl, rfl, Nat.le_refl _, fun _ _ _ => rfl⟩
theorem then_ (h : Frm l w w1) (h2 : Frm l' w1 w2) (hs : ∀ k, k ∈ l' → k < w.heap.size → k ∈ l) : Frm l w w2 :=
 ⟨h2.os.trans h.os, h2.tape.trans h.tape, h2.output.trans h.output, Nat.le_trans h.size h2.size, fun k hk hn => by
  rw [h2.block k (Nat.lt_of_lt_of_le hk h.size) (fun hm => hn (hs k hm hk)), h.block k hk hn]⟩
theorem trans (h : Frm l w w1) (h2 : Frm l w1 w2) : Frm l w w2 := h.then_ h2 fun _ hk _ => hk
theorem mono (h : Frm l w w') (hs : ∀ k, k ∈ l → k < w.heap.size → k ∈ l') : Frm l' w w' :=
 ⟨h.os, h.tape, h.output, h.size, fun k hk hn => h.block k hk fun hm => hn (hs k hm hk)⟩
theorem below (h : Frm l w w') {B : Nat} (hB : B ≤ w.heap.size) (hl : ∀ k, k ∈ l → B ≤ k) : Below B w w' :=
 ⟨h.os, h.tape, h.output, h.size, fun k hk => h.block k (Nat.lt_of_lt_of_le hk hB) fun hm => absurd (hl k hm) (by omega)⟩
theorem of_below (h : Below w.heap.size w w') : Frm l w w' := ⟨h.os, h.tape, h.output, h.size, fun k hk _ => h.block k hk⟩
theorem alloc (h : Frm l w w') (o : Obj) : Frm l w (w'.alloc o) := h.trans (of_below ((Below.refl _ _).alloc (Nat.le_refl _) _))
theorem drew (h : Frm l w w') : Frm l w w'.drew := ⟨h.os, h.tape, h.output, h.size, h.block⟩
theorem set (h : Frm l w w') {p : Addr} (hp : p.block ∈ l) (u : Value) : Frm l w (w'.setCell p u) :=
 h.trans ⟨rfl, rfl, rfl, by simp [World.setCell], fun k _ hn => Below.heap_setCell _ _ _ _ (fun e => hn (e ▸ hp))⟩
end Frm
namespace Cel
variable {w w' : World} {g : Nat} {t : TypeId} {cs : List Value}
theorem lt (h : Cel w g t cs) : g < w.heap.size := (Array.getElem?_eq_some_iff.1 h).1
theorem cell (h : Cel w g t cs) (i : Nat) : w.cell? ⟨g, i, none⟩ = cs[i]? := by
 rw [cell_of_row w g i cs.toArray t (0, 0) h]; simp
theorem free (h : Cel w g t cs) (i : Nat) : w.frozen? ⟨g, i, none⟩ = false := by
 unfold Cel at h
 simp [World.frozen?, h]
theorem new (w : World) (t : TypeId) (cs : List Value) : Cel (w.alloc (.cells cs.toArray t)) w.heap.size t cs := heap_alloc_new w _
theorem drew (h : Cel w g t cs) : Cel w.drew g t cs := h
theorem alloc (h : Cel w g t cs) (o : Obj) : Cel (w.alloc o) g t cs := (Below.heap_alloc w o g h.lt).trans h
theorem set (h : Cel w g t cs) (i : Nat) (u : Value) : Cel (w.setCell ⟨g, i, none⟩ u) g t (cs.set i u) := by
 unfold Cel at h ⊢
 simp [World.setCell, Array.getElem?_modify, h]
theorem far (h : Cel w g t cs) {p : Addr} (hp : g ≠ p.block) (u : Value) : Cel (w.setCell p u) g t cs := (Below.heap_setCell w p u g hp).trans h
theorem below {B : Nat} (h : Cel w g t cs) (hb : Below B w w') (hg : g < B) : Cel w' g t cs := (hb.block g hg).trans h
theorem frm {l : List Nat} (h : Cel w g t cs) (hf : Frm l w w') (hg : g ∉ l) : Cel w' g t cs := (hf.block g h.lt hg).trans h
theorem ne {g' : Nat} {t' : TypeId} {cs' : List Value} (h : Cel w g t cs) (h' : Cel w g' t' cs') (hne : t ≠ t') : g ≠ g' := by
 rintro rfl
 unfold Cel at h h'
 rw [h] at h'
 injection h' with h'
 injection h' with _ ht
 exact hne ht
end Cel
def Bp (w : World) (p : Nat → Prop) (A : Option Addr) (n : Nat) (bs : List (BitVec 8)) : Prop :=
 bs.length = n ∧ (0 < n → ∃ ad, A = some ad ∧ p ad.block ∧ ∀ j, j < n → w.cell? (ad.add j) = some (v8 (bs.getD j 0#8)))
theorem Bs.bp {w : World} {B n : Nat} {A : Option Addr} {bs : List (BitVec 8)} (h : Bs w B A n bs) : Bp w (· < B) A n bs := h
theorem add_add (a : Addr) (i j : Nat) : (a.add i).add j = a.add (i + j) := by
 unfold Addr.add
 by_cases hi : i = 0 <;> by_cases hj : j = 0 <;> simp [hi, hj, Nat.add_assoc]
namespace Bp
variable {w w' : World} {p q : Nat → Prop} {A : Option Addr} {n : Nat} {bs : List (BitVec 8)}
theorem keep (h : Bp w p A n bs) (hk : ∀ k, p k → k < w.heap.size → w'.heap[k]? = w.heap[k]?) : Bp w' p A n bs :=
 ⟨h.1, fun hn => by
  obtain ⟨ad, e, hb, hc⟩ := h.2 hn
  have hlt : ad.block < w.heap.size := by have := cell_lt (hc 0 hn); rwa [add_block] at this
  exact ⟨ad, e, hb, fun j hj => (World.cell?_of_block (by rw [add_block]; exact hk _ hb hlt)).trans (hc j hj)⟩⟩
end Bp
section
variable {P : Program} (w : World)
end
namespace Vp
variable {w w' : World} {p q : Nat → Prop} {A : Option Addr} {n : Nat} {us : List Value}
end Vp
end Go.Proofs.Ytfmkkklcgiaacaa
end
section
namespace Go.Proofs.Ytfmkkklcgiaacaa.Lex
abbrev B := BitVec 8
end Go.Proofs.Ytfmkkklcgiaacaa.Lex
end
section
namespace Go.Proofs.Ytfmkkklcgiaacaa
open Go.RowKit
namespace Ry
variable {w w' : World} {t : TypeId} {A : Option Addr} {cs : List Value}
end Ry
theorem Cel.not_ty {w : World} {g : Nat} {t t' : TypeId} {cs : List Value} (h : Cel w g t cs) (hne : t ≠ t') : ∀ o fz, w.heap[g]? ≠ some (Obj.cells o t' fz) := fun o fz e => by
 unfold Cel at h
 rw [h] at e
 injection e with e
 injection e with _ e2
 exact hne e2
end Go.Proofs.Ytfmkkklcgiaacaa
end
section
namespace Go.Proofs.Ytfmkkklcgiaacaa
open Go.RowKit
def By (w : World) (A : Option Addr) (n : Nat) (bs : List (BitVec 8)) : Prop :=
 bs.length = n ∧ (0 < n → ∃ ad, A = some ad ∧ (∃ cs fz, w.heap[ad.block]? = some (.cells cs 5 fz)) ∧ ∀ j, j < n → w.cell? (ad.add j) = some (v8 (bs.getD j 0#8)))
namespace By
variable {w w' : World} {A : Option Addr} {n : Nat} {bs : List (BitVec 8)}
theorem keep (h : By w A n bs) (hk : ∀ (k : Nat) cs fz, w.heap[k]? = some (Obj.cells cs 5 fz) → w'.heap[k]? = w.heap[k]?) : By w' A n bs :=
 ⟨h.1, fun hn => by
  obtain ⟨ad, e, ⟨cs, fz, hb⟩, hc⟩ := h.2 hn
  have h1 := hk _ _ _ hb
  exact ⟨ad, e, ⟨cs, fz, h1.trans hb⟩, fun j hj => (World.cell?_of_block (by rw [add_block]; exact h1)).trans (hc j hj)⟩⟩
theorem rd (h : By w A n bs) : Bs w w.heap.size A n bs :=
 ⟨h.1, fun hn => by
  obtain ⟨ad, e, ⟨cs, fz, hb⟩, hc⟩ := h.2 hn
  exact ⟨ad, e, (Array.getElem?_eq_some_iff.1 hb).1, hc⟩⟩
theorem below (h : By w A n bs) (hb : Below w.heap.size w w') : By w' A n bs := h.keep fun k _ _ hk => hb.block k (Array.getElem?_eq_some_iff.1 hk).1
theorem of_own {base c : Nat} (h : w.ownsRow base 5 1 (.slice A n c) n (bs.map v8)) : By w A n bs := by
 have hl : bs.length = n := by simpa using h.1
 refine ⟨hl, fun hn => ?_⟩
 rcases h.2 with ⟨hv, h0⟩ | ⟨g, cap, cur, hv, hb, hg, _⟩
 ·omega
 ·have hA : A = some ⟨g, 0, none⟩ := by injection hv
  subst hA
  refine ⟨_, rfl, ⟨_, _, hg⟩, fun j hj => h.cells (g := g) rfl j _ ?_⟩
  rw [List.getElem?_map, List.getElem?_eq_getElem (by omega), List.getD_eq_getElem?_getD, List.getElem?_eq_getElem (by omega)]
  rfl
end By
end Go.Proofs.Ytfmkkklcgiaacaa
end
section
namespace Go.Proofs.Ytfmkkklcgiaacaa.Lex
open Go.RowKit
def Tx (w : World) (B : Nat) (A : Option Addr) (t : List (BitVec 8)) : Prop := Bs w B A t.length t ∨ By w A t.length t
theorem Tx.below {w w' : World} {B : Nat} {A : Option Addr} {t : List (BitVec 8)} (h : Tx w B A t) (hB : B ≤ w.heap.size) (hb : Below w.heap.size w w') : Tx w' B A t := by
 rcases h with h | h
 ·exact .inl (h.below (hb.mono hB))
 ·exact .inr (h.below hb)
end Go.Proofs.Ytfmkkklcgiaacaa.Lex
end
