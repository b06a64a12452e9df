/-
Texts: Open Bytes PackPure RecPure FoldPure
-/
import Derived.WalkKit
import Derived.ProofKit
import Derived.OpenShut
import Derived.Deep.Slices
import Derived.Deep.Fields
import Derived.ChangeSame
import Derived.Test.YtfmkkklcgiaacaaRows
import Derived.Below
import Derived.Laws.OwnMore
import Derived.Deep.AppendLies
import Derived.Deep.Draws
set_option linter.unusedVariables false
set_option linter.unusedSimpArgs false
section
namespace Go.Proofs.Ytfmkkklcgiaacaa
open Go.ChangeShapes Go.WideShapes Go.RowKit Go.Deep
inductive Kd
 | int (k : IntKind)
 | bool
 | string
 | slice (e : Kd)
 | recs (fs : List Kd)
inductive IsV (w : World) : Kd → Value → Prop
 | int {k : IntKind} {a : Int} (h : (Lit.int k a).wf = true) : IsV w (.int k) (.int k a)
 | bool (b : Bool) : IsV w .bool (.bool b)
 | string {s : ByteArray} (h : s.size ≤ maxLen) : IsV w .string (.string s)
 | nil {e : Kd} : IsV w (.slice e) (.slice none 0 0)
 | slice {e : Kd} {x : Addr} {l c : Nat} (U : Nat → Value) (hl : l ≤ c) (hc : c ≤ maxLen) (hcell : ∀ i, i < l → w.cell? (x.add i) = some (U i)) (hU : ∀ i, i < l → IsV w e (U i)) : IsV w (.slice e) (.slice (some x) l c)
 | rnil {fs : List Kd} : IsV w (.recs fs) (.slice none 0 0)
 | recs {fs : List Kd} {x : Addr} {l c : Nat} (U : Nat → Nat → Value) (hl : l ≤ c) (hc : c ≤ maxLen) (hcell : ∀ i j, i < l → j < fs.length → w.cell? (x.add (i * fs.length + j)) = some (U i j))
   (hU : ∀ i j k, i < l → fs[j]? = some k → IsV w k (U i j)) : IsV w (.recs fs) (.slice (some x) l c)
def kindOf (P : Program) : Nat → TypeId → Option Kd
 | 0, _ => none
 | n + 1, t => match P.underlying t with
  | some (.int k) => some (.int k)
  | some .bool => some .bool
  | some .string => some .string
  | some (.slice e) =>
   if P.cellsOf e = 1 then (kindOf P n e).map .slice
   else match P.underlying e with
    | some (.struct fs) => if oneCellFields P fs && (P.cellsOf e == fs.size) then (fs.toList.mapM fun f => kindOf P n f.type).map .recs else none
    | _ => none
  | _ => none
section
variable {H : Type} {enc : TypeId × Value → H} {P : Program} {w : World} {base : Nat} {spare : Nat → Bool} {held : Bool}
theorem mapM_at {α β : Type} {f : α → Option β} : ∀ {l : List α} {r : List β}, l.mapM f = some r → r.length = l.length ∧ ∀ (j : Nat) (b : β), r[j]? = some b → ∃ a, l[j]? = some a ∧ f a = some b
 | [], r, h => by simp at h; subst h; exact ⟨rfl, by simp⟩
 | a :: l, r, h => by
  simp only [List.mapM_cons, Option.bind_eq_bind, Option.pure_def] at h
  cases hf : f a with
  | none => rw [hf] at h; cases h
  | some b =>
   rw [hf] at h
   cases hl : l.mapM f with
   | none => rw [hl] at h; cases h
   | some r' =>
    rw [hl] at h
    simp at h
    subst h
    obtain ⟨h1, h2⟩ := mapM_at hl
    refine ⟨by simp [h1], fun j b' hj => ?_⟩
    cases j with
    | zero => simp at hj; subst hj; exact ⟨a, rfl, hf⟩
    | succ j => simpa using h2 j b' (by simpa using hj)
theorem open_kind : ∀ (n : Nat) {t : TypeId} {k : Kd} {fuel : Nat} {v : Value} {y : DataW H × List MemPlace}, kindOf P n t = some k → DataW.trod enc P w base spare held fuel t [v] = some y → IsV w k v := by
 intro n
 induction n with
 | zero => intro t k fuel v y h; cases h
 | succ n ih =>
  intro t k fuel v y h ht
  unfold kindOf at h
  cases hu : P.underlying t with
  | none => rw [hu] at h; cases h
  | some d =>
   rw [hu] at h
   cases d <;> try (cases h; done)
   case int q =>
    cases h
    obtain ⟨a, e, _, hw⟩ := DataW.trod_int hu ht
    obtain rfl : v = .int q a := by simpa using e
    exact .int hw
   case bool =>
    cases h
    obtain ⟨a, e, _⟩ := DataW.trod_bool hu ht
    obtain rfl : v = .bool a := by simpa using e
    exact .bool a
   case string =>
    cases h
    obtain ⟨a, e, _, hw⟩ := DataW.trod_string hu ht
    obtain rfl : v = .string a := by simpa using e
    exact .string hw
   case slice e =>
    simp only at h
    by_cases hc : P.cellsOf e = 1
    ·rw [if_pos hc] at h
     cases hk : kindOf P n e with
     | none => rw [hk] at h; cases h
     | some k' =>
      rw [hk] at h
      cases h
      rcases open_slice1 hu hc ht with ⟨e0, _⟩ | ⟨a, len, cap, m, q, V, D, Pl, e0, _, hl, hm, hmm, _, hel⟩
      ·obtain rfl : v = .slice none 0 0 := by simpa using e0
       exact .nil
      ·obtain rfl : v = .slice (some a) len cap := by simpa using e0
       have hlm : ∀ i, i < len → i < m := fun i hi => by rw [hmm]; split <;> omega
       exact .slice V hl hm (fun i hi => (hel i (hlm i hi)).1) (fun i hi => ih hk (hel i (hlm i hi)).2)
    ·rw [if_neg hc] at h
     cases hs : P.underlying e with
     | none => rw [hs] at h; cases h
     | some d =>
      rw [hs] at h
      cases d <;> try (cases h; done)
      case struct fs =>
       simp only at h
       split at h
       ·rename_i hone
        rw [Bool.and_eq_true, beq_iff_eq] at hone
        cases hk : (fs.toList.mapM fun f => kindOf P n f.type) with
        | none => rw [hk] at h; cases h
        | some ks =>
         rw [hk] at h
         cases h
         obtain ⟨hkl, hka⟩ := mapM_at hk
         have hkl' : ks.length = fs.size := by rw [hkl]; simp
         rcases open_slice hu ht with ⟨e0, _⟩ | ⟨a, len, cap, m, q, D, Pl, e0, _, hl, hm, hmm, _, hel⟩
         ·obtain rfl : v = .slice none 0 0 := by simpa using e0
          exact .rnil
         ·obtain rfl : v = .slice (some a) len cap := by simpa using e0
          have hlm : ∀ i, i < len → i < m := fun i hi => by rw [hmm]; split <;> omega
          rw [hone.2] at hel
          refine .recs (fun i j => (w.cell? (a.add (i * ks.length + j))).getD undef) hl hm (fun i j hi hj => ?_) (fun i j k hi hjk => ?_)
          ·obtain ⟨cs', hcs, _⟩ := hel i (hlm i hi)
           obtain ⟨hcl, _, hat⟩ := World.cells?_some hcs
           have := hat j (by omega)
           rw [add_add, ← hkl'] at this
           rw [this]
           obtain ⟨u, hu⟩ : ∃ u, cs'[j]? = some u := ⟨_, List.getElem?_eq_getElem (by have := World.cells?_some hcs; omega)⟩
           rw [hu]; rfl
          ·obtain ⟨cs', hcs, ht'⟩ := hel i (hlm i hi)
           obtain ⟨ys, n', _, _, hlen, hyl, hf⟩ := DataW.trod_struct hs ht'
           obtain ⟨_, _, hat⟩ := World.cells?_some hcs
           obtain ⟨f, hfj, hkf⟩ := hka j k hjk
           have hfj' : fs[j]? = some f := by simpa using hfj
           have hjl : j < fs.size := (Array.getElem?_eq_some_iff.1 hfj').1
           obtain ⟨ho, hkk⟩ := hone_of hone.1 j f hfj'
           have hcell := hat j hjl
           rw [add_add, ← hkl'] at hcell
           have h1 := hf j f hfj'
           rw [ho, hkk] at h1
           have hlt : j < cs'.length := by omega
           have hone' : (cs'.drop j).take 1 = [cs'[j]] := by
            rw [List.drop_eq_getElem_cons hlt]; rfl
           rw [hone'] at h1
           obtain ⟨y', hy'⟩ : ∃ y', ys[j]? = some y' := ⟨_, List.getElem?_eq_getElem (by omega)⟩
           rw [hy'] at h1
           have hv : (w.cell? (a.add (i * ks.length + j))).getD undef = cs'[j] := by rw [hcell, List.getElem?_eq_getElem hlt]; rfl
           rw [hv]
           exact ih hkf h1
       ·cases h
end
end Go.Proofs.Ytfmkkklcgiaacaa
end
section
namespace Go.Proofs.Ytfmkkklcgiaacaa
open Go.RowKit
abbrev v8 (x : BitVec 8) : Value := .int .u8 (x.toNat : Int)
abbrev v32 (r : BitVec 32) : Value := .int .u32 (r.toNat : Int)
def Bs (w : World) (B : Nat) (A : Option Addr) (n : Nat) (bs : List (BitVec 8)) : Prop :=
 bs.length = n ∧ (0 < n → ∃ ad, A = some ad ∧ ad.block < B ∧ ∀ j, j < n → w.cell? (ad.add j) = some (v8 (bs.getD j 0#8)))
theorem add_block (a : Addr) (n : Nat) : (a.add n).block = a.block := by unfold Addr.add; split <;> rfl
section
variable {w w' : World} {B B' n : Nat} {A : Option Addr} {bs : List (BitVec 8)}
theorem Bs.nil_ : Bs w B A 0 [] := ⟨rfl, fun h => absurd h (by omega)⟩
theorem Bs.keep (h : Bs w B A n bs) (hk : ∀ p : Addr, p.block < B → w'.cell? p = w.cell? p) : Bs w' B A n bs :=
 ⟨h.1, fun hn => by
  obtain ⟨ad, e, hb, hc⟩ := h.2 hn
  exact ⟨ad, e, hb, fun j hj => (hk _ (by rw [add_block]; exact hb)).trans (hc j hj)⟩⟩
theorem Bs.more (h : Bs w B A n bs) (hB : B ≤ B') : Bs w B' A n bs :=
 ⟨h.1, fun hn => by
  obtain ⟨ad, e, hb, hc⟩ := h.2 hn
  exact ⟨ad, e, by omega, hc⟩⟩
theorem Bs.below (h : Bs w B A n bs) (hb : Below B w w') : Bs w' B A n bs := h.keep fun _ hp => hb.cell hp
theorem Bs.drewN (h : Bs w B A n bs) (k : Nat) : Bs (w.drewN k) B A n bs := h
theorem Bs.alloc (h : Bs w B A n bs) (hB : B ≤ w.heap.size) (o : Obj) : Bs (w.alloc o) B A n bs := h.keep fun p hp => World.cell?_alloc_lt w o p (by omega)
end
theorem add_row (g j : Nat) : (⟨g, 0, none⟩ : Addr).add j = ⟨g, j, none⟩ := by
 unfold Addr.add; split
 ·subst_vars; rfl
 ·simp
theorem cell_lt {w : World} {p : Addr} {v : Value} (h : w.cell? p = some v) : p.block < w.heap.size := by
 rcases Nat.lt_or_ge p.block w.heap.size with hl | hl
 ·exact hl
 ·unfold World.cell? at h
  rw [Array.getElem?_eq_none hl] at h
  cases h
theorem u8_of {z : Int} (h : (Lit.int .u8 z).wf = true) : ∃ r : BitVec 8, z = (r.toNat : Int) := by
 simp [Lit.wf, IntKind.min, IntKind.max, IntKind.bits, IntKind.signed] at h
 exact ⟨BitVec.ofNat 8 z.toNat, by rw [BitVec.toNat_ofNat, Nat.mod_eq_of_lt (by omega)]; omega⟩
theorem take_snoc8 (bs : List (BitVec 8)) (k : Nat) (h : k < bs.length) : bs.take (k + 1) = bs.take k ++ [bs.getD k 0#8] := by
 rw [List.take_succ_eq_append_getElem h, List.getD_eq_getElem?_getD, List.getElem?_eq_getElem h]; rfl
end Go.Proofs.Ytfmkkklcgiaacaa
end
section
namespace Go.Proofs.Ytfmkkklcgiaacaa.Pack
def num : Nat → BitVec 64 → List (BitVec 8)
 | 0, _ => []
 | k + 1, n => num k (n >>> 8) ++ [n.setWidth 8]
def val (bs : List (BitVec 8)) : BitVec 64 := bs.foldl (fun a b => (a <<< 8) ||| b.setWidth 64) 0#64
def text (bs : List (BitVec 8)) : List (BitVec 8) := num 2 (BitVec.ofNat 64 bs.length) ++ bs
theorem val_snoc (bs : List (BitVec 8)) (b : BitVec 8) : val (bs ++ [b]) = (val bs <<< 8) ||| b.setWidth 64 := by
 unfold val; rw [List.foldl_append]; rfl
theorem shl_and (a : BitVec 64) (b : BitVec 8) : (a <<< 8) &&& b.setWidth 64 = 0#64 := by
 apply BitVec.eq_of_getLsbD_eq
 intro i hi
 simp only [BitVec.getLsbD_and, BitVec.getLsbD_shiftLeft, BitVec.getLsbD_setWidth, BitVec.getLsbD_zero]
 by_cases h : i < 8
 ·simp [h]
 ·have : b.getLsbD i = false := BitVec.getLsbD_of_ge _ _ (by omega)
  simp [this]
theorem or_add (a : BitVec 64) (b : BitVec 8) : (a <<< 8) ||| b.setWidth 64 = 256#64 * a + b.setWidth 64 := by
 rw [← BitVec.add_eq_or_of_and_eq_zero _ _ (shl_and a b)]
 congr 1
 apply BitVec.eq_of_toNat_eq
 rw [BitVec.toNat_shiftLeft, BitVec.toNat_mul, Nat.shiftLeft_eq]
 show a.toNat * 2 ^ 8 % 2 ^ 64 = 256 * a.toNat % 2 ^ 64
 rw [Nat.mul_comm]
def valN (bs : List (BitVec 8)) : Nat := bs.foldl (fun a b => a * 256 + b.toNat) 0
theorem valN_snoc (bs : List (BitVec 8)) (b : BitVec 8) : valN (bs ++ [b]) = valN bs * 256 + b.toNat := by
 unfold valN; rw [List.foldl_append]; rfl
theorem rev_cases (bs : List (BitVec 8)) : bs = [] ∨ ∃ l b, bs = l ++ [b] := by
 rcases List.eq_nil_or_concat bs with h | ⟨l, b, h⟩
 ·exact .inl h
 ·exact .inr ⟨l, b, by rw [h]; simp⟩
theorem valN_lt (k : Nat) : ∀ bs : List (BitVec 8), bs.length = k → valN bs < 256 ^ k := by
 induction k with
 | zero => intro bs h; rw [List.eq_nil_of_length_eq_zero h]; decide
 | succ k ih =>
  intro bs h
  rcases rev_cases bs with rfl | ⟨l, b, rfl⟩
  ·simp at h
  ·have := ih l (by simpa using h)
   have hb := b.isLt
   rw [valN_snoc, Nat.pow_succ]
   omega
theorem val_toNat (k : Nat) : ∀ bs : List (BitVec 8), bs.length = k → k ≤ 8 → (val bs).toNat = valN bs := by
 induction k with
 | zero => intro bs h _; rw [List.eq_nil_of_length_eq_zero h]; rfl
 | succ k ih =>
  intro bs h hk
  rcases rev_cases bs with rfl | ⟨l, b, rfl⟩
  ·simp at h
  ·have hl : l.length = k := by simpa using h
   have h1 := ih l hl (by omega)
   have h2 := valN_lt k l hl
   have hb := b.isLt
   have h3 : (256 : Nat) ^ k ≤ 256 ^ 7 := Nat.pow_le_pow_right (by decide) (by omega)
   have e7 : (256 : Nat) ^ 7 = 72057594037927936 := by decide
   rw [val_snoc, or_add, BitVec.toNat_add, BitVec.toNat_mul, BitVec.toNat_setWidth, h1, valN_snoc]
   have e256 : (256#64).toNat = 256 := rfl
   rw [e256]
   omega
abbrev St := Option (List (BitVec 8))
def okSize (size : Int) : Bool := decide (1 ≤ size) && decide (size ≤ 8)
def rnum (size : Int) : St → BitVec 64 × St
 | none => (0#64, none)
 | some r => if okSize size && decide (size.toNat ≤ r.length) then (val (r.take size.toNat), some (r.drop size.toNat)) else (0#64, none)
def rnext (n : Nat) : St → List (BitVec 8) × St
 | none => ([], none)
 | some r => if n ≤ r.length then (r.take n, some (r.drop n)) else ([], none)
def rtext (st : St) : List (BitVec 8) × St := rnext (rnum 2 st).1.toNat (rnum 2 st).2
def rend : St → Bool
 | some [] => true
 | _ => false
theorem rnum_next (size : Int) (st : St) (h : okSize size = true) : rnum size st = (val (rnext size.toNat st).1, (rnext size.toNat st).2) := by
 cases st with
 | none => rfl
 | some r => by_cases hl : size.toNat ≤ r.length <;> simp [rnum, rnext, h, hl, val]
theorem rnum_bad (size : Int) (st : St) (h : okSize size = false) : rnum size st = (0#64, none) := by
 cases st with
 | none => rfl
 | some r => simp [rnum, h]
end Go.Proofs.Ytfmkkklcgiaacaa.Pack
end
section
namespace Go.Proofs.Ytfmkkklcgiaacaa.Rec
open Pack
abbrev B := BitVec 8
structure Stt where
 step : Int
 visit : Int
 tries : Int
 off : Int
 vars : List (List B)
structure Rc where
 kind : Int
 s : Stt
 visit : Int
 step : Int
 try_ : Int
 to : Int
 off : Int
 var : Int
 value : List B
def stt0 : Stt := ⟨0, 0, 0, 0, []⟩
def rc0 : Rc := ⟨0, stt0, 0, 0, 0, 0, 0, 0, []⟩
def inR (n least most : Int) : Bool := decide (least ≤ n) && decide (n ≤ most)
def textsOk (l : List (List B)) : Bool := l.all (fun t => decide (t.length ≤ 100)) && decide (l.length ≤ 8)
def noPoint (r : Rc) : Bool := decide (r.s.step = 0) && decide (r.s.visit = 0) && decide (r.s.tries = 0) && decide (r.s.off = 0) && decide (r.s.vars = [])
def noOutcome (r : Rc) : Bool := decide (r.to = 0) && decide (r.off = 0) && decide (r.var = 0) && decide (r.value = [])
def noIntent (r : Rc) : Bool := decide (r.step = 0) && decide (r.try_ = 0)
def may (r : Rc) : Bool :=
 if r.kind = 1 then noOutcome r && noIntent r && decide (r.visit = 0) && inR r.s.step (-3) 29 && inR r.s.visit 1 1001 && inR r.s.tries 0 6 && inR r.s.off 0 2147483647 && textsOk r.s.vars
 else if r.kind = 2 then noPoint r && noOutcome r && inR r.visit 1 1001 && inR r.step 0 29 && inR r.try_ 0 5
 else if r.kind = 3 then noPoint r && noIntent r && inR r.visit 1 1001 && inR r.to (-3) 29 && inR r.off 0 2147483647 && inR r.var (-1) 7 && decide (r.value.length ≤ 100) && (decide (0 ≤ r.var) || decide (r.value = []))
 else false
def n64 (x : Int) : BitVec 64 := BitVec.ofInt 64 x
def put (r : Rc) : List B :=
 num 1 (n64 r.kind) ++
 (if r.kind = 1 then num 1 (n64 (r.s.step + 3)) ++ num 2 (n64 r.s.visit) ++ num 1 (n64 r.s.tries) ++ num 4 (n64 r.s.off) ++ num 1 (n64 r.s.vars.length) ++ r.s.vars.flatMap text
 else if r.kind = 2 then num 2 (n64 r.visit) ++ num 1 (n64 r.step) ++ num 1 (n64 r.try_)
 else num 2 (n64 r.visit) ++ num 1 (n64 (r.to + 3)) ++ num 4 (n64 r.off) ++ num 1 (n64 (r.var + 1)) ++ text r.value)
def rd (k : Nat) (s : St) : Int × St := (((rnum k s).1.toNat : Int), (rnum k s).2)
def rtexts : Nat → St → List (List B) × St
 | 0, s => ([], s)
 | n + 1, s => ((rtext s).1 :: (rtexts n (rtext s).2).1, (rtexts n (rtext s).2).2)
def readP (s : St) : Stt × St :=
 let a := rd 1 s; let b := rd 2 a.2; let c := rd 1 b.2; let d := rd 4 c.2; let e := rd 1 d.2; let f := rtexts e.1.toNat e.2
 (⟨a.1 - 3, b.1, c.1, d.1, f.1⟩, f.2)
def readI (s : St) : (Int × Int × Int) × St :=
 let a := rd 2 s; let b := rd 1 a.2; let c := rd 1 b.2
 ((a.1, b.1, c.1), c.2)
def readO (s : St) : (Int × Int × Int × Int × List B) × St :=
 let a := rd 2 s; let b := rd 1 a.2; let c := rd 4 b.2; let d := rd 1 c.2; let e := rtext d.2
 ((a.1, b.1 - 3, c.1, d.1 - 1, e.1), e.2)
def readK (k : Int) (s : St) : Rc × St :=
 if k = 1 then ({ rc0 with kind := 1, s := (readP s).1 }, (readP s).2)
 else if k = 2 then ({ rc0 with kind := 2, visit := (readI s).1.1, step := (readI s).1.2.1, try_ := (readI s).1.2.2 }, (readI s).2)
 else if k = 3 then ({ rc0 with kind := 3, visit := (readO s).1.1, to := (readO s).1.2.1, off := (readO s).1.2.2.1, var := (readO s).1.2.2.2.1, value := (readO s).1.2.2.2.2 }, (readO s).2)
 else ({ rc0 with kind := k }, s)
def readRc (b : List B) : Rc × St := readK (rd 1 (some b)).1 (rd 1 (some b)).2
def get (b : List B) : Option Rc := if rend (readRc b).2 && may (readRc b).1 then some (readRc b).1 else none
theorem n64_nat (k : Nat) {x : Int} (h0 : 0 ≤ x) (h : x < ((256 ^ k : Nat) : Int)) (hk : k ≤ 8) : (n64 x).toNat = x.toNat ∧ (n64 x).toNat < 256 ^ k := by
 have h3 : (256 : Nat) ^ k ≤ 256 ^ 8 := Nat.pow_le_pow_right (by decide) hk
 have e8 : (256 : Nat) ^ 8 = 18446744073709551616 := by decide
 have e : (n64 x).toNat = x.toNat := by
  unfold n64
  rw [BitVec.toNat_ofInt]
  show (x % (2 ^ 64 : Int)).toNat = _
  rw [Int.emod_eq_of_lt h0 (by omega)]
 refine ⟨e, ?_⟩
 rw [e]
 omega
theorem num_val : ∀ (k : Nat) (bs : List B), bs.length = k → k ≤ 8 → num k (val bs) = bs
 | 0, bs, h, _ => by rw [List.eq_nil_of_length_eq_zero h]; rfl
 | k + 1, bs, h, hk => by
  rcases rev_cases bs with rfl | ⟨l, b, rfl⟩
  ·simp at h
  ·have hl : l.length = k := by simpa using h
   have h1 := val_toNat (k + 1) (l ++ [b]) h hk
   have h2 := val_toNat k l hl (by omega)
   have hb := b.isLt
   rw [valN_snoc] at h1
   have e1 : val (l ++ [b]) >>> 8 = val l := by
    apply BitVec.eq_of_toNat_eq
    rw [BitVec.toNat_ushiftRight, Nat.shiftRight_eq_div_pow, h1, h2]
    show (valN l * 256 + b.toNat) / 256 = _
    omega
   have e2 : (val (l ++ [b])).setWidth 8 = b := by
    apply BitVec.eq_of_toNat_eq
    rw [BitVec.toNat_setWidth, h1]
    show (valN l * 256 + b.toNat) % 256 = _
    omega
   rw [num, e1, e2, num_val k l hl (by omega)]
theorem rd_inv {k : Nat} {s : St} {m : List B} (hk : 1 ≤ k) (hk8 : k ≤ 8) (h : (rd k s).2 = some m) : s = some (num k (n64 (rd k s).1) ++ m) ∧ 0 ≤ (rd k s).1 ∧ (rd k s).1 < ((256 ^ k : Nat) : Int) := by
 have ho : okSize (k : Int) = true := by simp [okSize]; omega
 unfold rd at h ⊢
 rw [rnum_next _ _ ho] at h ⊢
 cases s with
 | none => cases h
 | some r =>
  unfold rnext at h ⊢
  dsimp only at h ⊢
  rw [Int.toNat_natCast] at h ⊢
  by_cases hl : k ≤ r.length
  ·rw [if_pos hl] at h ⊢
   dsimp only at h ⊢
   injection h with h
   subst h
   have hlen : (r.take k).length = k := by rw [List.length_take]; omega
   have hv := val_toNat k _ hlen hk8
   have hlt := valN_lt k _ hlen
   have h3 : (256 : Nat) ^ k ≤ 256 ^ 8 := Nat.pow_le_pow_right (by decide) hk8
   have e8 : (256 : Nat) ^ 8 = 18446744073709551616 := by decide
   refine ⟨?_, by omega, by rw [hv]; omega⟩
   have e : n64 ((val (r.take k)).toNat : Int) = val (r.take k) := by
    apply BitVec.eq_of_toNat_eq
    rw [(n64_nat k (x := ((val (r.take k)).toNat : Int)) (by omega) (by rw [hv]; omega) hk8).1, Int.toNat_natCast]
   rw [e, num_val k _ hlen hk8, List.take_append_drop]
  ·rw [if_neg hl] at h
   cases h
theorem rtext_inv {s : St} {m : List B} (h : (rtext s).2 = some m) : s = some (text (rtext s).1 ++ m) ∧ (rtext s).1.length ≤ 65535 := by
 unfold rtext at h ⊢
 have hl : (rnext (rnum 2 s).1.toNat (rnum 2 s).2).2 = some m := h
 cases e : (rnum 2 s).2 with
 | none => rw [e] at hl; cases hl
 | some r =>
  rw [e] at hl
  obtain ⟨h1, h2, h3⟩ := rd_inv (k := 2) (s := s) (m := r) (by decide) (by decide) e
  have hx : (rd 2 s).1 = ((rnum 2 s).1.toNat : Int) := rfl
  have h4 : (256 ^ 2 : Nat) = 65536 := by decide
  rw [h4] at h3
  rw [hx] at h1 h3
  unfold rnext at hl
  dsimp only at hl
  split at hl
  ·rename_i hle
   injection hl with hl
   have ht : (rnext (rnum 2 s).1.toNat (some r)).1 = r.take (rnum 2 s).1.toNat := by unfold rnext; dsimp only; rw [if_pos hle]
   have hlen : (r.take (rnum 2 s).1.toNat).length = (rnum 2 s).1.toNat := by rw [List.length_take]; omega
   rw [ht]
   refine ⟨?_, by rw [hlen]; omega⟩
   conv => lhs; rw [h1]
   unfold text
   rw [hlen, List.append_assoc]
   have e2 : n64 ((rnum 2 s).1.toNat : Int) = BitVec.ofNat 64 (rnum 2 s).1.toNat := by
    apply BitVec.eq_of_toNat_eq
    rw [(n64_nat 2 (x := ((rnum 2 s).1.toNat : Int)) (by omega) (by rw [h4]; omega) (by decide)).1, Int.toNat_natCast, BitVec.toNat_ofNat, Nat.mod_eq_of_lt (by omega)]
   rw [e2]
   congr 2
   rw [← hl, List.take_append_drop]
  ·cases hl
theorem rtexts_inv : ∀ (n : Nat) {s : St} {m : List B}, (rtexts n s).2 = some m → s = some ((rtexts n s).1.flatMap text ++ m) ∧ (rtexts n s).1.length = n
 | 0, s, m, h => ⟨h, rfl⟩
 | n + 1, s, m, h => by
  unfold rtexts at h ⊢
  dsimp only at h ⊢
  obtain ⟨h1, h2⟩ := rtexts_inv n h
  obtain ⟨h3, _⟩ := rtext_inv h1
  refine ⟨?_, by rw [List.length_cons, h2]⟩
  rw [List.flatMap_cons, List.append_assoc]
  exact h3
theorem inR_iff {n a b : Int} : inR n a b = true ↔ a ≤ n ∧ n ≤ b := by unfold inR; simp
theorem may1 {r : Rc} (h : may r = true) (hk : r.kind = 1) : r = { rc0 with kind := 1, s := r.s } ∧ (-3 ≤ r.s.step ∧ r.s.step ≤ 29) ∧ (1 ≤ r.s.visit ∧ r.s.visit ≤ 1001) ∧ (0 ≤ r.s.tries ∧ r.s.tries ≤ 6) ∧ (0 ≤ r.s.off ∧ r.s.off ≤ 2147483647) ∧ (∀ t ∈ r.s.vars, t.length ≤ 100) ∧ r.s.vars.length ≤ 8 := by
 unfold may noOutcome noIntent textsOk at h
 rw [if_pos hk] at h
 simp only [Bool.and_eq_true, inR_iff, decide_eq_true_eq, List.all_eq_true] at h
 obtain ⟨⟨⟨⟨⟨⟨⟨⟨⟨⟨h1, h2⟩, h3⟩, h4⟩, ⟨h5, h6⟩⟩, h7⟩, h8⟩, h9⟩, h10⟩, h11⟩, h12, h13⟩ := h
 refine ⟨?_, h8, h9, h10, h11, h12, h13⟩
 obtain ⟨k, s, v, st, tr, to, of, va, vl⟩ := r
 simp only at hk h1 h2 h3 h4 h5 h6 h7
 subst hk; subst h1; subst h2; subst h3; subst h4; subst h5; subst h6; subst h7
 rfl
theorem may2 {r : Rc} (h : may r = true) (hk : r.kind = 2) : r = { rc0 with kind := 2, visit := r.visit, step := r.step, try_ := r.try_ } ∧ (1 ≤ r.visit ∧ r.visit ≤ 1001) ∧ (0 ≤ r.step ∧ r.step ≤ 29) ∧ (0 ≤ r.try_ ∧ r.try_ ≤ 5) := by
 unfold may noOutcome noPoint at h
 rw [if_neg (by omega), if_pos hk] at h
 simp only [Bool.and_eq_true, inR_iff, decide_eq_true_eq] at h
 obtain ⟨⟨⟨⟨⟨⟨⟨⟨p1, p2⟩, p3⟩, p4⟩, p5⟩, ⟨⟨⟨h1, h2⟩, h3⟩, h4⟩⟩, h8⟩, h9⟩, h10⟩ := h
 refine ⟨?_, h8, h9, h10⟩
 obtain ⟨k, ⟨a, b, c, d, e⟩, v, st, tr, to, of, va, vl⟩ := r
 simp only at hk h1 h2 h3 h4 p1 p2 p3 p4 p5
 subst hk; subst h1; subst h2; subst h3; subst h4; subst p1; subst p2; subst p3; subst p4; subst p5
 rfl
theorem may3 {r : Rc} (h : may r = true) (hk : r.kind = 3) : r = { rc0 with kind := 3, visit := r.visit, to := r.to, off := r.off, var := r.var, value := r.value } ∧ (1 ≤ r.visit ∧ r.visit ≤ 1001) ∧ (-3 ≤ r.to ∧ r.to ≤ 29) ∧ (0 ≤ r.off ∧ r.off ≤ 2147483647) ∧ (-1 ≤ r.var ∧ r.var ≤ 7) ∧ r.value.length ≤ 100 := by
 unfold may noIntent noPoint at h
 rw [if_neg (by omega), if_neg (by omega), if_pos hk] at h
 simp only [Bool.and_eq_true, inR_iff, decide_eq_true_eq] at h
 obtain ⟨⟨⟨⟨⟨⟨⟨⟨⟨⟨⟨p1, p2⟩, p3⟩, p4⟩, p5⟩, ⟨h1, h2⟩⟩, h8⟩, h9⟩, h10⟩, h11⟩, h12⟩, _⟩ := h
 refine ⟨?_, h8, h9, h10, h11, h12⟩
 obtain ⟨k, ⟨a, b, c, d, e⟩, v, st, tr, to, of, va, vl⟩ := r
 simp only at hk h1 h2 p1 p2 p3 p4 p5
 subst hk; subst h1; subst h2; subst p1; subst p2; subst p3; subst p4; subst p5
 rfl
theorem may_kind {r : Rc} (h : may r = true) : r.kind = 1 ∨ r.kind = 2 ∨ r.kind = 3 := by
 unfold may at h
 split at h
 ·exact .inl ‹_›
 ·split at h
  ·exact .inr (.inl ‹_›)
  ·split at h
   ·exact .inr (.inr ‹_›)
   ·cases h
theorem rend_some {s : St} (h : rend s = true) : s = some [] := by
 unfold rend at h
 split at h
 ·rfl
 ·cases h
theorem get_inv {b : List B} {r : Rc} (h : get b = some r) : (readRc b).2 = some [] ∧ may r = true ∧ r = (readRc b).1 := by
 unfold get at h
 split at h
 ·rename_i hc
  simp only [Bool.and_eq_true] at hc
  injection h with h
  subst h
  exact ⟨rend_some hc.1, hc.2, rfl⟩
 ·cases h
theorem put_get {b : List B} {r : Rc} (h : get b = some r) : put r = b ∧ may r = true := by
 obtain ⟨h1, h2, rfl⟩ := get_inv h
 refine ⟨?_, h2⟩
 have key : ∀ (k : Int) (s : St), (rd 1 (some b)).1 = k → (rd 1 (some b)).2 = s → ∀ t, s = some t → b = num 1 (n64 k) ++ t := fun k s e1 e2 t e3 => by
  obtain ⟨q, _⟩ := rd_inv (k := 1) (s := some b) (m := t) (by decide) (by decide) (by rw [e2, e3])
  injection q with q
  rw [e1] at q
  exact q
 unfold readRc at h1 h2 ⊢
 obtain ⟨k, hk⟩ : ∃ k, k = (rd 1 (some b)).1 := ⟨_, rfl⟩
 obtain ⟨s, hs⟩ : ∃ s, s = (rd 1 (some b)).2 := ⟨_, rfl⟩
 rw [← hk, ← hs] at h1 h2 ⊢
 have key := key k s hk.symm hs.symm
 clear hk hs h
 rcases may_kind h2 with hk | hk | hk
 ·have hk1 : k = 1 := by
   unfold readK at hk
   split at hk
   ·assumption
   ·split at hk
    ·simp at hk
    ·split at hk
     ·simp at hk
     ·exact hk
  subst hk1
  unfold readK at h1 ⊢
  rw [if_pos rfl] at h1 ⊢
  unfold put
  dsimp only at h1 ⊢
  rw [if_pos rfl]
  unfold readP at h1 ⊢
  dsimp only at h1 ⊢
  obtain ⟨f1, f2⟩ := rtexts_inv _ h1
  obtain ⟨g1, g2, g3⟩ := rd_inv (k := 1) (by decide) (by decide) f1
  obtain ⟨i1, _⟩ := rd_inv (k := 4) (by decide) (by decide) g1
  obtain ⟨j1, _⟩ := rd_inv (k := 1) (by decide) (by decide) i1
  obtain ⟨l1, _⟩ := rd_inv (k := 2) (by decide) (by decide) j1
  obtain ⟨o1, _⟩ := rd_inv (k := 1) (by decide) (by decide) l1
  rw [key _ o1]
  rw [f2, Int.toNat_of_nonneg g2, Int.sub_add_cancel, List.append_nil]
  simp only [List.append_assoc]
 ·have hk1 : k = 2 := by
   unfold readK at hk
   split at hk
   ·simp at hk
   ·split at hk
    ·assumption
    ·split at hk
     ·simp at hk
     ·exact hk
  subst hk1
  unfold readK at h1 ⊢
  rw [if_neg (by decide), if_pos rfl] at h1 ⊢
  unfold put
  dsimp only at h1 ⊢
  rw [if_neg (by decide), if_pos rfl]
  unfold readI at h1 ⊢
  dsimp only at h1 ⊢
  obtain ⟨j1, _⟩ := rd_inv (k := 1) (by decide) (by decide) h1
  obtain ⟨l1, _⟩ := rd_inv (k := 1) (by decide) (by decide) j1
  obtain ⟨o1, _⟩ := rd_inv (k := 2) (by decide) (by decide) l1
  rw [key _ o1, List.append_nil]
  simp only [List.append_assoc]
 ·have hk1 : k = 3 := by
   unfold readK at hk
   split at hk
   ·simp at hk
   ·split at hk
    ·simp at hk
    ·split at hk
     ·assumption
     ·exact hk
  subst hk1
  unfold readK at h1 ⊢
  rw [if_neg (by decide), if_neg (by decide), if_pos rfl] at h1 ⊢
  unfold put
  dsimp only at h1 ⊢
  rw [if_neg (by decide), if_neg (by decide)]
  unfold readO at h1 ⊢
  dsimp only at h1 ⊢
  obtain ⟨f1, _⟩ := rtext_inv h1
  obtain ⟨g1, _⟩ := rd_inv (k := 1) (by decide) (by decide) f1
  obtain ⟨i1, _⟩ := rd_inv (k := 4) (by decide) (by decide) g1
  obtain ⟨j1, _⟩ := rd_inv (k := 1) (by decide) (by decide) i1
  obtain ⟨o1, _⟩ := rd_inv (k := 2) (by decide) (by decide) j1
  rw [key _ o1, Int.sub_add_cancel, Int.sub_add_cancel, List.append_nil]
  simp only [List.append_assoc]
end Go.Proofs.Ytfmkkklcgiaacaa.Rec
end
section
namespace Go.Proofs.Ytfmkkklcgiaacaa.Fold
open Rec (Stt Rc stt0 may get)
abbrev B := BitVec 8
structure Sp where
 arms : List (Int × Int)
 try_ : Int
 els : Int
structure Bok where
 steps : List Sp
 nv : Nat
 most : Int
def numsOk (b : Bok) (s : Stt) : Bool := !(decide (s.step < -3) || decide ((b.steps.length : Int) ≤ s.step) || decide (s.visit < 1) || decide (s.tries < 0) || decide (s.off < 0) || decide (2147483647 < s.off) || !decide (s.vars.length = b.nv))
def right (b : Bok) (s : Stt) : Bool :=
 numsOk b s && s.vars.all (fun t => decide (t.length ≤ 100)) &&
  (if s.step < 0 then decide (s.visit ≤ b.most + 1) && decide (s.tries = 0) else match b.steps[s.step.toNat]? with
   | none => false
   | some p => decide (s.visit ≤ b.most) && decide (s.tries ≤ p.try_ + 1))
def armR (p : Sp) (to_ v : Int) : Bool := p.arms.any fun a => decide (a.1 = to_) && decide (a.2 = v)
def setV (l : List (List B)) (v : Int) (x : List B) : List (List B) := (List.range l.length).map fun (i : Nat) => if (i : Int) = v then x else l.getD i []
def goR (b : Bok) (s : Stt) (to_ off v : Int) (x : List B) : Stt := ⟨if 0 ≤ to_ ∧ s.visit = b.most then -2 else to_, s.visit + 1, 0, off, setV s.vars v x⟩
def met (p : Sp) (s : Stt) (r : Rc) : Bool := armR p r.to r.var && decide (s.off ≤ r.off)
def late (p : Sp) (s : Stt) (r : Rc) : Bool := decide (r.off = s.off) && decide (r.var < 0) && (decide (r.to = p.els) || decide (r.to = -2))
def intentR (p : Sp) (s : Stt) (r : Rc) : Option Stt := if r.step ≠ s.step ∨ r.try_ ≠ s.tries ∨ p.try_ < r.try_ then none else some { s with tries := s.tries + 1 }
def outcomeR (b : Bok) (p : Sp) (s : Stt) (r : Rc) : Option Stt :=
 if s.tries = 0 ∨ (b.steps.length : Int) ≤ r.to ∨ (b.nv : Int) ≤ r.var then none else if met p s r || late p s r then some (goR b s r.to r.off r.var r.value) else none
def nextR (b : Bok) (s : Stt) (r : Rc) : Option Stt :=
 if !right b s || !may r || decide (s.step < 0) || !decide (r.visit = s.visit) || decide (r.kind = 1) then none
 else match b.steps[s.step.toNat]? with
  | none => none
  | some p => if r.kind = 2 then intentR p s r else outcomeR b p s r
def startR (b : Bok) : Stt := ⟨0, 1, 0, 0, List.replicate b.nv []⟩
def tell {X R S : Type} (G : X → Option R) (N : S → R → Option S) : S → List X → Option S
 | s, [] => some s
 | s, x :: l => (G x).bind fun r => (N s r).bind fun t => tell G N t l
theorem tell_cons {X R S : Type} (G : X → Option R) (N : S → R → Option S) (s : S) (x : X) (l : List X) : tell G N s (x :: l) = (G x).bind fun r => (N s r).bind fun t => tell G N t l := rfl
def allF (b : Bok) : Stt → List (List B) → Option Stt := tell get (nextR b)
theorem allF_cons (b : Bok) (s : Stt) (x : List B) (l : List (List B)) : allF b s (x :: l) = (get x).bind fun r => (nextR b s r).bind fun t => allF b t l := tell_cons _ _ _ _ _
def allR (b : Bok) : List (List B) → Option Stt
 | [] => some (startR b)
 | x :: l => (get x).bind fun r => if r.kind = 1 ∧ right b r.s = true then allF b r.s l else none
theorem allR_cons (b : Bok) (x : List B) (l : List (List B)) : allR b (x :: l) = (get x).bind fun r => if r.kind = 1 ∧ right b r.s = true then allF b r.s l else none := by unfold allR; dsimp only
theorem may_kind {r : Rc} (h : may r = true) : r.kind = 1 ∨ r.kind = 2 ∨ r.kind = 3 := by
 unfold Rec.may at h
 split at h
 ·exact .inl ‹_›
 ·split at h
  ·exact .inr (.inl ‹_›)
  ·split at h
   ·exact .inr (.inr ‹_›)
   ·cases h
theorem right_nums {b : Bok} {s : Stt} (h : right b s = true) : -3 ≤ s.step ∧ s.step < b.steps.length ∧ 1 ≤ s.visit ∧ 0 ≤ s.tries ∧ 0 ≤ s.off ∧ s.off ≤ 2147483647 ∧ s.vars.length = b.nv ∧ (∀ t ∈ s.vars, t.length ≤ 100) := by
 unfold right at h
 rw [Bool.and_eq_true, Bool.and_eq_true] at h
 obtain ⟨⟨h1, h2⟩, _⟩ := h
 unfold numsOk at h1
 simp at h1
 rw [List.all_eq_true] at h2
 refine ⟨by omega, by omega, by omega, by omega, by omega, by omega, by omega, fun t ht => by simpa using h2 t ht⟩
theorem right_more {b : Bok} {s : Stt} (h : right b s = true) : (s.step < 0 → s.visit ≤ b.most + 1 ∧ s.tries = 0) ∧ (0 ≤ s.step → s.visit ≤ b.most ∧ ∃ p, b.steps[s.step.toNat]? = some p ∧ s.tries ≤ p.try_ + 1) := by
 unfold right at h
 rw [Bool.and_eq_true] at h
 obtain ⟨_, h3⟩ := h
 constructor
 ·intro hs
  rw [if_pos hs] at h3
  simpa using h3
 ·intro hs
  rw [if_neg (by omega)] at h3
  cases hp : b.steps[s.step.toNat]? with
  | none => rw [hp] at h3; cases h3
  | some p =>
   rw [hp] at h3
   simp at h3
   exact ⟨h3.1, p, rfl, h3.2⟩
theorem next_some {b : Bok} {s t : Stt} {r : Rc} (h : nextR b s r = some t) : right b s = true ∧ may r = true ∧ 0 ≤ s.step ∧ r.visit = s.visit ∧ r.kind ≠ 1 ∧ ∃ p, b.steps[s.step.toNat]? = some p ∧ (if r.kind = 2 then intentR p s r else outcomeR b p s r) = some t := by
 unfold nextR at h
 split at h
 ·cases h
 ·rename_i hc
  simp at hc
  cases hp : b.steps[s.step.toNat]? with
  | none => rw [hp] at h; cases h
  | some p =>
   rw [hp] at h
   exact ⟨hc.1.1.1.1, hc.1.1.1.2, by omega, hc.1.2, hc.2, p, rfl, h⟩
theorem rises {b : Bok} {s t : Stt} {r : Rc} (h : nextR b s r = some t) : (0 ≤ s.step ∧ s.step < b.steps.length) ∧
  (r.kind = 2 → t.visit = s.visit ∧ t.tries = s.tries + 1 ∧ t.step = s.step ∧ t.off = s.off ∧ ∃ p, b.steps[s.step.toNat]? = some p ∧ t.tries ≤ p.try_ + 1) ∧
  (r.kind = 3 → t.visit = s.visit + 1 ∧ t.tries = 0 ∧ s.off ≤ t.off ∧ 1 ≤ s.tries) := by
 obtain ⟨h1, h2, h3, h4, h5, p, hp, ht⟩ := next_some h
 have hn := right_nums h1
 refine ⟨⟨h3, hn.2.1⟩, fun hk => ?_, fun hk => ?_⟩
 ·rw [if_pos hk] at ht
  unfold intentR at ht
  split at ht
  ·cases ht
  ·rename_i hc
   injection ht with ht
   subst ht
   exact ⟨rfl, rfl, rfl, rfl, p, hp, by show s.tries + 1 ≤ _; omega⟩
 ·rw [if_neg (by omega)] at ht
  unfold outcomeR at ht
  split at ht
  ·cases ht
  ·rename_i hc
   split at ht
   ·rename_i hm
    injection ht with ht
    subst ht
    refine ⟨rfl, rfl, ?_, by omega⟩
    show s.off ≤ r.off
    unfold met late at hm
    simp at hm
    rcases hm with hm | hm <;> omega
   ·cases ht
end Go.Proofs.Ytfmkkklcgiaacaa.Fold
end
