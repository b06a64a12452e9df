/-
Texts: Open Bytes LexPure LexAlone BookPure
-/
import Derived.WalkKit
import Derived.ProofKit
import Derived.OpenShut
import Derived.Deep.Slices
import Derived.Deep.Fields
import Derived.ChangeSame
import Derived.Test.YteohlpmojfjjdaaGreatRows
import Derived.Below
import Derived.Laws.OwnMore
import Derived.Deep.AppendLies
import Derived.Deep.Draws
set_option linter.unusedVariables false
set_option linter.unusedSimpArgs false
section
namespace Go.Proofs.YteohlpmojfjjdaaGreat
open Go.ChangeShapes Go.WideShapes Go.RowKit Go.Deep
inductive Kd
 | int (k : IntKind)
 | bool
 | string
 | slice (e : Kd)
 | recs (fs : List Kd)
inductive IsV (w : World) : Kd → Value → Prop
 | int {k : IntKind} {a : Int} (h : (Lit.int k a).wf = true) : IsV w (.int k) (.int k a)
 | bool (b : Bool) : IsV w .bool (.bool b)
 | string {s : ByteArray} (h : s.size ≤ maxLen) : IsV w .string (.string s)
 | nil {e : Kd} : IsV w (.slice e) (.slice none 0 0)
 | slice {e : Kd} {x : Addr} {l c : Nat} (U : Nat → Value) (hl : l ≤ c) (hc : c ≤ maxLen) (hcell : ∀ i, i < l → w.cell? (x.add i) = some (U i)) (hU : ∀ i, i < l → IsV w e (U i)) : IsV w (.slice e) (.slice (some x) l c)
 | rnil {fs : List Kd} : IsV w (.recs fs) (.slice none 0 0)
 | recs {fs : List Kd} {x : Addr} {l c : Nat} (U : Nat → Nat → Value) (hl : l ≤ c) (hc : c ≤ maxLen) (hcell : ∀ i j, i < l → j < fs.length → w.cell? (x.add (i * fs.length + j)) = some (U i j))
   (hU : ∀ i j k, i < l → fs[j]? = some k → IsV w k (U i j)) : IsV w (.recs fs) (.slice (some x) l c)
def kindOf (P : Program) : Nat → TypeId → Option Kd
 | 0, _ => none
 | n + 1, t => match P.underlying t with
  | some (.int k) => some (.int k)
  | some .bool => some .bool
  | some .string => some .string
  | some (.slice e) =>
   if P.cellsOf e = 1 then (kindOf P n e).map .slice
   else match P.underlying e with
    | some (.struct fs) => if oneCellFields P fs && (P.cellsOf e == fs.size) then (fs.toList.mapM fun f => kindOf P n f.type).map .recs else none
    | _ => none
  | _ => none
section
variable {H : Type} {enc : TypeId × Value → H} {P : Program} {w : World} {base : Nat} {spare : Nat → Bool} {held : Bool}
theorem mapM_at {α β : Type} {f : α → Option β} : ∀ {l : List α} {r : List β}, l.mapM f = some r → r.length = l.length ∧ ∀ (j : Nat) (b : β), r[j]? = some b → ∃ a, l[j]? = some a ∧ f a = some b
 | [], r, h => by simp at h; subst h; exact ⟨rfl, by simp⟩
 | a :: l, r, h => by
  simp only [List.mapM_cons, Option.bind_eq_bind, Option.pure_def] at h
  cases hf : f a with
  | none => rw [hf] at h; cases h
  | some b =>
   rw [hf] at h
   cases hl : l.mapM f with
   | none => rw [hl] at h; cases h
   | some r' =>
    rw [hl] at h
    simp at h
    subst h
    obtain ⟨h1, h2⟩ := mapM_at hl
    refine ⟨by simp [h1], fun j b' hj => ?_⟩
    cases j with
    | zero => simp at hj; subst hj; exact ⟨a, rfl, hf⟩
    | succ j => simpa using h2 j b' (by simpa using hj)
theorem open_kind : ∀ (n : Nat) {t : TypeId} {k : Kd} {fuel : Nat} {v : Value} {y : DataW H × List MemPlace}, kindOf P n t = some k → DataW.trod enc P w base spare held fuel t [v] = some y → IsV w k v := by
 intro n
 induction n with
 | zero => intro t k fuel v y h; cases h
 | succ n ih =>
  intro t k fuel v y h ht
  unfold kindOf at h
  cases hu : P.underlying t with
  | none => rw [hu] at h; cases h
  | some d =>
   rw [hu] at h
   cases d <;> try (cases h; done)
   case int q =>
    cases h
    obtain ⟨a, e, _, hw⟩ := DataW.trod_int hu ht
    obtain rfl : v = .int q a := by simpa using e
    exact .int hw
   case bool =>
    cases h
    obtain ⟨a, e, _⟩ := DataW.trod_bool hu ht
    obtain rfl : v = .bool a := by simpa using e
    exact .bool a
   case string =>
    cases h
    obtain ⟨a, e, _, hw⟩ := DataW.trod_string hu ht
    obtain rfl : v = .string a := by simpa using e
    exact .string hw
   case slice e =>
    simp only at h
    by_cases hc : P.cellsOf e = 1
    ·rw [if_pos hc] at h
     cases hk : kindOf P n e with
     | none => rw [hk] at h; cases h
     | some k' =>
      rw [hk] at h
      cases h
      rcases open_slice1 hu hc ht with ⟨e0, _⟩ | ⟨a, len, cap, m, q, V, D, Pl, e0, _, hl, hm, hmm, _, hel⟩
      ·obtain rfl : v = .slice none 0 0 := by simpa using e0
       exact .nil
      ·obtain rfl : v = .slice (some a) len cap := by simpa using e0
       have hlm : ∀ i, i < len → i < m := fun i hi => by rw [hmm]; split <;> omega
       exact .slice V hl hm (fun i hi => (hel i (hlm i hi)).1) (fun i hi => ih hk (hel i (hlm i hi)).2)
    ·rw [if_neg hc] at h
     cases hs : P.underlying e with
     | none => rw [hs] at h; cases h
     | some d =>
      rw [hs] at h
      cases d <;> try (cases h; done)
      case struct fs =>
       simp only at h
       split at h
       ·rename_i hone
        rw [Bool.and_eq_true, beq_iff_eq] at hone
        cases hk : (fs.toList.mapM fun f => kindOf P n f.type) with
        | none => rw [hk] at h; cases h
        | some ks =>
         rw [hk] at h
         cases h
         obtain ⟨hkl, hka⟩ := mapM_at hk
         have hkl' : ks.length = fs.size := by rw [hkl]; simp
         rcases open_slice hu ht with ⟨e0, _⟩ | ⟨a, len, cap, m, q, D, Pl, e0, _, hl, hm, hmm, _, hel⟩
         ·obtain rfl : v = .slice none 0 0 := by simpa using e0
          exact .rnil
         ·obtain rfl : v = .slice (some a) len cap := by simpa using e0
          have hlm : ∀ i, i < len → i < m := fun i hi => by rw [hmm]; split <;> omega
          rw [hone.2] at hel
          refine .recs (fun i j => (w.cell? (a.add (i * ks.length + j))).getD undef) hl hm (fun i j hi hj => ?_) (fun i j k hi hjk => ?_)
          ·obtain ⟨cs', hcs, _⟩ := hel i (hlm i hi)
           obtain ⟨hcl, _, hat⟩ := World.cells?_some hcs
           have := hat j (by omega)
           rw [add_add, ← hkl'] at this
           rw [this]
           obtain ⟨u, hu⟩ : ∃ u, cs'[j]? = some u := ⟨_, List.getElem?_eq_getElem (by have := World.cells?_some hcs; omega)⟩
           rw [hu]; rfl
          ·obtain ⟨cs', hcs, ht'⟩ := hel i (hlm i hi)
           obtain ⟨ys, n', _, _, hlen, hyl, hf⟩ := DataW.trod_struct hs ht'
           obtain ⟨_, _, hat⟩ := World.cells?_some hcs
           obtain ⟨f, hfj, hkf⟩ := hka j k hjk
           have hfj' : fs[j]? = some f := by simpa using hfj
           have hjl : j < fs.size := (Array.getElem?_eq_some_iff.1 hfj').1
           obtain ⟨ho, hkk⟩ := hone_of hone.1 j f hfj'
           have hcell := hat j hjl
           rw [add_add, ← hkl'] at hcell
           have h1 := hf j f hfj'
           rw [ho, hkk] at h1
           have hlt : j < cs'.length := by omega
           have hone' : (cs'.drop j).take 1 = [cs'[j]] := by
            rw [List.drop_eq_getElem_cons hlt]; rfl
           rw [hone'] at h1
           obtain ⟨y', hy'⟩ : ∃ y', ys[j]? = some y' := ⟨_, List.getElem?_eq_getElem (by omega)⟩
           rw [hy'] at h1
           have hv : (w.cell? (a.add (i * ks.length + j))).getD undef = cs'[j] := by rw [hcell, List.getElem?_eq_getElem hlt]; rfl
           rw [hv]
           exact ih hkf h1
       ·cases h
end
end Go.Proofs.YteohlpmojfjjdaaGreat
end
section
namespace Go.Proofs.YteohlpmojfjjdaaGreat
open Go.RowKit
abbrev v8 (x : BitVec 8) : Value := .int .u8 (x.toNat : Int)
def Bs (w : World) (B : Nat) (A : Option Addr) (n : Nat) (bs : List (BitVec 8)) : Prop :=
 bs.length = n ∧ (0 < n → ∃ ad, A = some ad ∧ ad.block < B ∧ ∀ j, j < n → w.cell? (ad.add j) = some (v8 (bs.getD j 0#8)))
theorem add_block (a : Addr) (n : Nat) : (a.add n).block = a.block := by unfold Addr.add; split <;> rfl
section
variable {w w' : World} {B B' n : Nat} {A : Option Addr} {bs : List (BitVec 8)}
theorem Bs.nil_ : Bs w B A 0 [] := ⟨rfl, fun h => absurd h (by omega)⟩
theorem Bs.len (h : Bs w B A n bs) : bs.length = n := h.1
theorem Bs.at_ (h : Bs w B A n bs) {k : Nat} (hk : k < n) : ∃ ad, A = some ad ∧ ad.block < B ∧ w.cell? (ad.add k) = some (v8 (bs.getD k 0#8)) := by
 obtain ⟨ad, e, hb, hc⟩ := h.2 (by omega)
 exact ⟨ad, e, hb, hc k hk⟩
theorem Bs.keep (h : Bs w B A n bs) (hk : ∀ p : Addr, p.block < B → w'.cell? p = w.cell? p) : Bs w' B A n bs :=
 ⟨h.1, fun hn => by
  obtain ⟨ad, e, hb, hc⟩ := h.2 hn
  exact ⟨ad, e, hb, fun j hj => (hk _ (by rw [add_block]; exact hb)).trans (hc j hj)⟩⟩
theorem Bs.more (h : Bs w B A n bs) (hB : B ≤ B') : Bs w B' A n bs :=
 ⟨h.1, fun hn => by
  obtain ⟨ad, e, hb, hc⟩ := h.2 hn
  exact ⟨ad, e, by omega, hc⟩⟩
theorem Bs.below (h : Bs w B A n bs) (hb : Below B w w') : Bs w' B A n bs := h.keep fun _ hp => hb.cell hp
theorem Bs.drewN (h : Bs w B A n bs) (k : Nat) : Bs (w.drewN k) B A n bs := h
theorem Bs.alloc (h : Bs w B A n bs) (hB : B ≤ w.heap.size) (o : Obj) : Bs (w.alloc o) B A n bs := h.keep fun p hp => World.cell?_alloc_lt w o p (by omega)
end
theorem add_row (g j : Nat) : (⟨g, 0, none⟩ : Addr).add j = ⟨g, j, none⟩ := by
 unfold Addr.add; split
 ·subst_vars; rfl
 ·simp
theorem Bs.lit (w : World) (T : TypeId) (fz : Nat × Nat) (cs : Array Value) (bs : List (BitVec 8)) (h : cs.toList = bs.map v8) (n : Nat) (hn : bs.length = n) :
  Bs (w.alloc (.cells cs T fz)) (w.heap.size + 1) (some ⟨w.heap.size, 0, none⟩) n bs := by
 refine ⟨hn, fun _ => ⟨_, rfl, Nat.lt_succ_self _, fun j hj => ?_⟩⟩
 rw [add_row]
 have hj' : j < bs.length := by omega
 have : cs[j]? = some (v8 (bs.getD j 0#8)) := by
  rw [← Array.getElem?_toList, h, List.getElem?_map, List.getElem?_eq_getElem hj', List.getD_eq_getElem?_getD, List.getElem?_eq_getElem hj']
  rfl
 have hh : (w.alloc (.cells cs T fz)).heap[w.heap.size]? = some (.cells cs T fz) := by
  show (w.heap.push _)[w.heap.size]? = _
  simp
 unfold World.cell?
 rw [hh]
 exact this
theorem cell_lt {w : World} {p : Addr} {v : Value} (h : w.cell? p = some v) : p.block < w.heap.size := by
 rcases Nat.lt_or_ge p.block w.heap.size with hl | hl
 ·exact hl
 ·unfold World.cell? at h
  rw [Array.getElem?_eq_none hl] at h
  cases h
theorem u8_of {z : Int} (h : (Lit.int .u8 z).wf = true) : ∃ r : BitVec 8, z = (r.toNat : Int) := by
 simp [Lit.wf, IntKind.min, IntKind.max, IntKind.bits, IntKind.signed] at h
 exact ⟨BitVec.ofNat 8 z.toNat, by rw [BitVec.toNat_ofNat, Nat.mod_eq_of_lt (by omega)]; omega⟩
end Go.Proofs.YteohlpmojfjjdaaGreat
end
section
namespace Go.Proofs.YteohlpmojfjjdaaGreat.Lex
abbrev B := BitVec 8
def blank (c : B) : Bool := decide (c = 9#8) || decide (c = 10#8) || decide (c = 13#8) || decide (c = 32#8)
def digit (c : B) : Bool := decide (48 ≤ c.toNat) && decide (c.toNat ≤ 57)
def letter (c : B) : Bool := decide (97 ≤ c.toNat) && decide (c.toNat ≤ 122)
def within (c : B) : Bool := letter c || digit c || decide (c = 95#8)
def rem (r : Bool) (c : B) : Bool := if c = 10#8 then false else r || decide (c = 35#8)
def skipR : Bool → List B → Nat
 | _, [] => 0
 | r, c :: l => if rem r c || blank c then 1 + skipR (rem r c) l else 0
theorem skipR_cons (r : Bool) (c : B) (l : List B) : skipR r (c :: l) = if rem r c || blank c then 1 + skipR (rem r c) l else 0 := rfl
def textR : List B → Except Nat (List B × Nat)
 | [] => .error 0
 | c :: l =>
  if c = 34#8 then .ok ([], 1)
  else if c.toNat < 32 then .error 0
  else if c = 92#8 then match l with
   | [] => .error 1
   | d :: m => if d.toNat < 32 then .error 1 else match textR m with
    | .error k => .error (2 + k)
    | .ok (t, k) => .ok ((if d = 34#8 then [d] else [c, d]) ++ t, 2 + k)
  else match textR l with
   | .error k => .error (1 + k)
   | .ok (t, k) => .ok (c :: t, 1 + k)
def tadd (o : List B) (k : Nat) : Except Nat (List B × Nat) → Except Nat (List B × Nat)
 | .error e => .error (k + e)
 | .ok (t, m) => .ok (o ++ t, k + m)
theorem textR_end {c : B} {l : List B} (h : c = 34#8) : textR (c :: l) = .ok ([], 1) := by unfold textR; rw [if_pos h]
theorem textR_low {c : B} {l : List B} (h : c.toNat < 32) : textR (c :: l) = .error 0 := by
 have h34 : c ≠ 34#8 := by rintro rfl; simp at h
 unfold textR; rw [if_neg h34, if_pos h]
theorem textR_esc_nil {c : B} (h : c = 92#8) : textR [c] = .error 1 := by subst h; rfl
theorem textR_esc_low {c d : B} {l : List B} (h : c = 92#8) (hd : d.toNat < 32) : textR (c :: d :: l) = .error 1 := by
 subst h
 unfold textR
 rw [if_neg (by decide), if_neg (by decide), if_pos rfl]
 dsimp only
 rw [if_pos hd]
theorem textR_esc {c d : B} {l : List B} (h : c = 92#8) (hd : ¬ d.toNat < 32) : textR (c :: d :: l) = tadd (if d = 34#8 then [d] else [c, d]) 2 (textR l) := by
 subst h
 conv => lhs; unfold textR
 rw [if_neg (by decide), if_neg (by decide), if_pos rfl]
 dsimp only
 rw [if_neg hd]
 rcases textR l with e | ⟨t, m⟩ <;> rfl
theorem textR_char {c : B} {l : List B} (h1 : c ≠ 34#8) (h2 : ¬ c.toNat < 32) (h3 : c ≠ 92#8) : textR (c :: l) = tadd [c] 1 (textR l) := by
 conv => lhs; unfold textR
 rw [if_neg h1, if_neg h2, if_neg h3]
 rcases textR l with e | ⟨t, m⟩ <;> rfl
structure Tk where
 kind : Int
 n : Int
 text : List B
def val (d : List B) : Int := d.foldl (fun n c => 10 * n + ((c.toNat : Int) - 48)) 0
def oneR (c : B) (l : List B) : Except Nat (Tk × Nat) :=
 if c = 34#8 then match textR l with
  | .error k => .error (1 + k)
  | .ok (t, k) => .ok (⟨3, 0, t⟩, 1 + k)
 else if letter c then (if 20 < ((c :: l).takeWhile within).length then .error 0 else .ok (⟨1, 0, (c :: l).takeWhile within⟩, ((c :: l).takeWhile within).length))
 else if ((c :: l).takeWhile digit).length = 0 ∨ 4 < ((c :: l).takeWhile digit).length ∨ 1 < ((c :: l).takeWhile digit).length ∧ c = 48#8 then .error 0
 else .ok (⟨2, val ((c :: l).takeWhile digit), []⟩, ((c :: l).takeWhile digit).length)
structure Tok where
 t : Tk
 at_ : Nat
def cutR : Nat → Nat → List B → Except Nat (List Tok)
 | 0, _, _ => .ok []
 | f + 1, p, l => match l with
  | [] => .ok []
  | c :: m => match oneR c m with
   | .error k => .error (p + k)
   | .ok (x, k) => match cutR f (p + k + skipR false ((c :: m).drop k)) (((c :: m).drop k).drop (skipR false ((c :: m).drop k))) with
    | .error e => .error e
    | .ok ts => .ok (⟨x, p⟩ :: ts)
def cutE : Except Nat (List Tok) → Except (Nat × Nat) (List Tok)
 | .error p => .error (p, 2)
 | .ok ts => .ok ts
def cut (s : List B) : Except (Nat × Nat) (List Tok) :=
 if 2000 < s.length then .error (0, 3) else cutE (cutR (s.length + 1) (skipR false s) (s.drop (skipR false s)))
def cadd (o : List Tok) : Except Nat (List Tok) → Except Nat (List Tok)
 | .error e => .error e
 | .ok ts => .ok (o ++ ts)
theorem cadd_nil (r : Except Nat (List Tok)) : cadd [] r = r := by cases r <;> rfl
theorem cadd_cadd (o o' : List Tok) (r : Except Nat (List Tok)) : cadd o (cadd o' r) = cadd (o ++ o') r := by cases r <;> simp [cadd]
theorem skipR_le : ∀ (l : List B) (r : Bool), skipR r l ≤ l.length
 | [], _ => Nat.le_refl _
 | c :: l, r => by
  rw [skipR_cons]
  split
  ·have := skipR_le l (rem r c); simp; omega
  ·simp
theorem textR_le : ∀ (l : List B) (t : List B) (k : Nat), textR l = .ok (t, k) → 1 ≤ k ∧ k ≤ l.length ∧ t.length ≤ k
 | [], t, k, h => by simp [textR] at h
 | [c], t, k, h => by
  unfold textR at h
  split at h
  ·injection h with h; injection h with h1 h2; subst h1; subst h2; simp
  ·split at h
   ·cases h
   ·split at h
    ·cases h
    ·simp [textR] at h
 | c :: d :: l, t, k, h => by
  by_cases h1 : c = 34#8
  ·rw [textR_end h1] at h; injection h with h; injection h with h1 h2; subst h1; subst h2; simp
  ·by_cases h2 : c.toNat < 32
   ·rw [textR_low h2] at h; cases h
   ·by_cases h3 : c = 92#8
    ·by_cases h4 : d.toNat < 32
     ·rw [textR_esc_low h3 h4] at h; cases h
     ·rw [textR_esc h3 h4] at h
      cases e : textR l with
      | error q => rw [e] at h; cases h
      | ok q =>
       obtain ⟨t', k'⟩ := q
       rw [e] at h
       simp only [tadd] at h
       injection h with h; injection h with h5 h6
       have := textR_le l t' k' e
       subst h5; subst h6
       rw [List.length_append]
       split <;> simp <;> omega
    ·rw [textR_char h1 h2 h3] at h
     cases e : textR (d :: l) with
     | error q => rw [e] at h; cases h
     | ok q =>
      obtain ⟨t', k'⟩ := q
      rw [e] at h
      simp only [tadd] at h
      injection h with h; injection h with h5 h6
      have := textR_le (d :: l) t' k' e
      subst h5; subst h6
      rw [List.length_append]
      simp at this ⊢; omega
theorem takeWhile_le {α : Type} (p : α → Bool) (l : List α) : (l.takeWhile p).length ≤ l.length := (List.takeWhile_prefix p).length_le
theorem letter_within {c : B} (h : letter c = true) : within c = true := by unfold within; rw [h]; rfl
theorem oneR_le {c : B} {l : List B} {x : Tk} {k : Nat} (h : oneR c l = .ok (x, k)) : 1 ≤ k ∧ k ≤ l.length + 1 ∧ x.text.length ≤ k := by
 unfold oneR at h
 split at h
 ·cases e : textR l with
  | error q => rw [e] at h; cases h
  | ok q =>
   obtain ⟨t, m⟩ := q
   rw [e] at h
   have := textR_le l t m e
   injection h with h; injection h with h1 h2; subst h1; subst h2
   simp; omega
 ·split at h
  ·rename_i hl
   split at h
   ·cases h
   ·have h2 := takeWhile_le within (c :: l)
    rw [List.takeWhile_cons, if_pos (letter_within hl)] at h h2
    injection h with h; injection h with h3 h4; subst h3; subst h4
    simp at h2 ⊢; omega
  ·split at h
   ·cases h
   ·rename_i hn
    have h2 := takeWhile_le digit (c :: l)
    injection h with h; injection h with h3 h4; subst h3; subst h4
    simp only [List.length_nil, List.length_cons] at h2 ⊢
    omega
theorem cutR_fuel : ∀ (f g : Nat) (p : Nat) (l : List B), l.length < f → l.length < g → cutR f p l = cutR g p l
 | 0, _, _, _, h, _ => absurd h (Nat.not_lt_zero _)
 | _, 0, _, _, _, h => absurd h (Nat.not_lt_zero _)
 | f + 1, g + 1, p, [], _, _ => rfl
 | f + 1, g + 1, p, c :: m, h1, h2 => by
  unfold cutR
  dsimp only
  cases e : oneR c m with
  | error k => rfl
  | ok q =>
   obtain ⟨x, k⟩ := q
   dsimp only
   have hk := oneR_le e
   simp only [List.length_cons] at h1 h2
   have hl : (((c :: m).drop k).drop (skipR false ((c :: m).drop k))).length ≤ m.length := by simp; omega
   rw [cutR_fuel f g _ _ (by omega) (by omega)]
theorem cutR_nil (f p : Nat) : cutR f p [] = .ok [] := by cases f <;> rfl
theorem cutR_bad {f p k : Nat} {c : B} {m : List B} (h : oneR c m = .error k) : cutR (f + 1) p (c :: m) = .error (p + k) := by unfold cutR; dsimp only; rw [h]
theorem cutR_go {f p k : Nat} {c : B} {m : List B} {x : Tk} (h : oneR c m = .ok (x, k)) : cutR (f + 1) p (c :: m) = cadd [⟨x, p⟩] (cutR f (p + k + skipR false ((c :: m).drop k)) (((c :: m).drop k).drop (skipR false ((c :: m).drop k)))) := by
 conv => lhs; unfold cutR
 dsimp only
 rw [h]
 dsimp only
 cases cutR f (p + k + skipR false ((c :: m).drop k)) (((c :: m).drop k).drop (skipR false ((c :: m).drop k))) <;> rfl
end Go.Proofs.YteohlpmojfjjdaaGreat.Lex
end
section
namespace Go.Proofs.YteohlpmojfjjdaaGreat.Lex
theorem skip_take : ∀ (l : List B) (r : Bool) (j : Nat), j ≤ skipR r l → skipR r (l.take j) = j
 | [], r, j, h => by rw [show skipR r [] = 0 from rfl] at h; obtain rfl : j = 0 := by omega
                     rfl
 | c :: l, r, 0, h => rfl
 | c :: l, r, j + 1, h => by
  rw [skipR_cons] at h
  rw [List.take_succ_cons, skipR_cons]
  split at h
  ·rename_i hc
   rw [if_pos hc, skip_take l _ j (by omega)]; omega
  ·omega
theorem text_take : ∀ (l : List B) (t : List B) (k j : Nat), textR l = .ok (t, k) → k ≤ j → textR (l.take j) = .ok (t, k)
 | [], t, k, j, h, _ => by simp [textR] at h
 | [c], t, k, j, h, hj => by
  have := textR_le _ _ _ h
  rw [List.take_of_length_le (by simp; omega)]; exact h
 | c :: d :: l, t, k, j, h, hj => by
  have hk := textR_le _ _ _ h
  obtain ⟨j, rfl⟩ : ∃ i, j = i + 1 := ⟨j - 1, by omega⟩
  rw [List.take_succ_cons]
  by_cases h1 : c = 34#8
  ·rw [textR_end h1] at h; rw [textR_end h1, h]
  ·by_cases h2 : c.toNat < 32
   ·rw [textR_low h2] at h; cases h
   ·by_cases h3 : c = 92#8
    ·by_cases h4 : d.toNat < 32
     ·rw [textR_esc_low h3 h4] at h; cases h
     ·rw [textR_esc h3 h4] at h
      cases e : textR l with
      | error q => rw [e] at h; cases h
      | ok q =>
       obtain ⟨t', k'⟩ := q
       rw [e] at h
       have hk' := textR_le _ _ _ e
       have h' := h
       simp only [tadd] at h'
       injection h' with h'; injection h' with _ h6
       obtain ⟨j, rfl⟩ : ∃ i, j = i + 1 := ⟨j - 1, by omega⟩
       rw [List.take_succ_cons, textR_esc h3 h4, text_take l t' k' j e (by omega)]
       exact h
    ·rw [textR_char h1 h2 h3] at h
     rw [textR_char h1 h2 h3]
     cases e : textR (d :: l) with
     | error q => rw [e] at h; cases h
     | ok q =>
      obtain ⟨t', k'⟩ := q
      rw [e] at h
      have h' := h
      simp only [tadd] at h'
      injection h' with h'; injection h' with _ h6
      rw [text_take (d :: l) t' k' j e (by omega)]
      exact h
theorem while_take {p : B → Bool} : ∀ (l : List B) (j : Nat), (l.takeWhile p).length ≤ j → (l.take j).takeWhile p = l.takeWhile p
 | [], j, h => by simp
 | c :: l, 0, h => by
  have : (c :: l).takeWhile p = [] := List.eq_nil_of_length_eq_zero (by omega)
  rw [this]; rfl
 | c :: l, j + 1, h => by
  rw [List.take_succ_cons, List.takeWhile_cons, List.takeWhile_cons]
  rw [List.takeWhile_cons] at h
  split at h
  ·rename_i hc
   rw [if_pos hc, if_pos hc, while_take l j (by simp at h; omega)]
  ·rename_i hc
   rw [if_neg hc, if_neg hc]
theorem one_take {c : B} {m : List B} {x : Tk} {k j : Nat} (h : oneR c m = .ok (x, k)) (hj : k ≤ j + 1) : oneR c (m.take j) = .ok (x, k) := by
 unfold oneR at h ⊢
 by_cases h1 : c = 34#8
 ·rw [if_pos h1] at h ⊢
  cases e : textR m with
  | error q => rw [e] at h; cases h
  | ok q =>
   obtain ⟨t', k'⟩ := q
   rw [e] at h
   have h' := h
   simp only at h'
   injection h' with h'; injection h' with _ h6
   rw [text_take m t' k' j e (by omega)]
   exact h
 ·rw [if_neg h1] at h ⊢
  rw [← List.take_succ_cons]
  by_cases h2 : letter c = true
  ·rw [if_pos h2] at h ⊢
   split at h
   ·cases h
   ·rename_i h3
    have h' := h
    injection h' with h'; injection h' with _ h6
    rw [while_take (p := within) (c :: m) (j + 1) (by omega), if_neg h3]
    exact h
  ·rw [if_neg h2] at h ⊢
   split at h
   ·cases h
   ·rename_i h3
    have h' := h
    injection h' with h'; injection h' with _ h6
    rw [while_take (p := digit) (c :: m) (j + 1) (by omega), if_neg h3]
    exact h
theorem one_begins {c : B} {m : List B} {x : Tk} {k : Nat} (h : oneR c m = .ok (x, k)) : (rem false c || blank c) = false := by
 have hc : c = 34#8 ∨ letter c = true ∨ digit c = true := by
  unfold oneR at h
  by_cases h1 : c = 34#8
  ·exact .inl h1
  ·rw [if_neg h1] at h
   by_cases h2 : letter c = true
   ·exact .inr (.inl h2)
   ·rw [if_neg h2] at h
    split at h
    ·cases h
    ·rename_i h3
     refine .inr (.inr ?_)
     cases hd : digit c
     ·exact absurd (.inl (by rw [List.takeWhile_cons, if_neg (by simp [hd])]; rfl)) h3
     ·rfl
 have hn : c.toNat = 34 ∨ 97 ≤ c.toNat ∧ c.toNat ≤ 122 ∨ 48 ≤ c.toNat ∧ c.toNat ≤ 57 := by
  rcases hc with rfl | hc | hc
  ·exact .inl rfl
  ·exact .inr (.inl (by simpa [letter] using hc))
  ·exact .inr (.inr (by simpa [digit] using hc))
 have ne : ∀ k : Nat, k < 256 → c.toNat ≠ k → c ≠ BitVec.ofNat 8 k := fun k hk h e => h (by rw [e, BitVec.toNat_ofNat, Nat.mod_eq_of_lt (by omega)])
 have n9 := ne 9 (by decide) (by omega)
 have n10 := ne 10 (by decide) (by omega)
 have n13 := ne 13 (by decide) (by omega)
 have n32 := ne 32 (by decide) (by omega)
 have n35 := ne 35 (by decide) (by omega)
 simp only [rem, blank]
 simp [n9, n10, n13, n32, n35]
def full (p : Nat) (l : List B) : Except Nat (List Tok) := cutR (l.length + 1) (p + skipR false l) (l.drop (skipR false l))
theorem full_eq (p : Nat) (l : List B) (f : Nat) (hf : l.length - skipR false l < f) : full p l = cutR f (p + skipR false l) (l.drop (skipR false l)) :=
 cutR_fuel _ _ _ _ (by rw [List.length_drop]; omega) (by rw [List.length_drop]; omega)
theorem full_end {p : Nat} {l : List B} (h : skipR false l = l.length) : full p l = .ok [] := by
 unfold full; rw [List.drop_eq_nil_of_le (by omega)]; exact cutR_nil _ _
theorem full_go {p : Nat} {l m : List B} {c : B} {x : Tk} {k : Nat} (hd : l.drop (skipR false l) = c :: m) (ho : oneR c m = .ok (x, k)) : full p l = cadd [⟨x, p + skipR false l⟩] (full (p + skipR false l + k) ((c :: m).drop k)) := by
 have hl : (c :: m).length = l.length - skipR false l := by rw [← hd, List.length_drop]
 have hk := oneR_le ho
 rw [full_eq p l (l.length + 1 + 1) (by omega), hd, cutR_go ho, full_eq (p + skipR false l + k) ((c :: m).drop k) (l.length + 1) (by rw [List.length_drop]; omega)]
theorem full_bad {p : Nat} {l m : List B} {c : B} {k : Nat} (hd : l.drop (skipR false l) = c :: m) (ho : oneR c m = .error k) : full p l = .error (p + skipR false l + k) := by
 unfold full; rw [hd, cutR_bad ho]
theorem cut_full (s : List B) : cut s = if 2000 < s.length then .error (0, 3) else cutE (full 0 s) := by
 unfold cut full
 rw [Nat.zero_add]
def next (n : Nat) (ts : List Tok) (i : Nat) : Nat := match ts[i + 1]? with
 | none => n
 | some t => t.at_
theorem alone : ∀ (n : Nat) (s : List B) (q : Nat) (ts : List Tok), s.length - q < n → q ≤ s.length → s.length ≤ 2000 → full q (s.drop q) = .ok ts →
  (∀ t, ts[0]? = some t → q ≤ t.at_ ∧ q + skipR false (s.drop q) = t.at_) ∧ (ts = [] → q + skipR false (s.drop q) = s.length) ∧
  ∀ (i : Nat) t, ts[i]? = some t → t.at_ < next s.length ts i ∧ next s.length ts i ≤ s.length ∧ cut ((s.take (next s.length ts i)).drop t.at_) = .ok [⟨t.t, 0⟩]
 | 0, _, _, _, h, _, _, _ => absurd h (Nat.not_lt_zero _)
 | n + 1, s, q, ts, hn, hq, h2, h => by
  have hle := skipR_le (s.drop q) false
  rw [List.length_drop] at hle
  by_cases he : skipR false (s.drop q) = (s.drop q).length
  ·rw [full_end he] at h
   injection h with h
   subst h
   rw [List.length_drop] at he
   exact ⟨fun t ht => by simp at ht, fun _ => by omega, fun i t ht => by simp at ht⟩
  ·obtain ⟨c, m, hd⟩ : ∃ c m, (s.drop q).drop (skipR false (s.drop q)) = c :: m := by
    cases e : (s.drop q).drop (skipR false (s.drop q)) with
    | nil => have := congrArg List.length e; rw [List.length_drop] at this; simp at this; rw [List.length_drop] at he; omega
    | cons c m => exact ⟨c, m, rfl⟩
   obtain ⟨p, hp⟩ : ∃ p, p = q + skipR false (s.drop q) := ⟨_, rfl⟩
   have hd' : s.drop p = c :: m := by rw [hp, ← List.drop_drop]; exact hd
   have hl : m.length + 1 = s.length - p := by have := congrArg List.length hd'; rw [List.length_drop] at this; simpa using this.symm
   cases ho : oneR c m with
   | error k => rw [full_bad hd ho] at h; cases h
   | ok xk =>
    obtain ⟨x, k⟩ := xk
    have hk := oneR_le ho
    rw [full_go hd ho, ← hp] at h
    rw [show (c :: m).drop k = s.drop (p + k) by rw [← hd', List.drop_drop]] at h
    cases e2 : full (p + k) (s.drop (p + k)) with
    | error z => rw [e2] at h; cases h
    | ok us =>
     rw [e2] at h
     simp only [cadd, List.singleton_append] at h
     injection h with h
     subst h
     obtain ⟨i1, i2, i3⟩ := alone n s (p + k) us (by omega) (by omega) h2 e2
     obtain ⟨to, hto⟩ : ∃ to, to = p + k + skipR false (s.drop (p + k)) := ⟨_, rfl⟩
     have hle2 := skipR_le (s.drop (p + k)) false
     rw [List.length_drop] at hle2
     have hnx : next s.length (⟨x, p⟩ :: us) 0 = to := by
      show (match us[0]? with | none => s.length | some t => t.at_) = to
      cases hu : us[0]? with
      | none =>
       have : us = [] := by cases us with
        | nil => rfl
        | cons => simp at hu
       exact (i2 this).symm.trans hto.symm
      | some t => exact ((i1 t hu).2.symm).trans hto.symm
     refine ⟨fun t ht => by simp at ht; subst ht; exact ⟨by show q ≤ p; omega, hp.symm⟩, fun e => by simp at e, fun i t ht => ?_⟩
     cases i with
     | zero =>
      simp at ht
      subst ht
      rw [hnx]
      refine ⟨by show p < to; omega, by omega, ?_⟩
      show cut ((s.take to).drop p) = .ok [⟨x, 0⟩]
      have hsub : (s.take to).drop p = c :: m.take (to - p - 1) := by
       rw [List.drop_take, hd', show to - p = (to - p - 1) + 1 by omega, List.take_succ_cons]
       rfl
      have hsk : skipR false ((s.take to).drop p) = 0 := by rw [hsub, skipR_cons, if_neg (by rw [one_begins ho]; decide)]
      have hlen : ((s.take to).drop p).length = to - p := by rw [List.length_drop, List.length_take]; omega
      rw [cut_full, if_neg (by omega)]
      have hd3 : ((s.take to).drop p).drop (skipR false ((s.take to).drop p)) = c :: m.take (to - p - 1) := by rw [hsk, List.drop_zero, hsub]
      rw [full_go hd3 (one_take ho (by omega)), hsk]
      have hrest : (c :: m.take (to - p - 1)).drop k = (s.drop (p + k)).take (skipR false (s.drop (p + k))) := by
       rw [← hsub, List.drop_drop, List.drop_take, hto, show p + k + skipR false (s.drop (p + k)) - (p + k) = skipR false (s.drop (p + k)) by omega]
      rw [hrest, full_end (by rw [skip_take _ _ _ (Nat.le_refl _), List.length_take, List.length_drop]; omega)]
      rfl
     | succ i =>
      have ht' : us[i]? = some t := by simpa using ht
      have hnx2 : next s.length (⟨x, p⟩ :: us) (i + 1) = next s.length us i := by
       show (match (⟨x, p⟩ :: us)[i + 1 + 1]? with | none => s.length | some t => t.at_) = match us[i + 1]? with | none => s.length | some t => t.at_
       rw [List.getElem?_cons_succ]
      rw [hnx2]
      exact i3 i t ht'
theorem cut_alone {s : List B} {ts : List Tok} (h : cut s = .ok ts) : s.length ≤ 2000 ∧ ∀ (i : Nat) t, ts[i]? = some t → t.at_ < next s.length ts i ∧ next s.length ts i ≤ s.length ∧ cut ((s.take (next s.length ts i)).drop t.at_) = .ok [⟨t.t, 0⟩] := by
 rw [cut_full] at h
 split at h
 ·cases h
 ·rename_i h2
  refine ⟨by omega, ?_⟩
  cases e : full 0 s with
  | error q => rw [e] at h; cases h
  | ok us =>
   rw [e] at h
   injection h with h
   subst h
   exact (alone (s.length + 1) s 0 us (by omega) (by omega) (by omega) (by rw [List.drop_zero]; exact e)).2.2
end Go.Proofs.YteohlpmojfjjdaaGreat.Lex
end
section
namespace Go.Proofs.YteohlpmojfjjdaaGreat.Book
open Lex (Tok Tk B cut)
abbrev T := List Tok
def wd (w : List B) : T → Bool
 | [] => false
 | x :: _ => decide (x.t.kind = 1) && decide (x.t.text = w)
def kd (k : Int) : T → Bool
 | [] => false
 | x :: _ => decide (x.t.kind = k)
def want {α : Type} (c : T → Bool) (f : Tok → T → Except T α) (l : T) : Except T α := match l with
 | [] => .error []
 | x :: m => if c (x :: m) then f x m else .error (x :: m)
def may {α : Type} (c : T → Bool) (f : Tok → T → Except T α) (g : T → Except T α) (l : T) : Except T α := match l with
 | [] => g []
 | x :: m => if c (x :: m) then f x m else g (x :: m)
structure Arm where
 at_ : Nat
 pat : List B
 as_ : List B
 go : List B
structure Step where
 at_ : Nat
 name : List B
 tag : Int
 sends : Bool
 send : List B
 arms : List Arm
 time : Int
 try_ : Int
 els : List B
structure Book where
 most : Int
 steps : List Step
def wOn : List B := [111#8, 110#8]
def wAs : List B := [97#8, 115#8]
def wGo : List B := [103#8, 111#8]
def wMost : List B := [109#8, 111#8, 115#8, 116#8]
def wStep : List B := [115#8, 116#8, 101#8, 112#8]
def wOnce : List B := [111#8, 110#8, 99#8, 101#8]
def wIdem : List B := [105#8, 100#8, 101#8, 109#8]
def wSend : List B := [115#8, 101#8, 110#8, 100#8]
def wWithin : List B := [119#8, 105#8, 116#8, 104#8, 105#8, 110#8]
def wTries : List B := [116#8, 114#8, 105#8, 101#8, 115#8]
def wElse : List B := [101#8, 108#8, 115#8, 101#8]
def wEnd : List B := [101#8, 110#8, 100#8]
def armGo (a : Nat) (p v : List B) : T → Except T (Arm × T) := want (wd wGo) fun _ => want (kd 1) fun g m => .ok (⟨a, p, v, g.t.text⟩, m)
def armR (a : Nat) : T → Except T (Arm × T) := want (kd 3) fun p => may (wd wAs) (fun _ => want (kd 1) fun v => armGo a p.t.text v.t.text) (armGo a p.t.text [])
def elseR (x : Step) : T → Except T (Step × T) := want (wd wElse) fun _ => want (kd 1) fun w => want (wd wEnd) fun _ m => .ok ({ x with els := w.t.text }, m)
def tailR (x : Step) : T → Except T (Step × T) := want (wd wWithin) fun _ => want (kd 2) fun n => may (wd wTries) (fun _ => want (kd 2) fun k => elseR { x with time := n.t.n, try_ := k.t.n }) (elseR { x with time := n.t.n })
def armsR : Nat → Step → T → Except T (Step × T)
 | 0, x => tailR x
 | f + 1, x => may (wd wOn) (fun o m => match armR o.at_ m with
  | .error e => .error e
  | .ok (a, m2) => armsR f { x with arms := x.arms ++ [a] } m2) (tailR x)
def sendR (f : Nat) (x : Step) : T → Except T (Step × T) := may (wd wSend) (fun _ => want (kd 3) fun t => armsR f { x with sends := true, send := t.t.text }) (armsR f x)
def stepR (f a : Nat) : T → Except T (Step × T) := want (kd 1) fun n => may (wd wOnce) (fun _ => sendR f ⟨a, n.t.text, 1, false, [], [], 0, 0, []⟩) (may (wd wIdem) (fun _ => sendR f ⟨a, n.t.text, 2, false, [], [], 0, 0, []⟩) (sendR f ⟨a, n.t.text, 0, false, [], [], 0, 0, []⟩))
def Ext {α : Type} (F : T → Except T (α × T)) : Prop := ∀ l a m r, F l = .ok (a, m) → F (l ++ r) = .ok (a, m ++ r)
def Strict {α : Type} (F : T → Except T α) : Prop := ∀ a, F [] ≠ .ok a
def Good {α : Type} (F : T → Except T (α × T)) : Prop := Ext F ∧ Strict F
def Head (c : T → Bool) : Prop := ∀ x m m', c (x :: m) = c (x :: m')
theorem head_wd (w : List B) : Head (wd w) := fun _ _ _ => rfl
theorem head_kd (k : Int) : Head (kd k) := fun _ _ _ => rfl
theorem good_want {α : Type} {c : T → Bool} (hc : Head c) {f : Tok → T → Except T (α × T)} (h : ∀ x, Ext (f x)) : Good (want c f) := by
 refine ⟨fun l a m r hl => ?_, fun a h => by cases h⟩
 cases l with
 | nil => cases hl
 | cons x l =>
  unfold want at hl ⊢
  rw [List.cons_append]
  dsimp only at hl ⊢
  rw [hc x (l ++ r) l]
  split at hl
  ·rename_i hx
   rw [if_pos hx]
   exact h x l a m r hl
  ·cases hl
theorem good_may {α : Type} {c : T → Bool} (hc : Head c) {f : Tok → T → Except T (α × T)} {g : T → Except T (α × T)} (hf : ∀ x, Ext (f x)) (hg : Good g) : Good (may c f g) := by
 refine ⟨fun l a m r hl => ?_, fun a h => hg.2 a h⟩
 cases l with
 | nil => exact absurd hl (hg.2 _)
 | cons x l =>
  unfold may at hl ⊢
  rw [List.cons_append]
  dsimp only at hl ⊢
  rw [hc x (l ++ r) l]
  split at hl
  ·rename_i hx
   rw [if_pos hx]
   exact hf x l a m r hl
  ·rename_i hx
   rw [if_neg hx]
   exact hg.1 (x :: l) a m r hl
theorem ext_ok {α : Type} (a : α) : Ext (fun m => (.ok (a, m) : Except T (α × T))) := fun l b m r h => by injection h with h; injection h with h1 h2; subst h1; subst h2; rfl
theorem good_armGo (a : Nat) (p v : List B) : Good (armGo a p v) := good_want (head_wd _) fun _ => (good_want (head_kd _) fun g => ext_ok _).1
theorem good_arm (a : Nat) : Good (armR a) := good_want (head_kd _) fun p => (good_may (head_wd _) (fun _ => (good_want (head_kd _) fun v => (good_armGo _ _ _).1).1) (good_armGo _ _ _)).1
theorem good_else (x : Step) : Good (elseR x) := good_want (head_wd _) fun _ => (good_want (head_kd _) fun w => (good_want (head_wd _) fun _ => ext_ok _).1).1
theorem good_tail (x : Step) : Good (tailR x) := good_want (head_wd _) fun _ => (good_want (head_kd _) fun n => (good_may (head_wd _) (fun _ => (good_want (head_kd _) fun k => (good_else _).1).1) (good_else _)).1).1
theorem good_arms : ∀ (f : Nat) (x : Step), Good (armsR f x)
 | 0, x => good_tail x
 | f + 1, x => good_may (head_wd _) (fun o l a m r hl => by
   cases e : armR o.at_ l with
   | error z => rw [e] at hl; cases hl
   | ok q =>
    obtain ⟨a1, m2⟩ := q
    rw [e] at hl
    rw [(good_arm o.at_).1 l a1 m2 r e]
    exact (good_arms f _).1 m2 a m r hl) (good_tail x)
def stepsR : Nat → T → Except T (List Step)
 | 0, _ => .ok []
 | _ + 1, [] => .ok []
 | f + 1, x :: m => if wd wStep (x :: m) then match stepR 2001 x.at_ m with
  | .error e => .error e
  | .ok (s, m2) => match stepsR f m2 with
   | .error e => .error e
   | .ok ss => .ok (s :: ss)
  else .error (x :: m)
def sadd (o : List Step) : Except T (List Step) → Except T (List Step)
 | .error e => .error e
 | .ok ts => .ok (o ++ ts)
theorem stepsR_nil (f : Nat) : stepsR f [] = .ok [] := by cases f <;> rfl
theorem stepsR_no {f : Nat} {x : Tok} {m : T} (h : wd wStep (x :: m) = false) : stepsR (f + 1) (x :: m) = .error (x :: m) := by unfold stepsR; rw [if_neg (by simp [h])]
theorem stepsR_bad {f : Nat} {x : Tok} {m e : T} (h : wd wStep (x :: m) = true) (hs : stepR 2001 x.at_ m = .error e) : stepsR (f + 1) (x :: m) = .error e := by unfold stepsR; rw [if_pos h, hs]
theorem stepsR_go {f : Nat} {x : Tok} {m m2 : T} {s : Step} (h : wd wStep (x :: m) = true) (hs : stepR 2001 x.at_ m = .ok (s, m2)) : stepsR (f + 1) (x :: m) = sadd [s] (stepsR f m2) := by
 conv => lhs; unfold stepsR
 rw [if_pos h, hs]
 dsimp only
 cases stepsR f m2 <;> rfl
def Les {α : Type} (F : T → Except T (α × T)) : Prop := ∀ l a m, F l = .ok (a, m) → m.length ≤ l.length
theorem les_want {α : Type} {c : T → Bool} {f : Tok → T → Except T (α × T)} (h : ∀ x, Les (f x)) : Les (want c f) := fun l a m hl => by
 cases l with
 | nil => cases hl
 | cons x l =>
  unfold want at hl
  dsimp only at hl
  split at hl
  ·have := h x l a m hl; simp; omega
  ·cases hl
theorem les_may {α : Type} {c : T → Bool} {f : Tok → T → Except T (α × T)} {g : T → Except T (α × T)} (hf : ∀ x, Les (f x)) (hg : Les g) : Les (may c f g) := fun l a m hl => by
 cases l with
 | nil => exact hg [] a m hl
 | cons x l =>
  unfold may at hl
  dsimp only at hl
  split at hl
  ·have := hf x l a m hl; simp; omega
  ·exact hg (x :: l) a m hl
theorem les_ok {α : Type} (a : α) : Les (fun m => (.ok (a, m) : Except T (α × T))) := fun l b m h => by injection h with h; injection h with h1 h2; subst h2; exact Nat.le_refl _
theorem les_armGo (a : Nat) (p v : List B) : Les (armGo a p v) := les_want fun _ => les_want fun g => les_ok _
theorem les_arm (a : Nat) : Les (armR a) := les_want fun p => les_may (fun _ => les_want fun v => les_armGo _ _ _) (les_armGo _ _ _)
theorem les_else (x : Step) : Les (elseR x) := les_want fun _ => les_want fun w => les_want fun _ => les_ok _
theorem les_tail (x : Step) : Les (tailR x) := les_want fun _ => les_want fun n => les_may (fun _ => les_want fun k => les_else _) (les_else _)
theorem les_arms : ∀ (f : Nat) (x : Step), Les (armsR f x)
 | 0, x => les_tail x
 | f + 1, x => les_may (fun o l a m hl => by
   cases e : armR o.at_ l with
   | error z => rw [e] at hl; cases hl
   | ok q =>
    obtain ⟨a1, m2⟩ := q
    rw [e] at hl
    have h1 := les_arm o.at_ l a1 m2 e
    have h2 := les_arms f _ m2 a m hl
    omega) (les_tail x)
theorem les_send (f : Nat) (x : Step) : Les (sendR f x) := les_may (fun _ => les_want fun t => les_arms f _) (les_arms f x)
theorem les_step (f a : Nat) : Les (stepR f a) := les_want fun n => les_may (fun _ => les_send f _) (les_may (fun _ => les_send f _) (les_send f _))
def bookR (l : T) : Except T Book := match l with
 | [] => .ok ⟨100, []⟩
 | x :: m => if wd wMost (x :: m) then match m with
   | [] => .error []
   | n :: m2 => if kd 2 (n :: m2) then match stepsR (m2.length + 1) m2 with
     | .error e => .error e
     | .ok ss => .ok ⟨n.t.n, ss⟩
    else .error (n :: m2)
  else match stepsR ((x :: m).length + 1) (x :: m) with
   | .error e => .error e
   | .ok ss => .ok ⟨100, ss⟩
def bookOf (s : List B) : Except (Nat × Nat) Book := match cut s with
 | .error e => .error e
 | .ok l => match bookR l with
  | .error [] => .error (s.length, 2)
  | .error (x :: _) => .error (x.at_, 2)
  | .ok b => .ok b
end Go.Proofs.YteohlpmojfjjdaaGreat.Book
end
