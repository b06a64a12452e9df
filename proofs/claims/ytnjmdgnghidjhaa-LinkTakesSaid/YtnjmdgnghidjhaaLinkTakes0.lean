/-
Texts: Open PeerPure LinkPure Bytes LexPure Mem Append
-/
import Derived.WalkKit
import Derived.ProofKit
import Derived.OpenShut
import Derived.Deep.Slices
import Derived.Deep.Fields
import Derived.ChangeSame
import Derived.Test.YtnjmdgnghidjhaaRows
import Derived.Below
import Derived.Laws.OwnMore
import Derived.Deep.AppendLies
import Derived.Deep.Draws
import Derived.Laws.Rows
import Derived.Laws.BytesString
import Derived.Lib.BufferRead
import Derived.Lib.Hide
import Derived.Maps.AppendAt
import Derived.RegionTactic
import Derived.OwnWalk
set_option linter.unusedVariables false
set_option linter.unusedSimpArgs false
section
namespace Go.Proofs.Ytnjmdgnghidjhaa
open Go.ChangeShapes Go.WideShapes Go.RowKit Go.Deep
inductive Kd
 | int (k : IntKind)
 | bool
 | string
 | slice (e : Kd)
 | recs (fs : List Kd)
inductive IsV (w : World) : Kd → Value → Prop
 | int {k : IntKind} {a : Int} (h : (Lit.int k a).wf = true) : IsV w (.int k) (.int k a)
 | bool (b : Bool) : IsV w .bool (.bool b)
 | string {s : ByteArray} (h : s.size ≤ maxLen) : IsV w .string (.string s)
 | nil {e : Kd} : IsV w (.slice e) (.slice none 0 0)
 | slice {e : Kd} {x : Addr} {l c : Nat} (U : Nat → Value) (hl : l ≤ c) (hc : c ≤ maxLen) (hcell : ∀ i, i < l → w.cell? (x.add i) = some (U i)) (hU : ∀ i, i < l → IsV w e (U i)) : IsV w (.slice e) (.slice (some x) l c)
 | rnil {fs : List Kd} : IsV w (.recs fs) (.slice none 0 0)
 | recs {fs : List Kd} {x : Addr} {l c : Nat} (U : Nat → Nat → Value) (hl : l ≤ c) (hc : c ≤ maxLen) (hcell : ∀ i j, i < l → j < fs.length → w.cell? (x.add (i * fs.length + j)) = some (U i j))
   (hU : ∀ i j k, i < l → fs[j]? = some k → IsV w k (U i j)) : IsV w (.recs fs) (.slice (some x) l c)
def kindOf (P : Program) : Nat → TypeId → Option Kd
 | 0, _ => none
 | n + 1, t => match P.underlying t with
  | some (.int k) => some (.int k)
  | some .bool => some .bool
  | some .string => some .string
  | some (.slice e) =>
   if P.cellsOf e = 1 then (kindOf P n e).map .slice
   else match P.underlying e with
    | some (.struct fs) => if oneCellFields P fs && (P.cellsOf e == fs.size) then (fs.toList.mapM fun f => kindOf P n f.type).map .recs else none
    | _ => none
  | _ => none
section
variable {H : Type} {enc : TypeId × Value → H} {P : Program} {w : World} {base : Nat} {spare : Nat → Bool} {held : Bool}
theorem mapM_at {α β : Type} {f : α → Option β} : ∀ {l : List α} {r : List β}, l.mapM f = some r → r.length = l.length ∧ ∀ (j : Nat) (b : β), r[j]? = some b → ∃ a, l[j]? = some a ∧ f a = some b
 | [], r, h => by simp at h; subst h; exact ⟨rfl, by simp⟩
 | a :: l, r, h => by
  simp only [List.mapM_cons, Option.bind_eq_bind, Option.pure_def] at h
  cases hf : f a with
  | none => rw [hf] at h; cases h
  | some b =>
   rw [hf] at h
   cases hl : l.mapM f with
   | none => rw [hl] at h; cases h
   | some r' =>
    rw [hl] at h
    simp at h
    subst h
    obtain ⟨h1, h2⟩ := mapM_at hl
    refine ⟨by simp [h1], fun j b' hj => ?_⟩
    cases j with
    | zero => simp at hj; subst hj; exact ⟨a, rfl, hf⟩
    | succ j => simpa using h2 j b' (by simpa using hj)
theorem open_kind : ∀ (n : Nat) {t : TypeId} {k : Kd} {fuel : Nat} {v : Value} {y : DataW H × List MemPlace}, kindOf P n t = some k → DataW.trod enc P w base spare held fuel t [v] = some y → IsV w k v := by
 intro n
 induction n with
 | zero => intro t k fuel v y h; cases h
 | succ n ih =>
  intro t k fuel v y h ht
  unfold kindOf at h
  cases hu : P.underlying t with
  | none => rw [hu] at h; cases h
  | some d =>
   rw [hu] at h
   cases d <;> try (cases h; done)
   case int q =>
    cases h
    obtain ⟨a, e, _, hw⟩ := DataW.trod_int hu ht
    obtain rfl : v = .int q a := by simpa using e
    exact .int hw
   case bool =>
    cases h
    obtain ⟨a, e, _⟩ := DataW.trod_bool hu ht
    obtain rfl : v = .bool a := by simpa using e
    exact .bool a
   case string =>
    cases h
    obtain ⟨a, e, _, hw⟩ := DataW.trod_string hu ht
    obtain rfl : v = .string a := by simpa using e
    exact .string hw
   case slice e =>
    simp only at h
    by_cases hc : P.cellsOf e = 1
    ·rw [if_pos hc] at h
     cases hk : kindOf P n e with
     | none => rw [hk] at h; cases h
     | some k' =>
      rw [hk] at h
      cases h
      rcases open_slice1 hu hc ht with ⟨e0, _⟩ | ⟨a, len, cap, m, q, V, D, Pl, e0, _, hl, hm, hmm, _, hel⟩
      ·obtain rfl : v = .slice none 0 0 := by simpa using e0
       exact .nil
      ·obtain rfl : v = .slice (some a) len cap := by simpa using e0
       have hlm : ∀ i, i < len → i < m := fun i hi => by rw [hmm]; split <;> omega
       exact .slice V hl hm (fun i hi => (hel i (hlm i hi)).1) (fun i hi => ih hk (hel i (hlm i hi)).2)
    ·rw [if_neg hc] at h
     cases hs : P.underlying e with
     | none => rw [hs] at h; cases h
     | some d =>
      rw [hs] at h
      cases d <;> try (cases h; done)
      case struct fs =>
       simp only at h
       split at h
       ·rename_i hone
        rw [Bool.and_eq_true, beq_iff_eq] at hone
        cases hk : (fs.toList.mapM fun f => kindOf P n f.type) with
        | none => rw [hk] at h; cases h
        | some ks =>
         rw [hk] at h
         cases h
         obtain ⟨hkl, hka⟩ := mapM_at hk
         have hkl' : ks.length = fs.size := by rw [hkl]; simp
         rcases open_slice hu ht with ⟨e0, _⟩ | ⟨a, len, cap, m, q, D, Pl, e0, _, hl, hm, hmm, _, hel⟩
         ·obtain rfl : v = .slice none 0 0 := by simpa using e0
          exact .rnil
         ·obtain rfl : v = .slice (some a) len cap := by simpa using e0
          have hlm : ∀ i, i < len → i < m := fun i hi => by rw [hmm]; split <;> omega
          rw [hone.2] at hel
          refine .recs (fun i j => (w.cell? (a.add (i * ks.length + j))).getD undef) hl hm (fun i j hi hj => ?_) (fun i j k hi hjk => ?_)
          ·obtain ⟨cs', hcs, _⟩ := hel i (hlm i hi)
           obtain ⟨hcl, _, hat⟩ := World.cells?_some hcs
           have := hat j (by omega)
           rw [add_add, ← hkl'] at this
           rw [this]
           obtain ⟨u, hu⟩ : ∃ u, cs'[j]? = some u := ⟨_, List.getElem?_eq_getElem (by have := World.cells?_some hcs; omega)⟩
           rw [hu]; rfl
          ·obtain ⟨cs', hcs, ht'⟩ := hel i (hlm i hi)
           obtain ⟨ys, n', _, _, hlen, hyl, hf⟩ := DataW.trod_struct hs ht'
           obtain ⟨_, _, hat⟩ := World.cells?_some hcs
           obtain ⟨f, hfj, hkf⟩ := hka j k hjk
           have hfj' : fs[j]? = some f := by simpa using hfj
           have hjl : j < fs.size := (Array.getElem?_eq_some_iff.1 hfj').1
           obtain ⟨ho, hkk⟩ := hone_of hone.1 j f hfj'
           have hcell := hat j hjl
           rw [add_add, ← hkl'] at hcell
           have h1 := hf j f hfj'
           rw [ho, hkk] at h1
           have hlt : j < cs'.length := by omega
           have hone' : (cs'.drop j).take 1 = [cs'[j]] := by
            rw [List.drop_eq_getElem_cons hlt]; rfl
           rw [hone'] at h1
           obtain ⟨y', hy'⟩ : ∃ y', ys[j]? = some y' := ⟨_, List.getElem?_eq_getElem (by omega)⟩
           rw [hy'] at h1
           have hv : (w.cell? (a.add (i * ks.length + j))).getD undef = cs'[j] := by rw [hcell, List.getElem?_eq_getElem hlt]; rfl
           rw [hv]
           exact ih hkf h1
       ·cases h
end
end Go.Proofs.Ytnjmdgnghidjhaa
end
section
namespace Go.Proofs.Ytnjmdgnghidjhaa.Peer
abbrev B := BitVec 8
structure Ru where
 state : Int
 line : List B
 out : List B
 next : Int
structure Pe where
 state : Int
 part : List B
 log : List B
 lines : List (List B)
def meets (rs : List Ru) (s : Int) (x : List B) : Option Ru := rs.find? fun r => decide (r.state = s) && decide (r.line = x)
def lineR (rs : List Ru) (p : Pe) (x : List B) : Pe := match meets rs p.state x with
 | none => ⟨p.state, [], p.log, p.lines ++ [x]⟩
 | some r => ⟨r.next, [], p.log ++ r.out, p.lines ++ [x]⟩
def byteR (rs : List Ru) (p : Pe) (c : B) : Pe :=
 if c = 10 then lineR rs p p.part else if c = 21 then { p with part := [] } else if p.part.length < 300 then { p with part := p.part ++ [c] } else p
def feedR (rs : List Ru) (p : Pe) (bs : List B) : Pe := bs.foldl (byteR rs) p
theorem feed_nil (rs : List Ru) (p : Pe) : feedR rs p [] = p := rfl
theorem feed_cons (rs : List Ru) (p : Pe) (c : B) (bs : List B) : feedR rs p (c :: bs) = feedR rs (byteR rs p c) bs := rfl
theorem feed_append (rs : List Ru) (p : Pe) (a b : List B) : feedR rs p (a ++ b) = feedR rs (feedR rs p a) b := List.foldl_append
theorem feed_snoc (rs : List Ru) (p : Pe) (a : List B) (c : B) : feedR rs p (a ++ [c]) = byteR rs (feedR rs p a) c := by rw [feed_append]; rfl
theorem byte_part {rs : List Ru} {p : Pe} {c : B} (h : c ≠ 10) : (byteR rs p c).state = p.state ∧ (byteR rs p c).log = p.log ∧ (byteR rs p c).lines = p.lines := by
 unfold byteR
 rw [if_neg h]
 split
 ·exact ⟨rfl, rfl, rfl⟩
 ·split <;> exact ⟨rfl, rfl, rfl⟩
theorem feed_part {rs : List Ru} : ∀ (a : List B) (p : Pe), (∀ c ∈ a, c ≠ 10) → (feedR rs p a).state = p.state ∧ (feedR rs p a).log = p.log ∧ (feedR rs p a).lines = p.lines
 | [], _, _ => ⟨rfl, rfl, rfl⟩
 | c :: a, p, h => by
  rw [feed_cons]
  obtain ⟨h1, h2, h3⟩ := feed_part a (byteR rs p c) (fun x hx => h x (List.mem_cons_of_mem _ hx))
  obtain ⟨k1, k2, k3⟩ := byte_part (rs := rs) (p := p) (h c (List.mem_cons_self ..))
  exact ⟨h1.trans k1, h2.trans k2, h3.trans k3⟩
theorem byte_kill (rs : List Ru) (p : Pe) : byteR rs p 21 = ⟨p.state, [], p.log, p.lines⟩ := by
 unfold byteR
 rw [if_neg (by decide), if_pos rfl]
theorem byte_sizes {rs : List Ru} {p : Pe} {c : B} {k : Nat} (hk : ∀ r ∈ rs, r.out.length ≤ k) : (byteR rs p c).log.length ≤ p.log.length + k ∧ (byteR rs p c).lines.length ≤ p.lines.length + 1 ∧ (byteR rs p c).part.length ≤ max p.part.length 300 := by
 unfold byteR
 split
 ·unfold lineR
  split
  ·exact ⟨by show p.log.length ≤ _; omega, by simp, by simp⟩
  ·rename_i r hr
   have := hk r (List.mem_of_find?_eq_some hr)
   refine ⟨?_, by simp, by simp⟩
   show (p.log ++ r.out).length ≤ _
   rw [List.length_append]; omega
 ·split
  ·exact ⟨by show p.log.length ≤ _; omega, by show p.lines.length ≤ _; omega, by simp⟩
  ·split
   ·refine ⟨by show p.log.length ≤ _; omega, by show p.lines.length ≤ _; omega, ?_⟩
    show (p.part ++ [c]).length ≤ _
    rw [List.length_append]; simp; omega
   ·exact ⟨by omega, by omega, by omega⟩
end Go.Proofs.Ytnjmdgnghidjhaa.Peer
end
section
namespace Go.Proofs.Ytnjmdgnghidjhaa.Peer
def wire (x : List B) : List B := 21 :: x ++ [10]
theorem wire_len (x : List B) : (wire x).length = x.length + 2 := by unfold wire; simp
structure Lk where
 p : Pe
 «at» : Nat
def sendR (rs : List Ru) (l : Lk) (x : List B) (room : Int) : Lk × Bool := (⟨feedR rs l.p ((wire x).take room.toNat), l.at⟩, decide (((wire x).length : Int) ≤ room))
def attachR (l : Lk) (o : Int) : Lk × Int := if o < 0 ∨ (l.p.log.length : Int) < o then (l, 1) else (⟨l.p, o.toNat⟩, 0)
def readR (l : Lk) (most : Int) : Lk × List B := (⟨l.p, l.at + min most.toNat (l.p.log.length - l.at)⟩, (l.p.log.drop l.at).take most.toNat)
def cleanR (x : List B) : Bool := x.all fun c => !(decide (c = 10) || decide (c = 21))
theorem clean_mem {x : List B} (h : cleanR x = true) : ∀ c ∈ x, c ≠ 10 ∧ c ≠ 21 := fun c hc => by
 have := List.all_eq_true.1 h c hc
 simpa using this
theorem part_feed (rs : List Ru) (s : Int) (lg : List B) (ls : List (List B)) : ∀ (x a : List B), (∀ c ∈ x, c ≠ 10 ∧ c ≠ 21) → a.length + x.length ≤ 300 → feedR rs ⟨s, a, lg, ls⟩ x = ⟨s, a ++ x, lg, ls⟩
 | [], a, _, _ => by rw [feed_nil, List.append_nil]
 | c :: x, a, h, hl => by
  have hc := h c (List.mem_cons_self ..)
  rw [List.length_cons] at hl
  have hb : byteR rs ⟨s, a, lg, ls⟩ c = ⟨s, a ++ [c], lg, ls⟩ := by
   unfold byteR
   rw [if_neg hc.1, if_neg hc.2, if_pos (by show a.length < 300; omega)]
  rw [feed_cons, hb, part_feed rs s lg ls x (a ++ [c]) (fun y hy => h y (List.mem_cons_of_mem _ hy)) (by rw [List.length_append, List.length_singleton]; omega), List.append_assoc, List.singleton_append]
theorem wire_takes (rs : List Ru) (p : Pe) {x : List B} (h : cleanR x = true) (hl : x.length ≤ 300) : feedR rs p (wire x) = lineR rs ⟨p.state, x, p.log, p.lines⟩ x := by
 unfold wire
 rw [feed_snoc, feed_cons, byte_kill, part_feed rs _ _ _ x [] (clean_mem h) (by simp; exact hl), List.nil_append]
 unfold byteR
 rw [if_pos rfl]
theorem line_lines (rs : List Ru) (p : Pe) (x : List B) : (lineR rs p x).lines = p.lines ++ [x] := by unfold lineR; split <;> rfl
theorem wire_part {rs : List Ru} {p : Pe} {x : List B} {n : Nat} (h : ∀ c ∈ x, c ≠ 10) (hn : n < x.length + 2) : (feedR rs p ((wire x).take n)).state = p.state ∧ (feedR rs p ((wire x).take n)).log = p.log ∧ (feedR rs p ((wire x).take n)).lines = p.lines := by
 refine feed_part _ _ fun c hc => ?_
 have h1 : (wire x).take n = (21 :: x).take n := by
  unfold wire
  rw [List.take_append_of_le_length (by simp; omega)]
 rw [h1] at hc
 rcases List.mem_cons.1 (List.mem_of_mem_take hc) with rfl | hm
 ·decide
 ·exact h c hm
theorem wire_all {x : List B} {n : Nat} (hn : x.length + 2 ≤ n) : (wire x).take n = wire x := List.take_of_length_le (by rw [wire_len]; exact hn)
end Go.Proofs.Ytnjmdgnghidjhaa.Peer
end
section
namespace Go.Proofs.Ytnjmdgnghidjhaa
open Go.RowKit
abbrev v8 (x : BitVec 8) : Value := .int .u8 (x.toNat : Int)
def Bs (w : World) (B : Nat) (A : Option Addr) (n : Nat) (bs : List (BitVec 8)) : Prop :=
 bs.length = n ∧ (0 < n → ∃ ad, A = some ad ∧ ad.block < B ∧ ∀ j, j < n → w.cell? (ad.add j) = some (v8 (bs.getD j 0#8)))
theorem add_block (a : Addr) (n : Nat) : (a.add n).block = a.block := by unfold Addr.add; split <;> rfl
section
variable {w w' : World} {B B' n : Nat} {A : Option Addr} {bs : List (BitVec 8)}
theorem Bs.nil_ : Bs w B A 0 [] := ⟨rfl, fun h => absurd h (by omega)⟩
theorem Bs.len (h : Bs w B A n bs) : bs.length = n := h.1
theorem Bs.at_ (h : Bs w B A n bs) {k : Nat} (hk : k < n) : ∃ ad, A = some ad ∧ ad.block < B ∧ w.cell? (ad.add k) = some (v8 (bs.getD k 0#8)) := by
 obtain ⟨ad, e, hb, hc⟩ := h.2 (by omega)
 exact ⟨ad, e, hb, hc k hk⟩
theorem Bs.keep (h : Bs w B A n bs) (hk : ∀ p : Addr, p.block < B → w'.cell? p = w.cell? p) : Bs w' B A n bs :=
 ⟨h.1, fun hn => by
  obtain ⟨ad, e, hb, hc⟩ := h.2 hn
  exact ⟨ad, e, hb, fun j hj => (hk _ (by rw [add_block]; exact hb)).trans (hc j hj)⟩⟩
theorem Bs.more (h : Bs w B A n bs) (hB : B ≤ B') : Bs w B' A n bs :=
 ⟨h.1, fun hn => by
  obtain ⟨ad, e, hb, hc⟩ := h.2 hn
  exact ⟨ad, e, by omega, hc⟩⟩
theorem Bs.below (h : Bs w B A n bs) (hb : Below B w w') : Bs w' B A n bs := h.keep fun _ hp => hb.cell hp
theorem Bs.alloc (h : Bs w B A n bs) (hB : B ≤ w.heap.size) (o : Obj) : Bs (w.alloc o) B A n bs := h.keep fun p hp => World.cell?_alloc_lt w o p (by omega)
end
theorem add_row (g j : Nat) : (⟨g, 0, none⟩ : Addr).add j = ⟨g, j, none⟩ := by
 unfold Addr.add; split
 ·subst_vars; rfl
 ·simp
theorem Bs.lit (w : World) (T : TypeId) (fz : Nat × Nat) (cs : Array Value) (bs : List (BitVec 8)) (h : cs.toList = bs.map v8) (n : Nat) (hn : bs.length = n) :
  Bs (w.alloc (.cells cs T fz)) (w.heap.size + 1) (some ⟨w.heap.size, 0, none⟩) n bs := by
 refine ⟨hn, fun _ => ⟨_, rfl, Nat.lt_succ_self _, fun j hj => ?_⟩⟩
 rw [add_row]
 have hj' : j < bs.length := by omega
 have : cs[j]? = some (v8 (bs.getD j 0#8)) := by
  rw [← Array.getElem?_toList, h, List.getElem?_map, List.getElem?_eq_getElem hj', List.getD_eq_getElem?_getD, List.getElem?_eq_getElem hj']
  rfl
 have hh : (w.alloc (.cells cs T fz)).heap[w.heap.size]? = some (.cells cs T fz) := by
  show (w.heap.push _)[w.heap.size]? = _
  simp
 unfold World.cell?
 rw [hh]
 exact this
theorem cell_lt {w : World} {p : Addr} {v : Value} (h : w.cell? p = some v) : p.block < w.heap.size := by
 rcases Nat.lt_or_ge p.block w.heap.size with hl | hl
 ·exact hl
 ·unfold World.cell? at h
  rw [Array.getElem?_eq_none hl] at h
  cases h
theorem Bs.of_row {w : World} {a : Option Addr} {len cap : Nat} {zs : List Int}
  (h : (a = none ∧ len = 0 ∧ cap = 0 ∧ zs = []) ∨ ∃ x, a = some x ∧ len ≤ cap ∧ cap ≤ maxLen ∧ zs.length = cap ∧ (∀ i, i < zs.length → w.cell? (x.add i) = some (.int .u8 (zs.getD i 0))) ∧ ∀ n ∈ zs, (Lit.int .u8 n).wf = true) :
  ∃ bs, Bs w w.heap.size a len bs ∧ len ≤ maxLen := by
 rcases h with ⟨rfl, rfl, rfl, rfl⟩ | ⟨x, rfl, hl, hm, hz, hc, hw⟩
 ·exact ⟨[], Bs.nil_, Nat.zero_le _⟩
 ·refine ⟨(zs.take len).map fun z => BitVec.ofNat 8 z.toNat, ⟨by simp; omega, fun hn => ⟨x, rfl, ?_, fun j hj => ?_⟩⟩, by omega⟩
  ·have := cell_lt (hc 0 (by omega))
   rwa [add_block] at this
  ·have hj' : j < zs.length := by omega
   rw [hc j hj']
   have hmem : zs.getD j 0 ∈ zs := by
    rw [List.getD_eq_getElem?_getD, List.getElem?_eq_getElem hj']; exact List.getElem_mem hj'
   have hwf := hw _ hmem
   have hb : 0 ≤ zs.getD j 0 ∧ zs.getD j 0 < 256 := by
    simp [Lit.wf, IntKind.min, IntKind.max, IntKind.bits, IntKind.signed] at hwf
    simp
    omega
   have e : ((zs.take len).map fun z => BitVec.ofNat 8 z.toNat).getD j 0#8 = BitVec.ofNat 8 (zs.getD j 0).toNat := by
    rw [List.getD_eq_getElem?_getD, List.getElem?_map, List.getElem?_take, if_pos hj, List.getD_eq_getElem?_getD, List.getElem?_eq_getElem hj']
    rfl
   rw [e]
   congr 2
   rw [BitVec.toNat_ofNat, Nat.mod_eq_of_lt (by omega)]
   omega
theorem u8_of {z : Int} (h : (Lit.int .u8 z).wf = true) : ∃ r : BitVec 8, z = (r.toNat : Int) := by
 simp [Lit.wf, IntKind.min, IntKind.max, IntKind.bits, IntKind.signed] at h
 exact ⟨BitVec.ofNat 8 z.toNat, by rw [BitVec.toNat_ofNat, Nat.mod_eq_of_lt (by omega)]; omega⟩
end Go.Proofs.Ytnjmdgnghidjhaa
end
section
namespace Go.Proofs.Ytnjmdgnghidjhaa.Lex
abbrev B := BitVec 8
def blank (c : B) : Bool := decide (c = 9#8) || decide (c = 10#8) || decide (c = 13#8) || decide (c = 32#8)
def digit (c : B) : Bool := decide (48 ≤ c.toNat) && decide (c.toNat ≤ 57)
def letter (c : B) : Bool := decide (97 ≤ c.toNat) && decide (c.toNat ≤ 122)
def within (c : B) : Bool := letter c || digit c || decide (c = 95#8)
def rem (r : Bool) (c : B) : Bool := if c = 10#8 then false else r || decide (c = 35#8)
def skipR : Bool → List B → Nat
 | _, [] => 0
 | r, c :: l => if rem r c || blank c then 1 + skipR (rem r c) l else 0
def textR : List B → Except Nat (List B × Nat)
 | [] => .error 0
 | c :: l =>
  if c = 34#8 then .ok ([], 1)
  else if c.toNat < 32 then .error 0
  else if c = 92#8 then match l with
   | [] => .error 1
   | d :: m => if d.toNat < 32 then .error 1 else match textR m with
    | .error k => .error (2 + k)
    | .ok (t, k) => .ok ((if d = 34#8 then [d] else [c, d]) ++ t, 2 + k)
  else match textR l with
   | .error k => .error (1 + k)
   | .ok (t, k) => .ok (c :: t, 1 + k)
structure Tk where
 kind : Int
 n : Int
 text : List B
def val (d : List B) : Int := d.foldl (fun n c => 10 * n + ((c.toNat : Int) - 48)) 0
def oneR (c : B) (l : List B) : Except Nat (Tk × Nat) :=
 if c = 34#8 then match textR l with
  | .error k => .error (1 + k)
  | .ok (t, k) => .ok (⟨3, 0, t⟩, 1 + k)
 else if letter c then (if 20 < ((c :: l).takeWhile within).length then .error 0 else .ok (⟨1, 0, (c :: l).takeWhile within⟩, ((c :: l).takeWhile within).length))
 else if ((c :: l).takeWhile digit).length = 0 ∨ 4 < ((c :: l).takeWhile digit).length ∨ 1 < ((c :: l).takeWhile digit).length ∧ c = 48#8 then .error 0
 else .ok (⟨2, val ((c :: l).takeWhile digit), []⟩, ((c :: l).takeWhile digit).length)
structure Tok where
 t : Tk
 at_ : Nat
def cutR : Nat → Nat → List B → Except Nat (List Tok)
 | 0, _, _ => .ok []
 | f + 1, p, l => match l with
  | [] => .ok []
  | c :: m => match oneR c m with
   | .error k => .error (p + k)
   | .ok (x, k) => match cutR f (p + k + skipR false ((c :: m).drop k)) (((c :: m).drop k).drop (skipR false ((c :: m).drop k))) with
    | .error e => .error e
    | .ok ts => .ok (⟨x, p⟩ :: ts)
def cutE : Except Nat (List Tok) → Except (Nat × Nat) (List Tok)
 | .error p => .error (p, 2)
 | .ok ts => .ok ts
def cut (s : List B) : Except (Nat × Nat) (List Tok) :=
 if 2000 < s.length then .error (0, 3) else cutE (cutR (s.length + 1) (skipR false s) (s.drop (skipR false s)))
end Go.Proofs.Ytnjmdgnghidjhaa.Lex
end
section
namespace Go.Proofs.Ytnjmdgnghidjhaa
open Go.RowKit
def Cel (w : World) (g : Nat) (t : TypeId) (cs : List Value) : Prop := w.heap[g]? = some (.cells cs.toArray t (0, 0))
structure Frm (l : List Nat) (w w' : World) : Prop where
 os : w'.os = w.os
 tape : w'.tape = w.tape
 output : w'.output = w.output
 size : w.heap.size ≤ w'.heap.size
 block : ∀ k, k < w.heap.size → k ∉ l → w'.heap[k]? = w.heap[k]?
namespace Frm
variable {l l' : List Nat} {w w' w1 w2 : World}
theorem refl (l : List Nat) (w : World) : Frm l w w := ⟨rfl, rfl, rfl, Nat.le_refl _, fun _ _ _ => rfl⟩
theorem then_ (h : Frm l w w1) (h2 : Frm l' w1 w2) (hs : ∀ k, k ∈ l' → k < w.heap.size → k ∈ l) : Frm l w w2 :=
 ⟨h2.os.trans h.os, h2.tape.trans h.tape, h2.output.trans h.output, Nat.le_trans h.size h2.size, fun k hk hn => by
  rw [h2.block k (Nat.lt_of_lt_of_le hk h.size) (fun hm => hn (hs k hm hk)), h.block k hk hn]⟩
theorem trans (h : Frm l w w1) (h2 : Frm l w1 w2) : Frm l w w2 := h.then_ h2 fun _ hk _ => hk
theorem mono (h : Frm l w w') (hs : ∀ k, k ∈ l → k < w.heap.size → k ∈ l') : Frm l' w w' :=
 ⟨h.os, h.tape, h.output, h.size, fun k hk hn => h.block k hk fun hm => hn (hs k hm hk)⟩
theorem below (h : Frm l w w') {B : Nat} (hB : B ≤ w.heap.size) (hl : ∀ k, k ∈ l → B ≤ k) : Below B w w' :=
 ⟨h.os, h.tape, h.output, h.size, fun k hk => h.block k (Nat.lt_of_lt_of_le hk hB) fun hm => absurd (hl k hm) (by omega)⟩
theorem of_below (h : Below w.heap.size w w') : Frm l w w' := ⟨h.os, h.tape, h.output, h.size, fun k hk _ => h.block k hk⟩
theorem set (h : Frm l w w') {p : Addr} (hp : p.block ∈ l) (u : Value) : Frm l w (w'.setCell p u) :=
 h.trans ⟨rfl, rfl, rfl, by simp [World.setCell], fun k _ hn => Below.heap_setCell _ _ _ _ (fun e => hn (e ▸ hp))⟩
theorem grown (h : Frm l w w') {row : Option Nat} (hg : w'.grownBy w1 row) (hr : ∀ g, row = some g → g < w.heap.size → g ∈ l) : Frm l w w1 :=
 h.then_ (l' := row.toList) ⟨hg.os, hg.tape, hg.output, hg.size, fun k hk hn => hg.block k hk (fun e => hn (by simp [← e]))⟩ (by intro k hk hl; exact hr k (by simpa using hk) hl)
end Frm
namespace Cel
variable {w w' : World} {g : Nat} {t : TypeId} {cs : List Value}
theorem lt (h : Cel w g t cs) : g < w.heap.size := (Array.getElem?_eq_some_iff.1 h).1
theorem cell (h : Cel w g t cs) (i : Nat) : w.cell? ⟨g, i, none⟩ = cs[i]? := by
 rw [cell_of_row w g i cs.toArray t (0, 0) h]; simp
theorem free (h : Cel w g t cs) (i : Nat) : w.frozen? ⟨g, i, none⟩ = false := by
 unfold Cel at h
 simp [World.frozen?, h]
theorem new (w : World) (t : TypeId) (cs : List Value) : Cel (w.alloc (.cells cs.toArray t)) w.heap.size t cs := heap_alloc_new w _
theorem drew (h : Cel w g t cs) : Cel w.drew g t cs := h
theorem alloc (h : Cel w g t cs) (o : Obj) : Cel (w.alloc o) g t cs := (Below.heap_alloc w o g h.lt).trans h
theorem set (h : Cel w g t cs) (i : Nat) (u : Value) : Cel (w.setCell ⟨g, i, none⟩ u) g t (cs.set i u) := by
 unfold Cel at h ⊢
 simp [World.setCell, Array.getElem?_modify, h]
theorem far (h : Cel w g t cs) {p : Addr} (hp : g ≠ p.block) (u : Value) : Cel (w.setCell p u) g t cs := (Below.heap_setCell w p u g hp).trans h
theorem below {B : Nat} (h : Cel w g t cs) (hb : Below B w w') (hg : g < B) : Cel w' g t cs := (hb.block g hg).trans h
theorem frm {l : List Nat} (h : Cel w g t cs) (hf : Frm l w w') (hg : g ∉ l) : Cel w' g t cs := (hf.block g h.lt hg).trans h
theorem ne {g' : Nat} {t' : TypeId} {cs' : List Value} (h : Cel w g t cs) (h' : Cel w g' t' cs') (hne : t ≠ t') : g ≠ g' := by
 rintro rfl
 unfold Cel at h h'
 rw [h] at h'
 injection h' with h'
 injection h' with _ ht
 exact hne ht
end Cel
def Bp (w : World) (p : Nat → Prop) (A : Option Addr) (n : Nat) (bs : List (BitVec 8)) : Prop :=
 bs.length = n ∧ (0 < n → ∃ ad, A = some ad ∧ p ad.block ∧ ∀ j, j < n → w.cell? (ad.add j) = some (v8 (bs.getD j 0#8)))
theorem Bs.bp {w : World} {B n : Nat} {A : Option Addr} {bs : List (BitVec 8)} (h : Bs w B A n bs) : Bp w (· < B) A n bs := h
theorem add_add (a : Addr) (i j : Nat) : (a.add i).add j = a.add (i + j) := by
 unfold Addr.add
 by_cases hi : i = 0 <;> by_cases hj : j = 0 <;> simp [hi, hj, Nat.add_assoc]
namespace Bp
variable {w w' : World} {p q : Nat → Prop} {A : Option Addr} {n : Nat} {bs : List (BitVec 8)}
theorem at_ (h : Bp w p A n bs) {k : Nat} (hk : k < n) : ∃ ad, A = some ad ∧ p ad.block ∧ w.cell? (ad.add k) = some (v8 (bs.getD k 0#8)) := by
 obtain ⟨ad, e, hb, hc⟩ := h.2 (by omega)
 exact ⟨ad, e, hb, hc k hk⟩
theorem keep (h : Bp w p A n bs) (hk : ∀ k, p k → k < w.heap.size → w'.heap[k]? = w.heap[k]?) : Bp w' p A n bs :=
 ⟨h.1, fun hn => by
  obtain ⟨ad, e, hb, hc⟩ := h.2 hn
  have hlt : ad.block < w.heap.size := by have := cell_lt (hc 0 hn); rwa [add_block] at this
  exact ⟨ad, e, hb, fun j hj => (World.cell?_of_block (by rw [add_block]; exact hk _ hb hlt)).trans (hc j hj)⟩⟩
theorem mono (h : Bp w p A n bs) (hpq : ∀ k, p k → k < w.heap.size → q k) : Bp w q A n bs :=
 ⟨h.1, fun hn => by
  obtain ⟨ad, e, hb, hc⟩ := h.2 hn
  have hlt : ad.block < w.heap.size := by have := cell_lt (hc 0 hn); rwa [add_block] at this
  exact ⟨ad, e, hpq _ hb hlt, hc⟩⟩
theorem low (h : Bp w p A n bs) : Bs w w.heap.size A n bs := h.mono fun _ _ hk => hk
theorem take (h : Bp w p A n bs) {k : Nat} (hk : k ≤ n) : Bp w p A k (bs.take k) := by
 refine ⟨by rw [List.length_take, h.1]; omega, fun hn => ?_⟩
 obtain ⟨ad, rfl, hb, hc⟩ := h.2 (by omega)
 refine ⟨ad, rfl, hb, fun j hj => ?_⟩
 rw [hc j (by omega), List.getD_eq_getElem?_getD, List.getD_eq_getElem?_getD, List.getElem?_take, if_pos hj]
theorem cut (h : Bp w p A n bs) {k cap : Nat} (hk : k ≤ n) (hc : n ≤ cap) : Bp w p (if cap = k then A else A.map (·.add k)) (n - k) (bs.drop k) := by
 refine ⟨by rw [List.length_drop, h.1], fun hn => ?_⟩
 obtain ⟨ad, rfl, hb, hcell⟩ := h.2 (by omega)
 rw [if_neg (by omega)]
 refine ⟨ad.add k, rfl, by rw [add_block]; exact hb, fun j hj => ?_⟩
 rw [add_add, hcell _ (by omega), List.getD_eq_getElem?_getD, List.getD_eq_getElem?_getD, List.getElem?_drop]
theorem of_own {base : Nat} {e : TypeId} {c : Nat} {us : List Value} (h : w.ownsRow base e 1 (.slice A n c) n us) (hu : us = bs.map v8) : Bp w (fun k => (Value.slice A n c).ownBlock = some k ∧ base ≤ k) A n bs := by
 subst hu
 have hl : bs.length = n := by simpa using h.1
 refine ⟨hl, fun hn => ?_⟩
 obtain ⟨g, cap, hv, hbg, hlt⟩ := h.form hn
 have hA : A = some ⟨g, 0, none⟩ := by injection hv
 subst hA
 refine ⟨_, rfl, ⟨rfl, hbg⟩, fun j hj => h.cells (g := g) rfl j _ ?_⟩
 rw [List.getElem?_map, List.getElem?_eq_getElem (by omega), List.getD_eq_getElem?_getD, List.getElem?_eq_getElem (by omega)]
 rfl
end Bp
def str (bs : List (BitVec 8)) : ByteArray := ⟨(bs.map UInt8.ofBitVec).toArray⟩
theorem push_all (ns : List (BitVec 8)) : ∀ s : ByteArray, (ns.map fun b => (b.toNat : Int)).foldl (fun r n => r.push (UInt8.ofNat n.toNat)) s = ⟨(s.data.toList ++ ns.map UInt8.ofBitVec).toArray⟩ := by
 induction ns with
 | nil => intro s; simp
 | cons b ns ih =>
  intro s
  rw [List.map_cons, List.foldl_cons, ih]
  have : UInt8.ofNat ((b.toNat : Int).toNat) = UInt8.ofBitVec b := by
   rw [Int.toNat_natCast]
   apply UInt8.toNat_inj.1
   rw [UInt8.toNat_ofNat', UInt8.toNat_ofBitVec]
   exact Nat.mod_eq_of_lt b.isLt
  rw [this]
  simp [ByteArray.push]
theorem Bp.string {P : Program} {w : World} {p : Nat → Prop} {A : Option Addr} {n : Nat} {bs : List (BitVec 8)} (h : Bp w p A n bs) (c : Nat) {src dst e : TypeId}
  (hs : P.underlying src = some (.slice e)) (he : P.underlying e = some (.int .u8)) (hd : P.underlying dst = some .string) :
  (convert src dst (.slice A n c)).run P w = .ok (.string (str bs)) w := by
 rw [run_convert_bytes_string w src dst e A n c hs he hd]
 rcases A with _ | ad
 ·have hn : n = 0 := by
   rcases Nat.eq_zero_or_pos n with h0 | h0
   ·exact h0
   ·obtain ⟨ad, h', _⟩ := h.2 h0; cases h'
  subst hn
  have hb : bs = [] := List.eq_nil_of_length_eq_zero h.1
  subst hb
  rw [← run_convert_bytes_string w src dst e none 0 c hs he hd, Lib.run_convert_nil_bytes w src dst e c hs he hd]
  rfl
 ·have hl : (loadCells ad n).run P w = .ok ((bs.map fun b => (b.toNat : Int)).map (Value.int .u8)).toArray w := by
   have hx := run_firstCells_some (P := P) w 1 n ad n c (bs.map v8) (by simp [h.1]) (by
    intro j u hu
    have hj : j < bs.length := by
     rcases Nat.lt_or_ge j bs.length with h' | h'
     ·exact h'
     ·rw [List.getElem?_eq_none (by simpa using h')] at hu; cases hu
    obtain ⟨ad', h', _, hc⟩ := h.2 (by rw [← h.1]; omega)
    injection h' with h'
    subst h'
    rw [hc j (by rw [← h.1]; exact hj)]
    rw [List.getElem?_map, List.getElem?_eq_getElem hj] at hu
    rw [List.getD_eq_getElem?_getD, List.getElem?_eq_getElem hj]
    exact hu)
   have e : (bs.map fun b => (b.toNat : Int)).map (Value.int .u8) = bs.map v8 := by rw [List.map_map]; rfl
   rw [e]
   simpa [Builtin.firstCells] using hx
  rw [run_bytesToString w ad n c _ hl, push_all]
  rfl
section
variable {P : Program} (w : World)
end
namespace Vp
variable {w w' : World} {p q : Nat → Prop} {A : Option Addr} {n : Nat} {us : List Value}
end Vp
theorem row_cap {w : World} {k : IntKind} {a : Option Addr} {len cap : Nat} {zs : List Int}
  (h : (a = none ∧ len = 0 ∧ cap = 0 ∧ zs = []) ∨ ∃ x, a = some x ∧ len ≤ cap ∧ cap ≤ maxLen ∧ zs.length = cap ∧ (∀ i, i < zs.length → w.cell? (x.add i) = some (.int k (zs.getD i 0))) ∧ ∀ n ∈ zs, (Lit.int k n).wf = true) : len ≤ cap ∧ cap ≤ maxLen := by
 rcases h with ⟨rfl, rfl, rfl, rfl⟩ | ⟨x, rfl, hl, hm, _⟩
 ·exact ⟨Nat.le_refl _, Nat.zero_le _⟩
 ·exact ⟨hl, hm⟩
end Go.Proofs.Ytnjmdgnghidjhaa
end
section
namespace Go.Proofs.Ytnjmdgnghidjhaa
open Go.RowKit
structure ByteRow (P : Program) (t e : TypeId) : Prop where
 und : P.underlying t = some (.slice e)
 info : ∃ i, P.info? e = some i ∧ i.zero = some (.int .u8 0) ∧ i.size = 1 ∧ i.bytes = 1
theorem ByteRow.mk' {P : Program} {t e : TypeId} (h : P.underlying t = some (.slice e)) (k : (P.info? e).map (fun i => (i.zero, i.size, i.bytes)) = some (some (.int .u8 0), 1, 1)) : ByteRow P t e := by
 refine ⟨h, ?_⟩
 cases hi : P.info? e with
 | none => rw [hi] at k; cases k
 | some i =>
  rw [hi] at k
  simp only [Option.map_some, Option.some.injEq, Prod.mk.injEq] at k
  exact ⟨i, rfl, k.1, k.2.1, k.2.2⟩
section
variable {P : Program} (w : World)
theorem run_append_none (base : Nat) (t ty e : TypeId) (hT : ByteRow P t e) (v : Value) (n : Nat) (us : List Value) (hown : w.ownsRow base e 1 v n us) (c : Nat) :
  (Builtin.append_ #[t, t] ty #[v, .slice none 0 c]).run P w = .ok v w := by
 obtain ⟨ht, i, hi, _, hsz, _⟩ := hT
 rcases hown.2 with ⟨rfl, rfl⟩ | ⟨g, cap, cur, rfl, _, _, hnc, _⟩
 ·simp [Builtin.append_, run_underlying ht, sizeOf, typeInfo, hi, Builtin.lenOf, Builtin.firstCells]
 ·simp [Builtin.append_, run_underlying ht, sizeOf, typeInfo, hi, Builtin.lenOf, Builtin.firstCells, hnc, storeCells]
theorem own_slice {base n : Nat} {e : TypeId} {v : Value} {us : List Value} (h : w.ownsRow base e 1 v n us) : ∃ A c, v = .slice A n c := by
 rcases h.2 with ⟨rfl, rfl⟩ | ⟨g, cap, cur, rfl, _⟩
 ·exact ⟨_, _, rfl⟩
 ·exact ⟨_, _, rfl⟩
theorem run_append_bs (base : Nat) (t ty e : TypeId) (hT : ByteRow P t e) (v : Value) (n : Nat) (bs : List (BitVec 8)) (hown : w.ownsRow base e 1 v n (bs.map v8))
  (B : Nat) (A : Option Addr) (m c : Nat) (cs : List (BitVec 8)) (hr : Bs w B A m cs) (h47 : n + m ≤ 140737488355328) (hbase : base ≤ w.heap.size) :
  ∃ A' c' w', (Builtin.append_ #[t, t] ty #[v, .slice A m c]).run P w = .ok (.slice A' (n + m) c') w' ∧ w'.ownsRow base e 1 (.slice A' (n + m) c') (n + m) ((bs ++ cs).map v8) ∧ w.grownBy w' v.ownBlock ∧
   ((Value.slice A' (n + m) c').ownBlock = v.ownBlock ∨ (Value.slice A' (n + m) c').ownBlock = some w.heap.size) := by
 obtain ⟨ht, i, hi, hz, hsz, hby⟩ := id hT
 rcases A with _ | ad
 ·have hm : m = 0 := by
   rcases Nat.eq_zero_or_pos m with h0 | h0
   ·exact h0
   ·obtain ⟨ad, h, _⟩ := hr.2 h0
    cases h
  subst hm
  have hn : cs = [] := List.eq_nil_of_length_eq_zero hr.1
  subst hn
  obtain ⟨A', c', rfl⟩ := own_slice w hown
  exact ⟨A', c', w, run_append_none w base t ty e hT _ n _ hown c, by simpa using hown, World.grownBy.refl w _, .inl rfl⟩
 ·have hcells : ∀ j u, (cs.map v8)[j]? = some u → w.cell? (ad.add j) = some u := by
   intro j u hu
   have hj : j < cs.length := by
    rcases Nat.lt_or_ge j cs.length with h | h
    ·exact h
    ·rw [List.getElem?_eq_none (by simpa using h)] at hu; cases hu
   obtain ⟨ad', h, _, hc⟩ := hr.2 (by rw [← hr.1]; omega)
   injection h with h
   subst h
   rw [hc j (by rw [← hr.1]; exact hj)]
   rw [List.getElem?_map, List.getElem?_eq_getElem hj] at hu
   rw [List.getD_eq_getElem?_getD, List.getElem?_eq_getElem hj]
   exact hu
  obtain ⟨v', w', hrun, h2, h3, _, h5⟩ := run_append_own_at (P := P) w base t ty e i (.int .u8 0) 1 1 ht hi hz hsz hby rfl (by decide) v n (bs.map v8) hown ad m c (cs.map v8) (by simp [hr.1]) hcells
   (by intro u hu; obtain ⟨x, _, rfl⟩ := List.mem_map.1 hu; rfl) (by unfold maxLen; omega) (by omega) hbase
  obtain ⟨A', c', rfl⟩ := own_slice w' h2
  exact ⟨A', c', w', hrun, by rw [List.map_append]; exact h2, h3, h5⟩
theorem wp_append_bs {o : Oper} {a : Act} {K : Act → World → Prop} {Q : Exit → Act → World → Prop} (s x : Operand) (t : TypeId)
  (ho : o.op = .call { callee := .builtin .append, args := #[s, x], argTypes := #[t, t] }) (base : Nat) (e : TypeId) (hT : ByteRow P t e)
  (v : Value) (n : Nat) (bs : List (BitVec 8)) (hs : a.eval s = v) (hown : w.ownsRow base e 1 v n (bs.map v8))
  (B : Nat) (A : Option Addr) (m c : Nat) (cs : List (BitVec 8)) (hx : a.eval x = .slice A m c) (hr : Bs w B A m cs) (h47 : n + m ≤ 140737488355328) (hbase : base ≤ w.heap.size)
  (h : ∀ A' c' w', w'.ownsRow base e 1 (.slice A' (n + m) c') (n + m) ((bs ++ cs).map v8) → w.grownBy w' v.ownBlock → ((Value.slice A' (n + m) c').ownBlock = v.ownBlock ∨ (Value.slice A' (n + m) c').ownBlock = some w.heap.size) → K (a.put o.dst (.slice A' (n + m) c')) w') : o.wp P a w K Q := by
 obtain ⟨A', c', w', hrun, h2, h3, h4⟩ := run_append_bs (P := P) w base t o.type e hT v n bs hown B A m c cs hr h47 hbase
 unfold Oper.wp execOp
 simp only [ho, resolve, invoke, builtin, Sem.run_bind, Sem.run_pure, Result.andThen_ok, List.map_toArray, List.map_cons, List.map_nil, hs, hx, hrun]
 exact h A' c' w' h2 h3 h4
theorem wpList_append_bs {ops : Array Oper} {rest : List Oper} {o : Oper} {a : Act} {Q : Exit → Act → World → Prop} (hgd : o.guard = none) (s x : Operand) (t : TypeId)
  (ho : o.op = .call { callee := .builtin .append, args := #[s, x], argTypes := #[t, t] }) (base : Nat) (e : TypeId) (hT : ByteRow P t e)
  (v : Value) (n : Nat) (bs : List (BitVec 8)) (hs : a.eval s = v) (hown : w.ownsRow base e 1 v n (bs.map v8))
  (B : Nat) (A : Option Addr) (m c : Nat) (cs : List (BitVec 8)) (hx : a.eval x = .slice A m c) (hr : Bs w B A m cs) (n' : Nat) (bs' : List (BitVec 8)) (hn' : n + m = n') (hbs' : bs ++ cs = bs') (h47 : n' ≤ 140737488355328) (hbase : base ≤ w.heap.size)
  (h : ∀ A' c' w', w'.ownsRow base e 1 (.slice A' n' c') n' (bs'.map v8) → w.grownBy w' v.ownBlock → ((Value.slice A' n' c').ownBlock = v.ownBlock ∨ (Value.slice A' n' c').ownBlock = some w.heap.size) → wpList P ops Q rest (a.put o.dst (.slice A' n' c')) w') : wpList P ops Q (o :: rest) a w := by
 subst hn' hbs'
 exact wpList_plain hgd fun _ hK => wp_append_bs w s x t ho base e hT v n bs hs hown B A m c cs hx hr h47 hbase fun A' c' w' h2 h3 h4 => hK _ _ (h A' c' w' h2 h3 h4)
theorem wpList_append_new {ops : Array Oper} {rest : List Oper} {o : Oper} {a : Act} {Q : Exit → Act → World → Prop} (hgd : o.guard = none) (s x : Operand) (t : TypeId)
  (ho : o.op = .call { callee := .builtin .append, args := #[s, x], argTypes := #[t, t] }) (e : TypeId) (hT : ByteRow P t e)
  (hs : a.eval s = .slice (some ⟨w.heap.size, 0, none⟩) 0 0) (B : Nat) (A : Option Addr) (m c : Nat) (cs : List (BitVec 8)) (hx : a.eval x = .slice A m c) (hr : Bs w B A m cs) (hB : B ≤ w.heap.size) (h47 : m ≤ 140737488355328)
  (h : ∀ A' c' w', w'.ownsRow w.heap.size e 1 (.slice A' m c') m (cs.map v8) → Below w.heap.size w w' → wpList P ops Q rest (a.put o.dst (.slice A' m c')) w') : wpList P ops Q (o :: rest) a (w.alloc (.cells #[] e)) := by
 have o0 : (w.alloc (.cells #[] e)).ownsRow w.heap.size e 1 (.slice (some ⟨w.heap.size, 0, none⟩) 0 0) 0 (([] : List (BitVec 8)).map v8) :=
  World.ownsRow_lit w #[] 0 (Nat.le_refl _) (Nat.zero_le _) rfl
 refine wpList_append_bs _ hgd s x t ho w.heap.size e hT _ 0 [] hs o0 B A m c cs hx (hr.alloc hB _) m cs (Nat.zero_add _) (List.nil_append _) h47 (by simp) fun A' c' w' h1 h2 _ => h A' c' w' h1 ?_
 exact Below.grown ((Below.refl _ _).alloc (Nat.le_refl _) _) h2 (by simp) (by intro g hg; simp [Value.ownBlock] at hg; omega)
end
end Go.Proofs.Ytnjmdgnghidjhaa
end
