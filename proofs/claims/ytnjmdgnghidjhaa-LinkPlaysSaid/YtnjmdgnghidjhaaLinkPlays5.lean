/-
Layer 18 (link): what the program's functions are asked (their contract: a relation of what a link is in memory, and what its calls do), and what the laws' walks need.
-/
import Derived.Test.YtnjmdgnghidjhaaLinkPlays0
import Derived.Test.YtnjmdgnghidjhaaLinkPlays1
import Derived.Test.YtnjmdgnghidjhaaLinkPlays2
import Derived.Test.YtnjmdgnghidjhaaLinkPlays3
import Derived.Test.YtnjmdgnghidjhaaLinkPlays4
set_option linter.unusedVariables false
set_option linter.unusedSimpArgs false
namespace Go.Proofs.Ytnjmdgnghidjhaa.Ord
end Go.Proofs.Ytnjmdgnghidjhaa.Ord
namespace Go.Proofs.Ytnjmdgnghidjhaa.Peer
open Go.RowKit Go.Proofs.Ytnjmdgnghidjhaa.Ord
open Lex (Tx)
open Rec (Vt Tvs Trow txt)
def Lsm (q : Lk) : Prop := q.p.part.length ≤ 400 ∧ q.p.log.length ≤ 300000 ∧ q.p.lines.length ≤ 5000 ∧ (∀ l ∈ q.p.lines, l.length ≤ 400) ∧ q.at ≤ q.p.log.length
def Pfew (rs : List Ru) : Prop := rs.length ≤ 20 ∧ ∀ r ∈ rs, r.line.length ≤ 60 ∧ r.out.length ≤ 60
abbrev pp (g k : Nat) : Value := .pointer (some ⟨g, k, none⟩)
def lk0 : Lk := ⟨⟨0, [], [], []⟩, 0⟩
structure LinkC (P : World → List Nat → Nat → List Ru → Lk → Prop) : Prop where
 below : ∀ {w w' : World} {l : List Nat} {g : Nat} {rs : List Ru} {q : Lk}, P w l g rs q → Below w.heap.size w w' → P w' l g rs q
 frm : ∀ {w w' : World} {l : List Nat} {g k : Nat} {rs : List Ru} {q : Lk} {cs : List Value}, P w l g rs q → Cel w k 36 cs → k ∉ l → Frm [k] w w' → P w' l g rs q
 own : ∀ {w : World} {l : List Nat} {g : Nat} {rs : List Ru} {q : Lk}, P w l g rs q → ∀ k ∈ l, k < w.heap.size
 kind : ∀ {w : World} {l : List Nat} {g : Nat} {rs : List Ru} {q : Lk}, P w l g rs q → ∀ k ∈ l, ∀ o fz, w.heap[k]? ≠ some (Obj.cells o 9 fz)
 new : ∀ (w : World) (T : Nat) (A : Option Addr) (n c : Nat) (vs : List Rl), Rls w T A vs → T ≤ w.heap.size → Rfew vs n → Calls Try.prog 8 #[.slice A n c] w fun e w' => ∃ l g, e = .returned (pp g 0) ∧ (∀ k ∈ l, w.heap.size ≤ k ∧ k < w'.heap.size ∧ ∀ o fz, w'.heap[k]? ≠ some (Obj.cells o 5 fz)) ∧ P w' l g (vs.map (·.r)) lk0 ∧ Below w.heap.size w w'
 send : ∀ (w : World) (l : List Nat) (g : Nat) (rs : List Ru) (q : Lk), P w l g rs q → Pfew rs → Lsm q → ∀ (A : Option Addr) (m cb : Nat) (x : List B), Bs w w.heap.size A m x → m ≤ cb → m ≤ 100 → ∀ room : Int, Calls Try.prog 10 #[pp g 0, .slice A m cb, .int .i64 room] w fun e w' => ∃ l', e = .returned (.bool (sendR rs q x room).2) ∧ Frm l w w' ∧ (∀ k ∈ l', k ∈ l ∨ w.heap.size ≤ k) ∧ P w' l' g rs (sendR rs q x room).1
 read : ∀ (w : World) (l : List Nat) (g : Nat) (rs : List Ru) (q : Lk), P w l g rs q → Lsm q → ∀ most : Int, Calls Try.prog 12 #[pp g 0, .int .i64 most] w fun e w' => ∃ A c, e = .returned (.slice A (readR q most).2.length c) ∧ By w' A (readR q most).2.length (readR q most).2 ∧ Frm l w w' ∧ P w' l g rs (readR q most).1
 attach : ∀ (w : World) (l : List Nat) (g : Nat) (rs : List Ru) (q : Lk), P w l g rs q → Lsm q → ∀ o : Int, Calls Try.prog 14 #[pp g 0, .int .i64 o] w fun e w' => e = .returned (.int .i64 (attachR q o).2) ∧ Frm l w w' ∧ P w' l g rs (attachR q o).1
 peer : ∀ (w : World) (l : List Nat) (g : Nat) (rs : List Ru) (q : Lk), P w l g rs q → Lsm q → Calls Try.prog 18 #[pp g 0] w fun e w' => ∃ v : Dvm, e = .returned (.agg v.cells.toArray) ∧ Below w.heap.size w w' ∧ Dok w' w'.heap.size v ∧ v.m = q.p
 nsend : ∀ (w : World) (room : Int), Calls Try.prog 10 #[.pointer none, .slice none 0 0, .int .i64 room] w fun e w' => e = .returned (.bool false) ∧ Below w.heap.size w w'
 nattach : ∀ (w : World) (o : Int), Calls Try.prog 14 #[.pointer none, .int .i64 o] w fun e w' => e = .returned (.int .i64 1) ∧ Below w.heap.size w w'
def Knows18 : Prop := ∀ w : World, Calls Try.prog 7 #[] w fun e w' => e = .returned (.bool true) ∧ Below w.heap.size w w'
def Lsi (i : Nat) (q : Lk) : Prop := q.p.part.length ≤ 400 ∧ q.p.log.length ≤ i * 6120 ∧ q.p.lines.length ≤ i * 102 ∧ (∀ l ∈ q.p.lines, l.length ≤ 400) ∧ q.at ≤ q.p.log.length
theorem Lsi.sm {i : Nat} {q : Lk} (h : Lsi i q) (hi : i ≤ 40) : Lsm q := by
 obtain ⟨h1, h2, h3, h4, h5⟩ := h
 have e1 : i * 6120 ≤ 40 * 6120 := Nat.mul_le_mul_right _ hi
 have e2 : i * 102 ≤ 40 * 102 := Nat.mul_le_mul_right _ hi
 exact ⟨h1, by omega, by omega, h4, h5⟩
theorem lsi0 : Lsi 0 lk0 := ⟨Nat.zero_le _, Nat.zero_le _, Nat.zero_le _, (fun l hl => absurd (show l ∈ ([] : List (List B)) from hl) List.not_mem_nil), Nat.zero_le _⟩
theorem Lsi.mk' {i k n : Nat} {q : Lk} (h1 : q.p.part.length ≤ 400) (h2 : q.p.log.length ≤ k) (hk : k ≤ i * 6120) (h3 : q.p.lines.length ≤ n) (hn : n ≤ i * 102) (h4 : ∀ l ∈ q.p.lines, l.length ≤ 400) (h5 : q.at ≤ q.p.log.length) : Lsi i q := ⟨h1, Nat.le_trans h2 hk, Nat.le_trans h3 hn, h4, h5⟩
theorem Lsi.up {i : Nat} {q : Lk} (h : Lsi i q) : Lsi (i + 1) q := by
 obtain ⟨h1, h2, h3, h4, h5⟩ := h
 have e1 : i * 6120 ≤ (i + 1) * 6120 := Nat.mul_le_mul_right _ (Nat.le_succ i)
 have e2 : i * 102 ≤ (i + 1) * 102 := Nat.mul_le_mul_right _ (Nat.le_succ i)
 exact Lsi.mk' h1 h2 e1 h3 e2 h4 h5
theorem pfew_of {vs : List Rl} {n : Nat} (h : Rfew vs n) : Pfew (vs.map (·.r)) := ⟨by rw [List.length_map, h.1]; exact h.2.1, fun r hr => by
 obtain ⟨v, hv, rfl⟩ := List.mem_map.1 hr
 exact h.2.2 v hv⟩
theorem line_log (rs : List Ru) (p : Pe) (x : List B) : p.log.length ≤ (lineR rs p x).log.length := by
 unfold lineR
 split
 all_goals first
  | exact Nat.le_refl _
  | (show p.log.length ≤ (p.log ++ _).length
     rw [List.length_append]
     omega)
theorem feed_log : ∀ (bs : List B) (rs : List Ru) (p : Pe), p.log.length ≤ (feedR rs p bs).log.length
 | [], rs, p => by rw [feed_nil]; exact Nat.le_refl _
 | c :: bs, rs, p => by
  rw [feed_cons]
  refine Nat.le_trans ?_ (feed_log bs rs _)
  unfold byteR
  split
  ·exact line_log rs p p.part
  ·split
   ·exact Nat.le_refl _
   ·split <;> exact Nat.le_refl _
theorem Lsi.send {i : Nat} {q : Lk} (h : Lsi i q) {vs : List Rl} {n : Nat} (hr : Rfew vs n) {x : List B} (hx : x.length ≤ 100) (room : Int) : Lsi (i + 1) (sendR (vs.map (·.r)) q x room).1 := by
 obtain ⟨h1, h2, h3, h4, h5⟩ := h
 have hl : ((wire x).take room.toNat).length ≤ 102 := by
  have := List.length_take_le room.toNat (wire x)
  have e := wire_len x
  have : ((wire x).take room.toNat).length ≤ (wire x).length := by rw [List.length_take]; exact Nat.min_le_right _ _
  omega
 obtain ⟨q1, q2, q3, q4⟩ := feed_dfew hr (p := q.p) h1 ((wire x).take room.toNat) h4
 have e1 : (i + 1) * 6120 = i * 6120 + 6120 := Nat.succ_mul i 6120
 have e2 : (i + 1) * 102 = i * 102 + 102 := Nat.succ_mul i 102
 have e3 : q.p.log.length + 60 * ((wire x).take room.toNat).length ≤ (i + 1) * 6120 := by omega
 have e4 : q.p.lines.length + ((wire x).take room.toNat).length ≤ (i + 1) * 102 := by omega
 have h5' := Nat.le_trans h5 (feed_log ((wire x).take room.toNat) (vs.map (·.r)) q.p)
 show Lsi (i + 1) ⟨feedR (vs.map (·.r)) q.p ((wire x).take room.toNat), q.at⟩
 generalize feedR (vs.map (·.r)) q.p ((wire x).take room.toNat) = p' at *
 exact Lsi.mk' q1 q2 e3 q3 e4 q4 h5'
theorem Lsi.read {i : Nat} {q : Lk} (h : Lsi i q) (most : Int) : Lsi (i + 1) (readR q most).1 := by
 obtain ⟨h1, h2, h3, h4, h5⟩ := h.up
 refine Lsi.mk' (q := (readR q most).1) h1 h2 (Nat.le_refl _) h3 (Nat.le_refl _) h4 ?_
 show q.at + min most.toNat (q.p.log.length - q.at) ≤ q.p.log.length
 have : min most.toNat (q.p.log.length - q.at) ≤ q.p.log.length - q.at := Nat.min_le_right _ _
 have := h.2.2.2.2
 omega
theorem Lsi.attach {i : Nat} {q : Lk} (h : Lsi i q) (o : Int) : Lsi (i + 1) (attachR q o).1 := by
 obtain ⟨h1, h2, h3, h4, h5⟩ := h.up
 unfold attachR
 split
 ·exact Lsi.mk' h1 h2 (Nat.le_refl _) h3 (Nat.le_refl _) h4 h5
 ·rename_i hc
  refine Lsi.mk' h1 h2 (Nat.le_refl _) h3 (Nat.le_refl _) h4 ?_
  show o.toNat ≤ q.p.log.length
  omega
theorem Lkm.frm {V V' : World} {g : Nat} {R : Value} {q : Pe} {A : Option Addr} {nl k : Nat} {a : Int} {l : List Nat} (h : Lkm V g R q A nl k a) (hf : Frm l V V') (hg : g ∉ l) (hl : ∀ k ∈ l, ∀ o fz, V.heap[k]? ≠ some (Obj.cells o 9 fz)) : Lkm V' g R q A nl k a :=
 ⟨Cel.frm h.cel hf hg, fun hn => by
  obtain ⟨ad, e, ⟨cs, fz, hb⟩, hc⟩ := h.lns hn
  have hk : V'.heap[ad.block]? = V.heap[ad.block]? := hf.block _ (Array.getElem?_eq_some_iff.1 hb).1 (fun hm => hl _ hm _ _ hb)
  exact ⟨ad, e, ⟨cs, fz, hk.trans hb⟩, fun i v hv => (World.cell?_of_block (by rw [add_block]; exact hk)).trans (hc i v hv)⟩, h.len⟩
/-! ### The document's calls, in the model's words. -/
theorem rro_ne {w : World} {D n c g : Nat} {A : Option Addr} {vs : List Rl} {cs : List Value} (h : Rro w D A n c vs) (hc : Cel w g 36 cs) (hn : 0 < n) : ∀ ad, A = some ad → ad.block ≠ g := by
 rintro ad rfl e
 obtain ⟨g', cap, hv, hbg, hlt⟩ := h.own.form hn
 have hg : g' = ad.block := by injection hv with hA; injection hA with hA; rw [hA]
 exact own_not_ty h.own (t' := 36) (by decide) g' _ _ (by rw [hv]; rfl) (by rw [hg, e]; exact hc)
theorem rls_nil {w : World} {T : Nat} {A : Option Addr} : Rls w T A [] := fun i v hi => by simp at hi
def DlSays (w : World) (g : Nat) (R : Value) (q' : Lk) (w' : World) : Prop := Frm [g] w w' ∧ ∃ A nl k, Lkm w' g R q'.p A nl k (q'.at : Int)
theorem dsend_ (w : World) {g D n c : Nat} {AR : Option Addr} {vs : List Rl} (hr : Rro w D AR n c vs) (hw : Rfew vs n) {q : Lk} (hs : Lsm q) {AL : Option Addr} {nl cl : Nat} (hk : Lkm w g (.slice AR n c) q.p AL nl cl (q.at : Int)) {A : Option Addr} {m cb : Nat} {x : List B} (hx : Bs w w.heap.size A m x) (hm : m ≤ 100) (room : Int) :
  Calls Try.prog 11 #[pp g 0, .slice A m cb, .int .i64 room] w fun e w' => e = .returned (.bool (sendR (vs.map (·.r)) q x room).2) ∧ DlSays w g (.slice AR n c) (sendR (vs.map (·.r)) q x room).1 w' := by
 have hsz : (∀ v ∈ vs, v.r.out.length ≤ 60) ∧ q.p.log.length + (m + 2) * 60 ≤ 1000000 ∧ nl + (m + 2) ≤ 100000 := ⟨fun v hv => (hw.2.2 v hv).2, by have := hs.2.1; omega, by have := hs.2.2.1; have := hk.len; omega⟩
 refine (send_ w g 0 AR n c vs (hr.rls 0) ?_ (Nat.zero_le _) hw.1 (by have := hw.2.1; omega) q.p AL nl cl (q.at : Int) hk w.heap.size A m cb x hx (Nat.le_refl _) (by omega) room 60 (by decide) hsz).mono ?_
 ·rcases Nat.eq_zero_or_pos n with h0 | h0
  ·intro ad e hb
   subst h0
   rcases hr.own.2 with ⟨hv, _⟩ | ⟨g', cap, cur, hv, _, hg, _⟩
   ·rw [e] at hv; injection hv with hA; cases hA
   ·have hg' : g' = ad.block := by rw [e] at hv; injection hv with hA; injection hA with hA; rw [hA]
    have q1 := hk.cel
    unfold Cel at q1
    rw [hg', hb, q1] at hg
    injection hg with hg
    injection hg with _ ht
    exact absurd ht (by decide)
  ·exact rro_ne hr hk.cel h0
 ·rintro e w' ⟨rfl, hf, A', nl', k', hk'⟩
  exact ⟨rfl, hf, A', nl', k', hk'⟩
theorem dread_ (w : World) {g : Nat} {R : Value} {q : Lk} (hs : Lsm q) {AL : Option Addr} {nl cl : Nat} (hk : Lkm w g R q.p AL nl cl (q.at : Int)) (most : Int) :
  Calls Try.prog 13 #[pp g 0, .int .i64 most] w fun e w' => ∃ A c, e = .returned (.slice A (readR q most).2.length c) ∧ By w' A (readR q most).2.length (readR q most).2 ∧ DlSays w g R (readR q most).1 w' := by
 refine (read_ w g R q.p AL nl cl q.at hk most (by have := hs.2.1; omega) (by have := hs.2.1; have := hs.2.2.2.2; omega)).mono ?_
 rintro e w' ⟨A', c', rfl, ho, hf, hk'⟩
 exact ⟨A', c', rfl, By.of_own ho, hf, AL, nl, cl, hk'⟩
theorem dattach_ (w : World) {g : Nat} {R : Value} {q : Lk} (hs : Lsm q) {AL : Option Addr} {nl cl : Nat} (hk : Lkm w g R q.p AL nl cl (q.at : Int)) (o : Int) :
  Calls Try.prog 15 #[pp g 0, .int .i64 o] w fun e w' => e = .returned (.int .i64 (attachR q o).2) ∧ DlSays w g R (attachR q o).1 w' := by
 have hz := strP_size q.p.log
 refine (attach18 w g R (.slice AL nl cl) q.p.state (q.at : Int) o (str q.p.part) (str q.p.log) hk.cel (by rw [hz]; have := hs.2.1; unfold maxLen; omega)).mono ?_
 rintro e w' ⟨h1, h2⟩
 rw [hz] at h1 h2
 unfold attachR
 by_cases hc : o < 0 ∨ (q.p.log.length : Int) < o
 ·obtain ⟨rfl, rfl⟩ := h1 hc
  rw [if_pos hc]
  exact ⟨rfl, Frm.refl _ _, AL, nl, cl, hk⟩
 ·obtain ⟨rfl, rfl⟩ := h2 hc
  rw [if_neg hc]
  refine ⟨rfl, (Frm.refl _ _).set (by simp) _, AL, nl, cl, ?_⟩
  have hf : Frm [g] w (w.setCell ⟨g, 5, none⟩ (.int .i64 o)) := (Frm.refl _ _).set (by simp) _
  refine ⟨?_, ?_, hk.len⟩
  ·have q1 := hk.cel.set 5 (.int .i64 o)
   rw [show ((o.toNat : Nat) : Int) = o by omega]
   exact q1
  ·intro hn
   obtain ⟨ad, e, ⟨cs, fz, hb⟩, hcl⟩ := hk.lns hn
   have hkb : (w.setCell ⟨g, 5, none⟩ (.int .i64 o)).heap[ad.block]? = w.heap[ad.block]? := hf.block _ (Array.getElem?_eq_some_iff.1 hb).1 (fun hm => by
    simp at hm
    rw [hm] at hb
    exact hk.cel.not_ty (by decide) _ _ hb)
   exact ⟨ad, e, ⟨cs, fz, hkb.trans hb⟩, fun i v hv => (World.cell?_of_block (by rw [add_block]; exact hkb)).trans (hcl i v hv)⟩
end Go.Proofs.Ytnjmdgnghidjhaa.Peer
