/-
Texts: OrdersTwo PeerKnows LinkKnows RecOpen PeerOpen PeerPcells
-/
import Derived.Test.YtnjmdgnghidjhaaLinkPlays0
import Derived.Test.YtnjmdgnghidjhaaLinkPlays1
import Derived.Test.YtnjmdgnghidjhaaLinkPlays2
import Derived.Test.YtnjmdgnghidjhaaLinkPlays3
import Derived.Test.YtnjmdgnghidjhaaLinkPlays4
import Derived.Test.YtnjmdgnghidjhaaLinkPlays5
import Derived.Lib.SlBytesConst
import Derived.Deep.MidRow
import Derived.Deep.CutRange
set_option linter.unusedVariables false
set_option linter.unusedSimpArgs false
set_option maxRecDepth 100000
set_option maxHeartbeats 4000000
namespace Go.Proofs.Ytnjmdgnghidjhaa.Ord
end Go.Proofs.Ytnjmdgnghidjhaa.Ord
section
namespace Go.Proofs.Ytnjmdgnghidjhaa.Ord
open Go.RowKit
section
variable {P : Program} {ops : Array Oper} {Q : Exit → Act → World → Prop} {md : Region.Mode} {S : World → Prop} {N : List Nat}
theorem wpAnyN_two {i j : Nat} {oi oj : Oper} {fuel : Nat} {listed : Array Bool} {a : Act} {w : World} (hr : Region.ready md ops listed = [i, j]) (hi : ops[i]? = some oi) (hj : ops[j]? = some oj)
  (h1 : ∀ K' : Act → World → Prop, Shut (∀ a w, (i ∈ N ∨ S w) → wpAnyN P md ops Q S N fuel (listed.setIfInBounds i true) a w → K' a w) → if Region.wanted oi (yielded ops a.tmps) = true then Oper.wp P oi a w K' Q else K' (a.put oi.dst undef) w)
  (h2 : ∀ K' : Act → World → Prop, Shut (∀ a w, (j ∈ N ∨ S w) → wpAnyN P md ops Q S N fuel (listed.setIfInBounds j true) a w → K' a w) → if Region.wanted oj (yielded ops a.tmps) = true then Oper.wp P oj a w K' Q else K' (a.put oj.dst undef) w) :
  wpAnyN P md ops Q S N (fuel + 1) listed a w :=
 ⟨fun h0 => (by rw [hr] at h0; cases h0), fun k hk => by
  rw [hr] at hk
  simp only [List.mem_cons, List.not_mem_nil, or_false] at hk
  rcases hk with rfl | rfl
  ·exact wpOp_step hi (fun K' hK => h1 K' (fun a w hS hW => hK a w ⟨fun hn => hS.resolve_left hn, hW⟩))
  ·exact wpOp_step hj (fun K' hK => h2 K' (fun a w hS hW => hK a w ⟨fun hn => hS.resolve_left hn, hW⟩))⟩
end
end Go.Proofs.Ytnjmdgnghidjhaa.Ord
end
section
namespace Go.Proofs.Ytnjmdgnghidjhaa.Peer
open Go.RowKit Go.Proofs.Ytnjmdgnghidjhaa.Ord
open Lex (Tx Owb rowB lit_one)
open Rec (Vt Tvs Trow txt)
open Vars (scell)
def okB : List B := [111#8, 107#8]
def yesB : List B := [121#8, 101#8, 115#8]
def inB : List B := [104#8, 105#8, 21#8, 111#8, 107#8, 10#8]
def ru0 : Ru := ⟨0, okB, yesB, 1⟩
def pe1 : Pe := ⟨1, [], yesB, [okB]⟩
theorem fed : feedR [ru0] ⟨0, [], [], []⟩ inB = pe1 := by rfl
theorem cell_lit (w : World) (C : Array Value) (e : TypeId) (f : Nat × Nat) (k : Nat) : (w.alloc (.cells C e f)).cell? ⟨w.heap.size, k, none⟩ = C[k]? := by
 have h : (w.alloc (.cells C e f)).heap[w.heap.size]? = some (.cells C e f) := by
  show (w.heap.push (.cells C e f))[w.heap.size]? = _
  simp
 unfold World.cell?
 rw [h]
 rfl
theorem tx_lit (w : World) (bs : List B) (f : Nat × Nat) : Tx (w.alloc (.cells (bs.map v8).toArray 5 f)) (w.heap.size + 1) (some ⟨w.heap.size, 0, none⟩) bs :=
 .inl ⟨rfl, fun _ => ⟨_, rfl, Nat.lt_succ_self _, fun j hj => by
  have h := cell_lit w (bs.map v8).toArray 5 f j
  have e : (bs.map v8).toArray[j]? = some (v8 (bs.getD j 0#8)) := by simp [hj, List.getD_eq_getElem?_getD]
  rw [e] at h
  cases j <;> simpa [Addr.add] using h⟩⟩
def mk (w : World) (bs : List B) : World := w.alloc (.cells (bs.map v8).toArray 5 (bs.length, bs.length + 1))
theorem mk_size (w : World) (bs : List B) : (mk w bs).heap.size = w.heap.size + 1 := by simp [mk]
theorem mk_below (w : World) (bs : List B) : Below w.heap.size w (mk w bs) := (Below.refl _ _).alloc (Nat.le_refl _) _
theorem mk_tx (w : World) (bs : List B) : Tx (mk w bs) (mk w bs).heap.size (some ⟨w.heap.size, 0, none⟩) bs := by rw [mk_size]; exact tx_lit w bs _
theorem mk_cv (w : World) (bs : List B) (g n : Nat) (hg : g = w.heap.size) : (convert 37 37 (.slice (some ⟨g, 0, none⟩) n n)).run Try.prog (w.alloc (.cells (bs.map v8).toArray 5)) = .ok (.slice (some ⟨g, 0, none⟩) n n) (mk w bs) := by
 subst hg
 have h := Lib.run_convert_bytes_const (P := Try.prog) w 37 5 (bs.map v8).toArray n n rfl rfl
 simpa [mk] using h
end Go.Proofs.Ytnjmdgnghidjhaa.Peer
end
section
namespace Go.Proofs.Ytnjmdgnghidjhaa.Peer
open Go.RowKit Go.Proofs.Ytnjmdgnghidjhaa.Ord
open Lex (Tx)
open Rec (Vt Tvs Trow txt)
def hiB : List B := [104#8, 105#8]
def lk1 : Lk := ⟨⟨0, hiB, [], []⟩, 0⟩
theorem sent1 : sendR [] lk0 hiB 3 = (lk1, false) := by rfl
theorem att1 : attachR lk1 0 = (lk1, 0) := by rfl
theorem lsm0 : Lsm lk0 := (Lsi.sm lsi0 (Nat.zero_le _))
theorem lsm1 : Lsm lk1 := Lsi.sm (Lsi.send lsi0 (vs := []) (n := 0) ⟨rfl, Nat.zero_le _, fun v hv => absurd hv List.not_mem_nil⟩ (x := hiB) (by decide) 3) (by decide)
theorem knows18 {P : World → List Nat → Nat → List Ru → Lk → Prop} (HC : LinkC P) : Knows18 := fun w => by
 have HCC := Lib.hid HC
 have con := HC.new w 0 none 0 0 [] rls_nil (Nat.zero_le _) ⟨rfl, by decide, by simp⟩
 clear HC
 go_enter Try.func7, Try.ntmps7
 go_wp2_with fail
 refine con.mono ?_
 clear con
 rintro e w1 ⟨l, g, rfl, hlg, hp, hb⟩
 obtain ⟨w2, hw2⟩ : ∃ W, W = mk w1 hiB := ⟨_, rfl⟩
 have c1 : (convert 37 37 (.slice (some ⟨w1.heap.size, 0, none⟩) 2 2)).run Try.prog (w1.alloc (.cells #[.int .u8 104, .int .u8 105] 5)) = .ok (.slice (some ⟨w1.heap.size, 0, none⟩) 2 2) w2 := by rw [hw2]; exact mk_cv w1 hiB _ 2 rfl
 have hb2 : Below w1.heap.size w1 w2 := by rw [hw2]; exact mk_below _ _
 have ht2 : Tx w2 w2.heap.size (some ⟨w1.heap.size, 0, none⟩) hiB := by rw [hw2]; exact mk_tx _ _
 have HB2 := Lib.hid (hb.trans (hb2.mono hb.size))
 have HLG := Lib.hid (show ∀ k ∈ l, w.heap.size ≤ k from fun k hk => (hlg k hk).1)
 have HP2 := Lib.hid (HCC.out.below hp hb2)
 have con := HCC.out.send w2 l g [] lk0 HP2.out ⟨by decide, by simp⟩ lsm0 (some ⟨w1.heap.size, 0, none⟩) 2 2 hiB (Lex.Tx.bs ht2 (Nat.le_refl _)) (Nat.le_refl _) (by decide) 3
 rw [sent1] at con
 clear hp hb hlg hb2 ht2 hw2
 go_wp2_with fail
 refine con.mono ?_
 clear con c1
 rintro e w3 ⟨l3, rfl, hf3, hl3, hp3⟩
 have HB3 := Lib.hid (HB2.out.trans (hf3.below HB2.out.size HLG.out))
 have HP3 := Lib.hid hp3
 replace HLG := Lib.hid (show ∀ k ∈ l3, w.heap.size ≤ k from fun k hk => (hl3 k hk).elim (HLG.out k) (fun h => Nat.le_trans HB2.out.size h))
 clear hf3 hp3 hl3 HB2 HP2
 have con := HCC.out.peer w3 l3 g [] lk1 HP3.out lsm1
 go_wp2_with fail
 refine con.mono ?_
 clear con
 rintro e w4 ⟨v, rfl, hb4, hdk, hvm⟩
 obtain ⟨s, pt, lg, ls, PA, pc, LA, lc, A, c⟩ := v
 have h1 : s = 0 := congrArg Pe.state hvm
 have h2 : pt = hiB := congrArg Pe.part hvm
 have h3 : lg = [] := congrArg Pe.log hvm
 have h4 : txt ls = [] := congrArg Pe.lines hvm
 have h5 : ls = [] := by unfold txt at h4; simpa using h4
 subst h1 h2 h3 h5
 unfold Dvm.cells
 dsimp only
 obtain ⟨w5, hw5⟩ : ∃ W, W = w4.alloc (.cells ([.int .i64 0, .slice PA hiB.length pc, .slice LA 0 lc, .slice A 0 c] : List Value).toArray 49) := ⟨_, rfl⟩
 have hb5 : Below w4.heap.size w4 w5 := by rw [hw5]; exact (Below.refl _ _).alloc (Nat.le_refl _) _
 have hc5 : Cel w5 w4.heap.size 49 [.int .i64 0, .slice PA hiB.length pc, .slice LA 0 lc, .slice A 0 c] := by rw [hw5]; exact Cel.new w4 _ _
 have k1 : w5.cell? ⟨w4.heap.size, 1, none⟩ = some (.slice PA 2 pc) := hc5.cell 1
 have k3 : w5.cell? ⟨w4.heap.size, 3, none⟩ = some (.slice A 0 c) := hc5.cell 3
 have HB5 := Lib.hid (HB3.out.trans ((hb4.trans (hb5.mono hb4.size)).mono HB3.out.size))
 have HP5 := Lib.hid (HCC.out.below HP3.out (hb4.trans (hb5.mono hb4.size)))
 have hcv : (convert 37 9 (.slice PA 2 pc)).run Try.prog w5 = .ok (.string (str hiB)) w5 := tx_str (hdk.pt.below (Nat.le_refl _) hb5) hb5.size pc
 have zs : ((str hiB).toList == [104, 105]) = true := by rw [Book.str_toList]; rfl
 have con := HCC.out.nsend w5 9
 clear hb4 hdk hvm hb5 hc5 HB3 HP3 h4
 go_upto_region 7 with fail
 rw [← hw5]
 clear hw5
 go_wp2_with fail
 refine con.mono ?_
 clear con k1 k3 hcv
 rintro e w6 ⟨rfl, hb6⟩
 have HB6 := Lib.hid (HB5.out.trans (hb6.mono HB5.out.size))
 have HP6 := Lib.hid (HCC.out.below HP5.out hb6)
 clear hb6
 have con := HCC.out.nattach w6 0
 go_wp2_with fail
 refine con.mono ?_
 clear con
 rintro e w7 ⟨rfl, hb7⟩
 have HB7 := Lib.hid (HB6.out.trans (hb7.mono HB6.out.size))
 have HP7 := Lib.hid (HCC.out.below HP6.out hb7)
 clear hb7
 have con := HCC.out.attach w7 l3 g [] lk1 HP7.out lsm1 0
 rw [att1] at con
 go_wp2_with fail
 refine con.mono ?_
 clear con
 rintro e w8 ⟨rfl, hf8, hp8⟩
 have HB8 := Lib.hid (HB7.out.trans (hf8.below HB7.out.size HLG.out))
 clear hf8 hp8
 go_wp2_with fail
 go_ret
 exact ⟨rfl, HB8.out⟩
end Go.Proofs.Ytnjmdgnghidjhaa.Peer
end
section
namespace Go.Proofs.Ytnjmdgnghidjhaa.Rec
open Go.RowKit
open Lex (Tx)
theorem u8_of {x : Int} (h : (Lit.int .u8 x).wf = true) : ∃ b : BitVec 8, x = (b.toNat : Int) := by
 simp [Lit.wf, IntKind.min, IntKind.max, IntKind.bits, IntKind.signed] at h
 refine ⟨BitVec.ofNat 8 x.toNat, ?_⟩
 rw [BitVec.toNat_ofNat, Nat.mod_eq_of_lt (by omega)]
 omega
theorem pick {α : Type} (P : Nat → α → Prop) : ∀ n, (∀ i, i < n → ∃ x, P i x) → ∃ l : List α, l.length = n ∧ ∀ i x, l[i]? = some x → P i x
 | 0, _ => ⟨[], rfl, by simp⟩
 | n + 1, h => by
  obtain ⟨l, hl, hp⟩ := pick P n (fun i hi => h i (by omega))
  obtain ⟨x, hx⟩ := h n (by omega)
  refine ⟨l ++ [x], by simp [hl], fun i y hy => ?_⟩
  rcases Nat.lt_or_ge i l.length with hi | hi
  ·rw [List.getElem?_append_left hi] at hy
   exact hp i y hy
  ·have hi2 : i = n := by have := (List.getElem?_eq_some_iff.1 hy).1; simp at this; omega
   subst hi2
   rw [List.getElem?_append_right hi, show i - l.length = 0 by omega] at hy
   simp at hy
   subst hy
   exact hx
theorem bytes_of_isv {w : World} {A : Option Addr} {l c : Nat} (h : IsV w (.slice (.int .u8)) (.slice A l c)) : ∃ bs : List (BitVec 8), bs.length = l ∧ l ≤ c ∧ l ≤ maxLen ∧ Bs w w.heap.size A l bs := by
 cases h with
 | nil => exact ⟨[], rfl, Nat.le_refl _, Nat.zero_le _, Bs.nil_⟩
 | slice U hl hc hcell hU =>
  rename_i x
  obtain ⟨bs, hbl, hp⟩ := pick (fun i (b : BitVec 8) => U i = v8 b) l (fun i hi => by
   have u0 := hU i hi
   generalize U i = a0 at *
   cases u0 with | int h0 =>
   obtain ⟨b, rfl⟩ := u8_of h0
   exact ⟨b, rfl⟩)
  refine ⟨bs, hbl, hl, by omega, hbl, fun hn => ⟨x, rfl, ?_, fun j hj => ?_⟩⟩
  ·have := cell_lt (hcell 0 hn)
   rwa [add_block] at this
  ·have hj2 : j < bs.length := by omega
   rw [hcell j hj, hp j _ (List.getElem?_eq_getElem hj2), List.getD_eq_getElem?_getD, List.getElem?_eq_getElem hj2]
   rfl
end Go.Proofs.Ytnjmdgnghidjhaa.Rec
end
section
namespace Go.Proofs.Ytnjmdgnghidjhaa.Peer
open Go.RowKit
open Lex (add_at4)
open Rec (pick)
theorem int64_of {x : Int} (h : (Lit.int .i64 x).wf = true) : -9223372036854775808 ≤ x ∧ x < 9223372036854775808 := by
 simp [Lit.wf, IntKind.min, IntKind.max, IntKind.bits, IntKind.signed] at h
 omega
def FitR (v : Rl) : Prop := v.r.line.length ≤ v.c1 ∧ v.r.line.length ≤ maxLen ∧ v.r.out.length ≤ v.c2 ∧ v.r.out.length ≤ maxLen ∧ (-9223372036854775808 ≤ v.r.state ∧ v.r.state < 9223372036854775808) ∧ (-9223372036854775808 ≤ v.r.next ∧ v.r.next < 9223372036854775808)
def rcells (v : Rl) : List Value := [.int .i64 v.r.state, .slice v.A1 v.r.line.length v.c1, .slice v.A2 v.r.out.length v.c2, .int .i64 v.r.next]
theorem rules_of_isv {w : World} {A : Option Addr} {l c : Nat} (h : IsV w (.recs [.int .i64, .slice (.int .u8), .slice (.int .u8), .int .i64]) (.slice A l c)) :
  ∃ vs : List Rl, vs.length = l ∧ l ≤ maxLen ∧ Rls w w.heap.size A vs ∧ ∀ v ∈ vs, FitR v := by
 cases h with
 | rnil => exact ⟨[], rfl, Nat.zero_le _, fun i v hi => by simp at hi, by simp⟩
 | recs U hl hc hcell hU =>
  rename_i x
  obtain ⟨vs, hsl, hp⟩ := pick (fun i (v : Rl) => (∀ k u, (rcells v)[k]? = some u → U i k = u) ∧ (Bs w w.heap.size v.A1 v.r.line.length v.r.line ∧ Bs w w.heap.size v.A2 v.r.out.length v.r.out) ∧ FitR v) l (fun i hi => by
   have u0 := hU i 0 _ hi rfl
   have u1 := hU i 1 _ hi rfl
   have u2 := hU i 2 _ hi rfl
   have u3 := hU i 3 _ hi rfl
   obtain ⟨F, hF⟩ : ∃ F : Nat → Value, F = U i := ⟨_, rfl⟩
   rw [← hF] at u0 u1 u2 u3 ⊢
   clear hU hcell hF
   generalize h0 : F 0 = a0 at *
   generalize h1 : F 1 = a1 at *
   generalize h2 : F 2 = a2 at *
   generalize h3 : F 3 = a3 at *
   cases u0 with | int f0 =>
   obtain ⟨A1, l1, c1, rfl⟩ : ∃ A l c, a1 = .slice A l c := by cases u1 <;> exact ⟨_, _, _, rfl⟩
   obtain ⟨A2, l2, c2, rfl⟩ : ∃ A l c, a2 = .slice A l c := by cases u2 <;> exact ⟨_, _, _, rfl⟩
   cases u3 with | int f3 =>
   obtain ⟨b1, rfl, hc1, hm1, hb1⟩ := Rec.bytes_of_isv u1
   obtain ⟨b2, rfl, hc2, hm2, hb2⟩ := Rec.bytes_of_isv u2
   refine ⟨⟨⟨_, b1, b2, _⟩, A1, c1, A2, c2⟩, fun k u hu => ?_, ⟨hb1, hb2⟩, hc1, hm1, hc2, hm2, int64_of f0, int64_of f3⟩
   have hk : k < 4 := (List.getElem?_eq_some_iff.1 hu).1
   match k, hk with
   | 0, _ => cases hu; exact h0
   | 1, _ => cases hu; exact h1
   | 2, _ => cases hu; exact h2
   | 3, _ => cases hu; exact h3)
  refine ⟨vs, hsl, by omega, fun i v hi => ?_, fun v hv => ?_⟩
  ·have hil : i < l := by have := (List.getElem?_eq_some_iff.1 hi).1; omega
   have hk : ∀ k u, k < 4 → (rcells v)[k]? = some u → w.cell? (x.add (i * 4 + k)) = some u := fun k u hk hu => by
    have c0 := hcell i k hil hk
    rw [(hp i v hi).1 k u hu] at c0
    exact c0
   obtain ⟨hb1, hb2⟩ := (hp i v hi).2.1
   exact ⟨x, rfl, hk 0 _ (by decide) rfl, by rw [add_at4 _ _ 1 (by decide)]; exact hk 1 _ (by decide) rfl, by rw [add_at4 _ _ 2 (by decide)]; exact hk 2 _ (by decide) rfl, by rw [add_at4 _ _ 3 (by decide)]; exact hk 3 _ (by decide) rfl, .inl hb1, .inl hb2⟩
  ·obtain ⟨i, hi⟩ := List.mem_iff_getElem?.1 hv
   exact (hp i v hi).2.2
def FitD (d : Dd) : Prop := d.line.length ≤ d.c ∧ d.line.length ≤ maxLen ∧ (-9223372036854775808 ≤ d.what ∧ d.what < 9223372036854775808) ∧ (-9223372036854775808 ≤ d.k ∧ d.k < 9223372036854775808)
def dcells (d : Dd) : List Value := [.int .i64 d.what, .int .i64 d.k, .slice d.A d.line.length d.c]
theorem deeds_of_isv {w : World} {A : Option Addr} {l c : Nat} (h : IsV w (.recs [.int .i64, .int .i64, .slice (.int .u8)]) (.slice A l c)) :
  ∃ ds : List Dd, ds.length = l ∧ l ≤ maxLen ∧ Dds w w.heap.size A ds ∧ ∀ d ∈ ds, FitD d := by
 cases h with
 | rnil => exact ⟨[], rfl, Nat.zero_le _, fun i v hi => by simp at hi, by simp⟩
 | recs U hl hc hcell hU =>
  rename_i x
  obtain ⟨vs, hsl, hp⟩ := pick (fun i (v : Dd) => (∀ k u, (dcells v)[k]? = some u → U i k = u) ∧ Bs w w.heap.size v.A v.line.length v.line ∧ FitD v) l (fun i hi => by
   have u0 := hU i 0 _ hi rfl
   have u1 := hU i 1 _ hi rfl
   have u2 := hU i 2 _ hi rfl
   obtain ⟨F, hF⟩ : ∃ F : Nat → Value, F = U i := ⟨_, rfl⟩
   rw [← hF] at u0 u1 u2 ⊢
   clear hU hcell hF
   generalize h0 : F 0 = a0 at *
   generalize h1 : F 1 = a1 at *
   generalize h2 : F 2 = a2 at *
   cases u0 with | int f0 =>
   cases u1 with | int f1 =>
   obtain ⟨A2, l2, c2, rfl⟩ : ∃ A l c, a2 = .slice A l c := by cases u2 <;> exact ⟨_, _, _, rfl⟩
   obtain ⟨b2, rfl, hc2, hm2, hb2⟩ := Rec.bytes_of_isv u2
   refine ⟨⟨_, _, b2, A2, c2⟩, fun k u hu => ?_, hb2, hc2, hm2, int64_of f0, int64_of f1⟩
   have hk : k < 3 := (List.getElem?_eq_some_iff.1 hu).1
   match k, hk with
   | 0, _ => cases hu; exact h0
   | 1, _ => cases hu; exact h1
   | 2, _ => cases hu; exact h2)
  refine ⟨vs, hsl, by omega, fun i v hi => ?_, fun v hv => ?_⟩
  ·have hil : i < l := by have := (List.getElem?_eq_some_iff.1 hi).1; omega
   have hk : ∀ k u, k < 3 → (dcells v)[k]? = some u → w.cell? (x.add (i * 3 + k)) = some u := fun k u hk hu => by
    have c0 := hcell i k hil hk
    rw [(hp i v hi).1 k u hu] at c0
    exact c0
   exact ⟨x, rfl, hk 0 _ (by decide) rfl, by rw [add_at4 _ _ 1 (by decide)]; exact hk 1 _ (by decide) rfl, by rw [add_at4 _ _ 2 (by decide)]; exact hk 2 _ (by decide) rfl, .inl (hp i v hi).2.1⟩
  ·obtain ⟨i, hi⟩ := List.mem_iff_getElem?.1 hv
   exact (hp i v hi).2.2
end Go.Proofs.Ytnjmdgnghidjhaa.Peer
end
section
namespace Go.Proofs.Ytnjmdgnghidjhaa.Peer
open Go.RowKit Go.Proofs.Ytnjmdgnghidjhaa.Ord
open Lex (Tx)
open Rec (Vt Tvs Trow txt)
structure Fv where
 PA : Option Addr
 pc : Nat
 LA : Option Addr
 lc : Nat
 A : Option Addr
 c : Nat
 us : List Vt
def ob (A : Option Addr) : Option Nat := A.map (·.block)
theorem ob_own (A : Option Addr) (n c : Nat) : (Value.slice A n c).ownBlock = ob A := by cases A <;> rfl
def Bq (w : World) (K : Nat) (PA LA : Option Addr) (q : Nat) : Prop := K ≤ q ∧ ob PA ≠ some q ∧ ob LA ≠ some q ∧ ∃ cs fz, w.heap[q]? = some (Obj.cells cs 5 fz)
def fcells (p : Pe) (f : Fv) (AR : Option Addr) (nR cR : Nat) : List Value := [.int .i64 p.state, .slice f.PA p.part.length f.pc, .slice f.LA p.log.length f.lc, .slice f.A p.lines.length f.c, .slice AR nR cR]
structure Fd (w : World) (K g : Nat) (AR : Option Addr) (nR cR : Nat) (p : Pe) (f : Fv) : Prop where
 cel : Cel w g 72 (fcells p f AR nR cR)
 pt : w.ownsRow K 5 1 (.slice f.PA p.part.length f.pc) p.part.length (p.part.map v8)
 lg : w.ownsRow K 5 1 (.slice f.LA p.log.length f.lc) p.log.length (p.log.map v8)
 ls : w.ownsRow K 37 1 (.slice f.A p.lines.length f.c) p.lines.length (f.us.map Vt.cell)
 tx : txt f.us = p.lines
 by_ : ∀ u ∈ f.us, Bp w (Bq w K f.PA f.LA) u.A u.t.length u.t ∧ u.t.length ≤ 400
 ap : ∀ q, ob f.PA = some q → ob f.LA ≠ some q
theorem by_keep {w w' : World} {K n : Nat} {PA LA PA' LA' A : Option Addr} {bs : List B} (h : Bp w (Bq w K PA LA) A n bs)
  (hk : ∀ q cs fz, w.heap[q]? = some (Obj.cells cs 5 fz) → K ≤ q → ob PA ≠ some q → ob LA ≠ some q → w'.heap[q]? = w.heap[q]?)
  (hP : ∀ q, ob PA' = some q → ob PA = some q ∨ ob LA = some q ∨ w.heap.size ≤ q) (hL : ∀ q, ob LA' = some q → ob PA = some q ∨ ob LA = some q ∨ w.heap.size ≤ q) : Bp w' (Bq w' K PA' LA') A n bs := by
 have h1 : Bp w' (Bq w K PA LA) A n bs := h.keep fun q ⟨a, b, c, cs, fz, d⟩ _ => hk q cs fz d a b c
 refine ⟨h1.1, fun hn => ?_⟩
 obtain ⟨ad, e, ⟨a, b, c, cs, fz, d⟩, hc⟩ := h1.2 hn
 have hlt := (Array.getElem?_eq_some_iff.1 d).1
 refine ⟨ad, e, ⟨a, fun e' => ?_, fun e' => ?_, cs, fz, (hk _ cs fz d a b c).trans d⟩, hc⟩
 ·rcases hP _ e' with h | h | h
  ·exact b h
  ·exact c h
  ·omega
 ·rcases hL _ e' with h | h | h
  ·exact b h
  ·exact c h
  ·omega
namespace Fd
variable {w w' : World} {K g nR cR : Nat} {AR : Option Addr} {p : Pe} {f : Fv}
theorem below (h : Fd w K g AR nR cR p f) (hb : Below w.heap.size w w') : Fd w' K g AR nR cR p f :=
 ⟨h.cel.below hb h.cel.lt, own_frm (l := []) h.pt (Frm.of_below hb) (by simp), own_frm (l := []) h.lg (Frm.of_below hb) (by simp), own_frm (l := []) h.ls (Frm.of_below hb) (by simp), h.tx,
  fun u hu => ⟨by_keep (h.by_ u hu).1 (fun q cs fz e _ _ _ => hb.block q (Array.getElem?_eq_some_iff.1 e).1) (fun q e => .inl e) (fun q e => .inr (.inl e)), (h.by_ u hu).2⟩, h.ap⟩
theorem drew (h : Fd w K g AR nR cR p f) : Fd w.drew K g AR nR cR p f := h.below (Below.refl _ _).drew
theorem pt_g (h : Fd w K g AR nR cR p f) : ob f.PA ≠ some g := by rw [← ob_own f.PA p.part.length f.pc]; exact own_ty_ne h.pt h.cel (by decide)
theorem lg_g (h : Fd w K g AR nR cR p f) : ob f.LA ≠ some g := by rw [← ob_own f.LA p.log.length f.lc]; exact own_ty_ne h.lg h.cel (by decide)
theorem ls_g (h : Fd w K g AR nR cR p f) : ob f.A ≠ some g := by rw [← ob_own f.A p.lines.length f.c]; exact own_ty_ne h.ls h.cel (by decide)
theorem ls_pt (h : Fd w K g AR nR cR p f) : ∀ q, ob f.A = some q → ob f.PA ≠ some q := by
 intro q; rw [← ob_own f.A p.lines.length f.c, ← ob_own f.PA p.part.length f.pc]; exact own_two h.ls h.pt (by decide) q
theorem ls_lg (h : Fd w K g AR nR cR p f) : ∀ q, ob f.A = some q → ob f.LA ≠ some q := by
 intro q; rw [← ob_own f.A p.lines.length f.c, ← ob_own f.LA p.log.length f.lc]; exact own_two h.ls h.lg (by decide) q
theorem pt_lt (h : Fd w K g AR nR cR p f) : ∀ q, ob f.PA = some q → q < w.heap.size := by intro q; rw [← ob_own f.PA p.part.length f.pc]; exact own_lt h.pt q
theorem lg_lt (h : Fd w K g AR nR cR p f) : ∀ q, ob f.LA = some q → q < w.heap.size := by intro q; rw [← ob_own f.LA p.log.length f.lc]; exact own_lt h.lg q
theorem pt_ge (h : Fd w K g AR nR cR p f) : ∀ q, ob f.PA = some q → K ≤ q := by intro q; rw [← ob_own f.PA p.part.length f.pc]; exact own_ge h.pt q
theorem lg_ge (h : Fd w K g AR nR cR p f) : ∀ q, ob f.LA = some q → K ≤ q := by intro q; rw [← ob_own f.LA p.log.length f.lc]; exact own_ge h.lg q
theorem ls_ge (h : Fd w K g AR nR cR p f) : ∀ q, ob f.A = some q → K ≤ q := by intro q; rw [← ob_own f.A p.lines.length f.c]; exact own_ge h.ls q
theorem rows_set (h : Fd w K g AR nR cR p f) (hf : Frm [g] w w') : w'.ownsRow K 5 1 (.slice f.PA p.part.length f.pc) p.part.length (p.part.map v8) ∧ w'.ownsRow K 5 1 (.slice f.LA p.log.length f.lc) p.log.length (p.log.map v8) ∧
  w'.ownsRow K 37 1 (.slice f.A p.lines.length f.c) p.lines.length (f.us.map Vt.cell) ∧ ∀ u ∈ f.us, Bp w' (Bq w' K f.PA f.LA) u.A u.t.length u.t ∧ u.t.length ≤ 400 := by
 refine ⟨own_frm h.pt hf (fun k hk => ?_), own_frm h.lg hf (fun k hk => ?_), own_frm h.ls hf (fun k hk => ?_), fun u hu => ⟨by_keep (h.by_ u hu).1 (fun q cs fz e _ _ _ => hf.block q (Array.getElem?_eq_some_iff.1 e).1 (fun hm => ?_)) (fun q e => .inl e) (fun q e => .inr (.inl e)), (h.by_ u hu).2⟩⟩
 ·rw [List.mem_singleton.1 hk, ob_own]; exact h.pt_g
 ·rw [List.mem_singleton.1 hk, ob_own]; exact h.lg_g
 ·rw [List.mem_singleton.1 hk, ob_own]; exact h.ls_g
 ·rw [List.mem_singleton.1 hm] at e
  exact h.cel.not_ty (by decide) cs fz e
theorem kill (h : Fd w K g AR nR cR p f) : Fd (w.setCell ⟨g, 1, none⟩ (.slice none 0 0)) K g AR nR cR ⟨p.state, [], p.log, p.lines⟩ { f with PA := none, pc := 0 } := by
 obtain ⟨_, h2, h3, h4⟩ := h.rows_set (w' := w.setCell ⟨g, 1, none⟩ (.slice none 0 0)) ((Frm.refl [g] w).set (p := ⟨g, 1, none⟩) (by simp) _)
 exact ⟨h.cel.set 1 _, World.ownsRow_nil _ _ _ _, h2, h3, h.tx, fun u hu => ⟨by_keep (h4 u hu).1 (fun q cs fz e _ _ _ => rfl) (fun q e => (by cases e)) (fun q e => .inr (.inl e)), (h4 u hu).2⟩, fun q e => (by cases e)⟩
theorem more (h : Fd w K g AR nR cR p f) (b : B) {A' : Option Addr} {c' : Nat} (ho : w'.ownsRow K 5 1 (.slice A' (p.part.length + 1) c') (p.part.length + 1) ((p.part ++ [b]).map v8)) (hg : w.grownBy w' (ob f.PA)) (hn : ob A' = ob f.PA ∨ ob A' = some w.heap.size) :
  Fd (w'.setCell ⟨g, 1, none⟩ (.slice A' (p.part.length + 1) c')) K g AR nR cR ⟨p.state, p.part ++ [b], p.log, p.lines⟩ { f with PA := A', pc := c' } := by
 have hf0 : Frm (ob f.PA).toList w w' := (Frm.refl _ w).grown hg (fun q e _ => by simp [e])
 have hc0 := h.cel.grown hg h.pt_g
 have hn' : ∀ q, ob A' = some q → ob f.PA = some q ∨ ob f.LA = some q ∨ w.heap.size ≤ q := fun q e => by
  rcases hn with e' | e'
  ·exact .inl (e' ▸ e)
  ·rw [e'] at e; injection e with e; exact .inr (.inr (by omega))
 have hap : ∀ q, ob A' = some q → ob f.LA ≠ some q := fun q e e2 => by
  rcases hn with e' | e'
  ·exact h.ap q (e' ▸ e) e2
  ·rw [e'] at e; injection e with e
   have := h.lg_lt q e2
   omega
 have l1 : w'.ownsRow K 5 1 (.slice f.LA p.log.length f.lc) p.log.length (p.log.map v8) := own_frm h.lg hf0 (fun k hk => by rw [ob_own]; exact h.ap k (by simpa using hk))
 have l2 : w'.ownsRow K 37 1 (.slice f.A p.lines.length f.c) p.lines.length (f.us.map Vt.cell) := own_frm h.ls hf0 (fun k hk => by rw [ob_own]; exact fun e => h.ls_pt k e (by simpa using hk))
 have l3 : ∀ u ∈ f.us, Bp w' (Bq w' K A' f.LA) u.A u.t.length u.t ∧ u.t.length ≤ 400 := fun u hu => ⟨by_keep (h.by_ u hu).1 (fun q cs fz e _ e1 _ => hg.block q (Array.getElem?_eq_some_iff.1 e).1 (fun e' => e1 e'.symm)) hn' (fun q e => .inr (.inl e)), (h.by_ u hu).2⟩
 have hf : Frm [g] w' (w'.setCell ⟨g, 1, none⟩ (.slice A' (p.part.length + 1) c')) := (Frm.refl [g] w').set (p := ⟨g, 1, none⟩) (by simp) _
 have hl : (p.part ++ [b]).length = p.part.length + 1 := by simp
 have o1 := own_frm ho hf (fun k hk => by rw [List.mem_singleton.1 hk]; exact own_ty_ne ho hc0 (by decide))
 refine ⟨?_, by dsimp only; rw [hl]; exact o1, own_frm l1 hf (fun k hk => by rw [List.mem_singleton.1 hk]; exact own_ty_ne l1 hc0 (by decide)), own_frm l2 hf (fun k hk => by rw [List.mem_singleton.1 hk]; exact own_ty_ne l2 hc0 (by decide)), h.tx, fun u hu => ⟨by_keep (l3 u hu).1 (fun q cs fz e _ _ _ => hf.block q (Array.getElem?_eq_some_iff.1 e).1 (fun hm => ?_)) (fun q e => .inl e) (fun q e => .inr (.inl e)), (l3 u hu).2⟩, hap⟩
 ·have := hc0.set 1 (.slice A' (p.part.length + 1) c')
  unfold fcells at this ⊢
  simpa using this
 ·rw [List.mem_singleton.1 hm] at e
  exact hc0.not_ty (by decide) cs fz e
theorem line (h : Fd w K g AR nR cR p f) (hpl : p.part.length ≤ 400) {A' : Option Addr} {c' : Nat} (ho : w'.ownsRow K 37 1 (.slice A' (p.lines.length + 1) c') (p.lines.length + 1) (f.us.map Vt.cell ++ [.slice f.PA p.part.length f.pc])) (hg : w.grownBy w' (ob f.A)) (hn : ob A' = ob f.A ∨ ob A' = some w.heap.size) :
  Fd ((w'.setCell ⟨g, 3, none⟩ (.slice A' (p.lines.length + 1) c')).setCell ⟨g, 1, none⟩ (.slice none 0 0)) K g AR nR cR ⟨p.state, [], p.log, p.lines ++ [p.part]⟩ { f with PA := none, pc := 0, A := A', c := c', us := f.us ++ [⟨f.PA, f.pc, p.part⟩] } := by
 have hf0 : Frm (ob f.A).toList w w' := (Frm.refl _ w).grown hg (fun q e _ => by simp [e])
 have hc0 := h.cel.grown hg h.ls_g
 have l1 : w'.ownsRow K 5 1 (.slice f.LA p.log.length f.lc) p.log.length (p.log.map v8) := own_frm h.lg hf0 (fun k hk => by rw [ob_own]; exact h.ls_lg k (by simpa using hk))
 have l2 : w'.ownsRow K 5 1 (.slice f.PA p.part.length f.pc) p.part.length (p.part.map v8) := own_frm h.pt hf0 (fun k hk => by rw [ob_own]; exact h.ls_pt k (by simpa using hk))
 have hbk : ∀ q cs fz, w.heap[q]? = some (Obj.cells cs 5 fz) → w'.heap[q]? = w.heap[q]? := fun q cs fz e => hg.block q (Array.getElem?_eq_some_iff.1 e).1 (fun e' => own_not_ty h.ls (by decide) q cs fz (by rw [ob_own]; exact e'.symm) e)
 have l3 : ∀ u ∈ f.us, Bp w' (Bq w' K none f.LA) u.A u.t.length u.t ∧ u.t.length ≤ 400 := fun u hu => ⟨by_keep (h.by_ u hu).1 (fun q cs fz e _ _ _ => hbk q cs fz e) (fun q e => (by cases e)) (fun q e => .inr (.inl e)), (h.by_ u hu).2⟩
 have l4 : Bp w' (Bq w' K none f.LA) f.PA p.part.length p.part := by
  refine ⟨rfl, fun hn0 => ?_⟩
  have hb := (Bp.of_own l2 rfl)
  obtain ⟨ad, e, ⟨e1, hKq⟩, hc⟩ := hb.2 hn0
  have e2 : ob f.PA = some ad.block := by rw [ob_own] at e1; exact e1
  have hy := By.of_own l2
  obtain ⟨ad', e', hty, _⟩ := hy.2 hn0
  rw [e] at e'
  injection e' with e'
  subst e'
  exact ⟨ad, e, (show Bq w' K none f.LA ad.block from ⟨hKq, fun e => (by cases e), h.ap _ e2, hty⟩), hc⟩
 have hf : Frm [g] w' ((w'.setCell ⟨g, 3, none⟩ (.slice A' (p.lines.length + 1) c')).setCell ⟨g, 1, none⟩ (.slice none 0 0)) := ((Frm.refl [g] w').set (p := ⟨g, 3, none⟩) (by simp) _).set (p := ⟨g, 1, none⟩) (by simp) _
 have hl : (p.lines ++ [p.part]).length = p.lines.length + 1 := by simp
 have o1 := own_frm ho hf (fun k hk => by rw [List.mem_singleton.1 hk]; exact own_ty_ne ho hc0 (by decide))
 have hby : ∀ {A : Option Addr} {n : Nat} {bs : List B}, Bp w' (Bq w' K none f.LA) A n bs → Bp ((w'.setCell ⟨g, 3, none⟩ (.slice A' (p.lines.length + 1) c')).setCell ⟨g, 1, none⟩ (.slice none 0 0)) (Bq ((w'.setCell ⟨g, 3, none⟩ (.slice A' (p.lines.length + 1) c')).setCell ⟨g, 1, none⟩ (.slice none 0 0)) K none f.LA) A n bs := fun hq => by_keep hq (fun q cs fz e _ _ _ => hf.block q (Array.getElem?_eq_some_iff.1 e).1 (fun hm => by
  rw [List.mem_singleton.1 hm] at e
  exact hc0.not_ty (by decide) cs fz e)) (fun q e => .inl e) (fun q e => .inr (.inl e))
 refine ⟨?_, World.ownsRow_nil _ _ _ _, own_frm l1 hf (fun k hk => by rw [List.mem_singleton.1 hk]; exact own_ty_ne l1 hc0 (by decide)), ?_, ?_, fun u hu => ?_, fun q e => (by cases e)⟩
 ·have := (hc0.set 3 (.slice A' (p.lines.length + 1) c')).set 1 (.slice none 0 0)
  unfold fcells at this ⊢
  simpa using this
 ·show World.ownsRow _ K 37 1 (.slice A' (p.lines ++ [p.part]).length c') (p.lines ++ [p.part]).length ((f.us ++ [(⟨f.PA, f.pc, p.part⟩ : Vt)]).map Vt.cell)
  rw [hl, List.map_append]
  exact o1
 ·unfold txt
  rw [List.map_append]
  show txt f.us ++ [p.part] = p.lines ++ [p.part]
  rw [h.tx]
 ·rcases List.mem_append.1 hu with hu | hu
  ·exact ⟨hby (l3 u hu).1, (l3 u hu).2⟩
  ·rw [List.mem_singleton.1 hu]
   exact ⟨hby l4, hpl⟩
theorem says (h : Fd w K g AR nR cR p f) (s : Int) (o : List B) {A' : Option Addr} {c' n' : Nat} (hn' : n' = (p.log ++ o).length) (ho : w'.ownsRow K 5 1 (.slice A' n' c') n' ((p.log ++ o).map v8)) (hg : w.grownBy w' (ob f.LA)) (hn : ob A' = ob f.LA ∨ ob A' = some w.heap.size) :
  Fd ((w'.setCell ⟨g, 2, none⟩ (.slice A' n' c')).setCell ⟨g, 0, none⟩ (.int .i64 s)) K g AR nR cR ⟨s, p.part, p.log ++ o, p.lines⟩ { f with LA := A', lc := c' } := by
 subst hn'
 have hf0 : Frm (ob f.LA).toList w w' := (Frm.refl _ w).grown hg (fun q e _ => by simp [e])
 have hc0 := h.cel.grown hg h.lg_g
 have hn2 : ∀ q, ob A' = some q → ob f.PA = some q ∨ ob f.LA = some q ∨ w.heap.size ≤ q := fun q e => by
  rcases hn with e' | e'
  ·exact .inr (.inl (e' ▸ e))
  ·rw [e'] at e; injection e with e; exact .inr (.inr (by omega))
 have hap : ∀ q, ob f.PA = some q → ob A' ≠ some q := fun q e e2 => by
  rcases hn with e' | e'
  ·exact h.ap q e (e' ▸ e2)
  ·rw [e'] at e2; injection e2 with e2
   have := h.pt_lt q e
   omega
 have l1 : w'.ownsRow K 5 1 (.slice f.PA p.part.length f.pc) p.part.length (p.part.map v8) := own_frm h.pt hf0 (fun k hk => by rw [ob_own]; exact fun e => h.ap k e (by simpa using hk))
 have l2 : w'.ownsRow K 37 1 (.slice f.A p.lines.length f.c) p.lines.length (f.us.map Vt.cell) := own_frm h.ls hf0 (fun k hk => by rw [ob_own]; exact fun e => h.ls_lg k e (by simpa using hk))
 have l3 : ∀ u ∈ f.us, Bp w' (Bq w' K f.PA A') u.A u.t.length u.t ∧ u.t.length ≤ 400 := fun u hu => ⟨by_keep (h.by_ u hu).1 (fun q cs fz e _ _ e1 => hg.block q (Array.getElem?_eq_some_iff.1 e).1 (fun e' => e1 e'.symm)) (fun q e => .inl e) hn2, (h.by_ u hu).2⟩
 have hf : Frm [g] w' ((w'.setCell ⟨g, 2, none⟩ (.slice A' (p.log ++ o).length c')).setCell ⟨g, 0, none⟩ (.int .i64 s)) := ((Frm.refl [g] w').set (p := ⟨g, 2, none⟩) (by simp) _).set (p := ⟨g, 0, none⟩) (by simp) _
 refine ⟨?_, own_frm l1 hf (fun k hk => by rw [List.mem_singleton.1 hk]; exact own_ty_ne l1 hc0 (by decide)), own_frm ho hf (fun k hk => by rw [List.mem_singleton.1 hk]; exact own_ty_ne ho hc0 (by decide)), own_frm l2 hf (fun k hk => by rw [List.mem_singleton.1 hk]; exact own_ty_ne l2 hc0 (by decide)), h.tx, fun u hu => ⟨by_keep (l3 u hu).1 (fun q cs fz e _ _ _ => hf.block q (Array.getElem?_eq_some_iff.1 e).1 (fun hm => ?_)) (fun q e => .inl e) (fun q e => .inr (.inl e)), (l3 u hu).2⟩, hap⟩
 ·have := (hc0.set 2 (.slice A' (p.log ++ o).length c')).set 0 (.int .i64 s)
  unfold fcells at this ⊢
  simpa using this
 ·rw [List.mem_singleton.1 hm] at e
  exact hc0.not_ty (by decide) cs fz e
end Fd
def ansR (rs : List Ru) (p : Pe) (x : List B) : Pe := match meets rs p.state x with
 | none => p
 | some r => ⟨r.next, p.part, p.log ++ r.out, p.lines⟩
theorem line_ans (rs : List Ru) (p : Pe) (x : List B) : lineR rs p x = ansR rs ⟨p.state, [], p.log, p.lines ++ [x]⟩ x := by
 unfold lineR ansR
 dsimp only
 cases meets rs p.state x <;> rfl
theorem bytesP : ByteRow Try.prog 37 5 := ByteRow.mk' Try.underlying37 (by kernel_rfl)
theorem infoLn : (Try.prog.info? 37).map (fun i => (i.zero, i.size, i.bytes)) = some (some (.slice none 0 0), 1, 24) := by kernel_rfl
theorem rowLn : ElemRow Try.prog 47 37 1 24 := ElemRow.mk' Try.underlying47 infoLn rfl (by decide)
theorem equal_ (w : World) (A1 A2 : Option Addr) (c1 c2 : Nat) (x y : List B) (h1 : Bs w w.heap.size A1 x.length x) (h2 : Bs w w.heap.size A2 y.length y) :
  Calls Try.prog 35 #[.slice A1 x.length c1, .slice A2 y.length c2] w fun e w' => e = .returned (.bool (decide (x = y))) ∧ w = w' := by
 have e1 := (Bs.bp h1).string c1 Try.underlying37 Try.underlying5 Try.underlying9
 have e2 := (Bs.bp h2).string c2 Try.underlying37 Try.underlying5 Try.underlying9
 have sb := Book.str_beq x y
 cases hz : decide (x = y) with
 | true =>
  rw [hz] at sb
  clear h1 h2 hz
  go_enter Try.func35, Try.ntmps35
  go_wp2_with fail
  go_ret
  exact ⟨rfl, rfl⟩
 | false =>
  rw [hz] at sb
  clear h1 h2 hz
  go_enter Try.func35, Try.ntmps35
  go_wp2_with fail
  go_ret
  exact ⟨rfl, rfl⟩
end Go.Proofs.Ytnjmdgnghidjhaa.Peer
end
