/-
Texts: VarsNames ChkRef ChkTarget ChkVars RegRef
-/
import Derived.Test.YteohlpmojfjjdaaGreatR0
import Derived.Test.YteohlpmojfjjdaaGreatR1
import Derived.Test.YteohlpmojfjjdaaGreatR2
import Derived.Test.YteohlpmojfjjdaaGreatR3
import Derived.Test.YteohlpmojfjjdaaGreatR4
import Derived.Test.YteohlpmojfjjdaaGreatR6
import Derived.Test.YteohlpmojfjjdaaGreatR7
import Derived.Test.YteohlpmojfjjdaaGreatR8
import Derived.Test.YteohlpmojfjjdaaGreatR13
set_option linter.unusedVariables false
set_option linter.unusedSimpArgs false
set_option maxRecDepth 100000
set_option maxHeartbeats 4000000
section
namespace Go.Proofs.YteohlpmojfjjdaaGreat.Vars
open Go.RowKit
open Lex (letter digit within b_ne drop_at Owb lit_one rowB run_cutMid bs_cut add_pos')
theorem infoStr : (Tryz.prog.info? 9).map (fun i => (i.zero, i.size, i.bytes)) = some (some (.string ByteArray.empty), 1, 16) := by kernel_rfl
theorem rowStr : ElemRow Tryz.prog 28 9 1 16 := ElemRow.mk' Tryz.underlying28 infoStr rfl (by decide)
def scell (n : List (BitVec 8)) : Value := .string (str n)
def Ons (w : World) (D : Nat) (A : Option Addr) (n c : Nat) (ns : List (List (BitVec 8))) : Prop := w.ownsRow D 9 1 (.slice A n c) n (ns.map scell)
theorem Ons.len {w : World} {D n c : Nat} {A : Option Addr} {ns : List (List (BitVec 8))} (h : Ons w D A n c ns) : ns.length = n := by have := h.1; simpa using this
theorem Ons.nil_ (w : World) (D : Nat) : Ons w D none 0 0 [] := World.ownsRow_nil _ _ _ _
theorem Ons.below {w w' : World} {D n c : Nat} {A : Option Addr} {ns : List (List (BitVec 8))} (h : Ons w D A n c ns) (hb : Below w.heap.size w w') : Ons w' D A n c ns := own_frm (l := []) h (Frm.of_below hb) (by simp)
theorem Ons.grew {w w' : World} {D n c : Nat} {A : Option Addr} {ns : List (List (BitVec 8))} (h : Ons w D A n c ns) (hg : w.grownBy w' (Value.slice A n c).ownBlock) (hB : D ≤ w.heap.size) : Below D w w' :=
 ⟨hg.os, hg.tape, hg.output, hg.size, fun k hk => hg.block k (by omega) fun e => by have := own_ge h k e.symm; omega⟩
def NmSays (w : World) (r : Except Nat (List (List (BitVec 8)))) (e : Ending) (w' : World) : Prop := Below w.heap.size w w' ∧ match r with
 | .error p => e = .returned (.tuple #[.slice none 0 0, .int .i64 (p : Int)])
 | .ok ns => ∃ A' n' c', e = .returned (.tuple #[.slice A' n' c', .int .i64 (-1)]) ∧ Ons w' w.heap.size A' n' c' ns
theorem names_ (w : World) (B : Nat) (A : Option Addr) (n c : Nat) (s : List (BitVec 8)) (hs : Bs w B A n s) (hB : B ≤ w.heap.size) (hn : n ≤ 100000) (hcap : n ≤ c) :
  Calls Tryz.prog 70 #[.slice A n c] w (NmSays w (names s)) := by
 obtain ⟨T, hT⟩ : ∃ T, T = names s := ⟨_, rfl⟩
 rw [← hT]
 have HS := Lib.hid hs
 have hsl := hs.len
 have HSL := Lib.hid hsl
 have HK0 := Lib.hid (show ∀ f, n - 0 < f → T = nadd [] (namesR f 0 (s.drop 0)) from fun f hf => by rw [nadd_nil, hT, List.drop_zero]; exact namesR_fuel _ _ _ _ (by omega) (by omega))
 clear hs hsl hT
 go_enter Tryz.func70, Tryz.ntmps70
 go_wp2_with fail
 go_loopw [4, 5] (fun v4 v5 wr => ∃ (q m c4 : Nat) (A4 : Option Addr) (o : List (List (BitVec 8))), q ≤ n ∧ m ≤ q ∧ v5 = .int .i64 (q : Int) ∧ v4 = .slice A4 m c4 ∧ Ons wr w.heap.size A4 m c4 o ∧ Below w.heap.size w wr ∧ Hid (∀ f, n - q < f → T = nadd o (namesR f q (s.drop q)))) (fun _ v5 _ => n - (intOf v5).toNat)
 case atStart => exact ⟨0, 0, 0, none, [], Nat.zero_le _, Nat.le_refl _, rfl, rfl, Ons.nil_ _ _, Below.refl _ _, HK0⟩
 case round =>
  clear HK0
  obtain ⟨q, m, c4, A4, o, hq, hmq, rfl, rfl, ho, hb, HK⟩ := hrel
  obtain ⟨W0, rfl⟩ : ∃ W0, W0 = wr := ⟨_, rfl⟩
  have HO := Lib.hid ho
  have HBW := Lib.hid hb
  have hws := hb.size
  clear ho hb
  rcases Nat.lt_or_ge q n with hlt | hge
  ·obtain ⟨x, hx⟩ : ∃ x, s[q]? = some x := ⟨_, List.getElem?_eq_getElem (by rw [HSL.out]; exact hlt)⟩
   have HSW := Lib.hid (HS.out.below (HBW.out.mono hB))
   obtain ⟨bd, rfl, _, b0⟩ := HSW.out.at_ hlt
   rw [List.getD_eq_getElem?_getD, hx] at b0
   change _ = some (v8 x) at b0
   have HX := Lib.hid hx
   clear hx
   by_cases h36 : x = 36#8
   ·have con := name_ W0 B (some bd) n c s HSW.out hn (q + 1) (by omega)
    rw [show ((q + 1 : Nat) : Int) = (q : Int) + 1 by omega] at con
    have hlen : (s.drop (q + 1)).length = n - (q + 1) := by rw [List.length_drop, HSL.out]
    have hnl := nameR_le (s.drop (q + 1))
    rw [hlen] at hnl
    have HD := Lib.hid (show s.drop q = 36#8 :: s.drop (q + 1) by rw [← h36]; exact drop_at HX.out)
    obtain ⟨k, hk⟩ : ∃ k, k = nameR (s.drop (q + 1)) := ⟨_, rfl⟩
    have HKK := Lib.hid hk
    rw [← hk] at con hnl
    subst h36
    clear hk hlen
    by_cases hk0 : k = 0
    ·subst hk0
     rcases Nat.lt_or_ge (q + 1) n with hlt2 | hge2
     ·obtain ⟨y, hy⟩ : ∃ y, s[q + 1]? = some y := ⟨_, List.getElem?_eq_getElem (by rw [HSL.out]; exact hlt2)⟩
      obtain ⟨bd2, hbd, _, b1⟩ := HSW.out.at_ hlt2
      cases hbd
      rw [List.getD_eq_getElem?_getD, hy, add_pos' bd (q + 1) (by omega)] at b1
      change _ = some (v8 y) at b1
      have HY := Lib.hid hy
      clear hy
      by_cases hy36 : y = 36#8
      ·have HN := Lib.hid (show ∀ f, n - (q + 2) < f → T = nadd o (namesR f (q + 2) (s.drop (q + 2))) from fun f hf => by
        have := HK.out (f + (n - q) + 1) (by omega)
        rw [HD.out, drop_at HY.out, hy36, namesR_two] at this
        rw [this]
        congr 1
        exact namesR_fuel _ _ _ _ (by rw [List.length_drop, HSL.out]; omega) (by rw [List.length_drop, HSL.out]; omega))
       subst hy36
       clear HK
       go_wp2_with fail
       refine con.mono ?_
       rintro e w' ⟨rfl, rfl⟩
       go_wp2_with fail
       exact ⟨⟨q + 2, m, c4, A4, o, by omega, by omega, by rw [show ((q + 2 : Nat) : Int) = (q : Int) + 2 by omega], rfl, HO.out, HBW.out, HN⟩, by simp [intOf]; omega⟩
      ·have HN := Lib.hid (show T = .error q by
        have := HK.out (n - q + 1) (by omega)
        rw [HD.out, drop_at HY.out, namesR_bad (by rw [← drop_at HY.out]; exact HKK.out.symm) hy36] at this
        exact this)
       have e36 : ((y.toNat : Int) == 36) = false := b_ne (k := 36) (by decide) hy36
       clear HK hy36
       go_wp2_with fail
       refine con.mono ?_
       rintro e w' ⟨rfl, rfl⟩
       go_wp2_with fail
       go_ret2
       rw [HN.out]
       exact ⟨HBW.out, rfl⟩
     ·have HN := Lib.hid (show T = .error q by
       have := HK.out (n - q + 1) (by omega)
       rw [HD.out, List.drop_eq_nil_of_le (by rw [HSL.out]; exact hge2), namesR_none rfl] at this
       exact this)
      clear HK
      go_wp2_with fail
      refine con.mono ?_
      rintro e w' ⟨rfl, rfl⟩
      go_wp2_with fail
      go_ret2
      rw [HN.out]
      exact ⟨HBW.out, rfl⟩
    ·have ek0 : ((k : Int) == 0) = false := by simp; omega
     by_cases h20 : 20 < k
     ·have HN := Lib.hid (show T = .error q by
       have := HK.out (n - q + 1) (by omega)
       rw [HD.out, namesR_long (by rw [← HKK.out]; exact hk0) (by rw [← HKK.out]; exact h20)] at this
       exact this)
      clear HK
      go_wp2_with fail
      refine con.mono ?_
      rintro e w' ⟨rfl, rfl⟩
      go_wp2_with fail
      go_ret2
      rw [HN.out]
      exact ⟨HBW.out, rfl⟩
     ·obtain ⟨nm, hnm⟩ : ∃ nm, nm = (s.drop (q + 1)).take k := ⟨_, rfl⟩
      have HN := Lib.hid (show ∀ f, n - (q + 1 + k) < f → T = nadd (o ++ [nm]) (namesR f (q + 1 + k) (s.drop (q + 1 + k))) from fun f hf => by
       have := HK.out (f + (n - q) + 1) (by omega)
       rw [HD.out, namesR_go (by rw [← HKK.out]; exact hk0) (by rw [← HKK.out]; exact h20), ← HKK.out, nadd_nadd, List.drop_drop] at this
       rw [this, hnm]
       congr 1
       exact namesR_fuel _ _ _ _ (by rw [List.length_drop, HSL.out]; omega) (by rw [List.length_drop, HSL.out]; omega))
      obtain ⟨st, hst⟩ : ∃ st, st = str nm := ⟨_, rfl⟩
      obtain ⟨Bc, d, dc, hcut⟩ : ∃ (Bc : Option Addr) (d dc : Nat), (∀ V, (Instr.sliceAt 41 (.slice (some bd) n c) (some (.int .i64 ((q : Int) + 1))) (some (.int .i64 ((q : Int) + 1 + (k : Int)))) none).run Tryz.prog V = .ok (.slice Bc d dc) V) ∧ (∀ V : World, Bs V B (some bd) n s → (convert 41 9 (.slice Bc d dc)).run Tryz.prog V = .ok (.string st) V) :=
       ⟨_, _, _, fun V => by rw [show (q : Int) + 1 + (k : Int) = ((q + 1 + k : Nat) : Int) by omega, show (q : Int) + 1 = ((q + 1 : Nat) : Int) by omega]; exact run_cutMid (size := 1) V Tryz.underlying41 (by kernel_rfl) (some bd) n c (q + 1) (q + 1 + k) .i64 .i64 (by omega) (by omega), fun V hV => by
        have hb := bs_cut hV (show q + 1 ≤ q + 1 + k by omega) (by omega) hcap
        rw [List.drop_take, show q + 1 + k - (q + 1) = k by omega, ← hnm] at hb
        have := (Bs.bp hb).string (c - (q + 1)) (P := Tryz.prog) (src := 41) (dst := 9) Tryz.underlying41 Tryz.underlying5 Tryz.underlying9
        rw [show q + 1 + k - (q + 1) = k by omega, hst]
        exact this⟩
      have HCUT := Lib.hid hcut
      have hcv := hcut.2 W0 HSW.out
      have hbA : Below W0.heap.size W0 (W0.alloc (.cells #[.string st] 9)) := (Below.refl _ _).alloc (Nat.le_refl _) _
      have HOA := Lib.hid (HO.out.below hbA)
      have HBA := Lib.hid (HBW.out.trans (hbA.mono hws))
      have HSRC := Lib.hid (Ry.src (m := 1) (Ry.of_cel (Cel.new W0 9 [.string st])) (by simp))
      have h1c : ∀ u ∈ [Value.string st], u.oneCell' = true := by intro u hu; rw [List.mem_singleton.1 hu]; rfl
      have HSV := Lib.hid (show scell nm = .string st by rw [hst]; rfl)
      have hBA := HBA.out.size
      clear hcut hbA HK hnm HKK hst
      go_wp2_with fail
      refine con.mono ?_
      clear con
      rintro e w' ⟨rfl, rfl⟩
      go_wp2_with (first
       | (refine wpList_slice rfl 41 (.tmp 45) (some (.tmp 47)) (some (.tmp 51)) none rfl (.slice Bc d dc) ?_ ?_; exact HCUT.out.1 _)
       | (at_builtin; refine wpList_append_any _ rfl _ _ 28 rfl w.heap.size 9 rowStr (.slice A4 m c4) m (o.map scell) rfl HOA.out (some ⟨W0.heap.size, 0, none⟩) 1 1 [.string st] rfl rfl HSRC.out h1c (m + 1) _ rfl rfl (by unfold maxLen; omega) (by omega) hBA ?_; intro A8 c8 w8 ho8 hg8 _; have HB8 := Lib.hid (HBA.out.trans (HOA.out.grew hg8 hBA)); have HO8 := Lib.hid (show Ons w8 w.heap.size A8 (m + 1) c8 (o ++ [nm]) by unfold Ons; rw [List.map_append, List.map_cons, List.map_nil, HSV.out]; exact ho8); clear ho8 hg8))
      exact ⟨⟨q + 1 + k, m + 1, c8, A8, _, by omega, by omega, by rw [show ((q + 1 + k : Nat) : Int) = (q : Int) + 1 + (k : Int) by omega], rfl, HO8.out, HB8.out, HN⟩, by simp [intOf]; omega⟩
   ·have HN := Lib.hid (show ∀ f, n - (q + 1) < f → T = nadd o (namesR f (q + 1) (s.drop (q + 1))) from fun f hf => by
     have := HK.out (f + (n - q) + 1) (by omega)
     rw [drop_at HX.out, namesR_plain h36] at this
     rw [this]
     congr 1
     exact namesR_fuel _ _ _ _ (by rw [List.length_drop, HSL.out]; omega) (by rw [List.length_drop, HSL.out]; omega))
    have e36 : ((x.toNat : Int) == 36) = false := b_ne (k := 36) (by decide) h36
    have n36 : ((x.toNat : Int) != 36) = true := by unfold bne; rw [e36]; rfl
    clear HK h36
    go_wp2_with fail
    exact ⟨⟨q + 1, m, c4, A4, o, by omega, by omega, by rw [show ((q + 1 : Nat) : Int) = (q : Int) + 1 by omega], rfl, HO.out, HBW.out, HN⟩, by simp [intOf]; omega⟩
  ·obtain rfl : q = n := by omega
   have HN := Lib.hid (show T = .ok o by
    have := HK.out 1 (by omega)
    rw [List.drop_eq_nil_of_le (by rw [HSL.out]; exact Nat.le_refl _), namesR_nil] at this
    rw [this]; simp [nadd])
   clear HK
   go_wp2_with fail
   go_ret2
   rw [HN.out]
   exact ⟨HBW.out, A4, m, c4, rfl, HO.out⟩
end Go.Proofs.YteohlpmojfjjdaaGreat.Vars
end
section
namespace Go.Proofs.YteohlpmojfjjdaaGreat.Chk
open Go.RowKit
open Lex (Tx Cr cr_ry)
open Vars (scell)
open Book (str_beq)
structure Ga where
 g : GArm
 A : Option Addr
 c : Nat
def Ga.cells (v : Ga) : List Value := [.int .i64 v.g.at_, .slice v.A v.g.pat.length v.c, .string (str v.g.as_), .string (str v.g.go)]
def gaflat (vs : List Ga) : List Value := vs.flatMap Ga.cells
structure Gs where
 g : GStep
 A4 : Option Addr
 c4 : Nat
 A5 : Option Addr
 c5 : Nat
 avs : List Ga
def Gs.cells (v : Gs) : List Value := [.int .i64 v.g.at_, .string (str v.g.name), .int .i64 v.g.tag, .bool v.g.sends, .slice v.A4 v.g.send.length v.c4, .slice v.A5 v.g.arms.length v.c5, .int .i64 v.g.time, .int .i64 v.g.try_, .string (str v.g.els)]
def gsflat (vs : List Gs) : List Value := vs.flatMap Gs.cells
structure Gbk (w : World) (B : Nat) (A : Option Addr) (vs : List Gs) : Prop where
 ry : Cr w A (gsflat vs)
 send : ∀ v ∈ vs, Tx w B v.A4 v.g.send
 arms : ∀ v ∈ vs, Cr w v.A5 (gaflat v.avs) ∧ v.avs.map (·.g) = v.g.arms
 pats : ∀ v ∈ vs, ∀ u ∈ v.avs, Tx w B u.A u.g.pat
theorem Gbk.below {w w' : World} {B : Nat} {A : Option Addr} {vs : List Gs} (h : Gbk w B A vs) (hB : B ≤ w.heap.size) (hb : Below w.heap.size w w') : Gbk w' B A vs :=
 ⟨h.ry.below hb, fun v hv => (h.send v hv).below hB hb, fun v hv => ⟨(h.arms v hv).1.below hb, (h.arms v hv).2⟩, fun v hv u hu => (h.pats v hv u hu).below hB hb⟩
theorem flat_at {α : Type} (f : α → List Value) (m : Nat) (hm : ∀ x, (f x).length = m) : ∀ (vs : List α) (i k : Nat) (v : α), vs[i]? = some v → k < m → (vs.flatMap f)[i * m + k]? = (f v)[k]?
 | [], _, _, _, h, _ => by simp at h
 | u :: us, 0, k, v, h, hk => by
  simp at h
  subst h
  rw [List.flatMap_cons, List.getElem?_append_left (by rw [hm]; omega), Nat.zero_mul, Nat.zero_add]
 | u :: us, i + 1, k, v, h, hk => by
  have h1 := flat_at f m hm us i k v (by simpa using h) hk
  rw [List.flatMap_cons, List.getElem?_append_right (by rw [hm]; have := Nat.le_add_left m (i * m); rw [Nat.succ_mul]; omega), hm, ← h1]
  congr 1
  rw [Nat.succ_mul]; omega
theorem add_at9 (ad : Addr) (i k : Nat) (hk : 0 < k) : (⟨(ad.add i).block, (ad.add i).off + k, none⟩ : Addr) = ad.add (i + k) := Lex.add_at4 ad i k hk
theorem Gbk.cell {w : World} {B : Nat} {A : Option Addr} {vs : List Gs} (h : Gbk w B A vs) {i : Nat} {v : Gs} (hi : vs[i]? = some v) : ∃ ad, A = some ad ∧ ∀ k u, v.cells[k]? = some u → w.cell? (ad.add (i * 9 + k)) = some u := by
 have e : ∀ k, k < 9 → (gsflat vs)[i * 9 + k]? = v.cells[k]? := fun k hk => flat_at Gs.cells 9 (fun _ => rfl) vs i k v hi hk
 obtain ⟨ad, rfl, hc⟩ := h.ry (fun q => by have := e 0 (by decide); rw [q] at this; simp [Gs.cells] at this)
 refine ⟨ad, rfl, fun k u hu => hc _ _ ?_⟩
 rw [e k (by have := (List.getElem?_eq_some_iff.1 hu).1; exact this)]
 exact hu
theorem Gbk.acell {w : World} {B : Nat} {A : Option Addr} {vs : List Gs} (h : Gbk w B A vs) {i : Nat} {v : Gs} (hi : vs[i]? = some v) {j : Nat} {a : Ga} (hj : v.avs[j]? = some a) : ∃ ad, v.A5 = some ad ∧ ∀ k u, a.cells[k]? = some u → w.cell? (ad.add (j * 4 + k)) = some u := by
 have e : ∀ k, k < 4 → (gaflat v.avs)[j * 4 + k]? = a.cells[k]? := fun k hk => flat_at Ga.cells 4 (fun _ => rfl) v.avs j k a hj hk
 obtain ⟨ad, h5, hc⟩ := (h.arms v (List.mem_of_getElem? hi)).1 (fun q => by have := e 0 (by decide); rw [q] at this; simp [Ga.cells] at this)
 refine ⟨ad, h5, fun k u hu => hc _ _ ?_⟩
 rw [e k (by have := (List.getElem?_eq_some_iff.1 hu).1; exact this)]
 exact hu
def Nms (w : World) (A : Option Addr) (ns : List (List B)) : Prop := Cr w A (ns.map scell)
theorem Nms.at_ {w : World} {A : Option Addr} {ns : List (List B)} (h : Nms w A ns) {i : Nat} {x : List B} (hi : ns[i]? = some x) : ∃ ad, A = some ad ∧ w.cell? (ad.add i) = some (.string (str x)) := by
 have e : (ns.map scell)[i]? = some (scell x) := by rw [List.getElem?_map, hi]; rfl
 obtain ⟨ad, rfl, hc⟩ := h (fun q => by rw [q] at e; simp at e)
 exact ⟨ad, rfl, hc _ _ e⟩
theorem at_ (w : World) (A : Option Addr) (n c : Nat) (ns : List (List B)) (h : Nms w A ns) (hl : ns.length = n) (hn : n ≤ 100000) (nm : List B) :
  Calls Tryz.prog 20 #[.slice A n c, .string (str nm)] w fun e w' => e = .returned (.int .i64 (atOf ns nm)) ∧ w = w' := by
 have H := Lib.hid h
 have HL := Lib.hid hl
 have HS := Lib.hid (fun x : List B => str_beq x nm)
 generalize hs' : str nm = s' at *
 clear h hl hs'
 go_enter Tryz.func20, Tryz.ntmps20
 go_wp2_with fail
 go_loopw [5] (fun v5 wr => ∃ (i : Nat), i ≤ n ∧ v5 = .int .i64 (i : Int) ∧ w = wr ∧ Hid (atOf ns nm = atF (ns.drop i) nm i)) (fun v5 _ => n - (intOf v5).toNat)
 case atStart => exact ⟨0, Nat.zero_le _, rfl, rfl, Lib.hid rfl⟩
 case round =>
  obtain ⟨i, hi, rfl, hw, HK⟩ := hrel
  obtain ⟨W0, rfl⟩ : ∃ W0, W0 = wr := ⟨_, rfl⟩
  subst hw
  rcases Nat.lt_or_ge i n with hlt | hge
  ·obtain ⟨x, hx⟩ : ∃ x, ns[i]? = some x := ⟨_, List.getElem?_eq_getElem (by rw [HL.out]; exact hlt)⟩
   obtain ⟨ad, rfl, k0⟩ := H.out.at_ hx
   have hlx : i < ns.length := by rw [HL.out]; exact hlt
   have HD := Lib.hid (show ns.drop i = x :: ns.drop (i + 1) by
    rw [List.drop_eq_getElem_cons hlx]
    have := (List.getElem?_eq_some_iff.1 hx).2
    rw [this])
   have hsx := HS.out x
   obtain ⟨sx, hsx'⟩ : ∃ sx, sx = str x := ⟨_, rfl⟩
   rw [← hsx'] at hsx k0
   clear hx hsx' hlx
   by_cases he : x = nm
   ·rw [decide_eq_true he] at hsx
    have HE := Lib.hid (show atOf ns nm = (i : Int) by rw [HK.out, HD.out, atF_hit he])
    clear he HK
    go_wp2_with fail
    go_ret
    exact ⟨by rw [HE.out]; rfl, rfl⟩
   ·rw [decide_eq_false he] at hsx
    have HK2 := Lib.hid (show atOf ns nm = atF (ns.drop (i + 1)) nm (i + 1) by rw [HK.out, HD.out, atF_miss he])
    clear he HK
    go_wp2_with fail
    exact ⟨⟨i + 1, by omega, by rw [show ((i + 1 : Nat) : Int) = (i : Int) + 1 by omega], trivial, HK2⟩, by simp [intOf]; omega⟩
  ·obtain rfl : i = n := by omega
   have HE := Lib.hid (show atOf ns nm = -1 by rw [HK.out, List.drop_eq_nil_of_le (by rw [HL.out]; exact Nat.le_refl _)]; rfl)
   go_wp2_with fail
   go_ret
   exact ⟨by rw [HE.out]; rfl, rfl⟩
end Go.Proofs.YteohlpmojfjjdaaGreat.Chk
end
section
namespace Go.Proofs.YteohlpmojfjjdaaGreat.Chk
open Go.RowKit
open Lex (Tx Cr cr_ry)
open Vars (scell)
open Book (str_beq)
def TgSays (w : World) (t : Int × Bool) (e : Ending) (w' : World) : Prop := e = .returned (.tuple #[.int .i64 t.1, .bool t.2]) ∧ Below w.heap.size w w'
theorem target_ (w : World) (B : Nat) (A : Option Addr) (n c : Nat) (vs : List Gs) (h : Gbk w B A vs) (hB : B ≤ w.heap.size) (hl : vs.length = n) (hn : n ≤ 100000) (most : Int) (nm : List (BitVec 8)) :
  Calls Tryz.prog 19 #[.agg #[.int .i64 most, .slice A n c], .string (str nm)] w (TgSays w (target ⟨most, vs.map (·.g)⟩ nm)) := by
 have hb1 : Below w.heap.size w (w.alloc (.cells #[.int .i64 most, .slice A n c] 38)) := (Below.refl _ _).alloc (Nat.le_refl _) _
 have HB1 := Lib.hid hb1
 by_cases h1 : nm = wDone
 ·have HT := Lib.hid (show target ⟨most, vs.map (·.g)⟩ nm = (-1, true) by unfold target; rw [if_pos h1])
  subst h1
  rw [show str wDone = ByteArray.mk #[100, 111, 110, 101] from rfl]
  clear h hb1
  go_enter Tryz.func19, Tryz.ntmps19
  go_wp2_with fail
  go_ret2
  rw [HT.out]
  exact ⟨rfl, HB1.out⟩
 have e1 : ((str nm).toList == [100, 111, 110, 101]) = false := by rw [show [100, 111, 110, 101] = (str wDone).toList by rw [Book.str_toList]; rfl, str_beq, decide_eq_false h1]
 by_cases h2 : nm = wFail
 ·have HT := Lib.hid (show target ⟨most, vs.map (·.g)⟩ nm = (-2, true) by unfold target; rw [if_neg h1, if_pos h2])
  subst h2
  rw [show str wFail = ByteArray.mk #[102, 97, 105, 108] from rfl]
  clear h hb1 e1
  go_enter Tryz.func19, Tryz.ntmps19
  go_wp2_with fail
  go_ret2
  rw [HT.out]
  exact ⟨rfl, HB1.out⟩
 have e2 : ((str nm).toList == [102, 97, 105, 108]) = false := by rw [show [102, 97, 105, 108] = (str wFail).toList by rw [Book.str_toList]; rfl, str_beq, decide_eq_false h2]
 by_cases h3 : nm = wDoubt
 ·have HT := Lib.hid (show target ⟨most, vs.map (·.g)⟩ nm = (-3, true) by unfold target; rw [if_neg h1, if_neg h2, if_pos h3])
  subst h3
  rw [show str wDoubt = ByteArray.mk #[100, 111, 117, 98, 116] from rfl]
  clear h hb1 e1 e2
  go_enter Tryz.func19, Tryz.ntmps19
  go_wp2_with fail
  go_ret2
  rw [HT.out]
  exact ⟨rfl, HB1.out⟩
 have e3 : ((str nm).toList == [100, 111, 117, 98, 116]) = false := by rw [show [100, 111, 117, 98, 116] = (str wDoubt).toList by rw [Book.str_toList]; rfl, str_beq, decide_eq_false h3]
 have HT := Lib.hid (show target ⟨most, vs.map (·.g)⟩ nm = tgF (vs.map (·.g)) nm 0 by unfold target; rw [if_neg h1, if_neg h2, if_neg h3])
 have H := Lib.hid (h.below hB hb1)
 have HL := Lib.hid hl
 have HS := Lib.hid (fun x : List (BitVec 8) => str_beq x nm)
 generalize hs' : str nm = s' at *
 have hc1 := Cel.new w 38 [.int .i64 most, .slice A n c]
 obtain ⟨w1, hw1⟩ : ∃ w1, w1 = w.alloc (.cells #[.int .i64 most, .slice A n c] 38) := ⟨_, rfl⟩
 have k1 : w1.cell? ⟨w.heap.size, 1, none⟩ = some (.slice A n c) := by rw [hw1]; exact hc1.cell 1
 rw [← hw1] at H HB1
 clear h hl hs' h1 h2 h3 hb1 hc1
 go_enter Tryz.func19, Tryz.ntmps19
 go_wp2_with fail
 rw [← hw1]
 clear hw1
 go_loopw [6] (fun v6 wr => ∃ (i : Nat), i ≤ n ∧ v6 = .int .i64 (i : Int) ∧ w1 = wr ∧ Hid (tgF (vs.map (·.g)) nm 0 = tgF ((vs.map (·.g)).drop i) nm i)) (fun v6 _ => n - (intOf v6).toNat)
 case atStart => exact ⟨0, Nat.zero_le _, rfl, rfl, Lib.hid rfl⟩
 case round =>
  obtain ⟨i, hi, rfl, hw, HK⟩ := hrel
  obtain ⟨W0, rfl⟩ : ∃ W0, W0 = wr := ⟨_, rfl⟩
  subst hw
  rcases Nat.lt_or_ge i n with hlt | hge
  ·obtain ⟨x, hx⟩ : ∃ x, vs[i]? = some x := ⟨_, List.getElem?_eq_getElem (by rw [HL.out]; exact hlt)⟩
   obtain ⟨ad, rfl, hcell⟩ := H.out.cell hx
   have k2 := hcell 1 _ rfl
   rw [← add_at9 ad (i * 9) 1 (by decide)] at k2
   have HD := Lib.hid (show (vs.map (·.g)).drop i = x.g :: (vs.map (·.g)).drop (i + 1) by
    have hl2 : i < (vs.map (·.g)).length := by rw [List.length_map, HL.out]; exact hlt
    rw [List.drop_eq_getElem_cons hl2, List.getElem_map]
    have := (List.getElem?_eq_some_iff.1 hx).2
    rw [this])
   have hsx := HS.out x.g.name
   obtain ⟨sx, hsx'⟩ : ∃ sx, sx = str x.g.name := ⟨_, rfl⟩
   rw [← hsx'] at hsx k2
   clear hx hsx' hcell
   by_cases he : x.g.name = nm
   ·rw [decide_eq_true he] at hsx
    have HE := Lib.hid (show target ⟨most, vs.map (·.g)⟩ nm = ((i : Int), true) by rw [HT.out, HK.out, HD.out, tgF_hit he])
    clear he HK
    go_wp2_with fail
    go_ret2
    rw [HE.out]
    exact ⟨rfl, HB1.out⟩
   ·rw [decide_eq_false he] at hsx
    have HK2 := Lib.hid (show tgF (vs.map (·.g)) nm 0 = tgF ((vs.map (·.g)).drop (i + 1)) nm (i + 1) by rw [HK.out, HD.out, tgF_miss he])
    clear he HK
    go_wp2_with fail
    exact ⟨⟨i + 1, by omega, by rw [show ((i + 1 : Nat) : Int) = (i : Int) + 1 by omega], trivial, HK2⟩, by simp [intOf]; omega⟩
  ·obtain rfl : i = n := by omega
   have HE := Lib.hid (show target ⟨most, vs.map (·.g)⟩ nm = (0, false) by rw [HT.out, HK.out, List.drop_eq_nil_of_le (by rw [List.length_map, HL.out]; exact Nat.le_refl _)]; rfl)
   go_wp2_with fail
   go_ret2
   rw [HE.out]
   exact ⟨rfl, HB1.out⟩
end Go.Proofs.YteohlpmojfjjdaaGreat.Chk
end
section
namespace Go.Proofs.YteohlpmojfjjdaaGreat.Chk
open Go.RowKit
open Lex (Tx Cr cr_ry)
open Vars (scell Ons rowStr)
open Book (str_beq)
theorem own_mono {w : World} {b b' e size n : Nat} {v : Value} {us : List Value} (h : w.ownsRow b e size v n us) (hb : b' ≤ b) : w.ownsRow b' e size v n us :=
 ⟨h.1, h.2.imp id fun ⟨g, cap, cur, h1, h2, h3⟩ => ⟨g, cap, cur, h1, Nat.le_trans hb h2, h3⟩⟩
def sumA (vs : List Gs) : Nat := (vs.map fun v => v.g.arms.length).sum
theorem drop_at' {α : Type} {l : List α} {i : Nat} {x : α} (h : l[i]? = some x) : l.drop i = x :: l.drop (i + 1) := by
 obtain ⟨hl, hx⟩ := List.getElem?_eq_some_iff.1 h
 rw [List.drop_eq_getElem_cons hl, hx]
theorem sumA_at {vs : List Gs} {i : Nat} {v : Gs} (h : vs[i]? = some v) : sumA (vs.drop i) = v.g.arms.length + sumA (vs.drop (i + 1)) := by
 rw [drop_at' h]; simp [sumA]
theorem str_empty {a : List (BitVec 8)} : ((str a).toList == []) = decide (a = []) := by
 rw [Book.str_toList]
 cases a <;> simp
def VrSays (w : World) (ns : List (List B)) (e : Ending) (w' : World) : Prop := ∃ A c, e = .returned (.slice A ns.length c) ∧ Ons w' w.heap.size A ns.length c ns ∧ Below w.heap.size w w' ∧ ns.length ≤ 50000
theorem vars_ (w : World) (T : Nat) (A : Option Addr) (n c : Nat) (vs : List Gs) (h : Gbk w T A vs) (hT : T ≤ w.heap.size) (hl : vs.length = n) (hn : n ≤ 50000) (hs : sumA vs ≤ 50000) (most : Int) :
  Calls Tryz.prog 18 #[.agg #[.int .i64 most, .slice A n c]] w (VrSays w (varsOf ⟨most, vs.map (·.g)⟩)) := by
 have hb1 : Below w.heap.size w (w.alloc (.cells #[.int .i64 most, .slice A n c] 38)) := (Below.refl _ _).alloc (Nat.le_refl _) _
 have hc1 := Cel.new w 38 [.int .i64 most, .slice A n c]
 obtain ⟨w1, hw1⟩ : ∃ w1, w1 = w.alloc (.cells #[.int .i64 most, .slice A n c] 38) := ⟨_, rfl⟩
 have H := Lib.hid (show Gbk w1 T A vs by rw [hw1]; exact h.below hT hb1)
 have HC1 := Lib.hid (show Cel w1 w.heap.size 38 [.int .i64 most, .slice A n c] by rw [hw1]; exact hc1)
 have HB1 := Lib.hid (show Below w.heap.size w w1 by rw [hw1]; exact hb1)
 have HL := Lib.hid hl
 have hT1 : T ≤ w1.heap.size := Nat.le_trans hT HB1.out.size
 clear h hl hb1 hc1
 go_enter Tryz.func18, Tryz.ntmps18
 go_wp2_with fail
 rw [← hw1]
 clear hw1
 go_loopw [3, 4] (fun v3 v4 wr => ∃ (i : Nat) (A3 : Option Addr) (c3 : Nat) (o : List (List (BitVec 8))), i ≤ n ∧ v4 = .int .i64 (i : Int) ∧ v3 = .slice A3 o.length c3 ∧ Ons wr w1.heap.size A3 o.length c3 o ∧ Below w1.heap.size w1 wr ∧ o.length + sumA (vs.drop i) ≤ 50000 ∧ Hid (varsOf ⟨most, vs.map (·.g)⟩ = ((vs.drop i).map (·.g)).foldl varS o)) (fun _ v4 _ => n - (intOf v4).toNat)
 case atStart => exact ⟨0, none, 0, [], Nat.zero_le _, rfl, rfl, Vars.Ons.nil_ _ _, Below.refl _ _, by simpa using hs, Lib.hid (by rw [List.drop_zero]; rfl)⟩
 case round =>
  obtain ⟨i, A3, c3, o, hi, rfl, rfl, ho, hb, hsum, HK⟩ := hrel
  obtain ⟨W0, hW0⟩ : ∃ W0, W0 = wr := ⟨_, rfl⟩
  rw [← hW0] at ho hb ⊢
  clear hW0
  have HO := Lib.hid ho
  have HB := Lib.hid hb
  have HC0 := Lib.hid (Cel.below HC1.out hb HC1.out.lt)
  have H0 := Lib.hid (H.out.below hT1 hb)
  have k1 := HC0.out.cell 1
  change _ = some (Value.slice A n c) at k1
  clear ho hb
  rcases Nat.lt_or_ge i n with hlt | hge
  ·obtain ⟨x, hx⟩ : ∃ x, vs[i]? = some x := ⟨_, List.getElem?_eq_getElem (by rw [HL.out]; exact hlt)⟩
   rw [sumA_at hx] at hsum
   obtain ⟨ad, rfl, hcell⟩ := H0.out.cell hx
   have k5 := hcell 5 _ rfl
   rw [← add_at9 ad (i * 9) 5 (by decide)] at k5
   have HCELL := Lib.hid hcell
   have HX := Lib.hid hx
   obtain ⟨m, hm⟩ : ∃ m, m = x.g.arms.length := ⟨_, rfl⟩
   rw [← hm] at k5 hsum
   have HM := Lib.hid hm
   have HD := Lib.hid (show (vs.drop i).map (·.g) = x.g :: (vs.drop (i + 1)).map (·.g) by rw [drop_at' hx]; rfl)
   have ham : x.avs.length = m := by rw [hm, ← (H0.out.arms x (List.mem_of_getElem? hx)).2]; simp
   have HAM := Lib.hid ham
   have HAG := Lib.hid (H0.out.arms x (List.mem_of_getElem? hx)).2
   obtain ⟨S, hS⟩ : ∃ S, S = sumA (vs.drop (i + 1)) := ⟨_, rfl⟩
   rw [← hS] at hsum
   have HS := Lib.hid hS
   clear hx hcell hm ham hS
   go_wp2_with fail
   go_loopw [3, 5] (fun v3 v5 wr => ∃ (j : Nat) (A4 : Option Addr) (c4 : Nat) (o' : List (List (BitVec 8))), j ≤ m ∧ v5 = .int .i64 (j : Int) ∧ v3 = .slice A4 o'.length c4 ∧ Ons wr w1.heap.size A4 o'.length c4 o' ∧ Below w1.heap.size w1 wr ∧ o'.length + (m - j) + S ≤ 50000 ∧ Hid (varS o x.g = (x.g.arms.drop j).foldl varA o')) (fun _ v5 _ => m - (intOf v5).toNat)
   case atStart => exact ⟨0, A3, c3, o, Nat.zero_le _, rfl, rfl, HO.out, HB.out, by omega, Lib.hid (by rw [List.drop_zero]; rfl)⟩
   case round =>
    obtain ⟨j, A4, c4, o', hj, rfl, rfl, ho, hb, hsm, HK2⟩ := hrel
    obtain ⟨W2, hW2⟩ : ∃ W2, W2 = wr := ⟨_, rfl⟩
    rw [← hW2] at ho hb ⊢
    clear hW2 k1 k5
    have HO2 := Lib.hid ho
    have HB2 := Lib.hid hb
    have HC2 := Lib.hid (Cel.below HC1.out hb HC1.out.lt)
    have H2 := Lib.hid (H.out.below hT1 hb)
    have k1 := HC2.out.cell 1
    change _ = some (Value.slice (some ad) n c) at k1
    obtain ⟨ad', had, hcell⟩ := H2.out.cell HX.out
    cases had
    have k5 := hcell 5 _ rfl
    rw [← add_at9 ad (i * 9) 5 (by decide), ← HM.out] at k5
    clear ho hb hcell
    rcases Nat.lt_or_ge j m with hlj | hgj
    ·obtain ⟨a, ha⟩ : ∃ a, x.avs[j]? = some a := ⟨_, List.getElem?_eq_getElem (by rw [HAM.out]; exact hlj)⟩
     obtain ⟨ad5, h5, hac⟩ := H2.out.acell HX.out ha
     have k2 := hac 2 _ rfl
     rw [← add_at9 ad5 (j * 4) 2 (by decide)] at k2
     rw [h5] at k5
     have HDJ := Lib.hid (show x.g.arms.drop j = a.g :: x.g.arms.drop (j + 1) by
      rw [← HAG.out]
      exact drop_at' (by rw [List.getElem?_map, ha]; rfl))
     have hem := str_empty (a := a.g.as_)
     have con := at_ W2 A4 o'.length c4 o' (cr_ry (Ry.of_own HO2.out (by decide))) rfl (by omega) a.g.as_
     have HSC := Lib.hid (show scell a.g.as_ = .string (str a.g.as_) from rfl)
     obtain ⟨st, hst⟩ : ∃ st, st = str a.g.as_ := ⟨_, rfl⟩
     rw [← hst] at k2 hem con HSC
     obtain ⟨z, hz⟩ : ∃ z, z = atOf o' a.g.as_ := ⟨_, rfl⟩
     rw [← hz] at con
     have HZ := Lib.hid hz
     clear hac ha hst hz
     by_cases hemp : a.g.as_ = []
     ·rw [decide_eq_true hemp] at hem
      have HK3 := Lib.hid (show varS o x.g = (x.g.arms.drop (j + 1)).foldl varA o' by
       rw [HK2.out, HDJ.out, List.foldl_cons]
       rw [show varA o' a.g = o' by unfold varA; rw [if_neg (by simp [hemp])]])
      clear hemp HK2 con
      go_wp2_with fail
      exact ⟨⟨j + 1, A4, c4, o', by omega, by rw [show ((j + 1 : Nat) : Int) = (j : Int) + 1 by omega], rfl, HO2.out, HB2.out, by omega, HK3⟩, by simp [intOf]; omega⟩
     ·rw [decide_eq_false hemp] at hem
      by_cases hneg : z < 0
      ·have hzd : decide (z < 0) = true := decide_eq_true hneg
       have HK3 := Lib.hid (show varS o x.g = (x.g.arms.drop (j + 1)).foldl varA (o' ++ [a.g.as_]) by
        rw [HK2.out, HDJ.out, List.foldl_cons]
        rw [show varA o' a.g = o' ++ [a.g.as_] by unfold varA; rw [if_pos ⟨hemp, by rw [← HZ.out]; exact hneg⟩]])
       have hbA : Below W2.heap.size W2 (W2.alloc (.cells #[.string st] 9)) := (Below.refl _ _).alloc (Nat.le_refl _) _
       have HOA := Lib.hid (Vars.Ons.below HO2.out hbA)
       have HBA := Lib.hid (HB2.out.trans (hbA.mono HB2.out.size))
       have hBA : w1.heap.size ≤ (W2.alloc (.cells #[.string st] 9)).heap.size := HBA.out.size
       have HSRC := Lib.hid (Ry.src (m := 1) (Ry.of_cel (Cel.new W2 9 [.string st])) (by simp))
       have h1c : ∀ u ∈ [Value.string st], u.oneCell' = true := by intro u hu; rw [List.mem_singleton.1 hu]; rfl
       clear hemp HK2 hbA hneg
       go_wp2_with fail
       refine con.mono ?_
       clear con
       rintro e w' ⟨rfl, rfl⟩
       go_wp2_with ((at_builtin; refine wpList_append_any _ rfl _ _ 28 rfl w1.heap.size 9 rowStr (.slice A4 o'.length c4) o'.length (o'.map scell) rfl HOA.out (some ⟨W2.heap.size, 0, none⟩) 1 1 [.string st] rfl rfl HSRC.out h1c (o'.length + 1) _ rfl rfl (by unfold maxLen; omega) (by omega) hBA ?_; intro A8 c8 w8 ho8 hg8 _; have HB8 := Lib.hid (HBA.out.trans (Vars.Ons.grew HOA.out hg8 hBA)); have HO8 := Lib.hid (show Ons w8 w1.heap.size A8 (o'.length + 1) c8 (o' ++ [a.g.as_]) by unfold Ons; rw [List.map_append, List.map_cons, List.map_nil, HSC.out]; exact ho8); clear ho8 hg8))
       exact ⟨⟨j + 1, A8, c8, o' ++ [a.g.as_], by omega, by rw [show ((j + 1 : Nat) : Int) = (j : Int) + 1 by omega], by simp, by rw [show (o' ++ [a.g.as_]).length = o'.length + 1 by simp]; exact HO8.out, HB8.out, by simp; omega, HK3⟩, by simp [intOf]; omega⟩
      ·have hzd : decide (z < 0) = false := decide_eq_false hneg
       have HK3 := Lib.hid (show varS o x.g = (x.g.arms.drop (j + 1)).foldl varA o' by
        rw [HK2.out, HDJ.out, List.foldl_cons]
        rw [show varA o' a.g = o' by unfold varA; rw [if_neg (by rw [← HZ.out]; exact fun hh => hneg hh.2)]])
       clear hemp HK2 hneg
       go_wp2_with fail
       refine con.mono ?_
       clear con
       rintro e w' ⟨rfl, rfl⟩
       go_wp2_with fail
       exact ⟨⟨j + 1, A4, c4, o', by omega, by rw [show ((j + 1 : Nat) : Int) = (j : Int) + 1 by omega], rfl, HO2.out, HB2.out, by omega, HK3⟩, by simp [intOf]; omega⟩
    ·obtain rfl : j = m := by omega
     have HK3 := Lib.hid (show varsOf ⟨most, vs.map (·.g)⟩ = ((vs.drop (i + 1)).map (·.g)).foldl varS o' by
      rw [HK.out, HD.out, List.foldl_cons, HK2.out, List.drop_eq_nil_of_le (by rw [← HM.out]; exact Nat.le_refl _)]; rfl)
     clear HK
     go_wp2_with fail
     exact ⟨⟨i + 1, A4, c4, o', by omega, by rw [show ((i + 1 : Nat) : Int) = (i : Int) + 1 by omega], rfl, HO2.out, HB2.out, by rw [← HS.out]; omega, HK3⟩, by simp [intOf]; omega⟩
  ·obtain rfl : i = n := by omega
   have HE := Lib.hid (show varsOf ⟨most, vs.map (·.g)⟩ = o by rw [HK.out, List.drop_eq_nil_of_le (by rw [HL.out]; exact Nat.le_refl _)]; rfl)
   go_wp2_with fail
   go_ret
   rw [HE.out]
   exact ⟨A3, c3, rfl, own_mono HO.out HB1.out.size, HB1.out.trans (HB.out.mono HB1.out.size), by omega⟩
end Go.Proofs.YteohlpmojfjjdaaGreat.Chk
end
section
namespace Go.Proofs.YteohlpmojfjjdaaGreat.Reg
open Go.RowKit
def Rc (w : World) (b : Nat) (sv : Value) (bad place : Nat) : Prop := Cel w b 161 [sv, .int .i64 (bad : Int), .int .i64 (place : Int)]
structure Ra (w w' : World) (b : Nat) (sv : Value) (bad place : Nat) : Prop where
 rc : Rc w' b sv bad place
 frm : Frm [b] w w'
theorem Rc.lt {w : World} {b bad p : Nat} {sv : Value} (h : Rc w b sv bad p) : b < w.heap.size := Cel.lt h
theorem Ra.refl {w : World} {b bad p : Nat} {sv : Value} (h : Rc w b sv bad p) : Ra w w b sv bad p := ⟨h, Frm.refl _ _⟩
theorem Ra.trans {w w1 w2 : World} {b bad p bad' p' : Nat} {sv : Value} (h : Ra w w1 b sv bad p) (h2 : Ra w1 w2 b sv bad' p') : Ra w w2 b sv bad' p' := ⟨h2.rc, h.frm.trans h2.frm⟩
theorem Ra.below {w w1 w2 : World} {b bad p : Nat} {sv : Value} (h : Ra w w1 b sv bad p) (hb : Below w1.heap.size w1 w2) : Ra w w2 b sv bad p := ⟨Cel.below h.rc hb h.rc.lt, h.frm.trans (Frm.of_below hb)⟩
theorem Ra.bs {w w' : World} {b bad p : Nat} {sv : Value} (h : Ra w w' b sv bad p) {A : Option Addr} {B n : Nat} {s : List (BitVec 8)} (hs : Bs w B A n s) (hB : B ≤ b) (hw : b < w.heap.size) : Bs w' B A n s := hs.below (h.frm.below (by omega) (by simp; omega))
theorem Ra.setNew {w w1 : World} {b bad p : Nat} {sv : Value} (h : Ra w w1 b sv bad p) {g : Nat} (hg : w.heap.size ≤ g) (hw : b < w.heap.size) (i : Nat) (u : Value) : Ra w (w1.setCell ⟨g, i, none⟩ u) b sv bad p :=
 ⟨Cel.far h.rc (by simp; omega) u, h.frm.setNew hg u⟩
theorem Ra.setNew3 {w w1 : World} {b bad p : Nat} {sv : Value} (h : Ra w w1 b sv bad p) {g : Nat} (hg : w.heap.size ≤ g) (hw : b < w.heap.size) (u0 u1 u2 : Value) : Ra w (((w1.setCell ⟨g, 0, none⟩ u0).setCell ⟨g, 1, none⟩ u1).setCell ⟨g, 2, none⟩ u2) b sv bad p :=
 ((h.setNew hg hw 0 u0).setNew hg hw 1 u1).setNew hg hw 2 u2
theorem rwrong (w : World) (b : Nat) (sv : Value) (k bad p : Nat) (h : Rc w b sv 0 p) :
  Calls Tryz.prog 109 #[.pointer (some ⟨b, 0, none⟩), .int .i64 (k : Int), .int .i64 (bad : Int)] w fun e w' => e = .returned (.tuple #[]) ∧ Ra w w' b sv bad k := by
 have h1 := Cel.cell h 1
 have f1 := Cel.free h 1
 have h2 := Cel.cell h 2
 have f2 := Cel.free h 2
 have H := Lib.hid h
 clear h
 go_enter Tryz.func109, Tryz.ntmps109
 go_wp2_with fail
 go_end0
 exact ⟨rfl, (Cel.set H.out 1 _).set 2 _, ((Frm.refl [b] w).set (by simp) _).set (by simp) _⟩
theorem ris (w : World) (B b : Nat) (A : Option Addr) (n c bad p k : Nat) (s : List (BitVec 8)) (x : BitVec 8) (h : Rc w b (.slice A n c) bad p) (hs : Bs w B A n s) :
  Calls Tryz.prog 142 #[.pointer (some ⟨b, 0, none⟩), .int .i64 (k : Int), v8 x] w fun e w' => e = .returned (.bool (decide (s[k]? = some x))) ∧ w = w' := by
 have h0 := Cel.cell h 0
 have hl := hs.len
 rcases Nat.lt_or_ge k n with hlt | hge
 ·obtain ⟨ad, rfl, _, hc⟩ := hs.at_ hlt
  have e : s[k]? = some (s.getD k 0#8) := by rw [List.getD_eq_getElem?_getD, List.getElem?_eq_getElem (by omega)]; rfl
  have e2 : decide (s[k]? = some x) = (((s.getD k 0#8).toNat : Int) == (x.toNat : Int)) := by
   rw [e, Bool.eq_iff_iff]
   simp only [beq_iff_eq, decide_eq_true_eq, Option.some.injEq]
   exact ⟨fun q => by rw [q], fun q => BitVec.eq_of_toNat_eq (by omega)⟩
  rw [e2]
  generalize s.getD k 0#8 = y at *
  have d1 : decide ((k : Int) < (n : Int)) = true := by simp; omega
  clear h hs e e2
  go_enter Tryz.func142, Tryz.ntmps142
  go_wp2_with fail
  go_ret
  exact ⟨rfl, rfl⟩
 ·have e : s[k]? = none := List.getElem?_eq_none (by omega)
  rw [e]
  have d1 : decide (k < n) = false := by simp; omega
  clear h hs e
  go_enter Tryz.func142, Tryz.ntmps142
  go_wp2_with fail
  go_ret
  exact ⟨rfl, rfl⟩
theorem rnamed (w : World) (x : BitVec 8) :
  Calls Tryz.prog 192 #[v8 x] w fun e w' => e = .returned (.bool (named x)) ∧ w = w' := by
 unfold named
 by_cases h1 : 48 ≤ x.toNat
 all_goals by_cases h2 : x.toNat ≤ 57
 all_goals by_cases h3 : 65 ≤ x.toNat
 all_goals by_cases h4 : x.toNat ≤ 90
 all_goals by_cases h5 : 97 ≤ x.toNat
 all_goals by_cases h6 : x.toNat ≤ 122
 all_goals first | (exfalso; omega) | skip
 all_goals
  go_enter Tryz.func192, Tryz.ntmps192
  go_wp2_with fail
  go_ret
  simp [*] <;> omega
def escd (s : List (BitVec 8)) (k : Nat) : Except Nat (BitVec 8 × Nat) := match s[k]? with
 | none => .error k
 | some c => match escB c with
  | none => .error k
  | some y => .ok (y, k + 1)
def RbSays (w : World) (b : Nat) (sv : Value) (p n : Nat) (x : Except Nat (BitVec 8 × Nat)) (e : Ending) (w' : World) : Prop := match x with
 | .error q => ∃ (u : BitVec 8) (j : Nat), e = .returned (.tuple #[v8 u, .int .i64 (j : Int)]) ∧ j ≤ n + 2 ∧ Ra w w' b sv 2 q
 | .ok (y, j) => e = .returned (.tuple #[v8 y, .int .i64 (j : Int)]) ∧ Ra w w' b sv 0 p
theorem rescaped (w : World) (B b : Nat) (A : Option Addr) (n c p k : Nat) (s : List (BitVec 8)) (h : Rc w b (.slice A n c) 0 p) (hs : Bs w B A n s) (hk : k ≤ n) (hn : n ≤ 100000) :
  Calls Tryz.prog 178 #[.pointer (some ⟨b, 0, none⟩), .int .i64 (k : Int)] w (RbSays w b (.slice A n c) p n (escd s k)) := by
 have h0 := Cel.cell h 0
 have hl := hs.len
 have H := Lib.hid h
 rcases Nat.lt_or_ge k n with hlt | hge
 ·obtain ⟨ad, rfl, _, hc⟩ := hs.at_ hlt
  have e : s[k]? = some (s.getD k 0#8) := by rw [List.getD_eq_getElem?_getD, List.getElem?_eq_getElem (by omega)]; rfl
  unfold escd
  rw [e]
  dsimp only
  generalize s.getD k 0#8 = y at *
  have d1 : decide (n ≤ k) = false := by simp; omega
  clear h hs e
  unfold escB
  have e1 : ((y.toNat : Int) == 110) = decide (y = 110#8) := v8_lit (by decide)
  have e2 : ((y.toNat : Int) == 116) = decide (y = 116#8) := v8_lit (by decide)
  have e3 : ((y.toNat : Int) == 114) = decide (y = 114#8) := v8_lit (by decide)
  by_cases h1 : y = 110#8
  ·subst h1
   go_enter Tryz.func178, Tryz.ntmps178
   go_wp2_with fail
   go_ret2
   exact ⟨rfl, Ra.refl H.out⟩
  by_cases h2 : y = 116#8
  ·subst h2
   go_enter Tryz.func178, Tryz.ntmps178
   go_wp2_with fail
   go_ret2
   exact ⟨rfl, Ra.refl H.out⟩
  by_cases h3 : y = 114#8
  ·subst h3
   go_enter Tryz.func178, Tryz.ntmps178
   go_wp2_with fail
   go_ret2
   exact ⟨rfl, Ra.refl H.out⟩
  rw [decide_eq_false h1] at e1
  rw [decide_eq_false h2] at e2
  rw [decide_eq_false h3] at e3
  rw [if_neg h1, if_neg h2, if_neg h3]
  have con := rnamed w y
  clear h1 h2 h3
  cases hnm : named y <;> rw [hnm] at con <;> clear hnm
  ·go_enter Tryz.func178, Tryz.ntmps178
   go_wp2_with fail
   refine con.mono ?_
   rintro e w1 ⟨rfl, rfl⟩
   go_wp2_with fail
   go_ret2
   exact ⟨rfl, Ra.refl H.out⟩
  ·go_enter Tryz.func178, Tryz.ntmps178
   go_wp2_with fail
   refine con.mono ?_
   rintro e w1 ⟨rfl, rfl⟩
   go_wp2_with fail
   refine (rwrong w b _ k 2 p H.out).mono ?_
   rintro e w2 ⟨rfl, hra⟩
   have HRA := Lib.hid hra
   clear hra
   go_wp2_with fail
   go_ret2
   exact ⟨y, k + 1, rfl, by omega, HRA.out⟩
 ·obtain rfl : k = n := by omega
  have e : s[k]? = none := List.getElem?_eq_none (by omega)
  unfold escd
  rw [e]
  dsimp only
  clear h hs e
  go_enter Tryz.func178, Tryz.ntmps178
  go_wp2_with fail
  refine (rwrong w b _ k 2 p H.out).mono ?_
  rintro e w2 ⟨rfl, hra⟩
  have HRA := Lib.hid hra
  clear hra
  go_wp2_with fail
  go_ret2
  exact ⟨0#8, k, rfl, by omega, HRA.out⟩
end Go.Proofs.YteohlpmojfjjdaaGreat.Reg
end
