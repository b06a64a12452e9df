/-
Texts: RegSet RegAtom
-/
import Derived.Test.YteohlpmojfjjdaaGreatC0
import Derived.Test.YteohlpmojfjjdaaGreatC1
import Derived.Test.YteohlpmojfjjdaaGreatC2
import Derived.Test.YteohlpmojfjjdaaGreatC3
import Derived.Deep.WholeRow
import Derived.Deep.MidRow
set_option linter.unusedVariables false
set_option linter.unusedSimpArgs false
set_option maxRecDepth 100000
set_option maxHeartbeats 4000000
section
namespace Go.Proofs.YteohlpmojfjjdaaGreat.Reg
open Go.RowKit
theorem range_of {w : World} {g : Nat} {t : TypeId} {cs : List Value} (h : Cel w g t cs) : w.rangeAt g 0 cs := fun j v hv => by
 rw [Nat.zero_add, h.cell j, hv]
theorem results_at {P : Program} {fn : Func} {tmps : Array Value} {w : World} (a : Tmp) (t : TypeId) (b : Tmp) (hr : fn.results = #[.cell a t, .tmp b]) (ad : Addr) (ha : tmps.getD a undef = .pointer (some ad)) (v u : Value) (hu : tmps.getD b undef = u) (hl : (loadVar t ad).run P w = .ok v w) :
  (results fn tmps).run P w = .ok (.tuple #[v, u]) w := by
 unfold results
 rw [hr]
 simp only [List.mapM_toArray, List.mapM_cons, List.mapM_nil, ha, hu, asAddr]
 simp [hl]
theorem load_span {w : World} {g : Nat} {x0 x1 : Value} (h : Cel w g 245 [x0, x1]) : (loadVar 245 ⟨g, 0, none⟩).run Tryz.prog w = .ok (.agg #[x0, x1]) w :=
 run_loadVar_mid (P := Tryz.prog) w g 0 245 [x0, x1] _ (range_of h) Tryz.underlying245 rfl (by kernel_rfl)
theorem load_op {w : World} {g : Nat} {x0 x1 x2 : Value} (h : Cel w g 223 [x0, x1, x2]) : (loadVar 223 ⟨g, 0, none⟩).run Tryz.prog w = .ok (.agg #[x0, x1, x2]) w :=
 run_loadVar_mid (P := Tryz.prog) w g 0 223 [x0, x1, x2] _ (range_of h) Tryz.underlying223 rfl (by kernel_rfl)
abbrev spV (x : Sp) : Value := .agg #[v8 x.a, v8 x.b]
abbrev noSp : Value := .agg #[.int .u8 0, .int .u8 0]
def ItSays (x : Except Nat (Sp × Nat)) : Value × Nat := match x with
 | .error e => (.tuple #[noSp, .bool false], e)
 | .ok (y, j) => (.tuple #[spV y, .bool true], j)
theorem item_e1 {s : List (BitVec 8)} {k e : Nat} (h : setByte s k 0#8 = .error e) : item s k = .error e := by unfold item; rw [h]
theorem item_o1 {s : List (BitVec 8)} {k j : Nat} {a : BitVec 8} (h : setByte s k 0#8 = .ok (a, j)) (h1 : s[j]? ≠ some 45#8) : item s k = .ok (⟨a, a⟩, j) := by unfold item; rw [h]; dsimp only; rw [if_neg h1]
theorem item_e2 {s : List (BitVec 8)} {k j e : Nat} {a : BitVec 8} (h : setByte s k 0#8 = .ok (a, j)) (h1 : s[j]? = some 45#8) (h2 : setByte s (j + 1) a = .error e) : item s k = .error e := by unfold item; rw [h]; dsimp only; rw [if_pos h1, h2]
theorem item_o2 {s : List (BitVec 8)} {k j i : Nat} {a b : BitVec 8} (h : setByte s k 0#8 = .ok (a, j)) (h1 : s[j]? = some 45#8) (h2 : setByte s (j + 1) a = .ok (b, i)) : item s k = .ok (⟨a, b⟩, i) := by unfold item; rw [h]; dsimp only; rw [if_pos h1, h2]
theorem At.setNew {w w1 : World} {b k : Nat} {sv ov iv : Value} {hb hp : Bool} (h : At w w1 b sv k ov hb hp iv) {g : Nat} (hg : w.heap.size ≤ g) (hw : b < w.heap.size) (i : Nat) (u : Value) : At w (w1.setCell ⟨g, i, none⟩ u) b sv k ov hb hp iv :=
 ⟨Cel.far h.pc (by simp; omega) u, h.frm.setNew hg u⟩
theorem At.grown {w w1 w2 : World} {b k : Nat} {sv ov iv : Value} {hb hp : Bool} (h : At w w1 b sv k ov hb hp iv) (hw : b < w.heap.size) {row : Option Nat} (hg : w1.grownBy w2 row) (hr : ∀ q, row = some q → w.heap.size ≤ q) : At w w2 b sv k ov hb hp iv :=
 ⟨Cel.grown h.pc hg (fun e => by have := hr b e; omega), h.frm.grown hg fun q e hlt => absurd (hr q e) (by omega)⟩
theorem At.from_ {w w0 w1 : World} {b k k' : Nat} {sv ov iv : Value} {hb hp : Bool} (h0 : At w w0 b sv k ov hb hp iv) (h : At w0 w1 b sv k' ov hb hp iv) : At w w1 b sv k' ov hb hp iv := ⟨h.pc, h0.frm.trans h.frm⟩
theorem setCells2 {w : World} {g : Nat} {t : TypeId} {x0 x1 y0 y1 : Value} (h : Cel w g t [x0, x1]) : Cel ((w.setCell ⟨g, 0, none⟩ y0).setCell ⟨g, 1, none⟩ y1) g t [y0, y1] := (h.set 0 y0).set 1 y1
theorem item_call (w : World) (B b : Nat) (A : Option Addr) (n c k : Nat) (s : List (BitVec 8)) (ov : Value) (hb hp : Bool) (iv : Value) (h : Pc w b (.slice A n c) k ov hb hp iv) (hs : Bs w B A n s) (hB : B ≤ b) (hk : k ≤ n) (hn : n ≤ 100000) :
  Calls Tryz.prog 194 #[.pointer (some ⟨b, 0, none⟩)] w fun e w' => e = .returned (ItSays (item s k)).1 ∧ At w w' b (.slice A n c) (ItSays (item s k)).2 ov hb hp iv := by
 have hl := hs.len
 have hbw := h.lt
 have HP := Lib.hid ((At.refl h).below ((Below.refl _ _).alloc (Nat.le_refl _) (.cells #[.int .u8 0, .int .u8 0] 245)))
 have HC := Lib.hid (Cel.new w 245 [.int .u8 0, .int .u8 0])
 have HS := Lib.hid hs
 clear h hs
 generalize hr : item s k = r
 go_enter Tryz.func194, Tryz.ntmps194
 go_wp2_with fail
 refine (setByte_call _ B b A n c k s 0#8 ov hb hp iv HP.out.pc (HP.out.bs HS.out hB hbw) hB hk hn).mono ?_
 rintro e w1 ⟨rfl, hw1⟩
 have HW1 := Lib.hid hw1
 clear hw1
 rcases h1 : setByte s k 0#8 with e1 | ⟨a, j⟩ <;> rw [h1] at HW1 <;> dsimp only [SbSays] at HW1 ⊢
 ·have HR := Lib.hid (item_e1 h1)
  have hc1 := HC.out.frm HW1.out.frm (by simp; omega)
  have c0 := hc1.cell 0
  have c1 := hc1.cell 1
  have f0 := hc1.free 0
  have f1 := hc1.free 1
  have HC1 := Lib.hid hc1
  clear h1 hc1
  go_wp2_with fail
  refine bodyPost_ret (v := .tuple #[noSp, .bool false]) (results_at 2 245 3 Tryz.results194 ⟨w.heap.size, 0, none⟩ rfl _ _ rfl (load_span (setCells2 HC1.out))) rfl ?_
  rw [← hr, HR.out]
  exact ⟨rfl, ((HP.out.from_ HW1.out).setNew (Nat.le_refl _) hbw 0 _).setNew (Nat.le_refl _) hbw 1 _⟩
 ·have H1 := Lib.hid h1
  have hj := setByte_ok h1
  rw [hl] at hj
  clear h1
  go_wp2_with fail
  refine (skip_call w1 B b A n c j s 45#8 ov hb hp iv HW1.out.pc (HW1.out.bs (HP.out.bs HS.out hB hbw) hB (by simp; omega)) hj.2.1 hn).mono ?_
  rintro e w2 ⟨rfl, hw2⟩
  have HW2 := Lib.hid hw2
  clear hw2
  by_cases h45 : s[j]? = some 45#8
  ·have H45 := Lib.hid h45
   rw [decide_eq_true h45]
   rw [if_pos h45] at HW2
   have hj1 : j + 1 ≤ n := by have := get_lt h45; omega
   clear h45
   go_wp2_with fail
   refine (setByte_call w2 B b A n c (j + 1) s a ov hb hp iv HW2.out.pc (HW2.out.bs (HW1.out.bs (HP.out.bs HS.out hB hbw) hB (by simp; omega)) hB (by have := HW1.out.frm.size; simp at this; omega)) hB hj1 hn).mono ?_
   rintro e w3 ⟨rfl, hw3⟩
   have HW3 := Lib.hid hw3
   clear hw3
   have HF3 := Lib.hid (HW2.out.from_ HW3.out)
   rcases h3 : setByte s (j + 1) a with e1 | ⟨y, i⟩ <;> rw [h3] at HF3 <;> dsimp only [SbSays] at HF3 ⊢
   ·have HR := Lib.hid (item_e2 H1.out H45.out h3)
    clear h3
    have hc1 := (HC.out.frm HW1.out.frm (by simp; omega)).frm HF3.out.frm (by simp; omega)
    have c0 := hc1.cell 0
    have c1 := hc1.cell 1
    have f0 := hc1.free 0
    have f1 := hc1.free 1
    have HC1 := Lib.hid hc1
    clear hc1
    go_wp2_with fail
    refine bodyPost_ret (v := .tuple #[noSp, .bool false]) (results_at 2 245 3 Tryz.results194 ⟨w.heap.size, 0, none⟩ rfl _ _ rfl (load_span (setCells2 HC1.out))) rfl ?_
    rw [← hr, HR.out]
    exact ⟨rfl, (((HP.out.from_ HW1.out).from_ HF3.out).setNew (Nat.le_refl _) hbw 0 _).setNew (Nat.le_refl _) hbw 1 _⟩
   ·have HR := Lib.hid (item_o2 H1.out H45.out h3)
    clear h3
    have hc1 := (HC.out.frm HW1.out.frm (by simp; omega)).frm HF3.out.frm (by simp; omega)
    have c0 := hc1.cell 0
    have c1 := hc1.cell 1
    have f0 := hc1.free 0
    have f1 := hc1.free 1
    have HC1 := Lib.hid hc1
    clear hc1
    go_wp2_with fail
    refine bodyPost_ret (v := .tuple #[spV ⟨a, y⟩, .bool true]) (results_at 2 245 3 Tryz.results194 ⟨w.heap.size, 0, none⟩ rfl _ _ rfl (load_span (setCells2 HC1.out))) rfl ?_
    rw [← hr, HR.out]
    exact ⟨rfl, (((HP.out.from_ HW1.out).from_ HF3.out).setNew (Nat.le_refl _) hbw 0 _).setNew (Nat.le_refl _) hbw 1 _⟩
  ·have HR := Lib.hid (item_o1 H1.out h45)
   rw [decide_eq_false h45]
   rw [if_neg h45] at HW2
   clear h45
   have hc1 := (HC.out.frm HW1.out.frm (by simp; omega)).frm HW2.out.frm (by simp; omega)
   have c0 := hc1.cell 0
   have c1 := hc1.cell 1
   have f0 := hc1.free 0
   have f1 := hc1.free 1
   have HC1 := Lib.hid hc1
   clear hc1
   go_wp2_with fail
   refine bodyPost_ret (v := .tuple #[spV ⟨a, a⟩, .bool true]) (results_at 2 245 3 Tryz.results194 ⟨w.heap.size, 0, none⟩ rfl _ _ rfl (load_span (setCells2 HC1.out))) rfl ?_
   rw [← hr, HR.out]
   exact ⟨rfl, (((HP.out.from_ HW1.out).from_ HW2.out).setNew (Nat.le_refl _) hbw 0 _).setNew (Nat.le_refl _) hbw 1 _⟩
def sflat (l : List Sp) : List Value := l.flatMap fun x => [v8 x.a, v8 x.b]
theorem sflat_length (l : List Sp) : (sflat l).length = l.length * 2 := by
 induction l with
 | nil => rfl
 | cons x l ih => rw [sflat, List.flatMap_cons, List.length_append, show (l.flatMap fun x => [v8 x.a, v8 x.b]) = sflat l from rfl, ih]; show 2 + l.length * 2 = (l.length + 1) * 2; omega
theorem sflat_snoc (l : List Sp) (x : Sp) : sflat (l ++ [x]) = sflat l ++ [v8 x.a, v8 x.b] := by rw [sflat, List.flatMap_append]; rfl
theorem sflat_one (l : List Sp) : ∀ u ∈ sflat l, u.oneCell' = true := by
 intro u hu
 obtain ⟨x, _, hx⟩ := List.mem_flatMap.1 hu
 simp at hx
 rcases hx with rfl | rfl <;> rfl
def Spn (w : World) (A : Option Addr) (l : List Sp) : Prop := Ry 245 w A (sflat l)
theorem escS_two {x : BitVec 8} (h1 : x ≠ 100#8) (h2 : x ≠ 119#8) (h3 : x ≠ 115#8) : escS x = match escB x with | none => [] | some y => [⟨y, y⟩] := by
 unfold escS classOf
 rw [if_neg h1, if_neg h2, if_neg h3]
 dsimp only
 cases escB x <;> rfl
theorem escapedSpans_call (w : World) (x : BitVec 8) :
  Calls Tryz.prog 195 #[v8 x] w fun e w' => ∃ A c, e = .returned (.slice A (escS x).length c) ∧ Spn w' A (escS x) ∧ Below w.heap.size w w' := by
 by_cases h1 : x = 100#8
 ·subst h1
  have HC := Lib.hid (Cel.new w 245 (sflat (escS 100#8)))
  have HB := Lib.hid ((Below.refl w.heap.size w).alloc (Nat.le_refl _) (.cells (sflat (escS 100#8)).toArray 245))
  go_enter Tryz.func195, Tryz.ntmps195
  go_wp2_with fail
  go_ret
  exact ⟨_, _, rfl, Ry.of_cel HC.out, HB.out⟩
 by_cases h2 : x = 119#8
 ·subst h2
  have HC := Lib.hid (Cel.new w 245 (sflat (escS 119#8)))
  have HB := Lib.hid ((Below.refl w.heap.size w).alloc (Nat.le_refl _) (.cells (sflat (escS 119#8)).toArray 245))
  go_enter Tryz.func195, Tryz.ntmps195
  go_wp2_with fail
  go_ret
  exact ⟨_, _, rfl, Ry.of_cel HC.out, HB.out⟩
 by_cases h3 : x = 115#8
 ·subst h3
  have HC := Lib.hid (Cel.new w 245 (sflat (escS 115#8)))
  have HB := Lib.hid ((Below.refl w.heap.size w).alloc (Nat.le_refl _) (.cells (sflat (escS 115#8)).toArray 245))
  go_enter Tryz.func195, Tryz.ntmps195
  go_wp2_with fail
  go_ret
  exact ⟨_, _, rfl, Ry.of_cel HC.out, HB.out⟩
 have e1 : ((x.toNat : Int) == 100) = false := by rw [show ((x.toNat : Int) == 100) = decide (x = 100#8) from v8_lit (by decide)]; exact decide_eq_false h1
 have e2 : ((x.toNat : Int) == 119) = false := by rw [show ((x.toNat : Int) == 119) = decide (x = 119#8) from v8_lit (by decide)]; exact decide_eq_false h2
 have e3 : ((x.toNat : Int) == 115) = false := by rw [show ((x.toNat : Int) == 115) = decide (x = 115#8) from v8_lit (by decide)]; exact decide_eq_false h3
 rw [escS_two h1 h2 h3]
 have con := escapedByte_call w x
 clear h1 h2 h3
 rcases h4 : escB x with _ | y <;> rw [h4] at con <;> dsimp only at con ⊢ <;> clear h4
 ·go_enter Tryz.func195, Tryz.ntmps195
  go_wp2_with fail
  refine con.mono ?_
  rintro e w1 ⟨rfl, rfl⟩
  go_wp2_with fail
  go_ret
  exact ⟨_, _, rfl, Ry.nil_, Below.refl _ _⟩
 ·have HC := Lib.hid (Cel.new w 245 (sflat [⟨y, y⟩]))
  have HB := Lib.hid ((Below.refl w.heap.size w).alloc (Nat.le_refl _) (.cells (sflat [⟨y, y⟩]).toArray 245))
  go_enter Tryz.func195, Tryz.ntmps195
  go_wp2_with fail
  refine con.mono ?_
  rintro e w1 ⟨rfl, rfl⟩
  go_wp2_with fail
  go_ret
  exact ⟨_, _, rfl, Ry.of_cel HC.out, HB.out⟩
abbrev opV (o : Rop) (A : Option Addr) (c : Nat) : Value := .agg #[.int .i64 o.kind, .bool o.neg, .slice A o.sp.length c]
abbrev noOp : Value := .agg #[.int .i64 0, .bool false, .slice none 0 0]
def OpSays (w : World) (b : Nat) (sv ov : Value) (hb hp : Bool) (iv : Value) (x : Except Nat (Rop × Nat)) (e : Ending) (w' : World) : Prop := match x with
 | .error p => e = .returned (.tuple #[noOp, .bool false]) ∧ At w w' b sv p ov hb hp iv
 | .ok (o, j) => ∃ A c, e = .returned (.tuple #[opV o A c, .bool true]) ∧ Spn w' A o.sp ∧ At w w' b sv j ov hb hp iv
theorem setCells3 {w : World} {g : Nat} {t : TypeId} {x0 x1 x2 y0 y1 y2 : Value} (h : Cel w g t [x0, x1, x2]) : Cel (((w.setCell ⟨g, 0, none⟩ y0).setCell ⟨g, 1, none⟩ y1).setCell ⟨g, 2, none⟩ y2) g t [y0, y1, y2] := ((h.set 0 y0).set 1 y1).set 2 y2
theorem At.setNew3 {w w1 : World} {b k : Nat} {sv ov iv : Value} {hb hp : Bool} (h : At w w1 b sv k ov hb hp iv) {g : Nat} (hg : w.heap.size ≤ g) (hw : b < w.heap.size) (u0 u1 u2 : Value) : At w (((w1.setCell ⟨g, 0, none⟩ u0).setCell ⟨g, 1, none⟩ u1).setCell ⟨g, 2, none⟩ u2) b sv k ov hb hp iv :=
 ((h.setNew hg hw 0 u0).setNew hg hw 1 u1).setNew hg hw 2 u2
theorem Spn.setCells3 {w : World} {A : Option Addr} {l : List Sp} (h : Spn w A l) {g : Nat} {x0 x1 x2 : Value} (hc : Cel w g 223 [x0, x1, x2]) (u0 u1 u2 : Value) : Spn (((w.setCell ⟨g, 0, none⟩ u0).setCell ⟨g, 1, none⟩ u1).setCell ⟨g, 2, none⟩ u2) A l :=
 ((Ry.set h (hc.not_ty (by decide)) u0).set ((hc.set 0 u0).not_ty (by decide)) u1).set (((hc.set 0 u0).set 1 u1).not_ty (by decide)) u2
theorem Pc.next_ {w : World} {b k : Nat} {sv ov iv : Value} {hb hp : Bool} (h : Pc w b sv k ov hb hp iv) (z : Int) (hz : z = (k : Int) + 1) : At w (w.setCell ⟨b, 1, none⟩ (.int .i64 z)) b sv (k + 1) ov hb hp iv := by subst hz; exact h.next
theorem Spn.setOther {w : World} {A : Option Addr} {l : List Sp} (h : Spn w A l) {b k : Nat} {sv ov iv : Value} {hb hp : Bool} (hc : Pc w b sv k ov hb hp iv) (i : Nat) (u : Value) : Spn (w.setCell ⟨b, i, none⟩ u) A l := Ry.set h (hc.not_ty (by decide)) u
theorem newOn (w : World) (b : Nat) (u : Value) (i : Nat) (t : TypeId) (cs : List Value) : Cel ((w.setCell ⟨b, i, none⟩ u).alloc (.cells cs.toArray t)) w.heap.size t cs := by
 have := Cel.new (w.setCell ⟨b, i, none⟩ u) t cs
 rwa [show (w.setCell ⟨b, i, none⟩ u).heap.size = w.heap.size by simp [World.setCell]] at this
theorem escape_e1 {s : List (BitVec 8)} {k : Nat} (h : s[k + 1]? = none) : escape s k = .error (k + 1) := by unfold escape; rw [h]
theorem escape_e2 {s : List (BitVec 8)} {k : Nat} {y : BitVec 8} (h : s[k + 1]? = some y) (h2 : escS y = []) : escape s k = .error (k + 1) := by unfold escape; rw [h]; dsimp only; rw [h2]
theorem escape_o2 {s : List (BitVec 8)} {k : Nat} {y : BitVec 8} (h : s[k + 1]? = some y) (h2 : escS y ≠ []) : escape s k = .ok (⟨1, false, escS y⟩, k + 2) := by
 unfold escape; rw [h]; dsimp only
 rcases e : escS y with _ | ⟨a, l⟩
 ·exact absurd e h2
 ·rfl
theorem escape_call (w : World) (B b : Nat) (A : Option Addr) (n c k : Nat) (s : List (BitVec 8)) (ov : Value) (hb hp : Bool) (iv : Value) (h : Pc w b (.slice A n c) k ov hb hp iv) (hs : Bs w B A n s) (hB : B ≤ b) (hk : k < n) (hn : n ≤ 100000) :
  Calls Tryz.prog 184 #[.pointer (some ⟨b, 0, none⟩)] w (OpSays w b (.slice A n c) ov hb hp iv (escape s k)) := by
 have hl := hs.len
 have hbw := h.lt
 have p1 := Cel.cell h 1
 have pf1 := Cel.free h 1
 have HP := Lib.hid (h.next.below ((Below.refl _ _).alloc (Nat.le_refl _) (.cells #[.int .i64 0, .bool false, .slice none 0 0] 223)))
 have HC := Lib.hid (newOn w b (.int .i64 ((k : Int) + 1)) 1 223 [.int .i64 0, .bool false, .slice none 0 0])
 have HS := Lib.hid hs
 clear h hs
 generalize hr : escape s k = r
 go_enter Tryz.func184, Tryz.ntmps184
 go_wp2_with fail
 refine (peek_call _ B b A n c (k + 1) s ov hb hp iv HP.out.pc (HP.out.bs HS.out hB hbw) (by omega)).mono ?_
 rintro e w1 ⟨rfl, hd⟩
 have HW1 := Lib.hid (HP.out.dr hd)
 have hc1 := hd.cel HC.out
 have c0 := hc1.cell 0
 have c1 := hc1.cell 1
 have c2 := hc1.cell 2
 have f0 := hc1.free 0
 have f1 := hc1.free 1
 have f2 := hc1.free 2
 have HC1 := Lib.hid hc1
 clear hd hc1
 unfold PkSays
 rcases hy : s[k + 1]? with _ | y <;> dsimp only
 ·have HR := Lib.hid (escape_e1 hy)
  clear hy
  go_wp2_with fail
  refine bodyPost_ret (v := .tuple #[noOp, .bool false]) (results_at 2 223 3 Tryz.results184 ⟨w.heap.size, 0, none⟩ rfl _ _ rfl (load_op (setCells3 HC1.out))) rfl ?_
  rw [← hr, HR.out]
  exact ⟨rfl, HW1.out.setNew3 (Nat.le_refl _) hbw _ _ _⟩
 ·have HY := Lib.hid hy
  clear hy c0 c1 c2 f0 f1 f2
  go_wp2_with fail
  refine (escapedSpans_call w1 y).mono ?_
  rintro e w2 ⟨A2, c2, rfl, hsp, hb2⟩
  have HW2 := Lib.hid (HW1.out.below hb2)
  have hc2 := HC1.out.below hb2 HC1.out.lt
  have k0 := hc2.cell 0
  have k1 := hc2.cell 1
  have k2 := hc2.cell 2
  have g0 := hc2.free 0
  have g1 := hc2.free 1
  have g2 := hc2.free 2
  have p2 := Cel.cell HW2.out.pc 1
  have pf2 := Cel.free HW2.out.pc 1
  simp only [Int.natCast_add, Int.cast_ofNat_Int] at p2
  have HC2 := Lib.hid hc2
  have HSP := Lib.hid hsp
  clear hc2 hsp hb2
  by_cases he : escS y = []
  ·have HR := Lib.hid (escape_e2 HY.out he)
   rw [he]
   clear he
   go_wp2_with fail
   refine bodyPost_ret (v := .tuple #[noOp, .bool false]) (results_at 2 223 3 Tryz.results184 ⟨w.heap.size, 0, none⟩ rfl _ _ rfl (load_op (setCells3 HC2.out))) rfl ?_
   rw [← hr, HR.out]
   exact ⟨rfl, HW2.out.setNew3 (Nat.le_refl _) hbw _ _ _⟩
  ·have HR := Lib.hid (escape_o2 HY.out he)
   have d1 : (((escS y).length : Int) == 0) = false := by
    rw [beq_eq_false_iff_ne]
    have := List.length_pos_iff.2 he
    omega
   clear he
   generalize hsy : escS y = l at *
   clear hsy
   generalize hll : l.length = ln at *
   go_wp2_with fail
   subst hll
   refine bodyPost_ret (v := .tuple #[opV ⟨1, false, l⟩ A2 c2, .bool true]) (results_at 2 223 3 Tryz.results184 ⟨w.heap.size, 0, none⟩ rfl _ _ rfl (load_op (setCells3 (HC2.out.far (by simp; omega) _)))) rfl ?_
   rw [← hr, HR.out]
   exact ⟨A2, c2, rfl, (HSP.out.setOther HW2.out.pc 1 _).setCells3 (HC2.out.far (by simp; omega) _) _ _ _, (HW2.out.trans (HW2.out.pc.next_ _ (by omega))).setNew3 (Nat.le_refl _) hbw _ _ _⟩
theorem infoSpan : (Tryz.prog.info? 245).map (fun i => (i.zero, i.size, i.bytes)) = some (some (.agg #[.int .u8 0, .int .u8 0]), 2, 2) := by kernel_rfl
theorem rowSpan : ElemRow Tryz.prog 202 245 2 2 := ElemRow.mk' Tryz.underlying202 infoSpan rfl (by decide)
theorem setR_o {s : List (BitVec 8)} {k k0 j : Nat} {neg : Bool} {l : List Sp} (hneg : decide (s[k + 1]? = some 94#8) = neg) (hk0 : (if s[k + 1]? = some 94#8 then k + 1 + 1 else k + 1) = k0) (h : items s k0 [] = .ok (l, j)) : setR s k = .ok (⟨1, neg, l⟩, j) := by
 unfold setR
 dsimp only
 rw [show (if decide (s[k + 1]? = some 94#8) = true then k + 2 else k + 1) = k0 by rw [← hk0]; simp, h, hneg]
theorem setR_e {s : List (BitVec 8)} {k k0 j : Nat} (hk0 : (if s[k + 1]? = some 94#8 then k + 1 + 1 else k + 1) = k0) (h : items s k0 [] = .error j) : setR s k = .error j := by
 unfold setR
 dsimp only
 rw [show (if decide (s[k + 1]? = some 94#8) = true then k + 2 else k + 1) = k0 by rw [← hk0]; simp, h]
def kOf (b : Nat) (w : World) : Nat := match w.cell? ⟨b, 1, none⟩ with
 | some (.int _ z) => z.toNat
 | _ => 0
theorem kOf_pc {w : World} {b k : Nat} {sv ov iv : Value} {hb hp : Bool} (h : Pc w b sv k ov hb hp iv) : kOf b w = k := by unfold kOf; rw [Cel.cell h 1]; rfl
structure Sg (w : World) (b : Nat) (sv ov : Value) (hb hp : Bool) (iv : Value) (g : Nat) (neg : Bool) (wr : World) (k : Nat) (acc : List Sp) : Prop where
 at_ : At w wr b sv k ov hb hp iv
 res : Cel wr w.heap.size 223 [.int .i64 0, .bool false, .slice none 0 0]
 op : ∃ A c, Cel wr g 223 [.int .i64 1, .bool neg, .slice A acc.length c] ∧ wr.ownsRow (g + 1) 245 2 (.slice A acc.length c) acc.length (sflat acc)
theorem set_call (w : World) (B b : Nat) (A : Option Addr) (n c k : Nat) (s : List (BitVec 8)) (ov : Value) (hb hp : Bool) (iv : Value) (h : Pc w b (.slice A n c) k ov hb hp iv) (hs : Bs w B A n s) (hB : B ≤ b) (hk : k < n) (hn : n ≤ 100000) :
  Calls Tryz.prog 183 #[.pointer (some ⟨b, 0, none⟩)] w (OpSays w b (.slice A n c) ov hb hp iv (setR s k)) := by
 have hl := hs.len
 have hbw := h.lt
 have p1 := Cel.cell h 1
 have pf1 := Cel.free h 1
 have HP := Lib.hid (h.next.below ((Below.refl _ _).alloc (Nat.le_refl _) (.cells #[.int .i64 0, .bool false, .slice none 0 0] 223)))
 have HC := Lib.hid (newOn w b (.int .i64 ((k : Int) + 1)) 1 223 [.int .i64 0, .bool false, .slice none 0 0])
 have HS := Lib.hid hs
 clear h hs
 generalize hr : setR s k = r
 go_enter Tryz.func183, Tryz.ntmps183
 go_wp2_with fail
 refine (skip_call _ B b A n c (k + 1) s 94#8 ov hb hp iv HP.out.pc (HP.out.bs HS.out hB hbw) (by omega) hn).mono ?_
 rintro e w1 ⟨rfl, hw1⟩
 generalize hneg : decide (s[k + 1]? = some 94#8) = neg at *
 have hat := HP.out.from_ hw1
 have hres := HC.out.frm hw1.frm (by simp; omega)
 have hsz := hat.frm.size
 have hss := hw1.frm.size
 simp only [World.size_alloc, World.size_setCell] at hss
 generalize hk0 : (if s[k + 1]? = some 94#8 then k + 1 + 1 else k + 1) = k0 at *
 have HN := Lib.hid hneg
 have HK0 := Lib.hid hk0
 have HAT := Lib.hid (hat.below ((Below.refl _ _).alloc (Nat.le_refl _) (.cells #[.int .i64 1, .bool neg, .slice none 0 0] 223)))
 have HRES := Lib.hid (hres.alloc (.cells #[.int .i64 1, .bool neg, .slice none 0 0] 223))
 have HOP := Lib.hid (Cel.new w1 223 [.int .i64 1, .bool neg, .slice none 0 0])
 generalize hg : w1.heap.size = g at *
 clear hneg hk0 hat hres hw1
 go_wp2_with fail
 have HG := Lib.hid hg
 clear hg
 go_loopw [] (fun wr => ∃ kk acc, Sg w b (.slice A n c) ov hb hp iv g neg wr kk acc ∧ kk ≤ n ∧ acc.length ≤ kk ∧ items s k0 [] = items s kk acc) (fun wr => n - kOf b wr)
 case atStart =>
  refine ⟨k0, [], ⟨HAT.out, HRES.out, none, 0, ?_, World.ownsRow_nil _ _ _ _⟩, by rw [← HK0.out]; split <;> (try have := get_lt ‹_›) <;> omega, Nat.zero_le _, rfl⟩
  exact HOP.out
 case round =>
  obtain ⟨kk, acc, hsg, hkn, hak, hit⟩ := hrel
  have HIT := Lib.hid hit
  have HSG := Lib.hid hsg
  obtain ⟨A2, cA, hop, hown⟩ := hsg.op
  have HO := Lib.hid hop
  have HOW := Lib.hid hown
  have q2 := hop.cell 2
  have hwg := hop.lt
  clear hit hsg hop hown
  by_cases hend : acc ≠ [] ∧ s[kk]? = some 93#8
  ·have d1 : ((acc.length : Int) == 0) = false := by
    rw [beq_eq_false_iff_ne]
    have := List.length_pos_iff.2 hend.1
    omega
   have HE := Lib.hid (HIT.out.trans (items_end hend.1 hend.2))
   go_wp2_with fail
   refine (skip_call wr B b A n c kk s 93#8 ov hb hp iv HSG.out.at_.pc (HSG.out.at_.bs HS.out hB hbw) hkn hn).mono ?_
   rintro e w2 ⟨rfl, hw2⟩
   rw [if_pos hend.2] at hw2
   rw [decide_eq_true hend.2]
   have HW2 := Lib.hid (HSG.out.at_.from_ hw2)
   have hres := HSG.out.res.frm hw2.frm (by simp; omega)
   have ho2 := HO.out.frm hw2.frm (by simp; omega)
   have HR2 := Lib.hid hres
   have HO2 := Lib.hid ho2
   have HOW2 := Lib.hid (own_frm HOW.out hw2.frm (by intro q hq; simp at hq; subst hq; exact own_ne HOW.out (by omega)))
   have c0 := hres.cell 0
   have c1 := hres.cell 1
   have c2 := hres.cell 2
   have f0 := hres.free 0
   have f1 := hres.free 1
   have f2 := hres.free 2
   have o0 := ho2.cell 0
   have o1 := ho2.cell 1
   have o2 := ho2.cell 2
   clear hres ho2 hend hw2
   generalize hal : acc.length = al at *
   go_wp2_with fail
   subst hal
   refine bodyPost_ret (v := .tuple #[opV ⟨1, neg, acc⟩ A2 cA, .bool true]) (results_at 2 223 3 Tryz.results183 ⟨w.heap.size, 0, none⟩ rfl _ _ rfl (load_op (setCells3 HR2.out))) rfl ?_
   rw [← hr, setR_o HN.out HK0.out HE.out]
   exact ⟨A2, cA, rfl, Spn.setCells3 (Ry.of_own HOW2.out (by decide)) HR2.out _ _ _, HW2.out.setNew3 (Nat.le_refl _) hbw _ _ _⟩
  ·have HE := Lib.hid (HIT.out.trans (items_more (by omega) hend))
   by_cases hA : acc = []
   case' pos =>
    have d1 : ((acc.length : Int) == 0) = true := by rw [hA]; rfl
    obtain ⟨w2, hw2⟩ : ∃ w2, w2 = wr := ⟨_, rfl⟩
    subst hw2
    have hac := HSG.out.at_
    have HR2 := Lib.hid HSG.out.res
    have HO2 := Lib.hid HO.out
    have HOW2 := Lib.hid HOW.out
    clear hend hA
    go_wp2_with fail
   case' neg =>
    have d1 : ((acc.length : Int) == 0) = false := by
     rw [beq_eq_false_iff_ne]
     have := List.length_pos_iff.2 hA
     omega
    have hx : s[kk]? ≠ some 93#8 := fun e => hend ⟨hA, e⟩
    clear hend hA
    go_wp2_with fail
    refine (skip_call wr B b A n c kk s 93#8 ov hb hp iv HSG.out.at_.pc (HSG.out.at_.bs HS.out hB hbw) hkn hn).mono ?_
    rintro e w2 ⟨rfl, hw2⟩
    rw [if_neg hx] at hw2
    rw [decide_eq_false hx]
    have hac := HSG.out.at_.from_ hw2
    have HR2 := Lib.hid (HSG.out.res.frm hw2.frm (by simp; omega))
    have ho2 := HO.out.frm hw2.frm (by simp; omega)
    have HO2 := Lib.hid ho2
    have hwg := ho2.lt
    have HOW2 := Lib.hid (own_frm HOW.out hw2.frm (by intro q hq; simp at hq; subst hq; exact own_ne HOW.out (by omega)))
    clear hx hw2 ho2
    go_wp2_with fail
   all_goals
    refine (item_call w2 B b A n c kk s ov hb hp iv hac.pc (hac.bs HS.out hB hbw) hB hkn hn).mono ?_
    rintro e w3 ⟨rfl, hw3⟩
    have HAC := Lib.hid hac
    have HW3 := Lib.hid hw3
    have hs3 := hw3.frm.size
    clear hac hw3 q2
    rcases hi : item s kk with e1 | ⟨x, j⟩ <;> rw [hi] at HW3 HE <;> dsimp only [ItSays] at HW3 HE ⊢
    ·have hres := (HR2.out.frm HW3.out.frm (by simp; omega)).alloc (.cells #[.int .u8 0, .int .u8 0] 245)
     have c0 := hres.cell 0
     have c1 := hres.cell 1
     have c2 := hres.cell 2
     have f0 := hres.free 0
     have f1 := hres.free 1
     have f2 := hres.free 2
     have HR3 := Lib.hid hres
     clear hres hi
     go_wp2_with fail
     refine bodyPost_ret (v := .tuple #[noOp, .bool false]) (results_at 2 223 3 Tryz.results183 ⟨w.heap.size, 0, none⟩ rfl _ _ rfl (load_op (setCells3 HR3.out))) rfl ?_
     rw [← hr, setR_e HK0.out HE.out]
     exact ⟨rfl, ((HAC.out.from_ HW3.out).below ((Below.refl _ _).alloc (Nat.le_refl _) _)).setNew3 (Nat.le_refl _) hbw _ _ _⟩
    ·have hj := item_ok hi
     rw [hl] at hj
     have hj2 := hj.2.1
     have hjk := hj.1
     have ho3 := HO2.out.frm HW3.out.frm (by simp; omega)
     have hgl := ho3.lt
     have hal : acc.length ≤ n := by omega
     have q2 := (ho3.alloc (.cells #[v8 x.a, v8 x.b] 245)).cell 2
     have z0 := (Cel.new w3 245 [v8 x.a, v8 x.b]).cell 0
     have z1 := (Cel.new w3 245 [v8 x.a, v8 x.b]).cell 1
     have HR3 := Lib.hid ((HR2.out.frm HW3.out.frm (by simp; omega)).alloc (.cells #[v8 x.a, v8 x.b] 245))
     have HO5 := Lib.hid ((ho3.alloc (.cells #[v8 x.a, v8 x.b] 245)).alloc (.cells #[v8 x.a, v8 x.b] 245))
     have HW5 := Lib.hid (((own_frm HOW2.out HW3.out.frm (by intro q hq; simp at hq; subst hq; exact own_ne HOW2.out (by omega))).alloc (.cells #[v8 x.a, v8 x.b] 245)).alloc (.cells #[v8 x.a, v8 x.b] 245))
     have HA5 := Lib.hid (((HAC.out.from_ HW3.out).below ((Below.refl _ _).alloc (Nat.le_refl _) (.cells #[v8 x.a, v8 x.b] 245))).below ((Below.refl _ _).alloc (Nat.le_refl _) (.cells #[v8 x.a, v8 x.b] 245)))
     have hsrc := Lib.hid (Ry.src (m := 1) (Ry.of_cel (Cel.new (w3.alloc (.cells #[v8 x.a, v8 x.b] 245)) 245 [v8 x.a, v8 x.b])) (by simp))
     simp only [World.size_alloc] at hsrc
     clear ho3 hi hj
     generalize hln : acc.length = ln at *
     go_wp2_with ((at_builtin; refine wpList_append_any _ rfl _ _ 202 rfl (g + 1) 245 rowSpan (.slice A2 ln cA) ln (sflat acc) rfl HW5.out (some ⟨w3.heap.size + 1, 0, none⟩) 1 1 [v8 x.a, v8 x.b] rfl rfl hsrc.out (by intro u hu; simp at hu; rcases hu with rfl | rfl <;> rfl) (ln + 1) (sflat (acc ++ [x])) rfl (sflat_snoc _ _).symm (by unfold maxLen; omega) (by omega) (by simp; omega) ?_; intro A8 c8 w8 ho8 hg8 _; have h8 := HO5.out.grown hg8 (own_ne HW5.out (Nat.lt_succ_self _)); have y2 := h8.cell 2; have g2 := h8.free 2; have HO8 := Lib.hid h8; have HW8 := Lib.hid ho8; have HG8 := Lib.hid hg8; clear h8 ho8 hg8))
     subst hln
     have hnext := ((HA5.out.grown hbw HG8.out (fun q e => by have := own_ge HW5.out q e; omega)).setNew (g := g) (by omega) hbw 2 (.slice A8 (acc.length + 1) c8))
     refine ⟨⟨j, acc ++ [x], ⟨hnext, ((HR3.out.alloc _).grown HG8.out (own_ne HW5.out (by omega))).far (by simp; omega) _, A8, c8, ?_, ?_⟩, hj2, by simp; omega, HE.out⟩, by rw [kOf_pc hnext.pc, kOf_pc HSG.out.at_.pc]; omega⟩
     ·rw [List.length_append]
      exact HO8.out.set 2 _
     ·rw [List.length_append]
      exact own_frm HW8.out ((Frm.refl [g] _).set (by simp) _) (by intro q hq; simp at hq; subst hq; exact own_ne HW8.out (Nat.lt_succ_self _))
end Go.Proofs.YteohlpmojfjjdaaGreat.Reg
end
section
namespace Go.Proofs.YteohlpmojfjjdaaGreat.Reg
open Go.RowKit
theorem ne_lit {x : BitVec 8} {k : Nat} (hk : k < 256) (h : x ≠ BitVec.ofNat 8 k) : ((x.toNat : Int) == (k : Int)) = false := by rw [v8_lit hk]; exact decide_eq_false h
theorem newOn2 (w : World) (b : Nat) (u : Value) (i : Nat) (t : TypeId) (cs : List Value) (o : Obj) : Cel (((w.setCell ⟨b, i, none⟩ u).alloc o).alloc (.cells cs.toArray t)) (w.heap.size + 1) t cs := by
 have := Cel.new ((w.setCell ⟨b, i, none⟩ u).alloc o) t cs
 rwa [show ((w.setCell ⟨b, i, none⟩ u).alloc o).heap.size = w.heap.size + 1 by simp [World.setCell, World.alloc]] at this
theorem atom_bad (w : World) (b : Nat) (A : Option Addr) (n c k : Nat) (s : List (BitVec 8)) (x : BitVec 8) (ov : Value) (hb hp : Bool) (iv : Value) (h : Pc w b (.slice A n c) k ov hb hp iv) (hx : x = 42#8 ∨ x = 43#8 ∨ x = 63#8 ∨ x = 93#8) :
  Calls Tryz.prog 165 #[.pointer (some ⟨b, 0, none⟩), v8 x] w (OpSays w b (.slice A n c) ov hb hp iv (atomL s k x)) := by
 have hbw := h.lt
 have HP := Lib.hid ((At.refl h).below ((Below.refl _ _).alloc (Nat.le_refl _) (.cells #[.int .i64 0, .bool false, .slice none 0 0] 223)))
 have HC := Lib.hid (Cel.new w 223 [.int .i64 0, .bool false, .slice none 0 0])
 have e : atomL s k x = .error k := by unfold atomL; rw [if_pos hx]
 rw [e]
 clear h e
 rcases hx with rfl | rfl | rfl | rfl
 all_goals
  go_enter Tryz.func165, Tryz.ntmps165
  go_wp2_with fail
  refine bodyPost_ret (v := .tuple #[noOp, .bool false]) (results_at 4 223 5 Tryz.results165 ⟨w.heap.size, 0, none⟩ rfl _ _ rfl (load_op HC.out)) rfl ?_
  exact ⟨rfl, HP.out⟩
theorem OpSays.on {w : World} {b : Nat} {sv ov iv : Value} {hb hp : Bool} {r : Except Nat (Rop × Nat)} {e : Ending} {w1 : World} (h : OpSays (w.alloc (.cells #[.int .i64 0, .bool false, .slice none 0 0] 223)) b sv ov hb hp iv r e w1) (hc : Cel w1 w.heap.size 223 [.int .i64 0, .bool false, .slice none 0 0]) (hbw : b < w.heap.size) {k : Nat} (h0 : At w (w.alloc (.cells #[.int .i64 0, .bool false, .slice none 0 0] 223)) b sv k ov hb hp iv) :
  ∃ z g A m c ok, e = .returned (.tuple #[.agg #[.int .i64 z, .bool g, .slice A m c], .bool ok]) ∧ OpSays w b sv ov hb hp iv r (.returned (.tuple #[.agg #[.int .i64 z, .bool g, .slice A m c], .bool ok])) (((w1.setCell ⟨w.heap.size, 0, none⟩ (.int .i64 z)).setCell ⟨w.heap.size, 1, none⟩ (.bool g)).setCell ⟨w.heap.size, 2, none⟩ (.slice A m c)) := by
 rcases r with p | ⟨o, j⟩
 ·obtain ⟨rfl, ha⟩ := h
  exact ⟨_, _, _, _, _, _, rfl, rfl, (h0.from_ ha).setNew3 (Nat.le_refl _) hbw _ _ _⟩
 ·obtain ⟨A, c, rfl, hs, ha⟩ := h
  exact ⟨_, _, _, _, _, _, rfl, A, c, rfl, hs.setCells3 hc _ _ _, (h0.from_ ha).setNew3 (Nat.le_refl _) hbw _ _ _⟩
theorem OpSays.at_ {w : World} {b : Nat} {sv ov iv : Value} {hb hp : Bool} {r : Except Nat (Rop × Nat)} {e : Ending} {w1 : World} (h : OpSays w b sv ov hb hp iv r e w1) : Frm [b] w w1 := by
 rcases r with p | ⟨o, j⟩
 ·exact h.2.frm
 ·obtain ⟨A, c, _, _, ha⟩ := h
  exact ha.frm
theorem atom_calls (w : World) (B b : Nat) (A : Option Addr) (n c k : Nat) (s : List (BitVec 8)) (x : BitVec 8) (ov : Value) (hb hp : Bool) (iv : Value) (h : Pc w b (.slice A n c) k ov hb hp iv) (hs : Bs w B A n s) (hB : B ≤ b) (hk : k < n) (hn : n ≤ 100000) (hx : x = 91#8 ∨ x = 92#8) :
  Calls Tryz.prog 165 #[.pointer (some ⟨b, 0, none⟩), v8 x] w (OpSays w b (.slice A n c) ov hb hp iv (atomL s k x)) := by
 have hbw := h.lt
 have hp0 := (At.refl h).below ((Below.refl _ _).alloc (Nat.le_refl _) (.cells #[.int .i64 0, .bool false, .slice none 0 0] 223))
 have HP := Lib.hid hp0
 have HC := Lib.hid (Cel.new w 223 [.int .i64 0, .bool false, .slice none 0 0])
 have con1 := set_call _ B b A n c k s ov hb hp iv hp0.pc (hp0.bs hs hB hbw) hB hk hn
 have con2 := escape_call _ B b A n c k s ov hb hp iv hp0.pc (hp0.bs hs hB hbw) hB hk hn
 clear h hs hp0
 rcases hx with rfl | rfl
 ·have e : atomL s k 91#8 = setR s k := by unfold atomL; rw [if_neg (by decide), if_pos rfl]
  rw [e]
  clear e con2
  go_enter Tryz.func165, Tryz.ntmps165
  go_wp2_with fail
  refine con1.mono ?_
  rintro e w1 hsay
  have hc1 := HC.out.frm hsay.at_ (by simp; omega)
  obtain ⟨z, ng, A3, m3, c3, ok, rfl, hs2⟩ := hsay.on hc1 hbw HP.out
  have c0 := hc1.cell 0
  have c1 := hc1.cell 1
  have c2 := hc1.cell 2
  have f0 := hc1.free 0
  have f1 := hc1.free 1
  have f2 := hc1.free 2
  have HC1 := Lib.hid hc1
  have HS2 := Lib.hid hs2
  clear hc1 hs2 hsay con1
  go_wp2_with fail
  refine bodyPost_ret (v := .tuple #[.agg #[.int .i64 z, .bool ng, .slice A3 m3 c3], .bool ok]) (results_at 4 223 5 Tryz.results165 ⟨w.heap.size, 0, none⟩ rfl _ _ rfl (load_op (setCells3 HC1.out))) rfl HS2.out
 ·have e : atomL s k 92#8 = escape s k := by unfold atomL; rw [if_neg (by decide), if_neg (by decide), if_pos rfl]
  rw [e]
  clear e con1
  go_enter Tryz.func165, Tryz.ntmps165
  go_wp2_with fail
  refine con2.mono ?_
  rintro e w1 hsay
  have hc1 := HC.out.frm hsay.at_ (by simp; omega)
  obtain ⟨z, ng, A3, m3, c3, ok, rfl, hs2⟩ := hsay.on hc1 hbw HP.out
  have c0 := hc1.cell 0
  have c1 := hc1.cell 1
  have c2 := hc1.cell 2
  have f0 := hc1.free 0
  have f1 := hc1.free 1
  have f2 := hc1.free 2
  have HC1 := Lib.hid hc1
  have HS2 := Lib.hid hs2
  clear hc1 hs2 hsay con2
  go_wp2_with fail
  refine bodyPost_ret (v := .tuple #[.agg #[.int .i64 z, .bool ng, .slice A3 m3 c3], .bool ok]) (results_at 4 223 5 Tryz.results165 ⟨w.heap.size, 0, none⟩ rfl _ _ rfl (load_op (setCells3 HC1.out))) rfl HS2.out
theorem atom_one (w : World) (b : Nat) (A : Option Addr) (n c k : Nat) (s : List (BitVec 8)) (x : BitVec 8) (ov : Value) (hb hp : Bool) (iv : Value) (h : Pc w b (.slice A n c) k ov hb hp iv) (hk : k < n) (hn : n ≤ 100000) (h1 : ¬ (x = 42#8 ∨ x = 43#8 ∨ x = 63#8 ∨ x = 93#8)) (h2 : x ≠ 91#8) (h3 : x ≠ 92#8) :
  Calls Tryz.prog 165 #[.pointer (some ⟨b, 0, none⟩), v8 x] w (OpSays w b (.slice A n c) ov hb hp iv (atomL s k x)) := by
 have hbw := h.lt
 have p1 := Cel.cell h 1
 have pf1 := Cel.free h 1
 have HP := Lib.hid (fun o : Obj => h.next.below ((Below.refl _ _).alloc (Nat.le_refl _) o))
 have d1 : ((x.toNat : Int) == 42) = false := ne_lit (x := x) (k := 42) (by decide) (fun q => h1 (.inl q))
 have d2 : ((x.toNat : Int) == 43) = false := ne_lit (x := x) (k := 43) (by decide) (fun q => h1 (.inr (.inl q)))
 have d3 : ((x.toNat : Int) == 63) = false := ne_lit (x := x) (k := 63) (by decide) (fun q => h1 (.inr (.inr (.inl q))))
 have d4 : ((x.toNat : Int) == 93) = false := ne_lit (x := x) (k := 93) (by decide) (fun q => h1 (.inr (.inr (.inr q))))
 have d5 : ((x.toNat : Int) == 91) = false := ne_lit (x := x) (k := 91) (by decide) h2
 have d6 : ((x.toNat : Int) == 92) = false := ne_lit (x := x) (k := 92) (by decide) h3
 have e : atomL s k x = if x = 46#8 then .ok (⟨1, true, [⟨10#8, 10#8⟩]⟩, k + 1) else .ok (⟨1, false, [⟨x, x⟩]⟩, k + 1) := by unfold atomL; rw [if_neg h1, if_neg h2, if_neg h3]
 rw [e]
 clear h e h1 h2 h3
 by_cases h46 : x = 46#8
 ·rw [if_pos h46]
  subst h46
  go_enter Tryz.func165, Tryz.ntmps165
  go_wp2_with fail
  refine bodyPost_ret (v := .tuple #[opV ⟨1, true, [⟨10#8, 10#8⟩]⟩ (some ⟨w.heap.size + 1, 0, none⟩) 1, .bool true]) (results_at 4 223 5 Tryz.results165 ⟨w.heap.size, 0, none⟩ rfl _ _ rfl (load_op ((newOn w b (.int .i64 ((k : Int) + 1)) 1 223 [.int .i64 1, .bool true, .slice (some ⟨w.heap.size + 1, 0, none⟩) 1 1]).alloc _))) rfl ?_
  exact ⟨_, _, rfl, Ry.of_cel (newOn2 w b _ 1 245 [.int .u8 10, .int .u8 10] _), (HP.out _).below ((Below.refl _ _).alloc (Nat.le_refl _) _)⟩
 ·rw [if_neg h46]
  have d7 : ((x.toNat : Int) == 46) = false := ne_lit (x := x) (k := 46) (by decide) h46
  clear h46
  go_enter Tryz.func165, Tryz.ntmps165
  go_wp2_with fail
  refine bodyPost_ret (v := .tuple #[opV ⟨1, false, [⟨x, x⟩]⟩ (some ⟨w.heap.size + 1, 0, none⟩) 1, .bool true]) (results_at 4 223 5 Tryz.results165 ⟨w.heap.size, 0, none⟩ rfl _ _ rfl (load_op ((newOn w b (.int .i64 ((k : Int) + 1)) 1 223 [.int .i64 1, .bool false, .slice (some ⟨w.heap.size + 1, 0, none⟩) 1 1]).alloc _))) rfl ?_
  exact ⟨_, _, rfl, Ry.of_cel (newOn2 w b _ 1 245 [v8 x, v8 x] _), (HP.out _).below ((Below.refl _ _).alloc (Nat.le_refl _) _)⟩
theorem atom_call (w : World) (B b : Nat) (A : Option Addr) (n c k : Nat) (s : List (BitVec 8)) (x : BitVec 8) (ov : Value) (hb hp : Bool) (iv : Value) (h : Pc w b (.slice A n c) k ov hb hp iv) (hs : Bs w B A n s) (hB : B ≤ b) (hk : k < n) (hn : n ≤ 100000) :
  Calls Tryz.prog 165 #[.pointer (some ⟨b, 0, none⟩), v8 x] w (OpSays w b (.slice A n c) ov hb hp iv (atomL s k x)) := by
 by_cases h1 : x = 42#8 ∨ x = 43#8 ∨ x = 63#8 ∨ x = 93#8
 ·exact atom_bad w b A n c k s x ov hb hp iv h h1
 by_cases h2 : x = 91#8 ∨ x = 92#8
 ·exact atom_calls w B b A n c k s x ov hb hp iv h hs hB hk hn h2
 ·exact atom_one w b A n c k s x ov hb hp iv h hk hn h1 (fun q => h2 (.inl q)) (fun q => h2 (.inr q))
theorem repet_call (w : World) (B b : Nat) (A : Option Addr) (n c k : Nat) (s : List (BitVec 8)) (ov : Value) (hb hp : Bool) (iv : Value) (h : Pc w b (.slice A n c) k ov hb hp iv) (hs : Bs w B A n s) (hB : B ≤ b) (hk : k ≤ n) (hn : n ≤ 100000) :
  Calls Tryz.prog 185 #[.pointer (some ⟨b, 0, none⟩)] w fun e w' => e = .returned (.int .i64 (repet s k)) ∧ At w w' b (.slice A n c) (if repet s k = 0 then k else k + 1) ov hb hp iv := by
 have hbw := h.lt
 have H := Lib.hid h
 have HS := Lib.hid hs
 clear h hs
 generalize hr : repet s k = r
 have hr2 := hr
 unfold repet at hr2
 have HR := Lib.hid hr2
 clear hr hr2
 go_enter Tryz.func185, Tryz.ntmps185
 go_wp2_with fail
 refine (skip_call w B b A n c k s 42#8 ov hb hp iv H.out HS.out hk hn).mono ?_
 rintro e w1 ⟨rfl, hw1⟩
 by_cases h1 : s[k]? = some 42#8
 ·have hz := HR.out
  rw [if_pos h1] at hw1 hz
  rw [decide_eq_true h1]
  subst hz
  have HW1 := Lib.hid hw1
  clear hw1 h1
  go_wp2_with fail
  go_ret
  exact ⟨rfl, HW1.out⟩
 ·have hz := HR.out
  rw [if_neg h1] at hw1 hz
  rw [decide_eq_false h1]
  have HW1 := Lib.hid hw1
  have HZ := Lib.hid hz
  clear hw1 h1 hz HR
  go_wp2_with fail
  refine (skip_call w1 B b A n c k s 43#8 ov hb hp iv HW1.out.pc (HW1.out.bs HS.out hB hbw) hk hn).mono ?_
  rintro e w2 ⟨rfl, hw2⟩
  by_cases h2 : s[k]? = some 43#8
  ·have hz := HZ.out
   rw [if_pos h2] at hw2 hz
   rw [decide_eq_true h2]
   subst hz
   have HW2 := Lib.hid (HW1.out.from_ hw2)
   clear hw2 h2
   go_wp2_with fail
   go_ret
   exact ⟨rfl, HW2.out⟩
  ·have hz := HZ.out
   rw [if_neg h2] at hw2 hz
   rw [decide_eq_false h2]
   have HW2 := Lib.hid (HW1.out.from_ hw2)
   have HY := Lib.hid hz
   clear hw2 h2 hz HZ
   go_wp2_with fail
   refine (skip_call w2 B b A n c k s 63#8 ov hb hp iv HW2.out.pc (HW2.out.bs HS.out hB hbw) hk hn).mono ?_
   rintro e w3 ⟨rfl, hw3⟩
   by_cases h3 : s[k]? = some 63#8
   ·have hz := HY.out
    rw [if_pos h3] at hw3 hz
    rw [decide_eq_true h3]
    subst hz
    have HW3 := Lib.hid (HW2.out.from_ hw3)
    clear hw3 h3
    go_wp2_with fail
    go_ret
    exact ⟨rfl, HW3.out⟩
   ·have hz := HY.out
    rw [if_neg h3] at hw3 hz
    rw [decide_eq_false h3]
    subst hz
    have HW3 := Lib.hid (HW2.out.from_ hw3)
    clear hw3 h3
    go_wp2_with fail
    go_ret
    exact ⟨rfl, HW3.out⟩
end Go.Proofs.YteohlpmojfjjdaaGreat.Reg
end
