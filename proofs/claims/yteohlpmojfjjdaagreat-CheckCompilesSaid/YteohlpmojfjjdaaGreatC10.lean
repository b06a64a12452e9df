/-
Texts: RegRefSet RegRefItems
-/
import Derived.Test.YteohlpmojfjjdaaGreatC0
import Derived.Test.YteohlpmojfjjdaaGreatC1
import Derived.Test.YteohlpmojfjjdaaGreatC2
import Derived.Test.YteohlpmojfjjdaaGreatC3
import Derived.Test.YteohlpmojfjjdaaGreatC4
import Derived.Test.YteohlpmojfjjdaaGreatC9
set_option linter.unusedVariables false
set_option linter.unusedSimpArgs false
set_option maxRecDepth 100000
set_option maxHeartbeats 4000000
section
namespace Go.Proofs.YteohlpmojfjjdaaGreat.Reg
open Go.RowKit
theorem setByte_esc {s : List (BitVec 8)} {k : Nat} (h : s[k]? = some 92#8) : setByte s k 0#8 = escd s (k + 1) := by
 unfold setByte escd
 rw [if_pos h]
 rcases s[k + 1]? with _ | c
 ·rfl
 ·dsimp only
  rcases escB c with _ | y
  ·rfl
  ·dsimp only
   rw [if_neg (by simp)]
theorem setByte_least (s : List (BitVec 8)) (k : Nat) (a : BitVec 8) : setByte s k a = match setByte s k 0#8 with
  | .error e => .error e
  | .ok (b, j) => if b.toNat < a.toNat then .error (j - 1) else .ok (b, j) := by
 by_cases h92 : s[k]? = some 92#8
 ·rcases h1 : s[k + 1]? with _ | y
  ·rw [setByte_e1 h92 h1, setByte_e1 h92 h1]
  ·rcases h2 : escB y with _ | z
   ·rw [setByte_e2 h92 h1 h2, setByte_e2 h92 h1 h2]
   ·rw [setByte_o3 (least := 0#8) h92 h1 h2 (by simp)]
    dsimp only
    by_cases h3 : z.toNat < a.toNat
    ·rw [setByte_e3 h92 h1 h2 h3, if_pos h3]; rfl
    ·rw [setByte_o3 h92 h1 h2 h3, if_neg h3]
 ·rcases h1 : s[k]? with _ | y
  ·rw [setByte_e4 h1, setByte_e4 h1]
  ·have h9 : y ≠ 92#8 := fun e => h92 (by rw [h1, e])
   by_cases h2 : y = 93#8 ∨ y = 45#8 ∨ y = 94#8
   ·have h3 : ∀ l : BitVec 8, y = 93#8 ∨ y = 45#8 ∨ y = 94#8 ∨ y.toNat < l.toNat := fun l => by
     rcases h2 with q | q | q
     ·exact .inl q
     ·exact .inr (.inl q)
     ·exact .inr (.inr (.inl q))
    rw [setByte_e5 h1 h9 (h3 a), setByte_e5 h1 h9 (h3 0#8)]
   ·rw [setByte_o5 (least := 0#8) h1 h9 (fun q => by
     rcases q with q | q | q | q
     ·exact h2 (.inl q)
     ·exact h2 (.inr (.inl q))
     ·exact h2 (.inr (.inr q))
     ·simp at q)]
    dsimp only
    by_cases h3 : y.toNat < a.toNat
    ·rw [setByte_e5 h1 h9 (.inr (.inr (.inr h3))), if_pos h3]; rfl
    ·rw [setByte_o5 h1 h9 (fun q => by
      rcases q with q | q | q | q
      ·exact h2 (.inl q)
      ·exact h2 (.inr (.inl q))
      ·exact h2 (.inr (.inr q))
      ·exact h3 q), if_neg h3]
theorem rone (w : World) (B b : Nat) (A : Option Addr) (n c p k : Nat) (s : List (BitVec 8)) (h : Rc w b (.slice A n c) 0 p) (hs : Bs w B A n s) (hB : B ≤ b) (hk : k ≤ n) (hn : n ≤ 100000) :
  Calls Tryz.prog 191 #[.pointer (some ⟨b, 0, none⟩), .int .i64 (k : Int)] w (RbSays w b (.slice A n c) p n (setByte s k 0#8)) := by
 have h0 := Cel.cell h 0
 have hl := hs.len
 have H := Lib.hid h
 have HS := Lib.hid hs
 rcases Nat.lt_or_ge k n with hlt | hge
 ·obtain ⟨ad, rfl, _, hc⟩ := hs.at_ hlt
  have e : s[k]? = some (s.getD k 0#8) := by rw [List.getD_eq_getElem?_getD, List.getElem?_eq_getElem (by omega)]; rfl
  generalize s.getD k 0#8 = y at *
  have d1 : decide (n ≤ k) = false := by simp; omega
  have HE := Lib.hid e
  clear h hs e
  by_cases h9 : y = 92#8
  ·subst h9
   rw [setByte_esc HE.out]
   have con := rescaped w B b _ n c p (k + 1) s H.out HS.out (by omega) hn
   go_enter Tryz.func191, Tryz.ntmps191
   go_wp2_with fail
   have con2 := con
   rw [show ((k + 1 : Nat) : Int) = (k : Int) + 1 by omega] at con2
   refine con2.mono ?_
   clear con con2
   rintro e w1 hsay
   generalize escd s (k + 1) = r at *
   rcases r with q | ⟨z, j⟩
   ·obtain ⟨u, j, rfl, hj, hra⟩ := hsay
    have HRA := Lib.hid hra
    clear hra
    go_wp2_with fail
    go_ret2
    exact ⟨u, j, rfl, hj, HRA.out⟩
   ·obtain ⟨rfl, hra⟩ := hsay
    have HRA := Lib.hid hra
    clear hra
    go_wp2_with fail
    go_ret2
    exact ⟨rfl, HRA.out⟩
  have d2 : ((y.toNat : Int) == 92) = false := by rw [show ((y.toNat : Int) == 92) = decide (y = 92#8) from v8_lit (by decide)]; exact decide_eq_false h9
  have e1 : ((y.toNat : Int) == 93) = decide (y = 93#8) := v8_lit (by decide)
  have e2 : ((y.toNat : Int) == 45) = decide (y = 45#8) := v8_lit (by decide)
  have e3 : ((y.toNat : Int) == 94) = decide (y = 94#8) := v8_lit (by decide)
  have H9 := Lib.hid h9
  clear h9
  by_cases h2 : y = 93#8 ∨ y = 45#8 ∨ y = 94#8
  ·rw [setByte_e5 HE.out H9.out (h2.elim .inl fun q => q.elim (fun q => .inr (.inl q)) fun q => .inr (.inr (.inl q)))]
   have con := rwrong w b _ k 2 p H.out
   clear e1 e2 e3 d2 H9
   rcases h2 with rfl | rfl | rfl
   all_goals
    go_enter Tryz.func191, Tryz.ntmps191
    go_wp2_with fail
    refine con.mono ?_
    rintro e w2 ⟨rfl, hra⟩
    have HRA := Lib.hid hra
    clear hra
    go_wp2_with fail
    go_ret2
    exact ⟨_, k + 1, rfl, by omega, HRA.out⟩
  ·rw [setByte_o5 HE.out H9.out (fun q => by
     rcases q with q | q | q | q
     ·exact h2 (.inl q)
     ·exact h2 (.inr (.inl q))
     ·exact h2 (.inr (.inr q))
     ·simp at q)]
   rw [decide_eq_false (fun q => h2 (.inl q))] at e1
   rw [decide_eq_false (fun q => h2 (.inr (.inl q)))] at e2
   rw [decide_eq_false (fun q => h2 (.inr (.inr q)))] at e3
   clear h2
   go_enter Tryz.func191, Tryz.ntmps191
   go_wp2_with fail
   go_ret2
   exact ⟨rfl, Ra.refl H.out⟩
 ·obtain rfl : k = n := by omega
  have e : s[k]? = none := List.getElem?_eq_none (by omega)
  rw [setByte_e4 e]
  clear h hs e
  go_enter Tryz.func191, Tryz.ntmps191
  go_wp2_with fail
  refine (rwrong w b _ k 2 p H.out).mono ?_
  rintro e w2 ⟨rfl, hra⟩
  have HRA := Lib.hid hra
  clear hra
  go_wp2_with fail
  go_ret2
  exact ⟨0#8, k, rfl, by omega, HRA.out⟩
def RSpn (w : World) (A : Option Addr) (l : List Sp) : Prop := Ry 237 w A (sflat l)
theorem rinfoSpan : (Tryz.prog.info? 237).map (fun i => (i.zero, i.size, i.bytes)) = some (some (.agg #[.int .u8 0, .int .u8 0]), 2, 2) := by kernel_rfl
theorem rrowSpan : ElemRow Tryz.prog 168 237 2 2 := ElemRow.mk' Tryz.underlying168 rinfoSpan rfl (by decide)
theorem rclass (w : World) (x : BitVec 8) :
  Calls Tryz.prog 177 #[v8 x] w fun e w' => ∃ A c, e = .returned (.slice A (classOf x).length c) ∧ RSpn w' A (classOf x) ∧ Below w.heap.size w w' := by
 by_cases h1 : x = 100#8
 ·subst h1
  have hsrc := Lib.hid (Ry.src (m := 1) (Ry.of_cel (Cel.new w 237 [.int .u8 48, .int .u8 57])) (by simp))
  have HB := Lib.hid ((Below.refl w.heap.size w).alloc (Nat.le_refl _) (.cells #[.int .u8 48, .int .u8 57] 237))
  go_enter Tryz.func177, Tryz.ntmps177
  go_wp2_with ((at_builtin; refine wpList_append_any _ rfl _ _ 168 rfl w.heap.size 237 rrowSpan (.slice none 0 0) 0 [] rfl (World.ownsRow_nil _ _ _ _) (some ⟨w.heap.size, 0, none⟩) 1 1 [.int .u8 48, .int .u8 57] rfl rfl hsrc.out (by intro u hu; simp at hu; rcases hu with rfl | rfl <;> rfl) 1 [.int .u8 48, .int .u8 57] rfl rfl (by unfold maxLen; omega) (by omega) (by simp) ?_; intro A8 c8 w8 ho8 hg8 _))
  go_ret
  exact ⟨A8, c8, rfl, Ry.of_own ho8 (by decide), HB.out.grown hg8 HB.out.size (by intro g e; cases e)⟩
 by_cases h3 : x = 115#8
 ·subst h3
  have hsrc := Lib.hid (Ry.src (m := 2) (Ry.of_cel (Cel.new w 237 [.int .u8 9, .int .u8 13, .int .u8 32, .int .u8 32])) (by simp))
  have HB := Lib.hid ((Below.refl w.heap.size w).alloc (Nat.le_refl _) (.cells #[.int .u8 9, .int .u8 13, .int .u8 32, .int .u8 32] 237))
  go_enter Tryz.func177, Tryz.ntmps177
  go_wp2_with ((at_builtin; refine wpList_append_any _ rfl _ _ 168 rfl w.heap.size 237 rrowSpan (.slice none 0 0) 0 [] rfl (World.ownsRow_nil _ _ _ _) (some ⟨w.heap.size, 0, none⟩) 2 2 [.int .u8 9, .int .u8 13, .int .u8 32, .int .u8 32] rfl rfl hsrc.out (by intro u hu; simp at hu; rcases hu with rfl | rfl | rfl | rfl <;> rfl) 2 [.int .u8 9, .int .u8 13, .int .u8 32, .int .u8 32] rfl rfl (by unfold maxLen; omega) (by omega) (by simp) ?_; intro A8 c8 w8 ho8 hg8 _))
  go_ret
  exact ⟨A8, c8, rfl, Ry.of_own ho8 (by decide), HB.out.grown hg8 HB.out.size (by intro g e; cases e)⟩
 by_cases h2 : x = 119#8
 ·subst h2
  have hsrc := Lib.hid (Ry.src (m := 1) (Ry.of_cel (Cel.new w 237 [.int .u8 48, .int .u8 57])) (by simp))
  have HB := Lib.hid ((Below.refl w.heap.size w).alloc (Nat.le_refl _) (.cells #[.int .u8 48, .int .u8 57] 237))
  go_enter Tryz.func177, Tryz.ntmps177
  go_wp2_with (first | (at_builtin; refine wpList_append_any _ rfl _ _ 168 rfl w.heap.size 237 rrowSpan (.slice none 0 0) 0 [] rfl (World.ownsRow_nil _ _ _ _) (some ⟨w.heap.size, 0, none⟩) 1 1 [.int .u8 48, .int .u8 57] rfl rfl hsrc.out (by intro u hu; simp at hu; rcases hu with rfl | rfl <;> rfl) 1 [.int .u8 48, .int .u8 57] rfl rfl (by unfold maxLen; omega) (by omega) (by simp) ?_; intro A8 c8 w8 ho8 hg8 _; have hb8 := Lib.hid (HB.out.grown hg8 HB.out.size (by intro g e; cases e)); have hs8 := hb8.out.size; have hsr8 := Lib.hid (Ry.src (m := 3) (Ry.of_cel (Cel.new w8 237 [.int .u8 65, .int .u8 90, .int .u8 95, .int .u8 95, .int .u8 97, .int .u8 122])) (by simp)); have HO8 := Lib.hid (World.ownsRow.alloc ho8 (.cells #[.int .u8 65, .int .u8 90, .int .u8 95, .int .u8 95, .int .u8 97, .int .u8 122] 237)); clear ho8 hg8) | (at_builtin; refine wpList_append_any _ rfl _ _ 168 rfl w.heap.size 237 rrowSpan (.slice A8 1 c8) 1 [.int .u8 48, .int .u8 57] rfl HO8.out (some ⟨w8.heap.size, 0, none⟩) 3 3 [.int .u8 65, .int .u8 90, .int .u8 95, .int .u8 95, .int .u8 97, .int .u8 122] rfl rfl hsr8.out (by intro u hu; simp at hu; rcases hu with rfl | rfl | rfl | rfl | rfl | rfl <;> rfl) 4 [.int .u8 48, .int .u8 57, .int .u8 65, .int .u8 90, .int .u8 95, .int .u8 95, .int .u8 97, .int .u8 122] rfl rfl (by unfold maxLen; omega) (by omega) (by simp; omega) ?_; intro A9 c9 w9 ho9 hg9 _))
  go_ret
  exact ⟨A9, c9, rfl, Ry.of_own ho9 (by decide), (hb8.out.alloc hs8 _).grown hg9 (by simp; omega) (own_ge HO8.out)⟩
 have e1 : ((x.toNat : Int) == 100) = false := by rw [show ((x.toNat : Int) == 100) = decide (x = 100#8) from v8_lit (by decide)]; exact decide_eq_false h1
 have e2 : ((x.toNat : Int) == 119) = false := by rw [show ((x.toNat : Int) == 119) = decide (x = 119#8) from v8_lit (by decide)]; exact decide_eq_false h2
 have e3 : ((x.toNat : Int) == 115) = false := by rw [show ((x.toNat : Int) == 115) = decide (x = 115#8) from v8_lit (by decide)]; exact decide_eq_false h3
 have e : classOf x = [] := by unfold classOf; rw [if_neg h1, if_neg h2, if_neg h3]
 rw [e]
 clear h1 h2 h3 e
 go_enter Tryz.func177, Tryz.ntmps177
 go_wp2_with fail
 go_ret
 exact ⟨_, _, rfl, Ry.nil_, Below.refl _ _⟩
end Go.Proofs.YteohlpmojfjjdaaGreat.Reg
end
section
namespace Go.Proofs.YteohlpmojfjjdaaGreat.Reg
open Go.RowKit
theorem rload_op {w : World} {g : Nat} {x0 x1 x2 : Value} (h : Cel w g 208 [x0, x1, x2]) : (loadVar 208 ⟨g, 0, none⟩).run Tryz.prog w = .ok (.agg #[x0, x1, x2]) w :=
 run_loadVar_mid (P := Tryz.prog) w g 0 208 [x0, x1, x2] _ (range_of h) Tryz.underlying208 rfl (by kernel_rfl)
theorem RSpn.setCells3 {w : World} {A : Option Addr} {l : List Sp} (h : RSpn w A l) {g : Nat} {x0 x1 x2 : Value} (hc : Cel w g 208 [x0, x1, x2]) (u0 u1 u2 : Value) : RSpn (((w.setCell ⟨g, 0, none⟩ u0).setCell ⟨g, 1, none⟩ u1).setCell ⟨g, 2, none⟩ u2) A l :=
 ((Ry.set h (hc.not_ty (by decide)) u0).set ((hc.set 0 u0).not_ty (by decide)) u1).set (((hc.set 0 u0).set 1 u1).not_ty (by decide)) u2
def badOf (b : Nat) (w : World) : Int := match w.cell? ⟨b, 1, none⟩ with
 | some (.int _ z) => z
 | _ => 0
theorem badOf_rc {w : World} {b bad p : Nat} {sv : Value} (h : Rc w b sv bad p) : badOf b w = (bad : Int) := by unfold badOf; rw [Cel.cell h 1]; rfl
def RSt (s : List (BitVec 8)) (k0 p n : Nat) (w : World) (b : Nat) (sv : Value) (j : Nat) (acc : List Sp) : Prop :=
 (Rc w b sv 0 p ∧ items s k0 [] = items s j acc ∧ j ≤ n ∧ acc.length ≤ j) ∨ ∃ q, Rc w b sv 2 q ∧ items s k0 [] = .error q ∧ j ≤ n + 5 ∧ acc.length ≤ n + 1
structure Rg (w : World) (b g : Nat) (neg : Bool) (wr : World) (acc : List Sp) : Prop where
 frm : Frm [b] w wr
 res : Cel wr w.heap.size 208 [.int .i64 0, .bool false, .slice none 0 0]
 op : ∃ A c, Cel wr g 208 [.int .i64 1, .bool neg, .slice A acc.length c] ∧ wr.ownsRow (g + 1) 237 2 (.slice A acc.length c) acc.length (sflat acc)
theorem Rg.looked {w : World} {b g : Nat} {neg : Bool} {wr w1 : World} {acc : List Sp} (h : Rg w b g neg wr acc) (hw : b < w.heap.size) (hg : w.heap.size < g) (hf : Frm [b] wr w1) : Rg w b g neg w1 acc := by
 obtain ⟨A, c, ho, hr⟩ := h.op
 exact ⟨h.frm.trans hf, h.res.frm hf (by simp; omega), A, c, ho.frm hf (by simp; omega), own_frm hr hf (by intro q hq; simp at hq; subst hq; exact own_ne hr (by omega))⟩
def RsSays (w : World) (b : Nat) (sv : Value) (p n : Nat) (x : Except Nat (Rop × Nat)) (e : Ending) (w' : World) : Prop := match x with
 | .error q => ∃ z ng A m c j, e = .returned (.tuple #[.agg #[.int .i64 z, .bool ng, .slice A m c], .int .i64 ((j : Nat) : Int)]) ∧ j ≤ n + 5 ∧ Ra w w' b sv 2 q
 | .ok (o, j) => ∃ A c, e = .returned (.tuple #[opV o A c, .int .i64 (j : Int)]) ∧ RSpn w' A o.sp ∧ Ra w w' b sv 0 p
theorem item_of_e {s : List (BitVec 8)} {k j q : Nat} {a : BitVec 8} (h : setByte s k 0#8 = .ok (a, j)) (h1 : s[j]? = some 45#8) (h2 : setByte s (j + 1) 0#8 = .error q) : item s k = .error q :=
 item_e2 h h1 (by rw [setByte_least, h2])
theorem item_of_lt {s : List (BitVec 8)} {k j i : Nat} {a b : BitVec 8} (h : setByte s k 0#8 = .ok (a, j)) (h1 : s[j]? = some 45#8) (h2 : setByte s (j + 1) 0#8 = .ok (b, i)) (h3 : b.toNat < a.toNat) : item s k = .error (i - 1) :=
 item_e2 h h1 (by rw [setByte_least, h2]; dsimp only; rw [if_pos h3])
theorem item_of_ok {s : List (BitVec 8)} {k j i : Nat} {a b : BitVec 8} (h : setByte s k 0#8 = .ok (a, j)) (h1 : s[j]? = some 45#8) (h2 : setByte s (j + 1) 0#8 = .ok (b, i)) (h3 : ¬ b.toNat < a.toNat) : item s k = .ok (⟨a, b⟩, i) :=
 item_o2 h h1 (by rw [setByte_least, h2]; dsimp only; rw [if_neg h3])
theorem Rg.next {w V w8 : World} {b n k0 p jj : Nat} {s : List (BitVec 8)} {ng : Bool} {sv : Value} {acc : List Sp} {ua ub : BitVec 8} {A3 A8 : Option Addr} {c3 c8 : Nat} {o : Obj} (hbw : b < w.heap.size) (HG : Rg w b (w.heap.size + 1) ng V acc) (hst : RSt s k0 p n V b sv jj (acc ++ [⟨ua, ub⟩]))
  (ho : Cel V (w.heap.size + 1) 208 [.int .i64 1, .bool ng, .slice A3 acc.length c3]) (hr : V.ownsRow (w.heap.size + 1 + 1) 237 2 (.slice A3 acc.length c3) acc.length (sflat acc))
  (h8 : w8.ownsRow (w.heap.size + 1 + 1) 237 2 (.slice A8 (acc.length + 1) c8) (acc.length + 1) (sflat (acc ++ [⟨ua, ub⟩]))) (hg : (V.alloc o).grownBy w8 (Value.slice A3 acc.length c3).ownBlock) :
  Rg w b (w.heap.size + 1) ng (w8.setCell ⟨w.heap.size + 1, 2, none⟩ (.slice A8 (acc.length + 1) c8)) (acc ++ [⟨ua, ub⟩]) ∧ RSt s k0 p n (w8.setCell ⟨w.heap.size + 1, 2, none⟩ (.slice A8 (acc.length + 1) c8)) b sv jj (acc ++ [⟨ua, ub⟩]) ∧ badOf b (w8.setCell ⟨w.heap.size + 1, 2, none⟩ (.slice A8 (acc.length + 1) c8)) = badOf b V := by
 have hge : ∀ q, (Value.slice A3 acc.length c3).ownBlock = some q → w.heap.size + 2 ≤ q := fun q e => by have := own_ge hr q e; omega
 have hsV := ho.lt
 have hrc : ∀ {bad q : Nat}, Rc V b sv bad q → Rc (w8.setCell ⟨w.heap.size + 1, 2, none⟩ (.slice A8 (acc.length + 1) c8)) b sv bad q := fun hh => Cel.far (Cel.grown (Cel.alloc hh o) hg (fun e => by have := hge b e; omega)) (by simp; omega) _
 refine ⟨⟨((HG.frm.trans (Frm.of_below ((Below.refl V.heap.size V).alloc (Nat.le_refl _) o))).grown hg fun q e hlt => absurd (hge q e) (by omega)).setNew (by simp) _, ((HG.res.alloc o).grown hg (fun e => by have := hge _ e; omega)).far (by simp) _, A8, c8, ?_, ?_⟩, ?_, ?_⟩
 ·rw [List.length_append]
  exact ((ho.alloc o).grown hg (fun e => by have := hge _ e; omega)).set 2 _
 ·rw [List.length_append]
  exact own_frm h8 ((Frm.refl [w.heap.size + 1] _).set (by simp) _) (by intro q hq; simp at hq; subst hq; exact own_ne h8 (Nat.lt_succ_self _))
 ·rcases hst with ⟨h1, h2, h3, h4⟩ | ⟨q, h1, h2, h3, h4⟩
  ·exact .inl ⟨hrc h1, h2, h3, h4⟩
  ·exact .inr ⟨q, hrc h1, h2, h3, h4⟩
 ·rcases hst with ⟨h1, _⟩ | ⟨q, h1, _⟩
  ·rw [badOf_rc h1, badOf_rc (hrc h1)]
  ·rw [badOf_rc h1, badOf_rc (hrc h1)]
theorem rset_down {b n kk jj : Nat} {V wr : World} (hm : (if badOf b wr = 0 then n + 1 - (intOf (.int .i64 (kk : Int))).toNat else 0) = n + 1 - kk) (hj : badOf b V = 0 → kk < jj ∧ jj ≤ n) (hk : kk ≤ n) :
  (if badOf b V = 0 then n + 1 - (intOf (.int .i64 (jj : Int))).toNat else 0) < (if badOf b wr = 0 then n + 1 - (intOf (.int .i64 (kk : Int))).toNat else 0) := by
 rw [hm]
 by_cases h0 : badOf b V = 0
 ·obtain ⟨q1, q2⟩ := hj h0
  rw [if_pos h0, show (intOf (.int .i64 (jj : Int))).toNat = jj by simp [intOf]]
  omega
 ·rw [if_neg h0]
  omega
theorem rset (w : World) (B b : Nat) (A : Option Addr) (n c p k : Nat) (s : List (BitVec 8)) (h : Rc w b (.slice A n c) 0 p) (hs : Bs w B A n s) (hB : B ≤ b) (hk : k < n) (hn : n ≤ 100000) :
  Calls Tryz.prog 176 #[.pointer (some ⟨b, 0, none⟩), .int .i64 ((k + 1 : Nat) : Int)] w (RsSays w b (.slice A n c) p n (setR s k)) := by
 have hl := hs.len
 have hbw := h.lt
 have hp0 := (Ra.refl h).below ((Below.refl _ _).alloc (Nat.le_refl _) (.cells #[.int .i64 0, .bool false, .slice none 0 0] 208))
 have con := ris (w.alloc (.cells #[.int .i64 0, .bool false, .slice none 0 0] 208)) B b A n c 0 p (k + 1) s 94#8 hp0.rc (hp0.bs hs hB hbw)
 have HP := Lib.hid hp0
 have HS := Lib.hid hs
 generalize hneg : decide (s[k + 1]? = some 94#8) = neg at *
 generalize hk0 : (if s[k + 1]? = some 94#8 then k + 1 + 1 else k + 1) = k0 at *
 have hk0n : k0 ≤ n := by rw [← hk0]; split <;> (try have := get_lt ‹_›) <;> omega
 have HN := Lib.hid hneg
 have HK0 := Lib.hid hk0
 have HCR := Lib.hid (((Cel.new w 208 [.int .i64 0, .bool false, .slice none 0 0])).alloc (.cells #[.int .i64 1, .bool neg, .slice none 0 0] 208))
 have HCO := Lib.hid (show Cel ((w.alloc (.cells #[.int .i64 0, .bool false, .slice none 0 0] 208)).alloc (.cells #[.int .i64 1, .bool neg, .slice none 0 0] 208)) (w.heap.size + 1) 208 [.int .i64 1, .bool neg, .slice none 0 0] by
  have := Cel.new (w.alloc (.cells #[.int .i64 0, .bool false, .slice none 0 0] 208)) 208 [.int .i64 1, .bool neg, .slice none 0 0]
  rwa [show (w.alloc (.cells #[.int .i64 0, .bool false, .slice none 0 0] 208)).heap.size = w.heap.size + 1 by simp] at this)
 have HW2 := Lib.hid (hp0.below ((Below.refl _ _).alloc (Nat.le_refl _) (.cells #[.int .i64 1, .bool neg, .slice none 0 0] 208)))
 clear h hs hp0
 generalize hr : setR s k = r
 have hkk : (k0 : Int) = if neg = true then (k : Int) + 1 + 1 else (k : Int) + 1 := by
  rw [← hk0, ← hneg]; by_cases q : s[k + 1]? = some 94#8 <;> simp [q]
 have HKK := Lib.hid hkk
 clear hneg hk0 hkk
 cases neg
 case' false =>
  have HKV := Lib.hid (show ((k + 1 : Nat) : Int) = (k0 : Int) by have := HKK.out; simp at this; omega)
  go_enter Tryz.func176, Tryz.ntmps176
  go_wp2_with fail
  refine con.mono ?_
  rintro e w1 ⟨rfl, rfl⟩
  go_wp2_with fail
 case' true =>
  have HKV := Lib.hid (show (((k + 1 : Nat) : Int) + 1) = (k0 : Int) by have := HKK.out; simp at this; omega)
  go_enter Tryz.func176, Tryz.ntmps176
  go_wp2_with fail
  refine con.mono ?_
  rintro e w1 ⟨rfl, rfl⟩
  go_wp2_with fail
 all_goals
  go_loopw [1] (fun v wr => ∃ ng kk acc, decide (s[k + 1]? = some 94#8) = ng ∧ v = .int .i64 ((kk : Nat) : Int) ∧ Rg w b (w.heap.size + 1) ng wr acc ∧ RSt s k0 p n wr b (.slice A n c) kk acc) (fun v wr => if badOf b wr = 0 then n + 1 - (intOf v).toNat else 0)
  case atStart =>
   refine ⟨_, k0, [], HN.out, by first | rw [HKV.out] | (rw [← HKV.out]; congr 1), ⟨HW2.out.frm, HCR.out, none, 0, HCO.out, World.ownsRow_nil _ _ _ _⟩, .inl ⟨HW2.out.rc, rfl, hk0n, Nat.zero_le _⟩⟩
  case round =>
   obtain ⟨ng, kk, acc, hng, rfl, hg, hst⟩ := hrel
   have HNG := Lib.hid hng
   have HG := Lib.hid hg
   clear hng hg
   rcases hst with ⟨hrc, hit, hkn, hak⟩ | ⟨q, hrc, hit, hkn, hak⟩
   case' inr =>
    have r1 := Cel.cell hrc 1
    have HRC := Lib.hid hrc
    have HIT := Lib.hid hit
    obtain ⟨A2, c2, ho, hr2⟩ := HG.out.op
    have o0 := ho.cell 0
    have o1 := ho.cell 1
    have o2 := ho.cell 2
    have c0 := HG.out.res.cell 0
    have c1 := HG.out.res.cell 1
    have cc2 := HG.out.res.cell 2
    have f0 := HG.out.res.free 0
    have f1 := HG.out.res.free 1
    have f2 := HG.out.res.free 2
    clear hrc hit ho hr2
    generalize acc.length = al at *
    go_wp2_with fail
    refine bodyPost_ret (v := .tuple #[.agg #[.int .i64 1, .bool ng, .slice A2 al c2], .int .i64 (kk : Int)]) (results_at 4 208 5 Tryz.results176 ⟨w.heap.size, 0, none⟩ rfl _ _ rfl (rload_op (setCells3 HG.out.res))) rfl ?_
    rw [← hr, setR_e HK0.out HIT.out]
    exact ⟨1, ng, A2, al, c2, kk, rfl, hkn, Ra.setNew3 ⟨HRC.out, HG.out.frm⟩ (Nat.le_refl _) hbw _ _ _⟩
   case' inl =>
    have r1 := Cel.cell hrc 1
    have HRC := Lib.hid hrc
    have HIT := Lib.hid hit
    have HBR := Lib.hid ((Ra.mk hrc HG.out.frm).bs HS.out hB hbw)
    have hkm : (if badOf b wr = 0 then n + 1 - (intOf (.int .i64 (kk : Int))).toNat else 0) = n + 1 - kk := by rw [if_pos (by rw [badOf_rc hrc]; rfl)]; simp [intOf]
    have HKM := Lib.hid hkm
    obtain ⟨A2, c2, ho, hr2⟩ := HG.out.op
    have o2 := ho.cell 2
    have hwg := ho.lt
    have HO := Lib.hid ho
    have HR2 := Lib.hid hr2
    clear hrc hit ho hr2 hkm
    by_cases hend : acc ≠ [] ∧ s[kk]? = some 93#8
    case' pos =>
     have d1 : decide (0 < acc.length) = true := decide_eq_true (List.length_pos_iff.2 hend.1)
     have HE := Lib.hid (HIT.out.trans (items_end hend.1 hend.2))
     have hx := Lib.hid hend.2
     clear hend
     go_wp2_with fail
     refine (ris wr B b A n c 0 p kk s 93#8 HRC.out HBR.out).mono ?_
     rintro e w2 ⟨rfl, rfl⟩
     rw [decide_eq_true hx.out]
     have o0 := HO.out.cell 0
     have o1 := HO.out.cell 1
     have c0 := HG.out.res.cell 0
     have c1 := HG.out.res.cell 1
     have cc2 := HG.out.res.cell 2
     have f0 := HG.out.res.free 0
     have f1 := HG.out.res.free 1
     have f2 := HG.out.res.free 2
     generalize hal : acc.length = al at *
     go_wp2_with fail
     subst hal
     refine bodyPost_ret (v := .tuple #[opV ⟨1, ng, acc⟩ A2 c2, .int .i64 ((kk : Int) + 1)]) (results_at 4 208 5 Tryz.results176 ⟨w.heap.size, 0, none⟩ rfl _ _ rfl (rload_op (setCells3 HG.out.res))) rfl ?_
     rw [← hr, setR_o HNG.out HK0.out HE.out]
     exact ⟨A2, c2, rfl, RSpn.setCells3 (Ry.of_own HR2.out (by decide)) HG.out.res _ _ _, Ra.setNew3 ⟨HRC.out, HG.out.frm⟩ (Nat.le_refl _) hbw _ _ _⟩
    case' neg =>
     have HE := Lib.hid (HIT.out.trans (items_more (by omega) hend))
     by_cases hA : acc = []
     case' pos =>
      have d1 : decide (0 < acc.length) = false := by rw [hA]; rfl
      clear hend hA
      go_wp2_with fail
     case' neg =>
      have d1 : decide (0 < acc.length) = true := decide_eq_true (List.length_pos_iff.2 hA)
      have hx : s[kk]? ≠ some 93#8 := fun e => hend ⟨hA, e⟩
      clear hend hA
      go_wp2_with fail
      refine (ris wr B b A n c 0 p kk s 93#8 HRC.out HBR.out).mono ?_
      rintro e w2 ⟨rfl, rfl⟩
      rw [decide_eq_false hx]
      clear hx
      go_wp2_with fail
     all_goals
      clear o2 d1
      refine (rone wr B b A n c p kk s HRC.out HBR.out hB hkn hn).mono ?_
      rintro e V hsay
      generalize h1 : setByte s kk 0#8 = r1' at *
      rcases r1' with q | ⟨a, j⟩
      ·obtain ⟨ua, jj, rfl, hj, hra⟩ := hsay
       have HE2 := Lib.hid (show items s k0 [] = .error (q) by rw [HE.out, item_e1 h1])
       have HGV := Lib.hid (HG.out.looked hbw (by omega) hra.frm)
       have HST := Lib.hid (show RSt s k0 p n V b (.slice A n c) jj (acc ++ [⟨ua, ua⟩]) from .inr ⟨_, hra.rc, HE2.out, by omega, by simp; omega⟩)
       have HJ := Lib.hid (show badOf b V = 0 → kk < jj ∧ jj ≤ n from fun e => by rw [badOf_rc hra.rc] at e; simp at e)
       have rV := Cel.cell hra.rc 1
       clear hra h1 r1
       obtain ⟨A3, c3, ho3, hr3⟩ := HGV.out.op
       have o2 := ho3.cell 2
       have h5 := ho3.alloc (.cells #[v8 ua, v8 ua] 237)
       have HO3 := Lib.hid ho3
       have HO5 := Lib.hid h5
       have HR3 := Lib.hid hr3
       have HR5 := Lib.hid (World.ownsRow.alloc hr3 (.cells #[v8 ua, v8 ua] 237))
       have hsrc := Lib.hid (Ry.src (m := 1) (Ry.of_cel (Cel.new V 237 [v8 ua, v8 ua])) (by simp))
       have hgV := ho3.lt
       have hal : acc.length ≤ n := by omega
       clear ho3 hr3 h5
       generalize hln : acc.length = ln at *
       go_wp2_with ((at_builtin; refine wpList_append_any _ rfl _ _ 168 rfl (w.heap.size + 1 + 1) 237 rrowSpan (.slice A3 ln c3) ln (sflat acc) rfl HR5.out (some ⟨V.heap.size, 0, none⟩) 1 1 [v8 ua, v8 ua] rfl rfl hsrc.out (by intro u hu; simp at hu; rcases hu with rfl | rfl <;> rfl) (ln + 1) (sflat (acc ++ [⟨ua, ua⟩])) rfl (sflat_snoc acc ⟨ua, ua⟩).symm (by unfold maxLen; omega) (by omega) (by simp; omega) ?_; intro A8 c8 w8 ho8 hg8 _; have h8 := HO5.out.grown hg8 (own_ne HR5.out (Nat.lt_succ_self _)); have y2 := h8.cell 2; have g2 := h8.free 2; have HW8 := Lib.hid ho8; have HG8 := Lib.hid hg8; clear h8 ho8 hg8))
       subst hln
       obtain ⟨n1, n2, n3⟩ := Rg.next hbw HGV.out HST.out HO3.out HR3.out HW8.out HG8.out
       refine ⟨⟨ng, jj, _, HNG.out, by go_num, n1, n2⟩, ?_⟩
       rw [n3]
       exact rset_down HKM.out HJ.out hkn
      ·obtain ⟨rfl, hra⟩ := hsay
       have hj := setByte_ok h1
       rw [hl] at hj
       have hj1 := hj.1
       have hj2 := hj.2.1
       have rV := Cel.cell hra.rc 1
       have HRA := Lib.hid hra
       have H1 := Lib.hid h1
       clear hj r1 h1
       go_wp2_with fail
       refine (ris V B b A n c 0 p j s 45#8 HRA.out.rc ((HRA.out).bs HBR.out hB (by have := HRC.out.lt; omega))).mono ?_
       rintro e V' ⟨rfl, rfl⟩
       by_cases h45 : s[j]? = some 45#8
       ·rw [decide_eq_true h45]
        have H45 := Lib.hid h45
        have hj3 : j + 1 ≤ n := by have := get_lt h45; omega
        clear h45
        go_wp2_with fail
        have con2 := rone V B b A n c p (j + 1) s HRA.out.rc ((HRA.out).bs HBR.out hB (by have := HRC.out.lt; omega)) hB hj3 hn
        rw [show ((j + 1 : Nat) : Int) = (j : Int) + 1 by omega] at con2
        refine con2.mono ?_
        clear con2 rV
        rintro e V hsay2
        generalize h2 : setByte s (j + 1) 0#8 = r2' at *
        rcases r2' with q | ⟨b2, i⟩
        ·obtain ⟨ub, jj, rfl, hjj, hra2⟩ := hsay2
         have hra := HRA.out.trans hra2
         clear hra2
         have HE2 := Lib.hid (show items s k0 [] = .error (q) by rw [HE.out, item_of_e H1.out H45.out h2])
         have HGV := Lib.hid (HG.out.looked hbw (by omega) hra.frm)
         have HST := Lib.hid (show RSt s k0 p n V b (.slice A n c) jj (acc ++ [⟨a, ub⟩]) from .inr ⟨_, hra.rc, HE2.out, by omega, by simp; omega⟩)
         have HJ := Lib.hid (show badOf b V = 0 → kk < jj ∧ jj ≤ n from fun e => by rw [badOf_rc hra.rc] at e; simp at e)
         have rV := Cel.cell hra.rc 1
         clear hra h2
         obtain ⟨A3, c3, ho3, hr3⟩ := HGV.out.op
         have o2 := ho3.cell 2
         have h5 := ho3.alloc (.cells #[v8 a, v8 ub] 237)
         have HO3 := Lib.hid ho3
         have HO5 := Lib.hid h5
         have HR3 := Lib.hid hr3
         have HR5 := Lib.hid (World.ownsRow.alloc hr3 (.cells #[v8 a, v8 ub] 237))
         have hsrc := Lib.hid (Ry.src (m := 1) (Ry.of_cel (Cel.new V 237 [v8 a, v8 ub])) (by simp))
         have hgV := ho3.lt
         have hal : acc.length ≤ n := by omega
         clear ho3 hr3 h5
         generalize hln : acc.length = ln at *
         go_wp2_with ((at_builtin; refine wpList_append_any _ rfl _ _ 168 rfl (w.heap.size + 1 + 1) 237 rrowSpan (.slice A3 ln c3) ln (sflat acc) rfl HR5.out (some ⟨V.heap.size, 0, none⟩) 1 1 [v8 a, v8 ub] rfl rfl hsrc.out (by intro u hu; simp at hu; rcases hu with rfl | rfl <;> rfl) (ln + 1) (sflat (acc ++ [⟨a, ub⟩])) rfl (sflat_snoc acc ⟨a, ub⟩).symm (by unfold maxLen; omega) (by omega) (by simp; omega) ?_; intro A8 c8 w8 ho8 hg8 _; have h8 := HO5.out.grown hg8 (own_ne HR5.out (Nat.lt_succ_self _)); have y2 := h8.cell 2; have g2 := h8.free 2; have HW8 := Lib.hid ho8; have HG8 := Lib.hid hg8; clear h8 ho8 hg8))
         subst hln
         obtain ⟨n1, n2, n3⟩ := Rg.next hbw HGV.out HST.out HO3.out HR3.out HW8.out HG8.out
         refine ⟨⟨ng, jj, _, HNG.out, by go_num, n1, n2⟩, ?_⟩
         rw [n3]
         exact rset_down HKM.out HJ.out hkn
        ·obtain ⟨rfl, hra2⟩ := hsay2
         have hi := setByte_ok h2
         rw [hl] at hi
         have hi1 := hi.1
         have hi2 := hi.2.1
         have hra := HRA.out.trans hra2
         clear hi hra2
         by_cases hlt : b2.toNat < a.toNat
         ·have d3 : decide (b2.toNat < a.toNat) = true := decide_eq_true hlt
          have HIT2 := Lib.hid (item_of_lt H1.out H45.out h2 hlt)
          have rV := Cel.cell hra.rc 1
          have HRA2 := Lib.hid hra
          obtain ⟨jj, hjj⟩ : ∃ jj, jj = i := ⟨_, rfl⟩
          subst hjj
          clear h2 hlt hra
          go_wp2_with fail
          have con3 := rwrong V b (.slice A n c) (jj - 1) 2 p HRA2.out.rc
          rw [show ((jj - 1 : Nat) : Int) = (jj : Int) - 1 by omega] at con3
          refine con3.mono ?_
          clear con3 rV
          rintro e V ⟨rfl, hra3⟩
          have hra := HRA2.out.trans hra3
          clear hra3
          have HE2 := Lib.hid (show items s k0 [] = .error (jj - 1) by rw [HE.out, HIT2.out])
          have HGV := Lib.hid (HG.out.looked hbw (by omega) hra.frm)
          have HST := Lib.hid (show RSt s k0 p n V b (.slice A n c) jj (acc ++ [⟨a, b2⟩]) from .inr ⟨_, hra.rc, HE2.out, by omega, by simp; omega⟩)
          have HJ := Lib.hid (show badOf b V = 0 → kk < jj ∧ jj ≤ n from fun e => by rw [badOf_rc hra.rc] at e; simp at e)
          have rV := Cel.cell hra.rc 1
          clear hra
          obtain ⟨A3, c3, ho3, hr3⟩ := HGV.out.op
          have o2 := ho3.cell 2
          have h5 := ho3.alloc (.cells #[v8 a, v8 b2] 237)
          have HO3 := Lib.hid ho3
          have HO5 := Lib.hid h5
          have HR3 := Lib.hid hr3
          have HR5 := Lib.hid (World.ownsRow.alloc hr3 (.cells #[v8 a, v8 b2] 237))
          have hsrc := Lib.hid (Ry.src (m := 1) (Ry.of_cel (Cel.new V 237 [v8 a, v8 b2])) (by simp))
          have hgV := ho3.lt
          have hal : acc.length ≤ n := by omega
          clear ho3 hr3 h5
          generalize hln : acc.length = ln at *
          go_wp2_with ((at_builtin; refine wpList_append_any _ rfl _ _ 168 rfl (w.heap.size + 1 + 1) 237 rrowSpan (.slice A3 ln c3) ln (sflat acc) rfl HR5.out (some ⟨V.heap.size, 0, none⟩) 1 1 [v8 a, v8 b2] rfl rfl hsrc.out (by intro u hu; simp at hu; rcases hu with rfl | rfl <;> rfl) (ln + 1) (sflat (acc ++ [⟨a, b2⟩])) rfl (sflat_snoc acc ⟨a, b2⟩).symm (by unfold maxLen; omega) (by omega) (by simp; omega) ?_; intro A8 c8 w8 ho8 hg8 _; have h8 := HO5.out.grown hg8 (own_ne HR5.out (Nat.lt_succ_self _)); have y2 := h8.cell 2; have g2 := h8.free 2; have HW8 := Lib.hid ho8; have HG8 := Lib.hid hg8; clear h8 ho8 hg8))
          subst hln
          obtain ⟨n1, n2, n3⟩ := Rg.next hbw HGV.out HST.out HO3.out HR3.out HW8.out HG8.out
          refine ⟨⟨ng, jj, _, HNG.out, by go_num, n1, n2⟩, ?_⟩
          rw [n3]
          exact rset_down HKM.out HJ.out hkn
         ·have d3 : decide (b2.toNat < a.toNat) = false := decide_eq_false hlt
          obtain ⟨jj, hjj⟩ : ∃ jj, jj = i := ⟨_, rfl⟩
          subst hjj
          have HE2 := Lib.hid (show items s k0 [] = items s jj (acc ++ [⟨a, b2⟩]) by rw [HE.out, item_of_ok H1.out H45.out h2 hlt])
          have HGV := Lib.hid (HG.out.looked hbw (by omega) hra.frm)
          have HST := Lib.hid (show RSt s k0 p n V b (.slice A n c) jj (acc ++ [⟨a, b2⟩]) from .inl ⟨hra.rc, HE2.out, by omega, by simp; omega⟩)
          have HJ := Lib.hid (show badOf b V = 0 → kk < jj ∧ jj ≤ n from fun _ => ⟨by omega, by omega⟩)
          have rV := Cel.cell hra.rc 1
          clear hra h2 hlt
          obtain ⟨A3, c3, ho3, hr3⟩ := HGV.out.op
          have o2 := ho3.cell 2
          have h5 := ho3.alloc (.cells #[v8 a, v8 b2] 237)
          have HO3 := Lib.hid ho3
          have HO5 := Lib.hid h5
          have HR3 := Lib.hid hr3
          have HR5 := Lib.hid (World.ownsRow.alloc hr3 (.cells #[v8 a, v8 b2] 237))
          have hsrc := Lib.hid (Ry.src (m := 1) (Ry.of_cel (Cel.new V 237 [v8 a, v8 b2])) (by simp))
          have hgV := ho3.lt
          have hal : acc.length ≤ n := by omega
          clear ho3 hr3 h5
          generalize hln : acc.length = ln at *
          go_wp2_with ((at_builtin; refine wpList_append_any _ rfl _ _ 168 rfl (w.heap.size + 1 + 1) 237 rrowSpan (.slice A3 ln c3) ln (sflat acc) rfl HR5.out (some ⟨V.heap.size, 0, none⟩) 1 1 [v8 a, v8 b2] rfl rfl hsrc.out (by intro u hu; simp at hu; rcases hu with rfl | rfl <;> rfl) (ln + 1) (sflat (acc ++ [⟨a, b2⟩])) rfl (sflat_snoc acc ⟨a, b2⟩).symm (by unfold maxLen; omega) (by omega) (by simp; omega) ?_; intro A8 c8 w8 ho8 hg8 _; have h8 := HO5.out.grown hg8 (own_ne HR5.out (Nat.lt_succ_self _)); have y2 := h8.cell 2; have g2 := h8.free 2; have HW8 := Lib.hid ho8; have HG8 := Lib.hid hg8; clear h8 ho8 hg8))
          subst hln
          obtain ⟨n1, n2, n3⟩ := Rg.next hbw HGV.out HST.out HO3.out HR3.out HW8.out HG8.out
          refine ⟨⟨ng, jj, _, HNG.out, by go_num, n1, n2⟩, ?_⟩
          rw [n3]
          exact rset_down HKM.out HJ.out hkn
       ·rw [decide_eq_false h45]
        have hra := HRA.out
        obtain ⟨jj, hjj⟩ : ∃ jj, jj = j := ⟨_, rfl⟩
        subst hjj
        clear rV
        have HE2 := Lib.hid (show items s k0 [] = items s jj (acc ++ [⟨a, a⟩]) by rw [HE.out, item_o1 H1.out h45])
        have HGV := Lib.hid (HG.out.looked hbw (by omega) hra.frm)
        have HST := Lib.hid (show RSt s k0 p n V b (.slice A n c) jj (acc ++ [⟨a, a⟩]) from .inl ⟨hra.rc, HE2.out, by omega, by simp; omega⟩)
        have HJ := Lib.hid (show badOf b V = 0 → kk < jj ∧ jj ≤ n from fun _ => ⟨by omega, by omega⟩)
        have rV := Cel.cell hra.rc 1
        clear hra h45
        obtain ⟨A3, c3, ho3, hr3⟩ := HGV.out.op
        have o2 := ho3.cell 2
        have h5 := ho3.alloc (.cells #[v8 a, v8 a] 237)
        have HO3 := Lib.hid ho3
        have HO5 := Lib.hid h5
        have HR3 := Lib.hid hr3
        have HR5 := Lib.hid (World.ownsRow.alloc hr3 (.cells #[v8 a, v8 a] 237))
        have hsrc := Lib.hid (Ry.src (m := 1) (Ry.of_cel (Cel.new V 237 [v8 a, v8 a])) (by simp))
        have hgV := ho3.lt
        have hal : acc.length ≤ n := by omega
        clear ho3 hr3 h5
        generalize hln : acc.length = ln at *
        go_wp2_with ((at_builtin; refine wpList_append_any _ rfl _ _ 168 rfl (w.heap.size + 1 + 1) 237 rrowSpan (.slice A3 ln c3) ln (sflat acc) rfl HR5.out (some ⟨V.heap.size, 0, none⟩) 1 1 [v8 a, v8 a] rfl rfl hsrc.out (by intro u hu; simp at hu; rcases hu with rfl | rfl <;> rfl) (ln + 1) (sflat (acc ++ [⟨a, a⟩])) rfl (sflat_snoc acc ⟨a, a⟩).symm (by unfold maxLen; omega) (by omega) (by simp; omega) ?_; intro A8 c8 w8 ho8 hg8 _; have h8 := HO5.out.grown hg8 (own_ne HR5.out (Nat.lt_succ_self _)); have y2 := h8.cell 2; have g2 := h8.free 2; have HW8 := Lib.hid ho8; have HG8 := Lib.hid hg8; clear h8 ho8 hg8))
        subst hln
        obtain ⟨n1, n2, n3⟩ := Rg.next hbw HGV.out HST.out HO3.out HR3.out HW8.out HG8.out
        refine ⟨⟨ng, jj, _, HNG.out, by go_num, n1, n2⟩, ?_⟩
        rw [n3]
        exact rset_down HKM.out HJ.out hkn
end Go.Proofs.YteohlpmojfjjdaaGreat.Reg
end
