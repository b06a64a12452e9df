/-
Texts: PackRef LexPure AppendAny RowTy By LexOne RecRef
-/
import Derived.Test.YtfmkkklcgiaacaaFA0
import Derived.Test.YtfmkkklcgiaacaaFA1
import Derived.WalkKit
import Derived.ProofKit
import Derived.Test.YtfmkkklcgiaacaaChecked
import Derived.OrdersHeld
import Derived.Deep.RegionHeld
import Derived.BigQuiet
import Derived.Deep.Cut
set_option linter.unusedVariables false
set_option linter.unusedSimpArgs false
set_option maxRecDepth 100000
set_option maxHeartbeats 4000000
section
namespace Go.Proofs.Ytfmkkklcgiaacaa.Pack
open Go.RowKit
def Rm (w : World) (p : Nat → Prop) (g : Nat) (st : St) : Prop :=
 ∃ A n c, Cel w g 80 [.slice A n c, .bool st.isNone] ∧ (∀ r, st = some r → Bp w p A n r) ∧ n ≤ c ∧ c ≤ maxLen
theorem Rm.frm {w w' : World} {p : Nat → Prop} {g : Nat} {st : St} {l : List Nat} (h : Rm w p g st) (hf : Frm l w w') (hg : g ∉ l) (hp : ∀ k, p k → k ∉ l) : Rm w' p g st := by
 obtain ⟨A, n, c, h1, h2, h3⟩ := h
 exact ⟨A, n, c, h1.frm hf hg, fun r hr => (h2 r hr).frm hf hp, h3⟩
theorem Rm.lt {w : World} {p : Nat → Prop} {g : Nat} {st : St} (h : Rm w p g st) : g < w.heap.size := by
 obtain ⟨A, n, c, h1, _⟩ := h
 exact h1.lt
theorem mul64 (n : BitVec 64) (b : BitVec 8) : IntKind.u64.wrap (IntKind.u64.wrap ((256 : Int) * (n.toNat : Int)) + (b.toNat : Int)) = (((n <<< 8) ||| b.setWidth 64).toNat : Int) := by
 rw [or_add, IntKind.wrap_u64, IntKind.wrap_u64, BitVec.toNat_add, BitVec.toNat_mul, BitVec.toNat_setWidth]
 have e256 : (256#64).toNat = 256 := rfl
 have hb := b.isLt
 rw [e256]
 omega
theorem Rm.fail {w : World} {p : Nat → Prop} {g : Nat} {A : Option Addr} {n c : Nat} {b : Bool} (h : Cel w g 80 [.slice A n c, .bool b]) (hn : n ≤ c) (hm : c ≤ maxLen) :
  Rm (w.setCell ⟨g, 1, none⟩ (.bool true)) p g none ∧ Frm [g] w (w.setCell ⟨g, 1, none⟩ (.bool true)) :=
 ⟨⟨A, n, c, h.set 1 _, by simp, hn, hm⟩, (Frm.refl _ _).set (by simp) _⟩
theorem mNumber_bad (p : Nat → Prop) (g : Nat) (size : Int) (st : St) (w : World) (hr : Rm w p g st) (hbad : st = none ∨ okSize size = false ∨ ∃ r, st = some r ∧ r.length < size.toNat) :
  Calls Try.prog 28 #[.pointer (some ⟨g, 0, none⟩), .int .i64 size] w fun e w' => e = .returned (v64 0#64) ∧ Rm w' p g none ∧ Frm [g] w w' := by
 obtain ⟨A, n, c, hc, hb, hn, hm⟩ := hr
 have hfail := Lib.hid (Rm.fail (p := p) hc hn hm)
 have c0 := hc.cell 0
 have c1 := hc.cell 1
 have f1 := hc.free 1
 clear hc
 cases st with
 | none =>
  clear hb hbad
  go_enter Try.func28, Try.ntmps28
  go_wp2_with fail
  go_ret
  exact ⟨rfl, hfail.out⟩
 | some r =>
  have hl := (hb r rfl).len
  have HL := Lib.hid hl
  clear hb hl
  by_cases h1 : size < 1
  ·have d1 : decide (size < 1) = true := by simp; omega
   clear hbad
   go_enter Try.func28, Try.ntmps28
   go_wp2_with fail
   go_ret
   exact ⟨rfl, hfail.out⟩
  ·have d1 : decide (size < 1) = false := by simp; omega
   by_cases h2 : 8 < size
   ·have d2 : decide (8 < size) = true := by simp; omega
    clear hbad
    go_enter Try.func28, Try.ntmps28
    go_wp2_with fail
    go_ret
    exact ⟨rfl, hfail.out⟩
   ·have d2 : decide (8 < size) = false := by simp; omega
    have d3 : decide ((n : Int) < size) = true := by
     rcases hbad with h | h | ⟨r', h, h'⟩
     ·cases h
     ·simp [okSize] at h; omega
     ·injection h with h; subst h
      rw [HL.out] at h'
      simp; omega
    clear hbad
    go_enter Try.func28, Try.ntmps28
    go_wp2_with fail
    go_ret
    exact ⟨rfl, hfail.out⟩
theorem mNumber_ok (p : Nat → Prop) (g k : Nat) (r : List (BitVec 8)) (w : World) (hr : Rm w p g (some r)) (hk : 1 ≤ k) (hk8 : k ≤ 8) (hl : k ≤ r.length) (hp : ¬ p g) :
  Calls Try.prog 28 #[.pointer (some ⟨g, 0, none⟩), .int .i64 (k : Int)] w fun e w' => e = .returned (v64 (val (r.take k))) ∧ Rm w' p g (some (r.drop k)) ∧ Frm [g] w w' := by
 obtain ⟨A, n, c, hc, hb, hn, hm⟩ := hr
 have hb := hb r rfl
 have hrl := hb.len
 have c0 := hc.cell 0
 have c1 := hc.cell 1
 have f0 := hc.free 0
 have HC := Lib.hid hc
 have HB := Lib.hid hb
 have HL := Lib.hid hrl
 have hkn : k ≤ n := by omega
 clear hc hb hrl hl
 unfold maxLen at hm
 have d1 : decide ((k : Int) < 1) = false := by simp; omega
 have d2 : decide ((8 : Int) < k) = false := by simp; omega
 have d3 : decide (n < k) = false := by simp; omega
 go_enter Try.func28, Try.ntmps28
 go_wp2_with fail
 go_loop [5, 6] (fun x i => ∃ j : Nat, j ≤ k ∧ i = .int .i64 (j : Int) ∧ x = v64 (val (r.take j))) (fun _ i => k - (intOf i).toNat)
 case atStart => exact ⟨0, Nat.zero_le _, rfl, rfl⟩
 case round =>
  obtain ⟨j, hj, rfl, rfl⟩ := hrel
  by_cases hlt : j < k
  ·obtain ⟨ad, rfl, _, hcell⟩ := HB.out.at_ (k := j) (by omega)
   generalize hX : val (r.take j) = X
   generalize hY : r.getD j 0#8 = Y at hcell
   have HX := Lib.hid hX
   have HY := Lib.hid hY
   clear hX hY
   have hjn : j < n := by omega
   go_wp2_with fail
   go_round
   case rel => exact ⟨j + 1, by omega, by go_num, by rw [take_snoc8 _ _ (by rw [HL.out]; exact hjn), val_snoc, HX.out, HY.out]; exact congrArg (Value.int .u64) (mul64 X Y)⟩
   case measure => simp [intOf]; omega
  ·have hjk : j = k := by omega
   subst hjk
   have hcut := Lib.hid (HB.out.cut (k := j) hkn hn)
   have hset : ∀ u, Frm [g] w (w.setCell ⟨g, 0, none⟩ u) := fun u => (Frm.refl _ _).set (by simp) _
   have hpd : ∀ k, p k → k ∉ [g] := fun k hk hm => hp (by simp at hm; exact hm ▸ hk)
   have HS := Lib.hid hset
   have HP := Lib.hid hpd
   clear hset hpd
   by_cases hck : c = j
   ·have hnk : n = j := by omega
    subst hck
    subst hnk
    rw [if_pos rfl] at hcut
    go_wp2_with fail
    go_ret
    refine ⟨rfl, ⟨A, n - n, 0, ?_, ?_, by omega, Nat.zero_le _⟩, HS.out _⟩
    ·rw [Nat.sub_self]; exact HC.out.set 0 _
    ·intro r' hr'; injection hr' with hr'; subst hr'; exact hcut.out.frm (HS.out _) HP.out
   ·rw [if_neg hck] at hcut
    go_wp2_with fail
    go_ret
    refine ⟨rfl, ⟨_, _, _, HC.out.set 0 _, ?_, by omega, by unfold maxLen; omega⟩, HS.out _⟩
    intro r' hr'; injection hr' with hr'; subst hr'; exact hcut.out.frm (HS.out _) HP.out
theorem mNumber (p : Nat → Prop) (g : Nat) (size : Int) (st : St) (w : World) (hr : Rm w p g st) (hp : ¬ p g) :
  Calls Try.prog 28 #[.pointer (some ⟨g, 0, none⟩), .int .i64 size] w fun e w' => e = .returned (v64 (rnum size st).1) ∧ Rm w' p g (rnum size st).2 ∧ Frm [g] w w' := by
 cases hs : okSize size
 ·rw [rnum_bad _ _ hs]
  exact mNumber_bad p g size st w hr (.inr (.inl hs))
 ·obtain ⟨k, rfl⟩ : ∃ k : Nat, size = (k : Int) := ⟨size.toNat, by simp [okSize] at hs; omega⟩
  cases st with
  | none => exact mNumber_bad p g _ none w hr (.inl rfl)
  | some r =>
   by_cases hl : k ≤ r.length
   ·have e : rnum (k : Int) (some r) = (val (r.take k), some (r.drop k)) := by rw [rnum_next _ _ hs]; simp [rnext, hl]
    rw [e]
    exact mNumber_ok p g k r w hr (by simp [okSize] at hs; omega) (by simp [okSize] at hs; omega) hl hp
   ·have e : rnum (k : Int) (some r) = (0#64, none) := by rw [rnum_next _ _ hs]; simp [rnext, hl, val]
    rw [e]
    exact mNumber_bad p g _ (some r) w hr (.inr (.inr ⟨r, rfl, by simp; omega⟩))
theorem mText (p : Nat → Prop) (g : Nat) (st : St) (w : World) (hr : Rm w p g st) (hp : ¬ p g) (hpl : ∀ k, p k → k < w.heap.size) :
  Calls Try.prog 29 #[.pointer (some ⟨g, 0, none⟩)] w fun e w' =>
   ∃ A c, e = .returned (.slice A (rtext st).1.length c) ∧ Own w' w.heap.size A (rtext st).1.length c (rtext st).1 ∧ Rm w' p g (rtext st).2 ∧ Frm [g] w w' := by
 have HR := Lib.hid hr
 have hs := rnum2_small st
 clear hr
 go_enter Try.func29, Try.ntmps29
 go_wp2_with fail
 refine (mNumber p g 2 st _ HR.out hp).mono ?_
 rintro e w1 ⟨rfl, hr1, hf1⟩
 generalize hx : (rnum 2 st).1 = x at hs ⊢
 generalize hy : (rnum 2 st).2 = y at hr1
 have HX := Lib.hid hx
 have HY := Lib.hid hy
 clear hx hy
 have et : rtext st = rnext x.toNat y := by rw [rtext, HX.out, HY.out]
 have ET := Lib.hid et
 clear et
 obtain ⟨A, n, c, hc, hb, hn, hm⟩ := hr1
 have hfail := Lib.hid (Rm.fail (p := p) hc hn hm)
 have c0 := hc.cell 0
 have c1 := hc.cell 1
 have f0 := hc.free 0
 have f1 := hc.free 1
 have HC := Lib.hid hc
 have HF1 := Lib.hid hf1
 clear hc hf1
 unfold maxLen at hm
 cases y with
 | none =>
  clear hb
  go_wp2_with fail
  go_ret
  rw [ET.out]
  exact ⟨_, _, rfl, Own.of_nil _ _, hfail.out.1, HF1.out.trans hfail.out.2⟩
 | some r =>
  have hb := hb r rfl
  have hrl := hb.len
  have HL := Lib.hid hrl
  have HB := Lib.hid hb
  clear hb hrl
  by_cases hxn : x.toNat ≤ n
  ·have d3 : decide ((n : Int) < (x.toNat : Int)) = false := by simp; omega
   have c0' : (w1.alloc (.cells #[] 5)).cell? ⟨g, 0, none⟩ = some (.slice A n c) := (HC.out.alloc _).cell 0
   have hcut := Lib.hid (HB.out.cut (k := x.toNat) hxn hn)
   have HT := Lib.hid (HB.out.take hxn)
   have hpd : ∀ k, p k → k ∉ [g] := fun k hk hm => hp (by simp at hm; exact hm ▸ hk)
   have HP := Lib.hid hpd
   clear hpd
   by_cases hck : c = x.toNat
   ·have hnk : n = x.toNat := by omega
    subst hck
    subst hnk
    rw [if_pos rfl] at hcut
    go_wp2_with ((at_builtin; refine wpList_append_new _ rfl _ _ 29 rfl 5 bytesT rfl w1.heap.size A x.toNat _ (r.take x.toNat) rfl HT.out.low (Nat.le_refl _) (by omega) ?_; intro A3 c3 w3 o3 hb3; have c30 := (HC.out.below hb3 HC.out.lt).cell 0; have c31 := (HC.out.below hb3 HC.out.lt).free 0; have O3 := Lib.hid o3; clear o3))
    go_ret
    rw [ET.out, rnext, if_pos (by rw [HL.out]; exact hxn)]
    have el : (r.take x.toNat).length = x.toNat := by rw [List.length_take, HL.out]; omega
    simp only [el]
    have fs : ∀ u, Frm [g] w3 (w3.setCell ⟨g, 0, none⟩ u) := fun u => (Frm.refl _ _).set (by simp) _
    have fa : ∀ u, Frm [g] w1 (w3.setCell ⟨g, 0, none⟩ u) := fun u => (Frm.of_below hb3).trans (fs u)
    have s1 := HF1.out.size
    refine ⟨A3, c3, rfl, (Own.frm O3.out (fs _) (by simpa using HC.out.lt)).base s1, ⟨A, x.toNat - x.toNat, 0, by rw [Nat.sub_self]; exact (HC.out.below hb3 HC.out.lt).set 0 _, ?_, by omega, by unfold maxLen; omega⟩, HF1.out.trans (fa _)⟩
    intro r' hr'; injection hr' with hr'; subst hr'; exact hcut.out.frm (fa _) HP.out
   ·rw [if_neg hck] at hcut
    go_wp2_with ((at_builtin; refine wpList_append_new _ rfl _ _ 29 rfl 5 bytesT rfl w1.heap.size A x.toNat _ (r.take x.toNat) rfl HT.out.low (Nat.le_refl _) (by omega) ?_; intro A3 c3 w3 o3 hb3; have c30 := (HC.out.below hb3 HC.out.lt).cell 0; have c31 := (HC.out.below hb3 HC.out.lt).free 0; have O3 := Lib.hid o3; clear o3))
    go_ret
    rw [ET.out, rnext, if_pos (by rw [HL.out]; exact hxn)]
    have el : (r.take x.toNat).length = x.toNat := by rw [List.length_take, HL.out]; omega
    simp only [el]
    have fs : ∀ u, Frm [g] w3 (w3.setCell ⟨g, 0, none⟩ u) := fun u => (Frm.refl _ _).set (by simp) _
    have fa : ∀ u, Frm [g] w1 (w3.setCell ⟨g, 0, none⟩ u) := fun u => (Frm.of_below hb3).trans (fs u)
    have s1 := HF1.out.size
    refine ⟨A3, c3, rfl, (Own.frm O3.out (fs _) (by simpa using HC.out.lt)).base s1, ⟨_, _, _, (HC.out.below hb3 HC.out.lt).set 0 _, ?_, by omega, by unfold maxLen; omega⟩, HF1.out.trans (fa _)⟩
    intro r' hr'; injection hr' with hr'; subst hr'; exact hcut.out.frm (fa _) HP.out
  ·have d3 : decide ((n : Int) < (x.toNat : Int)) = true := by simp; omega
   go_wp2_with fail
   go_ret
   rw [ET.out, rnext, if_neg (by rw [HL.out]; exact hxn)]
   exact ⟨_, _, rfl, Own.of_nil _ _, hfail.out.1, HF1.out.trans hfail.out.2⟩
end Go.Proofs.Ytfmkkklcgiaacaa.Pack
end
section
namespace Go.Proofs.Ytfmkkklcgiaacaa.Lex
abbrev B := BitVec 8
end Go.Proofs.Ytfmkkklcgiaacaa.Lex
end
section
namespace Go.Proofs.Ytfmkkklcgiaacaa
open Go.RowKit
structure ElemRow (P : Program) (t e : TypeId) (size bytes : Nat) : Prop where
 und : P.underlying t = some (.slice e)
 info : ∃ i z, P.info? e = some i ∧ i.zero = some z ∧ i.size = size ∧ i.bytes = bytes ∧ z.cells.size = size
 pos : 0 < size
theorem ElemRow.mk' {P : Program} {t e : TypeId} {size bytes : Nat} {z : Value} (h : P.underlying t = some (.slice e)) (k : (P.info? e).map (fun i => (i.zero, i.size, i.bytes)) = some (some z, size, bytes)) (hz : z.cells.size = size) (hp : 0 < size) : ElemRow P t e size bytes := by
 refine ⟨h, ?_, hp⟩
 cases hi : P.info? e with
 | none => rw [hi] at k; cases k
 | some i =>
  rw [hi] at k
  simp only [Option.map_some, Option.some.injEq, Prod.mk.injEq] at k
  exact ⟨i, z, rfl, k.1, k.2.1, k.2.2, hz⟩
def Src (w : World) (A : Option Addr) (m : Nat) (cs : List Value) : Prop := 0 < m → ∃ ad, A = some ad ∧ ∀ j u, cs[j]? = some u → w.cell? (ad.add j) = some u
section
variable {P : Program} (w : World)
theorem run_append_any (base : Nat) (t ty e : TypeId) {size bytes : Nat} (hT : ElemRow P t e size bytes) (v : Value) (n : Nat) (us : List Value) (hown : w.ownsRow base e size v n us)
  (A : Option Addr) (m c : Nat) (cs : List Value) (hl : cs.length = m * size) (hr : Src w A m cs) (h1 : ∀ u ∈ cs, u.oneCell' = true) (h63 : n + m ≤ maxLen) (h47 : (n + m) * bytes ≤ 140737488355328) (hbase : base ≤ w.heap.size) :
  ∃ A' c' w', (Builtin.append_ #[t, t] ty #[v, .slice A m c]).run P w = .ok (.slice A' (n + m) c') w' ∧ w'.ownsRow base e size (.slice A' (n + m) c') (n + m) (us ++ cs) ∧ w.grownBy w' v.ownBlock ∧
   ((Value.slice A' (n + m) c').ownBlock = v.ownBlock ∨ (Value.slice A' (n + m) c').ownBlock = some w.heap.size) := by
 obtain ⟨ht, ⟨i, z, hi, hz, hsz, hby, hzs⟩, hp⟩ := hT
 have form : ∀ {w : World} {v : Value} {n : Nat} {us : List Value}, w.ownsRow base e size v n us → ∃ A c, v = .slice A n c := fun h => by
  rcases h.2 with ⟨rfl, rfl⟩ | ⟨g, cap, cur, rfl, _⟩ <;> exact ⟨_, _, rfl⟩
 rcases A with _ | ad
 ·have hm : m = 0 := by
   rcases Nat.eq_zero_or_pos m with h0 | h0
   ·exact h0
   ·obtain ⟨ad, h, _⟩ := hr h0
    cases h
  subst hm
  have hn : cs = [] := List.eq_nil_of_length_eq_zero (by omega)
  subst hn
  obtain ⟨A', c', rfl⟩ := form hown
  have hrun : (Builtin.append_ #[t, t] ty #[.slice A' n c', .slice none 0 c]).run P w = .ok (.slice A' n c') w := by
   rcases hown.2 with ⟨hv, rfl⟩ | ⟨g, cap, cur, hv, _, _, hnc, _⟩
   ·cases hv
    simp [Builtin.append_, run_underlying ht, sizeOf, typeInfo, hi, Builtin.lenOf, Builtin.firstCells]
   ·cases hv
    simp [Builtin.append_, run_underlying ht, sizeOf, typeInfo, hi, Builtin.lenOf, Builtin.firstCells, hnc, storeCells]
  exact ⟨A', c', w, hrun, by simpa using hown, World.grownBy.refl w _, .inl rfl⟩
 ·have hcells : ∀ j u, cs[j]? = some u → w.cell? (ad.add j) = some u := by
   intro j u hu
   have hj := (List.getElem?_eq_some_iff.1 hu).1
   have hm : 0 < m := by
    rcases Nat.eq_zero_or_pos m with h0 | h0
    ·subst h0; omega
    ·exact h0
   obtain ⟨ad', h, hc⟩ := hr hm
   injection h with h
   subst h
   exact hc j u hu
  obtain ⟨v', w', hrun, h2, h3, _, h5⟩ := run_append_own_at (P := P) w base t ty e i z size bytes ht hi hz hsz hby hzs hp v n us hown ad m c cs hl hcells h1 h63 h47 hbase
  obtain ⟨A', c', rfl⟩ := form h2
  exact ⟨A', c', w', hrun, h2, h3, h5⟩
theorem wp_append_any {o : Oper} {a : Act} {K : Act → World → Prop} {Q : Exit → Act → World → Prop} (s x : Operand) (t : TypeId)
  (ho : o.op = .call { callee := .builtin .append, args := #[s, x], argTypes := #[t, t] }) (base : Nat) (e : TypeId) {size bytes : Nat} (hT : ElemRow P t e size bytes)
  (v : Value) (n : Nat) (us : List Value) (hs : a.eval s = v) (hown : w.ownsRow base e size v n us)
  (A : Option Addr) (m c : Nat) (cs : List Value) (hx : a.eval x = .slice A m c) (hl : cs.length = m * size) (hr : Src w A m cs) (h1 : ∀ u ∈ cs, u.oneCell' = true)
  (n' : Nat) (us' : List Value) (hn' : n + m = n') (hus' : us ++ cs = us') (h63 : n' ≤ maxLen) (h47 : n' * bytes ≤ 140737488355328) (hbase : base ≤ w.heap.size)
  (h : ∀ A' c' w', w'.ownsRow base e size (.slice A' n' c') n' us' → w.grownBy w' v.ownBlock → ((Value.slice A' n' c').ownBlock = v.ownBlock ∨ (Value.slice A' n' c').ownBlock = some w.heap.size) → K (a.put o.dst (.slice A' n' c')) w') : o.wp P a w K Q := by
 subst hn' hus'
 obtain ⟨A', c', w', hrun, h2, h3, h4⟩ := run_append_any (P := P) w base t o.type e hT v n us hown A m c cs hl hr h1 h63 h47 hbase
 unfold Oper.wp execOp
 simp only [ho, resolve, invoke, builtin, Sem.run_bind, Sem.run_pure, Result.andThen_ok, List.map_toArray, List.map_cons, List.map_nil, hs, hx, hrun]
 exact h A' c' w' h2 h3 h4
theorem wpList_append_any {ops : Array Oper} {rest : List Oper} {o : Oper} {a : Act} {Q : Exit → Act → World → Prop} (hgd : o.guard = none) (s x : Operand) (t : TypeId)
  (ho : o.op = .call { callee := .builtin .append, args := #[s, x], argTypes := #[t, t] }) (base : Nat) (e : TypeId) {size bytes : Nat} (hT : ElemRow P t e size bytes)
  (v : Value) (n : Nat) (us : List Value) (hs : a.eval s = v) (hown : w.ownsRow base e size v n us)
  (A : Option Addr) (m c : Nat) (cs : List Value) (hx : a.eval x = .slice A m c) (hl : cs.length = m * size) (hr : Src w A m cs) (h1 : ∀ u ∈ cs, u.oneCell' = true)
  (n' : Nat) (us' : List Value) (hn' : n + m = n') (hus' : us ++ cs = us') (h63 : n' ≤ maxLen) (h47 : n' * bytes ≤ 140737488355328) (hbase : base ≤ w.heap.size)
  (h : ∀ A' c' w', w'.ownsRow base e size (.slice A' n' c') n' us' → w.grownBy w' v.ownBlock → ((Value.slice A' n' c').ownBlock = v.ownBlock ∨ (Value.slice A' n' c').ownBlock = some w.heap.size) → wpList P ops Q rest (a.put o.dst (.slice A' n' c')) w') : wpList P ops Q (o :: rest) a w :=
 wpList_plain hgd fun _ hK => wp_append_any w s x t ho base e hT v n us hs hown A m c cs hx hl hr h1 n' us' hn' hus' h63 h47 hbase fun A' c' w' h2 h3 h4 => hK _ _ (h A' c' w' h2 h3 h4)
end
end Go.Proofs.Ytfmkkklcgiaacaa
end
section
namespace Go.Proofs.Ytfmkkklcgiaacaa
open Go.RowKit
def Ry (t : TypeId) (w : World) (A : Option Addr) (cs : List Value) : Prop :=
 cs ≠ [] → ∃ ad, A = some ad ∧ (∃ o fz, w.heap[ad.block]? = some (.cells o t fz)) ∧ ∀ j u, cs[j]? = some u → w.cell? (ad.add j) = some u
namespace Ry
variable {w w' : World} {t : TypeId} {A : Option Addr} {cs : List Value}
theorem of_cel {g : Nat} (h : Cel w g t cs) : Ry t w (some ⟨g, 0, none⟩) cs := fun _ => ⟨_, rfl, ⟨_, _, h⟩, fun j u hj => by rw [add_row, h.cell j, hj]⟩
theorem of_own {base size n c : Nat} (h : w.ownsRow base t size (.slice A n c) n cs) (hs : 0 < size) : Ry t w A cs := fun hn => by
 have hl : cs.length = n * size := h.1
 rcases h.2 with ⟨hv, h0⟩ | ⟨g, cap, cur, hv, hb, hg, _⟩
 ·exfalso
  subst h0
  exact hn (List.eq_nil_of_length_eq_zero (by omega))
 ·have hA : A = some ⟨g, 0, none⟩ := by injection hv
  subst hA
  refine ⟨_, rfl, ⟨_, _, hg⟩, fun j u hj => h.cells (g := g) rfl j _ ?_⟩
  exact hj
theorem src (h : Ry t w A cs) {m : Nat} (hm : 0 < m → cs ≠ []) : 0 < m → ∃ ad, A = some ad ∧ ∀ j u, cs[j]? = some u → w.cell? (ad.add j) = some u := fun h0 => by
 obtain ⟨ad, e, _, hc⟩ := h (hm h0)
 exact ⟨ad, e, hc⟩
end Ry
theorem Cel.not_ty {w : World} {g : Nat} {t t' : TypeId} {cs : List Value} (h : Cel w g t cs) (hne : t ≠ t') : ∀ o fz, w.heap[g]? ≠ some (Obj.cells o t' fz) := fun o fz e => by
 unfold Cel at h
 rw [h] at e
 injection e with e
 injection e with _ e2
 exact hne e2
theorem own_not_ty {w : World} {base e size n : Nat} {v : Value} {xs : List Value} {t' : TypeId} (h : w.ownsRow base e size v n xs) (hne : e ≠ t') : ∀ (g : Nat) o fz, v.ownBlock = some g → w.heap[g]? ≠ some (Obj.cells o t' fz) := fun g o fz hv hg => by
 rcases h.2 with ⟨rfl, _⟩ | ⟨g', cap, cur, rfl, _, hg', _⟩
 ·simp [Value.ownBlock] at hv
 ·obtain rfl : g' = g := by simpa [Value.ownBlock] using hv
  rw [hg] at hg'
  simp at hg'
  exact hne hg'.2.1.symm
theorem own_frm {w w' : World} {base e size n : Nat} {v : Value} {us : List Value} {l : List Nat} (h : w.ownsRow base e size v n us) (hf : Frm l w w') (hl : ∀ g ∈ l, v.ownBlock ≠ some g) : w'.ownsRow base e size v n us := by
 refine ⟨h.1, h.2.imp id fun ⟨g', cap, cur, h1, h2, h3, h4⟩ => ⟨g', cap, cur, h1, h2, ?_, h4⟩⟩
 rw [hf.block g' (Array.getElem?_eq_some_iff.1 h3).1 (fun hm => hl g' hm (by rw [h1]; simp [Value.ownBlock]))]
 exact h3
theorem own_ne {w : World} {base e size n g : Nat} {v : Value} {us : List Value} (h : w.ownsRow base e size v n us) (hg : g < base) : v.ownBlock ≠ some g := fun e' => by
 rcases h.2 with ⟨rfl, _⟩ | ⟨g', cap, cur, rfl, hb, _⟩
 ·simp [Value.ownBlock] at e'
 ·obtain rfl : g' = g := by simpa [Value.ownBlock] using e'
  omega
theorem own_ty_ne {w : World} {base e size n g : Nat} {t : TypeId} {v : Value} {us cs : List Value} (h : w.ownsRow base e size v n us) (hc : Cel w g t cs) (hne : e ≠ t) : v.ownBlock ≠ some g := fun e' =>
 own_not_ty h hne g _ _ e' hc
theorem own_ge {w : World} {base e size n : Nat} {v : Value} {us : List Value} (h : w.ownsRow base e size v n us) : ∀ g, v.ownBlock = some g → base ≤ g := fun g e' =>
 Nat.le_of_not_lt fun hg => own_ne h hg e'
end Go.Proofs.Ytfmkkklcgiaacaa
end
section
namespace Go.Proofs.Ytfmkkklcgiaacaa
open Go.RowKit
def By (w : World) (A : Option Addr) (n : Nat) (bs : List (BitVec 8)) : Prop :=
 bs.length = n ∧ (0 < n → ∃ ad, A = some ad ∧ (∃ cs fz, w.heap[ad.block]? = some (.cells cs 5 fz)) ∧ ∀ j, j < n → w.cell? (ad.add j) = some (v8 (bs.getD j 0#8)))
namespace By
variable {w w' : World} {A : Option Addr} {n : Nat} {bs : List (BitVec 8)}
theorem keep (h : By w A n bs) (hk : ∀ (k : Nat) cs fz, w.heap[k]? = some (Obj.cells cs 5 fz) → w'.heap[k]? = w.heap[k]?) : By w' A n bs :=
 ⟨h.1, fun hn => by
  obtain ⟨ad, e, ⟨cs, fz, hb⟩, hc⟩ := h.2 hn
  have h1 := hk _ _ _ hb
  exact ⟨ad, e, ⟨cs, fz, h1.trans hb⟩, fun j hj => (World.cell?_of_block (by rw [add_block]; exact h1)).trans (hc j hj)⟩⟩
theorem rd (h : By w A n bs) : Bs w w.heap.size A n bs :=
 ⟨h.1, fun hn => by
  obtain ⟨ad, e, ⟨cs, fz, hb⟩, hc⟩ := h.2 hn
  exact ⟨ad, e, (Array.getElem?_eq_some_iff.1 hb).1, hc⟩⟩
theorem below (h : By w A n bs) (hb : Below w.heap.size w w') : By w' A n bs := h.keep fun k _ _ hk => hb.block k (Array.getElem?_eq_some_iff.1 hk).1
theorem grown (h : By w A n bs) {row : Option Nat} (hg : w.grownBy w' row) (hr : ∀ (g : Nat) cs fz, row = some g → w.heap[g]? ≠ some (Obj.cells cs 5 fz)) : By w' A n bs :=
 h.keep fun k cs fz hk => hg.block k (Array.getElem?_eq_some_iff.1 hk).1 (fun e => hr k cs fz e.symm hk)
theorem of_own {base c : Nat} (h : w.ownsRow base 5 1 (.slice A n c) n (bs.map v8)) : By w A n bs := by
 have hl : bs.length = n := by simpa using h.1
 refine ⟨hl, fun hn => ?_⟩
 rcases h.2 with ⟨hv, h0⟩ | ⟨g, cap, cur, hv, hb, hg, _⟩
 ·omega
 ·have hA : A = some ⟨g, 0, none⟩ := by injection hv
  subst hA
  refine ⟨_, rfl, ⟨_, _, hg⟩, fun j hj => h.cells (g := g) rfl j _ ?_⟩
  rw [List.getElem?_map, List.getElem?_eq_getElem (by omega), List.getD_eq_getElem?_getD, List.getElem?_eq_getElem (by omega)]
  rfl
end By
theorem not_bytes {w : World} {base e size n : Nat} {v : Value} {xs : List Value} (h : w.ownsRow base e size v n xs) (he : e ≠ 5) : ∀ (g : Nat) cs fz, v.ownBlock = some g → w.heap[g]? ≠ some (Obj.cells cs 5 fz) := by
 intro g cs fz hv hg
 rcases h.2 with ⟨rfl, _⟩ | ⟨g', cap, cur, rfl, _, hg', _⟩
 ·simp [Value.ownBlock] at hv
 ·obtain rfl : g' = g := by simpa [Value.ownBlock] using hv
  rw [hg] at hg'
  simp at hg'
  exact he hg'.2.1.symm
end Go.Proofs.Ytfmkkklcgiaacaa
end
section
namespace Go.Proofs.Ytfmkkklcgiaacaa.Lex
open Go.RowKit
def Tx (w : World) (B : Nat) (A : Option Addr) (t : List (BitVec 8)) : Prop := Bs w B A t.length t ∨ By w A t.length t
theorem Tx.below {w w' : World} {B : Nat} {A : Option Addr} {t : List (BitVec 8)} (h : Tx w B A t) (hB : B ≤ w.heap.size) (hb : Below w.heap.size w w') : Tx w' B A t := by
 rcases h with h | h
 ·exact .inl (h.below (hb.mono hB))
 ·exact .inr (h.below hb)
end Go.Proofs.Ytfmkkklcgiaacaa.Lex
end
section
namespace Go.Proofs.Ytfmkkklcgiaacaa.Rec
open Go.RowKit
open Pack (Own)
open Lex (Tx)
structure Vt where
 A : Option Addr
 c : Nat
 t : List B
def Vt.cell (v : Vt) : Value := .slice v.A v.t.length v.c
structure Tvs (w : World) (K : Nat) (A : Option Addr) (vs : List Vt) : Prop where
 cr : ∀ i v, vs[i]? = some v → ∃ ad, A = some ad ∧ w.cell? (ad.add i) = some v.cell
 tx : ∀ v ∈ vs, Tx w K v.A v.t ∧ v.t.length ≤ maxLen
theorem Tvs.below {w w' : World} {K : Nat} {A : Option Addr} {vs : List Vt} (h : Tvs w K A vs) (hK : K ≤ w.heap.size) (hb : Below w.heap.size w w') : Tvs w' K A vs :=
 ⟨fun i v hi => by
  obtain ⟨ad, e, hc⟩ := h.cr i v hi
  exact ⟨ad, e, (hb.cell (cell_lt hc)).trans hc⟩, fun v hv => ⟨(h.tx v hv).1.below hK hb, (h.tx v hv).2⟩⟩
def txt (vs : List Vt) : List (List B) := vs.map (·.t)
def Trow (w : World) (K : Nat) (A : Option Addr) (vs : List Vt) : Prop := vs ≠ [] → ∃ ad, A = some ad ∧ (ad.block < K ∨ ∃ cs fz, w.heap[ad.block]? = some (Obj.cells cs 29 fz))
theorem trow_nil {w : World} {K : Nat} {A : Option Addr} : Trow w K A [] := fun h => absurd rfl h
theorem Trow.keep {w w' : World} {K : Nat} {A : Option Addr} {vs : List Vt} (h : Trow w K A vs) (hk : ∀ (k : Nat) cs fz, w.heap[k]? = some (Obj.cells cs 29 fz) → w'.heap[k]? = w.heap[k]?) : Trow w' K A vs := fun hn => by
 obtain ⟨ad, e, hc | ⟨cs, fz, hc⟩⟩ := h hn
 ·exact ⟨ad, e, .inl hc⟩
 ·exact ⟨ad, e, .inr ⟨cs, fz, (hk _ _ _ hc).trans hc⟩⟩
theorem Trow.below {w w' : World} {K : Nat} {A : Option Addr} {vs : List Vt} (h : Trow w K A vs) (hb : Below w.heap.size w w') : Trow w' K A vs := h.keep fun k cs fz e => hb.block k (Array.getElem?_eq_some_iff.1 e).1
theorem trow_own {w : World} {K KB n c : Nat} {A : Option Addr} {vs : List Vt} (h : w.ownsRow KB 29 1 (.slice A n c) n (vs.map Vt.cell)) : Trow w K A vs := fun hn => by
 have hl : vs.length = n := by have := h.1; simpa using this
 have hpos : 0 < n := by rw [← hl]; exact List.length_pos_iff.2 hn
 rcases h.2 with ⟨_, h0⟩ | ⟨g, cap, cur, hv, _, hg, _⟩
 ·omega
 ·injection hv with hA
  exact ⟨⟨g, 0, none⟩, hA, .inr ⟨_, _, hg⟩⟩
theorem Tvs.frm {w w' : World} {K : Nat} {A : Option Addr} {vs : List Vt} {l : List Nat} (h : Tvs w K A vs) (ht : Trow w K A vs) (hf : Frm l w w') (hl : ∀ k ∈ l, K ≤ k ∧ (∀ cs fz, w.heap[k]? ≠ some (Obj.cells cs 5 fz)) ∧ ∀ cs fz, w.heap[k]? ≠ some (Obj.cells cs 29 fz)) : Tvs w' K A vs ∧ Trow w' K A vs := by
 have hk : ∀ (k : Nat) cs fz, w.heap[k]? = some (Obj.cells cs 29 fz) → w'.heap[k]? = w.heap[k]? := fun k cs fz e => hf.block k (Array.getElem?_eq_some_iff.1 e).1 (fun hm => (hl k hm).2.2 _ _ e)
 refine ⟨⟨fun i v hi => ?_, fun v hv => ⟨?_, (h.tx v hv).2⟩⟩, ht.keep hk⟩
 ·obtain ⟨ad, e, hc⟩ := h.cr i v hi
  obtain ⟨ad', e', hg⟩ := ht (fun q => by rw [q] at hi; cases hi)
  rw [e] at e'
  cases e'
  refine ⟨ad, e, (World.cell?_of_block (by
   rw [add_block]
   rcases hg with hg | ⟨cs, fz, hg⟩
   ·exact hf.block _ (by have := cell_lt hc; rwa [add_block] at this) (fun hm => by have := (hl _ hm).1; omega)
   ·exact hk _ _ _ hg)).trans hc⟩
 ·rcases (h.tx v hv).1 with hs | hs
  ·refine .inl ((Bs.bp hs).keep fun k hk hlt => hf.block k hlt fun hm => ?_)
   have := (hl k hm).1
   omega
  ·refine .inr ⟨hs.1, fun hn => ?_⟩
   obtain ⟨ad, e, ⟨cs, fz, hg⟩, hc⟩ := hs.2 hn
   have hb : w'.heap[ad.block]? = w.heap[ad.block]? := hf.block _ (Array.getElem?_eq_some_iff.1 hg).1 fun hm => (hl _ hm).2.1 _ _ hg
   exact ⟨ad, e, ⟨cs, fz, hb.trans hg⟩, fun j hj => (World.cell?_of_block (by rw [add_block]; exact hb)).trans (hc j hj)⟩
theorem in_ (w : World) (a b c : Int) :
  Calls Try.prog 48 #[.int .i64 a, .int .i64 b, .int .i64 c] w fun e w' => e = .returned (.bool (inR a b c)) ∧ w = w' := by
 unfold inR
 by_cases h : b ≤ a
 ·have h1 : decide (b ≤ a) = true := by simpa using h
  rw [h1, Bool.true_and]
  go_enter Try.func48, Try.ntmps48
  go_wp2_with fail
  go_ret
  exact ⟨rfl, rfl⟩
 ·have h1 : decide (b ≤ a) = false := by simpa using h
  rw [h1, Bool.false_and]
  go_enter Try.func48, Try.ntmps48
  go_wp2_with fail
  go_ret
  exact ⟨rfl, rfl⟩
theorem texts_no {vs : List Vt} {v : Vt} (hv : v ∈ vs) (h : 100 < v.t.length) : textsOk (txt vs) = false := by
 unfold textsOk txt
 rw [Bool.and_eq_false_iff]
 left
 rw [List.all_eq_false]
 exact ⟨v.t, List.mem_map.2 ⟨v, hv, rfl⟩, by simp; omega⟩
theorem texts_yes {vs : List Vt} {n : Nat} (hl : vs.length = n) (h : ∀ v ∈ vs, v.t.length ≤ 100) : textsOk (txt vs) = decide ((n : Int) ≤ 8) := by
 unfold textsOk txt
 rw [List.all_eq_true.2 (fun t ht => by
  obtain ⟨v, hv, rfl⟩ := List.mem_map.1 ht
  simpa using h v hv), Bool.true_and, List.length_map, hl]
 apply decide_eq_decide.2
 omega
theorem mem_take {α : Type} {l : List α} {i : Nat} {x y : α} (h : l[i]? = some x) (hy : y ∈ l.take (i + 1)) : y ∈ l.take i ∨ y = x := by
 rw [List.take_add_one, h] at hy
 simpa using hy
theorem texts_ (w : World) (K : Nat) (A : Option Addr) (n c : Nat) (vs : List Vt) (h : Tvs w K A vs) (hK : K ≤ w.heap.size) (hl : vs.length = n) (hn : n ≤ maxLen) :
  Calls Try.prog 47 #[.slice A n c] w fun e w' => e = .returned (.bool (textsOk (txt vs))) ∧ Below w.heap.size w w' := by
 unfold maxLen at hn
 have H := Lib.hid h
 have HL := Lib.hid hl
 clear h hl
 go_enter Try.func47, Try.ntmps47
 go_wp2_with fail
 go_loopw [3] (fun v3 wr => ∃ (i : Nat), i ≤ n ∧ v3 = .int .i64 (i : Int) ∧ Below w.heap.size w wr ∧ Hid (∀ v ∈ vs.take i, v.t.length ≤ 100)) (fun v3 _ => n - (intOf v3).toNat)
 case atStart => exact ⟨0, Nat.zero_le _, rfl, Below.refl _ _, Lib.hid (by simp)⟩
 case round =>
  obtain ⟨i, hi, rfl, hb, HK⟩ := hrel
  rcases Nat.lt_or_ge i n with hlt | hge
  ·obtain ⟨v, hv⟩ : ∃ v, vs[i]? = some v := ⟨_, List.getElem?_eq_getElem (by rw [HL.out]; exact hlt)⟩
   have HT := (H.out.below hK hb)
   obtain ⟨ad, rfl, k0⟩ := HT.cr i v hv
   have hm := (HT.tx v (List.mem_of_getElem? hv)).2
   unfold maxLen at hm
   have HV := Lib.hid hv
   have HB := Lib.hid hb
   clear hv hb HT
   obtain ⟨vA, vc, vt⟩ := v
   change _ = some (Value.slice vA vt.length vc) at k0
   obtain ⟨tl, htl⟩ : ∃ tl, tl = vt.length := ⟨_, rfl⟩
   change vt.length ≤ _ at hm
   rw [← htl] at k0 hm
   have HTL := Lib.hid htl
   clear htl
   by_cases t1 : 100 < tl
   ·have dt1 : decide ((100 : Int) < (tl : Int)) = true := by simp; omega
    go_wp2_with fail
    go_ret
    rw [texts_no (List.mem_of_getElem? HV.out) (by show 100 < vt.length; rw [← HTL.out]; exact t1)]
    exact ⟨rfl, HB.out⟩
   ·have dt1 : decide ((100 : Int) < (tl : Int)) = false := by simp; omega
    go_wp2_with fail
    refine ⟨⟨i + 1, by omega, by rw [show ((i + 1 : Nat) : Int) = (i : Int) + 1 by omega], HB.out, Lib.hid fun u hu => ?_⟩, by simp [intOf]; omega⟩
    rcases mem_take HV.out hu with hu | rfl
    ·exact HK.out u hu
    ·show vt.length ≤ 100
     rw [← HTL.out]
     omega
  ·obtain rfl : i = n := by omega
   have HB := Lib.hid hb
   have hk := HK.out
   rw [← HL.out, List.take_length] at hk
   have HE := Lib.hid (texts_yes HL.out hk)
   clear hb hk HK
   go_wp2_with fail
   go_ret
   rw [HE.out]
   exact ⟨rfl, HB.out⟩
end Go.Proofs.Ytfmkkklcgiaacaa.Rec
end
