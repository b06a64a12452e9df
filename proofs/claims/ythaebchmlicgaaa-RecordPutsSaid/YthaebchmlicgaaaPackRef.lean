/-
  What the document's own reader of layer 2 (pack) comes to: one contract a function.
-/
import Derived.Test.YthaebchmlicgaaaPackRead
namespace Go.Proofs.Ythaebchmlicgaaa.Pack
open Go.RowKit
set_option linter.unusedVariables false

/-- The document's reader at block g, over bytes in blocks of which p holds. -/
def Rm (w : World) (p : Nat → Prop) (g : Nat) (st : St) : Prop :=
  ∃ A n c, Cel w g 65 [.slice A n c, .bool st.isNone] ∧ (∀ r, st = some r → Bp w p A n r) ∧ n ≤ c ∧ c ≤ maxLen

theorem Rm.frm {w w' : World} {p : Nat → Prop} {g : Nat} {st : St} {l : List Nat} (h : Rm w p g st) (hf : Frm l w w') (hg : g ∉ l) (hp : ∀ k, p k → k ∉ l) : Rm w' p g st := by
  obtain ⟨A, n, c, h1, h2, h3⟩ := h
  exact ⟨A, n, c, h1.frm hf hg, fun r hr => (h2 r hr).frm hf hp, h3⟩
theorem Rm.lt {w : World} {p : Nat → Prop} {g : Nat} {st : St} (h : Rm w p g st) : g < w.heap.size := by
  obtain ⟨A, n, c, h1, _⟩ := h
  exact h1.lt

theorem mul64 (n : BitVec 64) (b : BitVec 8) : IntKind.u64.wrap (IntKind.u64.wrap ((256 : Int) * (n.toNat : Int)) + (b.toNat : Int)) = (((n <<< 8) ||| b.setWidth 64).toNat : Int) := by
  rw [or_add, IntKind.wrap_u64, IntKind.wrap_u64, BitVec.toNat_add, BitVec.toNat_mul, BitVec.toNat_setWidth]
  have e256 : (256#64).toNat = 256 := rfl
  have hb := b.isLt
  rw [e256]
  omega

/-- A reader of the document's that has just failed. -/
theorem Rm.fail {w : World} {p : Nat → Prop} {g : Nat} {A : Option Addr} {n c : Nat} {b : Bool} (h : Cel w g 65 [.slice A n c, .bool b]) (hn : n ≤ c) (hm : c ≤ maxLen) :
    Rm (w.setCell ⟨g, 1, none⟩ (.bool true)) p g none ∧ Frm [g] w (w.setCell ⟨g, 1, none⟩ (.bool true)) :=
  ⟨⟨A, n, c, h.set 1 _, by simp, hn, hm⟩, (Frm.refl _ _).set (by simp) _⟩

set_option maxRecDepth 100000 in
set_option maxHeartbeats 1000000 in
theorem mNumber_bad (p : Nat → Prop) (g : Nat) (size : Int) (st : St) (w : World) (hr : Rm w p g st) (hbad : st = none ∨ okSize size = false ∨ ∃ r, st = some r ∧ r.length < size.toNat) :
    Calls Try.prog 27 #[.pointer (some ⟨g, 0, none⟩), .int .i64 size] w fun e w' => e = .returned (v64 0#64) ∧ Rm w' p g none ∧ Frm [g] w w' := by
  obtain ⟨A, n, c, hc, hb, hn, hm⟩ := hr
  have hfail := Lib.hid (Rm.fail (p := p) hc hn hm)
  have c0 := hc.cell 0
  have c1 := hc.cell 1
  have f1 := hc.free 1
  clear hc
  cases st with
  | none =>
    clear hb hbad
    go_enter Try.func27, Try.ntmps27
    go_wp2_with fail
    go_ret
    exact ⟨rfl, hfail.out⟩
  | some r =>
    have hl := (hb r rfl).len
    have HL := Lib.hid hl
    clear hb hl
    by_cases h1 : size < 1
    · have d1 : decide (size < 1) = true := by simp; omega
      clear hbad
      go_enter Try.func27, Try.ntmps27
      go_wp2_with fail
      go_ret
      exact ⟨rfl, hfail.out⟩
    · have d1 : decide (size < 1) = false := by simp; omega
      by_cases h2 : 8 < size
      · have d2 : decide (8 < size) = true := by simp; omega
        clear hbad
        go_enter Try.func27, Try.ntmps27
        go_wp2_with fail
        go_ret
        exact ⟨rfl, hfail.out⟩
      · have d2 : decide (8 < size) = false := by simp; omega
        have d3 : decide ((n : Int) < size) = true := by
          rcases hbad with h | h | ⟨r', h, h'⟩
          · cases h
          · simp [okSize] at h; omega
          · injection h with h; subst h
            rw [HL.out] at h'
            simp; omega
        clear hbad
        go_enter Try.func27, Try.ntmps27
        go_wp2_with fail
        go_ret
        exact ⟨rfl, hfail.out⟩

set_option maxRecDepth 100000 in
set_option maxHeartbeats 1000000 in
theorem mNumber_ok (p : Nat → Prop) (g k : Nat) (r : List (BitVec 8)) (w : World) (hr : Rm w p g (some r)) (hk : 1 ≤ k) (hk8 : k ≤ 8) (hl : k ≤ r.length) (hp : ¬ p g) :
    Calls Try.prog 27 #[.pointer (some ⟨g, 0, none⟩), .int .i64 (k : Int)] w fun e w' => e = .returned (v64 (val (r.take k))) ∧ Rm w' p g (some (r.drop k)) ∧ Frm [g] w w' := by
  obtain ⟨A, n, c, hc, hb, hn, hm⟩ := hr
  have hb := hb r rfl
  have hrl := hb.len
  have c0 := hc.cell 0
  have c1 := hc.cell 1
  have f0 := hc.free 0
  have HC := Lib.hid hc
  have HB := Lib.hid hb
  have HL := Lib.hid hrl
  have hkn : k ≤ n := by omega
  clear hc hb hrl hl
  unfold maxLen at hm
  have d1 : decide ((k : Int) < 1) = false := by simp; omega
  have d2 : decide ((8 : Int) < k) = false := by simp; omega
  have d3 : decide (n < k) = false := by simp; omega
  go_enter Try.func27, Try.ntmps27
  go_wp2_with fail
  go_loop [5, 6] (fun x i => ∃ j : Nat, j ≤ k ∧ i = .int .i64 (j : Int) ∧ x = v64 (val (r.take j))) (fun _ i => k - (intOf i).toNat)
  case atStart => exact ⟨0, Nat.zero_le _, rfl, rfl⟩
  case round =>
    obtain ⟨j, hj, rfl, rfl⟩ := hrel
    by_cases hlt : j < k
    · obtain ⟨ad, rfl, _, hcell⟩ := HB.out.at_ (k := j) (by omega)
      generalize hX : val (r.take j) = X
      generalize hY : r.getD j 0#8 = Y at hcell
      have HX := Lib.hid hX
      have HY := Lib.hid hY
      clear hX hY
      have hjn : j < n := by omega
      go_wp2_with fail
      go_round
      case rel => exact ⟨j + 1, by omega, by go_num, by rw [take_snoc8 _ _ (by rw [HL.out]; exact hjn), val_snoc, HX.out, HY.out]; exact congrArg (Value.int .u64) (mul64 X Y)⟩
      case measure => simp [intOf]; omega
    · have hjk : j = k := by omega
      subst hjk
      have hcut := Lib.hid (HB.out.cut (k := j) hkn hn)
      have hset : ∀ u, Frm [g] w (w.setCell ⟨g, 0, none⟩ u) := fun u => (Frm.refl _ _).set (by simp) _
      have hpd : ∀ k, p k → k ∉ [g] := fun k hk hm => hp (by simp at hm; exact hm ▸ hk)
      have HS := Lib.hid hset
      have HP := Lib.hid hpd
      clear hset hpd
      by_cases hck : c = j
      · have hnk : n = j := by omega
        subst hck
        subst hnk
        rw [if_pos rfl] at hcut
        go_wp2_with fail
        go_ret
        refine ⟨rfl, ⟨A, n - n, 0, ?_, ?_, by omega, Nat.zero_le _⟩, HS.out _⟩
        · rw [Nat.sub_self]; exact HC.out.set 0 _
        · intro r' hr'; injection hr' with hr'; subst hr'; exact hcut.out.frm (HS.out _) HP.out
      · rw [if_neg hck] at hcut
        go_wp2_with fail
        go_ret
        refine ⟨rfl, ⟨_, _, _, HC.out.set 0 _, ?_, by omega, by unfold maxLen; omega⟩, HS.out _⟩
        intro r' hr'; injection hr' with hr'; subst hr'; exact hcut.out.frm (HS.out _) HP.out

set_option maxRecDepth 100000 in
theorem mNumber (p : Nat → Prop) (g : Nat) (size : Int) (st : St) (w : World) (hr : Rm w p g st) (hp : ¬ p g) :
    Calls Try.prog 27 #[.pointer (some ⟨g, 0, none⟩), .int .i64 size] w fun e w' => e = .returned (v64 (rnum size st).1) ∧ Rm w' p g (rnum size st).2 ∧ Frm [g] w w' := by
  cases hs : okSize size
  · rw [rnum_bad _ _ hs]
    exact mNumber_bad p g size st w hr (.inr (.inl hs))
  · obtain ⟨k, rfl⟩ : ∃ k : Nat, size = (k : Int) := ⟨size.toNat, by simp [okSize] at hs; omega⟩
    cases st with
    | none => exact mNumber_bad p g _ none w hr (.inl rfl)
    | some r =>
      by_cases hl : k ≤ r.length
      · have e : rnum (k : Int) (some r) = (val (r.take k), some (r.drop k)) := by rw [rnum_next _ _ hs]; simp [rnext, hl]
        rw [e]
        exact mNumber_ok p g k r w hr (by simp [okSize] at hs; omega) (by simp [okSize] at hs; omega) hl hp
      · have e : rnum (k : Int) (some r) = (0#64, none) := by rw [rnum_next _ _ hs]; simp [rnext, hl, val]
        rw [e]
        exact mNumber_bad p g _ (some r) w hr (.inr (.inr ⟨r, rfl, by simp; omega⟩))

set_option maxRecDepth 100000 in
set_option maxHeartbeats 1000000 in
theorem mText (p : Nat → Prop) (g : Nat) (st : St) (w : World) (hr : Rm w p g st) (hp : ¬ p g) (hpl : ∀ k, p k → k < w.heap.size) :
    Calls Try.prog 28 #[.pointer (some ⟨g, 0, none⟩)] w fun e w' =>
      ∃ A c, e = .returned (.slice A (rtext st).1.length c) ∧ Own w' w.heap.size A (rtext st).1.length c (rtext st).1 ∧ Rm w' p g (rtext st).2 ∧ Frm [g] w w' := by
  have HR := Lib.hid hr
  have hs := rnum2_small st
  clear hr
  go_enter Try.func28, Try.ntmps28
  go_wp2_with fail
  refine (mNumber p g 2 st _ HR.out hp).mono ?_
  rintro e w1 ⟨rfl, hr1, hf1⟩
  generalize hx : (rnum 2 st).1 = x at hs ⊢
  generalize hy : (rnum 2 st).2 = y at hr1
  have HX := Lib.hid hx
  have HY := Lib.hid hy
  clear hx hy
  have et : rtext st = rnext x.toNat y := by rw [rtext, HX.out, HY.out]
  have ET := Lib.hid et
  clear et
  obtain ⟨A, n, c, hc, hb, hn, hm⟩ := hr1
  have hfail := Lib.hid (Rm.fail (p := p) hc hn hm)
  have c0 := hc.cell 0
  have c1 := hc.cell 1
  have f0 := hc.free 0
  have f1 := hc.free 1
  have HC := Lib.hid hc
  have HF1 := Lib.hid hf1
  clear hc hf1
  unfold maxLen at hm
  cases y with
  | none =>
    clear hb
    go_wp2_with fail
    go_ret
    rw [ET.out]
    exact ⟨_, _, rfl, Own.of_nil _ _, hfail.out.1, HF1.out.trans hfail.out.2⟩
  | some r =>
    have hb := hb r rfl
    have hrl := hb.len
    have HL := Lib.hid hrl
    have HB := Lib.hid hb
    clear hb hrl
    by_cases hxn : x.toNat ≤ n
    · have d3 : decide ((n : Int) < (x.toNat : Int)) = false := by simp; omega
      have c0' : (w1.alloc (.cells #[] 5)).cell? ⟨g, 0, none⟩ = some (.slice A n c) := (HC.out.alloc _).cell 0
      have hcut := Lib.hid (HB.out.cut (k := x.toNat) hxn hn)
      have HT := Lib.hid (HB.out.take hxn)
      have hpd : ∀ k, p k → k ∉ [g] := fun k hk hm => hp (by simp at hm; exact hm ▸ hk)
      have HP := Lib.hid hpd
      clear hpd
      by_cases hck : c = x.toNat
      · have hnk : n = x.toNat := by omega
        subst hck
        subst hnk
        rw [if_pos rfl] at hcut
        go_wp2_with ((at_builtin; refine wpList_append_new _ rfl _ _ 25 rfl 5 bytesT rfl w1.heap.size A x.toNat _ (r.take x.toNat) rfl HT.out.low (Nat.le_refl _) (by omega) ?_; intro A3 c3 w3 o3 hb3; have c30 := (HC.out.below hb3 HC.out.lt).cell 0; have c31 := (HC.out.below hb3 HC.out.lt).free 0; have O3 := Lib.hid o3; clear o3))
        go_ret
        rw [ET.out, rnext, if_pos (by rw [HL.out]; exact hxn)]
        have el : (r.take x.toNat).length = x.toNat := by rw [List.length_take, HL.out]; omega
        simp only [el]
        have fs : ∀ u, Frm [g] w3 (w3.setCell ⟨g, 0, none⟩ u) := fun u => (Frm.refl _ _).set (by simp) _
        have fa : ∀ u, Frm [g] w1 (w3.setCell ⟨g, 0, none⟩ u) := fun u => (Frm.of_below hb3).trans (fs u)
        have s1 := HF1.out.size
        refine ⟨A3, c3, rfl, (Own.frm O3.out (fs _) (by simpa using HC.out.lt)).base s1, ⟨A, x.toNat - x.toNat, 0, by rw [Nat.sub_self]; exact (HC.out.below hb3 HC.out.lt).set 0 _, ?_, by omega, by unfold maxLen; omega⟩, HF1.out.trans (fa _)⟩
        intro r' hr'; injection hr' with hr'; subst hr'; exact hcut.out.frm (fa _) HP.out
      · rw [if_neg hck] at hcut
        go_wp2_with ((at_builtin; refine wpList_append_new _ rfl _ _ 25 rfl 5 bytesT rfl w1.heap.size A x.toNat _ (r.take x.toNat) rfl HT.out.low (Nat.le_refl _) (by omega) ?_; intro A3 c3 w3 o3 hb3; have c30 := (HC.out.below hb3 HC.out.lt).cell 0; have c31 := (HC.out.below hb3 HC.out.lt).free 0; have O3 := Lib.hid o3; clear o3))
        go_ret
        rw [ET.out, rnext, if_pos (by rw [HL.out]; exact hxn)]
        have el : (r.take x.toNat).length = x.toNat := by rw [List.length_take, HL.out]; omega
        simp only [el]
        have fs : ∀ u, Frm [g] w3 (w3.setCell ⟨g, 0, none⟩ u) := fun u => (Frm.refl _ _).set (by simp) _
        have fa : ∀ u, Frm [g] w1 (w3.setCell ⟨g, 0, none⟩ u) := fun u => (Frm.of_below hb3).trans (fs u)
        have s1 := HF1.out.size
        refine ⟨A3, c3, rfl, (Own.frm O3.out (fs _) (by simpa using HC.out.lt)).base s1, ⟨_, _, _, (HC.out.below hb3 HC.out.lt).set 0 _, ?_, by omega, by unfold maxLen; omega⟩, HF1.out.trans (fa _)⟩
        intro r' hr'; injection hr' with hr'; subst hr'; exact hcut.out.frm (fa _) HP.out
    · have d3 : decide ((n : Int) < (x.toNat : Int)) = true := by simp; omega
      go_wp2_with fail
      go_ret
      rw [ET.out, rnext, if_neg (by rw [HL.out]; exact hxn)]
      exact ⟨_, _, rfl, Own.of_nil _ _, hfail.out.1, HF1.out.trans hfail.out.2⟩
end Go.Proofs.Ythaebchmlicgaaa.Pack
