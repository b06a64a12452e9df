/-
  Words for layer 4 (frag): bytes by the type of their block; rows of parts, rows of records.
  What the small functions of frag come to.
  What frag.bodies comes to.
  What frag.leading comes to.
-/
import Derived.Test.YtdaknfepcbooeaaGreatMBase
import Derived.Test.YtdaknfepcbooeaaGreatMPure
import Derived.RangeFuncBox
import Derived.WalkKit
import Derived.ProofKit
import Derived.Below
import Derived.Lib.SlBytesConst
import Derived.Outline
import Derived.Laws.BitsAllLaws
import Derived.OwnWalk
import Derived.RegionTactic
import Derived.Lib.Hide
import Derived.Deep.WholeRow
import Derived.Deep.MidRow
import Derived.Test.YtdaknfepcbooeaaGreatRows
import Derived.Lib.SliceRun
section
namespace Go.Proofs.YtdaknfepcbooeaaGreat.Frag
open Go.RowKit
set_option linter.unusedVariables false

/-- Bytes in a block of bytes stay when a variable of another type is written. -/
theorem _root_.Go.Proofs.YtdaknfepcbooeaaGreat.By.set {w : World} {A : Option Addr} {n : Nat} {bs : List (BitVec 8)} (h : By w A n bs) {b : Nat} {t : TypeId} {v : Value} (hb : Boxed w b t v) (ht : t ≠ 5) (u : Value) : By (w.setCell ⟨b, 0, none⟩ u) A n bs :=
  h.grown (grownBy_setCell' w b u) fun g cs fz e hg => by
    cases e
    have := (show w.heap[b]? = _ from hb).symm.trans hg
    simp at this
    exact ht this.2.1
theorem _root_.Go.Proofs.YtdaknfepcbooeaaGreat.By.putObj {w : World} {A : Option Addr} {n : Nat} {bs : List (BitVec 8)} (h : By w A n bs) {l : Nat} {o : Obj} (o' : Obj) (hl : w.heap[l]? = some o) (ho : o.isCells = false) : By (w.putObj l o') A n bs :=
  h.grown (grownBy_putObj' w l o') fun g cs fz e hg => by
    cases e
    rw [hl] at hg; cases hg; cases ho


/-- A part, and where its body lies. -/
structure Pv where
  p : Pt
  A : Option Addr
  c : Nat
def Pv.val (x : Pv) : Value := .agg #[v32 x.p.epoch, v32 x.p.seq, .int .i64 x.p.flags, .slice x.A x.p.body.length x.c]
def Pv.cells (x : Pv) : List Value := [v32 x.p.epoch, v32 x.p.seq, .int .i64 x.p.flags, .slice x.A x.p.body.length x.c]
def flat (xs : List Pv) : List Value := xs.flatMap Pv.cells
theorem flat_length (xs : List Pv) : (flat xs).length = xs.length * 4 := by
  induction xs with
  | nil => rfl
  | cons x xs ih => rw [flat, List.flatMap_cons, List.length_append, List.length_cons, show (List.flatMap Pv.cells xs) = flat xs from rfl, ih]; show 4 + xs.length * 4 = _; omega
theorem flat_append (xs ys : List Pv) : flat (xs ++ ys) = flat xs ++ flat ys := by rw [flat, List.flatMap_append]; rfl
theorem flat_one (xs : List Pv) : ∀ u ∈ flat xs, u.oneCell' = true := by
  intro u hu
  obtain ⟨x, _, hx⟩ := List.mem_flatMap.1 hu
  simp [Pv.cells] at hx
  rcases hx with rfl | rfl | rfl | rfl <;> rfl
theorem flat_at : ∀ (xs : List Pv) (i k : Nat) (x : Pv), xs[i]? = some x → k < 4 → (flat xs)[i * 4 + k]? = x.cells[k]?
  | [], _, _, _, h, _ => by simp at h
  | y :: ys, 0, k, x, h, hk => by
    simp at h
    subst h
    rw [flat, List.flatMap_cons, List.getElem?_append_left (by show _ < 4; omega), Nat.zero_mul, Nat.zero_add]
  | y :: ys, i + 1, k, x, h, hk => by
    have h1 := flat_at ys i k x (by simpa using h) hk
    rw [flat, List.flatMap_cons, List.getElem?_append_right (by show 4 ≤ _; omega)]
    rw [← h1]
    congr 1
    show _ - 4 = _
    omega
theorem flat_drop (xs : List Pv) (k : Nat) : flat (xs.drop k) = (flat xs).drop (k * 4) := by
  induction k generalizing xs with
  | zero => simp
  | succ k ih =>
    cases xs with
    | nil => rfl
    | cons x xs =>
      have e : flat (x :: xs) = x.cells ++ flat xs := List.flatMap_cons ..
      rw [List.drop_succ_cons, ih, e, List.drop_append, show x.cells.drop ((k + 1) * 4) = [] from List.drop_eq_nil_of_le (by show 4 ≤ _; omega), List.nil_append]
      congr 1
      show _ = _ - 4
      omega
theorem flat_take (xs : List Pv) (k : Nat) : flat (xs.take k) = (flat xs).take (k * 4) := by
  induction k generalizing xs with
  | zero => simp [flat]
  | succ k ih =>
    cases xs with
    | nil => rfl
    | cons x xs =>
      have e : ∀ xs : List Pv, flat (x :: xs) = x.cells ++ flat xs := fun _ => List.flatMap_cons ..
      rw [List.take_succ_cons, e, e, List.take_append, List.take_of_length_le (l := x.cells) (by show 4 ≤ _; omega), ih]
      congr 2
      show _ = _ - 4
      omega

/-- The slice '.slice A n c' holds the parts xs; all lies below block B. -/
structure Pr (w : World) (B : Nat) (A : Option Addr) (n : Nat) (xs : List Pv) : Prop where
  len : xs.length = n
  cells : 0 < n → ∃ ad, A = some ad ∧ ad.block < B ∧ ∀ j u, (flat xs)[j]? = some u → w.cell? (ad.add j) = some u
  bodies : ∀ x ∈ xs, Bs w B x.A x.p.body.length x.p.body
namespace Pr
variable {w w' : World} {B n : Nat} {A : Option Addr} {xs : List Pv}
theorem below (h : Pr w B A n xs) (hb : Below B w w') : Pr w' B A n xs :=
  ⟨h.len, fun hn => by
    obtain ⟨ad, e, hl, hc⟩ := h.cells hn
    exact ⟨ad, e, hl, fun j u hu => (hb.cell (by rw [add_block]; exact hl)).trans (hc j u hu)⟩, fun x hx => (h.bodies x hx).below hb⟩
theorem take (h : Pr w B A n xs) {k : Nat} (hk : k ≤ n) : Pr w B A k (xs.take k) := by
  refine ⟨by rw [List.length_take, h.len]; omega, fun hn => ?_, fun x hx => h.bodies x (List.mem_of_mem_take hx)⟩
  obtain ⟨ad, e, hl, hc⟩ := h.cells (by omega)
  refine ⟨ad, e, hl, fun j u hu => hc j u ?_⟩
  rw [flat_take, List.getElem?_take] at hu
  split at hu
  · exact hu
  · cases hu
theorem drop (h : Pr w B A n xs) {k cap : Nat} (hk : k ≤ n) (hc : n ≤ cap) : Pr w B (if cap = k then A else A.map (·.add (k * 4))) (n - k) (xs.drop k) := by
  refine ⟨by rw [List.length_drop, h.len], fun hn => ?_, fun x hx => h.bodies x (List.mem_of_mem_drop hx)⟩
  obtain ⟨ad, rfl, hl, hcell⟩ := h.cells (by omega)
  rw [if_neg (by omega)]
  refine ⟨ad.add (k * 4), rfl, by rw [add_block]; exact hl, fun j u hu => ?_⟩
  rw [flat_drop, List.getElem?_drop] at hu
  rw [add_add]
  exact hcell _ _ hu
theorem at_ (h : Pr w B A n xs) {i : Nat} (hi : i < n) : ∃ ad x, A = some ad ∧ xs[i]? = some x ∧ Bs w B x.A x.p.body.length x.p.body ∧ ad.block < B ∧
    w.cell? (ad.add (i * 4)) = some (v32 x.p.epoch) ∧ w.cell? ⟨(ad.add (i * 4)).block, (ad.add (i * 4)).off + 1, none⟩ = some (v32 x.p.seq) ∧ w.cell? ⟨(ad.add (i * 4)).block, (ad.add (i * 4)).off + 2, none⟩ = some (.int .i64 x.p.flags) ∧ w.cell? ⟨(ad.add (i * 4)).block, (ad.add (i * 4)).off + 3, none⟩ = some (.slice x.A x.p.body.length x.c) := by
  obtain ⟨ad, rfl, hl, hc⟩ := h.cells (by omega)
  have hl' : i < xs.length := by rw [h.len]; exact hi
  have hx := List.getElem?_eq_getElem hl'
  have e : ∀ k, 0 < k → (⟨(ad.add (i * 4)).block, (ad.add (i * 4)).off + k, none⟩ : Addr) = ad.add (i * 4 + k) := fun k hk => by
    rw [← add_add]
    generalize ad.add (i * 4) = q
    unfold Addr.add
    rw [if_neg (by omega)]
  exact ⟨ad, xs[i], rfl, hx, h.bodies _ (List.getElem_mem hl'), hl, hc _ _ (flat_at xs i 0 _ hx (by decide)), by rw [e 1 (by decide)]; exact hc _ _ (flat_at xs i 1 _ hx (by decide)), by rw [e 2 (by decide)]; exact hc _ _ (flat_at xs i 2 _ hx (by decide)), by rw [e 3 (by decide)]; exact hc _ _ (flat_at xs i 3 _ hx (by decide))⟩
end Pr
end Go.Proofs.YtdaknfepcbooeaaGreat.Frag
end

section
namespace Go.Proofs.YtdaknfepcbooeaaGreat.Frag
open Go.RowKit
set_option linter.unusedVariables false

set_option maxRecDepth 100000 in
set_option maxHeartbeats 1000000 in
theorem isFirst (e s : BitVec 32) (f : Int) (A : Option Addr) (n c : Nat) (w : World) (h : fits f) : Calls Tryz.prog 149 #[.agg #[v32 e, v32 s, .int .i64 f, .slice A n c]] w fun r w' => r = .returned (.bool (one f)) ∧ Below w.heap.size w w' := by
  have H := Lib.hid (one_bits h)
  clear h
  go_enter Tryz.func149, Tryz.ntmps149
  go_wp2_with fail
  go_ret
  exact ⟨by rw [H.out]; rfl, (Below.refl _ _).alloc (Nat.le_refl _) _⟩
set_option maxRecDepth 100000 in
set_option maxHeartbeats 1000000 in
theorem isLast (e s : BitVec 32) (f : Int) (A : Option Addr) (n c : Nat) (w : World) (h : fits f) : Calls Tryz.prog 150 #[.agg #[v32 e, v32 s, .int .i64 f, .slice A n c]] w fun r w' => r = .returned (.bool (two f)) ∧ Below w.heap.size w w' := by
  have H := Lib.hid (two_bits h)
  clear h
  go_enter Tryz.func150, Tryz.ntmps150
  go_wp2_with fail
  go_ret
  exact ⟨by rw [H.out]; rfl, (Below.refl _ _).alloc (Nat.le_refl _) _⟩

theorem bytesT : ByteRow Tryz.prog 44 5 := ByteRow.mk' Tryz.underlying44 (by kernel_rfl)

/-- bytes.Clone. -/
theorem eql_nil (w : World) (A : Option Addr) (n c : Nat) : (binOp .eql 44 (.slice A n c) (.slice none 0 0)).run Tryz.prog w = .ok (.bool A.isNone) w := Lib.run_eql_slice_nil w 44 5 A n c 0 0 Tryz.underlying44
set_option maxRecDepth 100000 in
set_option maxHeartbeats 1000000 in
theorem clone (B : Nat) (A : Option Addr) (n c : Nat) (bs : List (BitVec 8)) (w : World) (h : Bs w B A n bs) (hB : B ≤ w.heap.size) (hn : n ≤ 100000) :
    Calls Tryz.prog 90 #[.slice A n c] w fun r w' => ∃ A' c', r = .returned (.slice A' n c') ∧ By w' A' n bs ∧ Below w.heap.size w w' := by
  have q := eql_nil w A n c
  have H := Lib.hid h
  cases A with
  | none =>
    have hn0 : n = 0 := by
      rcases Nat.eq_zero_or_pos n with h0 | h0
      · exact h0
      · obtain ⟨ad, h', _⟩ := h.2 h0; cases h'
    subst hn0
    clear h
    go_enter Tryz.func90, Tryz.ntmps90
    go_wp2_with fail
    go_ret
    exact ⟨none, 0, rfl, ⟨H.out.1, fun h => absurd h (by omega)⟩, Below.refl _ _⟩
  | some a =>
    clear h
    go_enter Tryz.func90, Tryz.ntmps90
    go_wp2_with ((at_builtin; refine wpList_append_new _ rfl _ _ 44 rfl 5 bytesT rfl B (some a) n c bs rfl H.out hB (by omega) ?_; intro A' c' w' ho hb'))
    go_ret
    exact ⟨A', c', rfl, By.of_own ho, hb'⟩
end Go.Proofs.YtdaknfepcbooeaaGreat.Frag
end

section
namespace Go.Proofs.YtdaknfepcbooeaaGreat.Frag
open Go.RowKit
set_option linter.unusedVariables false

/-- The bodies, one after the other. -/
def whole (xs : List Pv) : List (BitVec 8) := xs.flatMap (·.p.body)
theorem whole_take {xs : List Pv} {k : Nat} {x : Pv} (h : xs[k]? = some x) : whole (xs.take (k + 1)) = whole (xs.take k) ++ x.p.body := by
  rw [List.take_add_one, h, whole, whole, List.flatMap_append]
  simp
theorem whole_le (xs : List Pv) (k : Nat) : (whole (xs.take k)).length ≤ (whole xs).length := by
  conv => rhs; rw [← List.take_append_drop k xs]
  rw [whole, whole, List.flatMap_append, List.length_append]
  omega

theorem own_base {w : World} {base e size n : Nat} {v : Value} {xs : List Value} (h : w.ownsRow base e size v n xs) : ∀ g, v.ownBlock = some g → base ≤ g := by
  intro g hv
  rcases h.2 with ⟨rfl, _⟩ | ⟨g', cap, cur, rfl, hb, _⟩
  · simp [Value.ownBlock] at hv
  · obtain rfl : g' = g := by simpa [Value.ownBlock] using hv
    exact hb

set_option maxRecDepth 100000 in
set_option maxHeartbeats 2000000 in
theorem bodies (A : Option Addr) (n c : Nat) (xs : List Pv) (w : World) (B : Nat) (h : Pr w B A n xs) (hB : B ≤ w.heap.size) (hc : n ≤ c) (hm : n ≤ 4096) (hw : (whole xs).length ≤ 140737488355328) :
    Calls Tryz.prog 114 #[.slice A n c] w fun r w' => ∃ A' c', r = .returned (.slice A' (whole xs).length c') ∧ By w' A' (whole xs).length (whole xs) ∧ Below w.heap.size w w' := by
  have H := Lib.hid h
  have HW := Lib.hid hw
  clear h hw
  go_enter Tryz.func114, Tryz.ntmps114
  go_wp2_with fail
  go_loopw [3, 8] (fun v i wr => ∃ k : Nat, k ≤ n ∧ i = .int .i64 (k : Int) ∧ (∃ A' c', v = .slice A' (whole (xs.take k)).length c') ∧ wr.ownsRow w.heap.size 5 1 v (whole (xs.take k)).length ((whole (xs.take k)).map v8) ∧ Below w.heap.size w wr) (fun _ i _ => n - (intOf i).toNat)
  case atStart => exact ⟨0, Nat.zero_le _, rfl, ⟨none, 0, rfl⟩, World.ownsRow_nil _ _ _ _, Below.refl _ _⟩
  case round =>
    obtain ⟨k, hk, rfl, ⟨A', c', rfl⟩, ho, hb⟩ := hrel
    have sb := hb.size
    have hkm : k ≤ 4096 := by omega
    by_cases hlt : k < n
    · obtain ⟨ad, x, rfl, hx, hxb, hl, c0, c1, c2, c3⟩ := (H.out.below (hb.mono hB)).at_ hlt
      have HT := Lib.hid (whole_take hx)
      have hle := whole_le xs (k + 1)
      rw [HT.out, List.length_append] at hle
      have HLE := Lib.hid (Nat.le_trans hle HW.out)
      have HBL := Lib.hid (hxb.alloc (Nat.le_trans hB sb) (.cells #[v32 x.p.epoch, v32 x.p.seq, .int .i64 x.p.flags, .slice x.A x.p.body.length x.c] 121))
      obtain ⟨⟨e, s, f, bs⟩, xA, xc⟩ := x
      dsimp only at *
      have HO := Lib.hid ho
      have HB := Lib.hid hb
      clear hx hxb hb hl ho hle
      generalize whole (xs.take k) = T at *
      generalize hTn : T.length = m at *
      have HM := Lib.hid hTn
      clear hTn
      go_wp2_with ((at_builtin; refine wpList_append_bs _ rfl _ _ 44 rfl w.heap.size 5 bytesT (.slice A' m c') m T rfl (HO.out.alloc _) B xA bs.length xc bs rfl HBL.out (m + bs.length) (T ++ bs) rfl rfl HLE.out (by simp; omega) ?_; intro A3 c3' w3 o3 g3 _))
      go_roundw
      case rel =>
        refine ⟨k + 1, by omega, by go_num, ⟨A3, c3', ?_⟩, ?_, ?_⟩
        · rw [HT.out, List.length_append, HM.out]
        · rw [HT.out, List.length_append, HM.out]; exact o3
        · exact (HB.out.alloc sb _).grown g3 (by simp; omega) (own_base HO.out)
      case measure => simp [intOf]; omega
    · obtain rfl : k = n := by omega
      have HE := Lib.hid (show xs.take k = xs from List.take_of_length_le (by rw [H.out.len]; exact Nat.le_refl _))
      rw [HE.out] at ho
      have HO := Lib.hid ho
      clear ho
      go_wp2_with fail
      go_ret
      exact ⟨A', c', by rw [HE.out]; rfl, By.of_own HO.out, hb⟩
end Go.Proofs.YtdaknfepcbooeaaGreat.Frag
end

section
namespace Go.Proofs.YtdaknfepcbooeaaGreat.Frag
open Go.RowKit
set_option linter.unusedVariables false

set_option maxRecDepth 100000 in
set_option maxHeartbeats 2000000 in
theorem leading (A : Option Addr) (n c : Nat) (xs : List Pv) (w : World) (B : Nat) (h : Pr w B A n xs) (hB : B ≤ w.heap.size) (hc : n ≤ c) (hm : n ≤ 4096) (hf : ∀ x ∈ xs, fits x.p.flags) :
    Calls Tryz.prog 127 #[.slice A n c] w fun r w' => r = .returned (.int .i64 ((lead true (xs.map (·.p)) : Nat) : Int)) ∧ Below w.heap.size w w' := by
  have H := Lib.hid h
  have HF := Lib.hid hf
  have HL := Lib.hid (leadAt_zero (xs.map (·.p)))
  generalize lead true (xs.map (·.p)) = L at *
  clear h hf
  go_enter Tryz.func127, Tryz.ntmps127
  go_wp2_with fail
  go_loopw [7] (fun i wr => ∃ k : Nat, k ≤ n ∧ i = .int .i64 (k : Int) ∧ Below w.heap.size w wr ∧ Hid (leadAt k (xs.map (·.p)) = L)) (fun i _ => n - (intOf i).toNat)
  case atStart => exact ⟨0, Nat.zero_le _, rfl, Below.refl _ _, HL⟩
  case round =>
    obtain ⟨k, hk, rfl, hb, HK⟩ := hrel
    have sb := hb.size
    have hkm : k ≤ 4096 := by omega
    by_cases hlt : k < n
    · obtain ⟨ad, x, rfl, hx, hxb, hl, c0, c1, c2, c3⟩ := (H.out.below (hb.mono hB)).at_ hlt
      have hfx := HF.out x (List.mem_of_getElem? hx)
      have hpx : (xs.map (·.p))[k]? = some x.p := by rw [List.getElem?_map, hx]; rfl
      obtain ⟨⟨e, s, f, bs⟩, xA, xc⟩ := x
      dsimp only at *
      have HFX := Lib.hid hfx
      have HPX := Lib.hid hpx
      have HB := Lib.hid hb
      clear hfx hpx hx hxb hb hl
      go_wp2_with fail
      refine (isFirst e s f xA bs.length xc _ HFX.out).mono ?_
      rintro r w1 ⟨rfl, hb1⟩
      simp only [World.size_alloc] at hb1
      have hb1' : Below w.heap.size w w1 := (HB.out.alloc sb _).trans (hb1.mono (by omega))
      have hcv := (Cel.new wr 121 [v32 e, v32 s, .int .i64 f, .slice xA bs.length xc]).below hb1 (Nat.lt_succ_self _)
      have k0 := hcv.cell 0
      have k1 := hcv.cell 1
      have k2 := hcv.cell 2
      have k3 := hcv.cell 3
      have HB1 := Lib.hid hb1'
      have s1 := hb1'.size
      clear hb1 hb1' hcv c0 c1 c2 c3
      generalize hone : one f = o1 at *
      by_cases hk0 : k = 0
      · have dk : ((k : Int) == 0) = true := by subst hk0; rfl
        have HK0 := Lib.hid hk0
        clear hk0
        cases o1 with
        | false =>
          have HQ := Lib.hid (show ¬ one f = (k == 0) from by rw [hone, HK0.out]; decide)
          clear hone
          go_wp2_with fail
          go_ret
          exact ⟨by rw [← HK.out, leadAt_no HPX.out HQ.out]; rfl, HB1.out⟩
        | true =>
          have HQ := Lib.hid (show one f = (k == 0) from by rw [hone, HK0.out]; rfl)
          clear hone
          go_wp2_with fail
          refine (isLast e s f xA bs.length xc _ HFX.out).mono ?_
          rintro r w2 ⟨rfl, hb2⟩
          have HB2 := Lib.hid (HB1.out.trans (hb2.mono s1))
          clear hb2 k0 k1 k2 k3
          generalize htwo : two f = o2 at *
          have HT := Lib.hid htwo
          clear htwo
          cases o2 with
          | true =>
            go_wp2_with fail
            go_ret
            exact ⟨by rw [← HK.out, leadAt_last HPX.out HQ.out HT.out]; rfl, HB2.out⟩
          | false =>
            go_wp2_with fail
            go_roundw
            case rel => exact ⟨k + 1, by omega, by go_num, HB2.out, Lib.hid ((leadAt_on HPX.out HQ.out HT.out).symm.trans HK.out)⟩
            case measure => simp [intOf]; omega
      · have dk : ((k : Int) == 0) = false := by simp; omega
        have HK0 := Lib.hid hk0
        clear hk0
        cases o1 with
        | true =>
          have HQ := Lib.hid (show ¬ one f = (k == 0) from by rw [hone]; have := HK0.out; simp; omega)
          clear hone
          go_wp2_with fail
          go_ret
          exact ⟨by rw [← HK.out, leadAt_no HPX.out HQ.out]; rfl, HB1.out⟩
        | false =>
          have HQ := Lib.hid (show one f = (k == 0) from by rw [hone]; have := HK0.out; symm; simpa using this)
          clear hone
          go_wp2_with fail
          refine (isLast e s f xA bs.length xc _ HFX.out).mono ?_
          rintro r w2 ⟨rfl, hb2⟩
          have HB2 := Lib.hid (HB1.out.trans (hb2.mono s1))
          clear hb2 k0 k1 k2 k3
          generalize htwo : two f = o2 at *
          have HT := Lib.hid htwo
          clear htwo
          cases o2 with
          | true =>
            go_wp2_with fail
            go_ret
            exact ⟨by rw [← HK.out, leadAt_last HPX.out HQ.out HT.out]; rfl, HB2.out⟩
          | false =>
            go_wp2_with fail
            go_roundw
            case rel => exact ⟨k + 1, by omega, by go_num, HB2.out, Lib.hid ((leadAt_on HPX.out HQ.out HT.out).symm.trans HK.out)⟩
            case measure => simp [intOf]; omega
    · obtain rfl : k = n := by omega
      have HE := Lib.hid (show leadAt k (xs.map (·.p)) = 0 from by
        have := leadAt_end (xs.map (·.p))
        rwa [List.length_map, H.out.len] at this)
      go_wp2_with fail
      go_ret
      exact ⟨by rw [← HK.out, HE.out]; rfl, hb⟩

end Go.Proofs.YtdaknfepcbooeaaGreat.Frag
end
