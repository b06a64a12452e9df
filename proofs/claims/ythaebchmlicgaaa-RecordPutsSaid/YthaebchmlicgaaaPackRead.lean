/-
  What the Go functions of layer 2 (pack) that read come to: one contract a function.
-/
import Derived.Test.YthaebchmlicgaaaPackNum
import Derived.WalkSpells
import Derived.Laws.EntriesVeiled
import Derived.Deep.QuietTactic
import Derived.BigQuiet
namespace Go.Proofs.Ythaebchmlicgaaa.Pack
open Go.RowKit
set_option linter.unusedVariables false

theorem Own.low {w : World} {B : Nat} {A : Option Addr} {n c : Nat} {bs : List (BitVec 8)} (h : Own w B A n c bs) : Bs w w.heap.size A n bs := Bs.of_own h rfl
theorem Own.bp {w : World} {B : Nat} {A : Option Addr} {n c : Nat} {bs : List (BitVec 8)} (h : Own w B A n c bs) : Bp w (fun k => B ≤ k) A n bs := (Bp.of_own h rfl).mono fun _ hk _ => hk.2
theorem Own.room {w : World} {B : Nat} {A : Option Addr} {n c : Nat} {bs : List (BitVec 8)} (h : Own w B A n c bs) : n ≤ c ∧ c ≤ maxLen := by
  rcases h.2 with ⟨e, _⟩ | ⟨g, cap, cur, e, _, _, h1, h2, _⟩
  · injection e with _ e1 e2; omega
  · injection e with _ e1 e2; omega
theorem Own.base {w : World} {B B' : Nat} {A : Option Addr} {n c : Nat} {bs : List (BitVec 8)} (h : Own w B A n c bs) (hB : B' ≤ B) : Own w B' A n c bs :=
  ⟨h.1, h.2.imp id fun ⟨g', cap, cur, h1, h2, h3⟩ => ⟨g', cap, cur, h1, by omega, h3⟩⟩
theorem Own.frm {w w' : World} {B : Nat} {A : Option Addr} {n c : Nat} {bs : List (BitVec 8)} {l : List Nat} (h : Own w B A n c bs) (hf : Frm l w w') (hl : ∀ k, k ∈ l → k < B) : Own w' B A n c bs := by
  refine ⟨h.1, h.2.imp id fun ⟨g', cap, cur, h1, h2, h3, h4⟩ => ⟨g', cap, cur, h1, h2, ?_, h4⟩⟩
  rw [hf.block g' (Array.getElem?_eq_some_iff.1 h3).1 (fun hm => by have := hl g' hm; omega)]
  exact h3
theorem Own.length {w : World} {B : Nat} {A : Option Addr} {n c : Nat} {bs : List (BitVec 8)} (h : Own w B A n c bs) : bs.length = n := by
  have := h.1; simpa using this

set_option maxRecDepth 100000 in
set_option maxHeartbeats 400000 in
theorem clone (B : Nat) (A : Option Addr) (n c : Nat) (bs : List (BitVec 8)) (w : World) (hbs : Bs w B A n bs) (hB : B ≤ w.heap.size) (hn : n ≤ 140737488355328) :
    Calls Try.prog 32 #[.slice A n c] w fun e w' => ∃ A' c', e = .returned (.slice A' n c') ∧ Own w' w.heap.size A' n c' bs ∧ Below w.heap.size w w' := by
  have hq := fun w : World => Lib.run_eql_slice_nil (P := Try.prog) w 25 5 A n c 0 0 Try.underlying25
  rcases A with _ | ad
  · have h0 : n = 0 := by
      rcases Nat.eq_zero_or_pos n with h0 | h0
      · exact h0
      · obtain ⟨ad, h, _⟩ := hbs.2 h0; cases h
    subst h0
    have hb : bs = [] := List.eq_nil_of_length_eq_zero hbs.1
    subst hb
    clear hbs
    go_enter Try.func32, Try.ntmps32
    go_wp2_with fail
    go_ret
    exact ⟨_, _, rfl, Own.of_nil _ _, Below.refl _ _⟩
  · have HB := Lib.hid hbs
    clear hbs
    go_enter Try.func32, Try.ntmps32
    go_wp2_with ((at_builtin; refine wpList_append_new _ rfl _ _ 25 rfl 5 bytesT rfl B (some ad) n c bs rfl HB.out hB hn ?_; intro A3 c3 w3 o3 g3))
    go_ret
    exact ⟨A3, c3, rfl, o3, g3⟩

abbrev takeOf (h : Nat) : Value := .func (.func 33) #[.pointer (some ⟨h, 0, none⟩)] #[]
abbrev atEndOf (h : Nat) : Value := .func (.func 34) #[.pointer (some ⟨h, 0, none⟩)] #[]

/-- The reader at block g, its cursor at block h, its bytes in blocks from B up to h. -/
def Rd (w : World) (B h g : Nat) (st : St) : Prop :=
  B ≤ h ∧ h < g ∧ (st = none ∧ Cel w g 82 [.nilFunc, .nilFunc] ∨
  ∃ r A n c, st = some r ∧ Cel w g 82 [takeOf h, atEndOf h] ∧ Cel w h 79 [.slice A n c] ∧ Bp w (fun k => B ≤ k ∧ k < h) A n r ∧ n ≤ c ∧ c ≤ maxLen)

theorem Rd.frm {w w' : World} {B h g : Nat} {st : St} {l : List Nat} (hr : Rd w B h g st) (hf : Frm l w w') (hl : ∀ k, k ∈ l → k < B ∨ g < k) : Rd w' B h g st := by
  obtain ⟨h1, h2, h3⟩ := hr
  refine ⟨h1, h2, ?_⟩
  have no : ∀ k, B ≤ k → k ≤ g → k ∉ l := fun k a b hm => by have := hl k hm; omega
  rcases h3 with ⟨rfl, hc⟩ | ⟨r, A, n, c, rfl, hc, hd, hb, hn, hm⟩
  · exact .inl ⟨rfl, hc.frm hf (no g (by omega) (by omega))⟩
  · exact .inr ⟨r, A, n, c, rfl, hc.frm hf (no g (by omega) (by omega)), hd.frm hf (no h (by omega) (by omega)), hb.frm hf (fun k hk => no k hk.1 (by omega)), hn, hm⟩

set_option maxRecDepth 100000 in
theorem fail_at (g : Nat) (a b : Value) (w : World) (h : Cel w g 82 [a, b]) :
    Calls Try.prog 35 #[.pointer (some ⟨g, 0, none⟩)] w fun e w' => e = .returned (.tuple #[]) ∧ Cel w' g 82 [.nilFunc, .nilFunc] ∧ Frm [g] w w' := by
  have h0 := h.cell 0
  have h1 := h.cell 1
  have f0 := h.free 0
  have f1 := h.free 1
  have H := Lib.hid h
  clear h
  go_enter Try.func35, Try.ntmps35
  go_wp2_with fail
  go_end0
  exact ⟨rfl, (H.out.set 0 _).set 1 _, ((Frm.refl _ _).set (by simp) _).set (by simp) _⟩
set_option maxRecDepth 100000 in
theorem fail_nil (w : World) : Calls Try.prog 35 #[.pointer none] w fun e w' => e = .returned (.tuple #[]) ∧ w = w' := by
  go_enter Try.func35, Try.ntmps35
  go_wp2_with fail
  go_end0
  exact ⟨rfl, rfl⟩

set_option maxRecDepth 100000 in
theorem failed_nil (w : World) : Calls Try.prog 37 #[.pointer none] w fun e w' => e = .returned (.bool true) ∧ w = w' := by
  go_enter Try.func37, Try.ntmps37
  go_wp2_with fail
  go_ret
  exact ⟨rfl, rfl⟩
set_option maxRecDepth 100000 in
theorem failed_yes (g : Nat) (w : World) (h : Cel w g 82 [.nilFunc, .nilFunc]) : Calls Try.prog 37 #[.pointer (some ⟨g, 0, none⟩)] w fun e w' => e = .returned (.bool true) ∧ w = w' := by
  have h0 := h.cell 0
  clear h
  have q1 := fun w : World => run_eql_nil_nil_fn (P := Try.prog) w (t := 80) Try.underlying80
  have q2 := fun (w : World) (fn : Fn) (a b : Array Value) => run_eql_fn_nil (P := Try.prog) w (t := 80) Try.underlying80 fn a b
  go_enter Try.func37, Try.ntmps37
  go_wp2_with fail
  go_ret
  exact ⟨rfl, rfl⟩
set_option maxRecDepth 100000 in
theorem failed_no (g d : Nat) (w : World) (h : Cel w g 82 [takeOf d, atEndOf d]) : Calls Try.prog 37 #[.pointer (some ⟨g, 0, none⟩)] w fun e w' => e = .returned (.bool false) ∧ w = w' := by
  have h0 := h.cell 0
  clear h
  have q1 := fun w : World => run_eql_nil_nil_fn (P := Try.prog) w (t := 80) Try.underlying80
  have q2 := fun (w : World) (fn : Fn) (a b : Array Value) => run_eql_fn_nil (P := Try.prog) w (t := 80) Try.underlying80 fn a b
  go_enter Try.func37, Try.ntmps37
  go_wp2_with fail
  go_ret
  exact ⟨rfl, rfl⟩

set_option maxRecDepth 100000 in
theorem take_no (d k : Nat) (A : Option Addr) (n c : Nat) (w : World) (hc : Cel w d 79 [.slice A n c]) (hk : n < k) :
    Calls Try.prog 33 #[.pointer (some ⟨d, 0, none⟩), .int .i64 (k : Int)] w fun e w' => e = .returned (.tuple #[.slice none 0 0, .bool false]) ∧ w = w' := by
  have h0 := hc.cell 0
  clear hc
  have hd : decide (n < k) = true := by simp; omega
  go_enter Try.func33, Try.ntmps33
  go_wp2_with fail
  go_ret2
  exact ⟨rfl, rfl⟩
set_option maxRecDepth 100000 in
theorem take_ok (d k : Nat) (A : Option Addr) (n c : Nat) (w : World) (p : Nat → Prop) (r : List (BitVec 8)) (hc : Cel w d 79 [.slice A n c]) (hk : k ≤ n) (hn : n ≤ c) (hm : c ≤ maxLen) (hb : Bp w p A n r) (hp : ¬ p d) :
    Calls Try.prog 33 #[.pointer (some ⟨d, 0, none⟩), .int .i64 (k : Int)] w fun e w' => e = .returned (.tuple #[.slice A k c, .bool true]) ∧ Bp w' p A k (r.take k) ∧
      (∃ A' c', Cel w' d 79 [.slice A' (n - k) c'] ∧ n - k ≤ c' ∧ c' ≤ maxLen ∧ Bp w' p A' (n - k) (r.drop k)) ∧ Frm [d] w w' := by
  have h0 := hc.cell 0
  have f0 := hc.free 0
  have H := Lib.hid hc
  have hcut := Lib.hid (hb.cut hk hn)
  have htake := Lib.hid (hb.take hk)
  have hset : ∀ u, Frm [d] w (w.setCell ⟨d, 0, none⟩ u) := fun u => (Frm.refl _ _).set (by simp) _
  have hpd : ∀ k, p k → k ∉ [d] := fun k hk hm => hp (by simp at hm; exact hm ▸ hk)
  have HS := Lib.hid hset
  have HP := Lib.hid hpd
  clear hc hb hset hpd
  unfold maxLen at hm ⊢
  have hd : decide (n < k) = false := by simp; omega
  by_cases hck : c = k
  · have hnk : n = k := by omega
    subst hck
    subst hnk
    rw [if_pos rfl] at hcut
    go_enter Try.func33, Try.ntmps33
    go_wp2_with fail
    go_ret2
    exact ⟨rfl, htake.out.frm (HS.out _) HP.out, ⟨A, 0, by rw [Nat.sub_self]; exact H.out.set 0 _, by omega, by omega, hcut.out.frm (HS.out _) HP.out⟩, HS.out _⟩
  · rw [if_neg hck] at hcut
    go_enter Try.func33, Try.ntmps33
    go_wp2_with fail
    go_ret2
    exact ⟨rfl, htake.out.frm (HS.out _) HP.out, ⟨_, _, H.out.set 0 _, by omega, by omega, hcut.out.frm (HS.out _) HP.out⟩, HS.out _⟩
set_option maxRecDepth 100000 in
theorem atEnd (d : Nat) (A : Option Addr) (n c : Nat) (w : World) (hc : Cel w d 79 [.slice A n c]) :
    Calls Try.prog 34 #[.pointer (some ⟨d, 0, none⟩)] w fun e w' => e = .returned (.bool ((n : Int) == 0)) ∧ w = w' := by
  have h0 := hc.cell 0
  clear hc
  go_enter Try.func34, Try.ntmps34
  go_wp2_with fail
  go_ret
  exact ⟨rfl, rfl⟩

/-- What a call that reads leaves: the reader, and nothing else, has moved. -/
def After (w : World) (B d g : Nat) (st : St) (w' : World) : Prop := Rd w' B d g st ∧ Frm [d, g] w w'

set_option maxRecDepth 100000 in
set_option maxHeartbeats 400000 in
theorem next (B d g k : Nat) (st : St) (w : World) (hr : Rd w B d g st) (hk : k ≤ maxLen) :
    Calls Try.prog 36 #[.pointer (some ⟨g, 0, none⟩), .int .i64 (k : Int)] w fun e w' =>
      ∃ A c, e = .returned (.slice A (rnext k st).1.length c) ∧ Bp w' (fun k => B ≤ k ∧ k < d) A (rnext k st).1.length (rnext k st).1 ∧ After w B d g (rnext k st).2 w' := by
  obtain ⟨h1, h2, h3⟩ := hr
  unfold maxLen at hk
  rcases h3 with ⟨rfl, hc⟩ | ⟨r, A, n, c, rfl, hc, hd, hb, hn, hm⟩
  · have HC := Lib.hid hc
    clear hc
    go_enter Try.func36, Try.ntmps36
    go_wp2_with fail
    refine (failed_yes g _ HC.out).mono ?_
    rintro e w' ⟨rfl, rfl⟩
    go_wp2_with fail
    go_ret
    exact ⟨_, _, rfl, Bp.nil_, ⟨h1, h2, .inl ⟨rfl, HC.out⟩⟩, Frm.refl _ _⟩
  · have c0 := hc.cell 0
    have HC := Lib.hid hc
    have HD := Lib.hid hd
    have HB := Lib.hid hb
    clear hc hd hb
    by_cases hkn : k ≤ n
    · go_enter Try.func36, Try.ntmps36
      go_wp2_with fail
      refine (failed_no g d _ HC.out).mono ?_
      rintro e w' ⟨rfl, rfl⟩
      go_wp2_with fail
      refine (take_ok d k A n c _ _ r HD.out hkn hn hm HB.out (by omega)).mono ?_
      rintro e w1 ⟨rfl, ht, ⟨A', c', hd', hn', hm', hb'⟩, hf⟩
      have HT := Lib.hid ht
      have HD' := Lib.hid hd'
      have HB' := Lib.hid hb'
      clear ht hd' hb'
      go_wp2_with fail
      go_ret
      have e1 : rnext k (some r) = (r.take k, some (r.drop k)) := by rw [rnext, if_pos (by rw [HB.out.len]; exact hkn)]
      have e2 : (r.take k).length = k := by rw [List.length_take, HB.out.len]; omega
      rw [e1]
      simp only [e2]
      exact ⟨_, _, rfl, HT.out, ⟨h1, h2, .inr ⟨_, _, _, _, rfl, HC.out.frm hf (by simp; omega), HD'.out, HB'.out, hn', hm'⟩⟩, hf.mono (by simp)⟩
    · go_enter Try.func36, Try.ntmps36
      go_wp2_with fail
      refine (failed_no g d _ HC.out).mono ?_
      rintro e w' ⟨rfl, rfl⟩
      go_wp2_with fail
      refine (take_no d k A n c _ HD.out (by omega)).mono ?_
      rintro e w' ⟨rfl, rfl⟩
      go_wp2_with fail
      refine (fail_at g _ _ _ HC.out).mono ?_
      rintro e w1 ⟨rfl, hc, hf⟩
      have HC' := Lib.hid hc
      clear hc
      go_wp2_with fail
      go_ret
      have e1 : rnext k (some r) = ([], none) := by rw [rnext, if_neg (by rw [HB.out.len]; omega)]
      rw [e1]
      exact ⟨_, _, rfl, Bp.nil_, ⟨h1, h2, .inl ⟨rfl, HC'.out⟩⟩, hf.mono (by simp)⟩

theorem shl64 (n : BitVec 64) (b : BitVec 8) : bits .or .u64 (IntKind.u64.wrap ((n.toNat : Int) * (256 : Int))) (b.toNat : Int) = (((n <<< 8) ||| b.setWidth 64).toNat : Int) := by
  have hb := b.isLt
  have e1 : IntKind.u64.wrap ((n.toNat : Int) * (256 : Int)) = ((n.toNat * 256 % 18446744073709551616 : Nat) : Int) := by
    rw [IntKind.wrap_u64]; omega
  rw [e1, u64_or_nat _ _ (Nat.mod_lt _ (by decide)) (by omega), BitVec.toNat_or, BitVec.toNat_shiftLeft, BitVec.toNat_setWidth, Nat.shiftLeft_eq, Nat.mod_eq_of_lt (a := b.toNat) (by omega)]

set_option maxRecDepth 100000 in
set_option maxHeartbeats 400000 in
theorem rNumber (B d g : Nat) (size : Int) (st : St) (w : World) (hr : Rd w B d g st) :
    Calls Try.prog 22 #[.pointer (some ⟨g, 0, none⟩), .int .i64 size] w fun e w' =>
      e = .returned (v64 (rnum size st).1) ∧ After w B d g (rnum size st).2 w' := by
  have HR := Lib.hid hr
  clear hr
  cases hs : okSize size
  · have HS := Lib.hid hs
    clear hs
    have hc : ∃ a b, Cel w g 82 [a, b] := by
      obtain ⟨_, _, ⟨_, hc⟩ | ⟨_, _, _, _, _, hc, _⟩⟩ := HR.out <;> exact ⟨_, _, hc⟩
    obtain ⟨a, b, hc⟩ := hc
    have HC := Lib.hid hc
    clear hc
    go_enter Try.func22, Try.ntmps22
    go_wp2_with fail
    refine (isSize_no _ _ HS.out).mono ?_
    rintro e w' ⟨rfl, rfl⟩
    go_wp2_with fail
    refine (fail_at g _ _ _ HC.out).mono ?_
    rintro e w1 ⟨rfl, hc, hf⟩
    go_wp2_with fail
    go_ret
    rw [rnum_bad _ _ HS.out]
    exact ⟨rfl, ⟨HR.out.1, HR.out.2.1, .inl ⟨rfl, hc⟩⟩, hf.mono (by simp)⟩
  · obtain ⟨k, rfl⟩ : ∃ k : Nat, size = (k : Int) := ⟨size.toNat, by simp [okSize] at hs; omega⟩
    have hk8 : k ≤ 8 := by simp [okSize] at hs; omega
    have HS := Lib.hid hs
    clear hs
    go_enter Try.func22, Try.ntmps22
    go_wp2_with fail
    refine (isSize_yes _ _ HS.out).mono ?_
    rintro e w' ⟨rfl, rfl⟩
    go_wp2_with fail
    refine (next B d g k st _ HR.out (by unfold maxLen; omega)).mono ?_
    rintro e w1 ⟨A, c, rfl, hb, ha⟩
    generalize hl : (rnext k st).1 = l at hb ⊢
    have hl8 : l.length ≤ 8 := by
      subst hl; cases st with
      | none => simp [rnext]
      | some r => by_cases hkr : k ≤ r.length <;> simp [rnext, hkr] <;> omega
    have HL := Lib.hid hl
    have HB := Lib.hid hb
    have HA := Lib.hid ha
    clear hb ha hl
    go_wp2_with fail
    go_loop [5, 17] (fun x i => ∃ j : Nat, j ≤ l.length ∧ i = .int .i64 (j : Int) ∧ x = v64 (val (l.take j))) (fun _ i => l.length - (intOf i).toNat)
    case atStart => exact ⟨0, Nat.zero_le _, rfl, rfl⟩
    case round =>
      obtain ⟨j, hj, rfl, rfl⟩ := hrel
      by_cases hlt : j < l.length
      · obtain ⟨ad, rfl, _, hcell⟩ := HB.out.at_ hlt
        generalize hX : val (l.take j) = X
        generalize hY : l.getD j 0#8 = Y at hcell
        have HX := Lib.hid hX
        have HY := Lib.hid hY
        clear hX hY
        go_wp2_with fail
        go_round
        case rel => exact ⟨j + 1, by omega, by go_num, by rw [take_snoc8 _ _ hlt, val_snoc, HX.out, HY.out]; exact congrArg (Value.int .u64) (shl64 X Y)⟩
        case measure => simp [intOf]; omega
      · go_wp2_with fail
        go_ret
        have : j = l.length := by omega
        subst this
        rw [List.take_length, rnum_next _ _ HS.out, Int.toNat_natCast, HL.out]
        exact ⟨rfl, HA.out⟩

set_option maxRecDepth 100000 in
theorem next_nil (size : Int) (w : World) : Calls Try.prog 36 #[.pointer none, .int .i64 size] w fun e w' => e = .returned (.slice none 0 0) ∧ w = w' := by
  go_enter Try.func36, Try.ntmps36
  go_wp2_with fail
  refine (failed_nil _).mono ?_
  rintro e w' ⟨rfl, rfl⟩
  go_wp2_with fail
  go_ret
  exact ⟨rfl, rfl⟩
set_option maxRecDepth 100000 in
theorem rNumber_nil (size : Int) (w : World) : Calls Try.prog 22 #[.pointer none, .int .i64 size] w fun e w' => e = .returned (.int .u64 0) ∧ w = w' := by
  cases hs : okSize size
  · have HS := Lib.hid hs
    clear hs
    go_enter Try.func22, Try.ntmps22
    go_wp2_with fail
    refine (isSize_no _ _ HS.out).mono ?_
    rintro e w' ⟨rfl, rfl⟩
    go_wp2_with fail
    refine (fail_nil _).mono ?_
    rintro e w' ⟨rfl, rfl⟩
    go_wp2_with fail
    go_ret
    exact ⟨rfl, rfl⟩
  · have HS := Lib.hid hs
    clear hs
    go_enter Try.func22, Try.ntmps22
    go_wp2_with fail
    refine (isSize_yes _ _ HS.out).mono ?_
    rintro e w' ⟨rfl, rfl⟩
    go_wp2_with fail
    refine (next_nil _ _).mono ?_
    rintro e w' ⟨rfl, rfl⟩
    go_wp2_with fail
    go_loop [5, 17] (fun x i => i = .int .i64 0 ∧ x = .int .u64 0) (fun _ _ => 0)
    case atStart => exact ⟨rfl, rfl⟩
    case round =>
      obtain ⟨rfl, rfl⟩ := hrel
      go_wp2_with fail
      go_ret
      exact ⟨rfl, rfl⟩

theorem rnum2_small (st : St) : (rnum 2 st).1.toNat ≤ 65535 := by
  have h : okSize 2 = true := rfl
  rw [rnum_next _ _ h]
  have hl : (rnext 2 st).1.length ≤ 2 := by
    cases st with
    | none => simp [rnext]
    | some r => by_cases hkr : 2 ≤ r.length <;> simp [rnext, hkr]
  have h2 := valN_lt _ (rnext 2 st).1 rfl
  have h3 : (256 : Nat) ^ (rnext 2 st).1.length ≤ 256 ^ 2 := Nat.pow_le_pow_right (by decide) hl
  have h4 := val_toNat _ (rnext 2 st).1 rfl (by omega)
  show (val (rnext 2 st).1).toNat ≤ 65535
  omega

set_option maxRecDepth 100000 in
set_option maxHeartbeats 400000 in
theorem rText (B d g : Nat) (st : St) (w : World) (hr : Rd w B d g st) :
    Calls Try.prog 78 #[.pointer (some ⟨g, 0, none⟩)] w fun e w' =>
      ∃ A c, e = .returned (.slice A (rtext st).1.length c) ∧ Own w' w.heap.size A (rtext st).1.length c (rtext st).1 ∧ After w B d g (rtext st).2 w' := by
  have HR := Lib.hid hr
  clear hr
  go_enter Try.func78, Try.ntmps78
  go_wp2_with fail
  refine (rNumber B d g 2 st _ HR.out).mono ?_
  rintro e w1 ⟨rfl, ha⟩
  have hs := rnum2_small st
  generalize hx : (rnum 2 st).1 = x at hs ⊢
  have HX := Lib.hid hx
  have HA := Lib.hid ha
  clear ha hx
  go_wp2_with fail
  refine (next B d g x.toNat _ _ HA.out.1 (by unfold maxLen; omega)).mono ?_
  rintro e w2 ⟨A, c, rfl, hb, ha⟩
  have f1 := HA.out.2
  have s1 := f1.size
  have s2 := ha.2.size
  have hl : (rnext x.toNat (rnum 2 st).2).1.length ≤ 65535 := by
    cases (rnum 2 st).2 with
    | none => simp [rnext]
    | some r => by_cases hkr : x.toNat ≤ r.length <;> simp [rnext, hkr] <;> omega
  have HB := Lib.hid hb
  have HA2 := Lib.hid ha
  have HF1 := Lib.hid f1
  clear hb ha f1
  generalize hy : (rnext x.toNat (rnum 2 st).2).1 = y at *
  have HY := Lib.hid hy
  clear hy
  go_wp2_with fail
  refine (clone _ A y.length c y _ HB.out.low (Nat.le_refl _) (by omega)).mono ?_
  rintro e w3 ⟨A3, c3, rfl, ho, hb3⟩
  have HO := Lib.hid ho
  clear ho
  go_wp2_with fail
  go_ret
  have e1 : (rtext st).1 = y := by rw [rtext, HX.out, HY.out]
  have e2 : (rtext st).2 = (rnext x.toNat (rnum 2 st).2).2 := by rw [rtext, HX.out]
  rw [e1, e2]
  have hf3 : Frm [d, g] w2 w3 := Frm.of_below hb3
  refine ⟨A3, c3, rfl, ?_, (HA2.out.1.frm (l := []) (Frm.of_below hb3) (by simp)), (HF1.out.trans HA2.out.2).trans hf3⟩
  exact HO.out.base (by omega)
set_option maxRecDepth 100000 in
set_option maxHeartbeats 400000 in
theorem read (B : Nat) (A : Option Addr) (n c : Nat) (bs : List (BitVec 8)) (w : World) (hbs : Bs w B A n bs) (hB : B ≤ w.heap.size) (hn : n ≤ 140737488355328) :
    Calls Try.prog 21 #[.slice A n c] w fun e w' => ∃ d g, e = .returned (.pointer (some ⟨g, 0, none⟩)) ∧ Rd w' w.heap.size d g (some bs) ∧ w'.heap.size = g + 1 ∧ Below w.heap.size w w' := by
  have HB := Lib.hid hbs
  clear hbs
  go_enter Try.func21, Try.ntmps21
  go_wp2_with fail
  refine (clone B A n c bs _ HB.out hB hn).mono ?_
  rintro e w1 ⟨A1, c1, rfl, ho, hb⟩
  have HO := Lib.hid ho
  have s1 := hb.size
  clear ho
  go_wp2_with fail
  go_ret
  refine ⟨w1.heap.size, w1.heap.size + 1, rfl, ⟨by omega, by omega, .inr ⟨bs, A1, n, c1, rfl, ?_, ?_, ?_, HO.out.room.1, HO.out.room.2⟩⟩, by simp, (hb.alloc s1 _).alloc (by simp; omega) _⟩
  · have h := Cel.new (w1.alloc (.cells #[.slice A1 n c1] 79)) 82 [takeOf w1.heap.size, atEndOf w1.heap.size]
    simpa using h
  · exact (Cel.new w1 79 [.slice A1 n c1]).alloc _
  · refine (HO.out.bp.mono (q := fun k => w.heap.size ≤ k ∧ k < w1.heap.size) fun k hk hl => ⟨hk, hl⟩).keep fun k hk hl => ?_
    rw [Below.heap_alloc _ _ _ (by simp; omega), Below.heap_alloc _ _ _ (by omega)]

theorem toStr {w : World} {p : Nat → Prop} {A : Option Addr} {n : Nat} {bs : List (BitVec 8)} (h : Bp w p A n bs) (c : Nat) : (convert 25 9 (.slice A n c)).run Try.prog w = .ok (.string (str bs)) w :=
  h.string c Try.underlying25 Try.underlying5 Try.underlying9
end Go.Proofs.Ythaebchmlicgaaa.Pack
