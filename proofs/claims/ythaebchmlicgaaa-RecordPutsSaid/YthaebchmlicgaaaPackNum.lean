/-
  What the Go functions of layer 2 (pack) that write, and the document's own, come to: one contract a function.
-/
import Derived.Test.YthaebchmlicgaaaChecked
import Derived.Test.YthaebchmlicgaaaPackPure
import Derived.Test.YthaebchmlicgaaaAppend
import Derived.Test.YthaebchmlicgaaaMem
import Derived.WalkKit
import Derived.ProofKit
import Derived.Below
import Derived.Lib.Hide
import Derived.Lib.SlBytesConst
import Derived.Outline
import Derived.Laws.BitsAllLaws
import Derived.Laws.Shifts
import Derived.Laws.ShiftsVarLaws
namespace Go.Proofs.Ythaebchmlicgaaa.Pack
open Go.RowKit
set_option linter.unusedVariables false

abbrev v64 (x : BitVec 64) : Value := .int .u64 (x.toNat : Int)
theorem bytesT : ByteRow Try.prog 25 5 := ByteRow.mk' Try.underlying25 (by kernel_rfl)

/-- Bytes that the call made: it owns their row, from block B on. -/
def Own (w : World) (B : Nat) (A : Option Addr) (n c : Nat) (bs : List (BitVec 8)) : Prop := w.ownsRow B 5 1 (.slice A n c) n (bs.map v8)

set_option maxRecDepth 100000 in
theorem isSize_yes (size : Int) (w : World) (h : okSize size = true) : Calls Try.prog 30 #[.int .i64 size] w fun e w' => e = .returned (.bool true) ∧ w = w' := by
  have h1 : decide (1 ≤ size) = true := by simp [okSize] at h ⊢; omega
  have h2 : decide (size ≤ 8) = true := by simp [okSize] at h ⊢; omega
  clear h
  go_enter Try.func30, Try.ntmps30
  go_wp2
  go_ret
  exact ⟨rfl, rfl⟩
set_option maxRecDepth 100000 in
theorem isSize_no (size : Int) (w : World) (h : okSize size = false) : Calls Try.prog 30 #[.int .i64 size] w fun e w' => e = .returned (.bool false) ∧ w = w' := by
  by_cases h1 : 1 ≤ size
  · have g1 : decide (1 ≤ size) = true := by simp; omega
    have g2 : decide (size ≤ 8) = false := by simp [okSize, g1] at h ⊢; omega
    clear h h1
    go_enter Try.func30, Try.ntmps30
    go_wp2
    go_ret
    exact ⟨rfl, rfl⟩
  · have g1 : decide (1 ≤ size) = false := by simp; omega
    clear h h1
    go_enter Try.func30, Try.ntmps30
    go_wp2
    go_ret
    exact ⟨rfl, rfl⟩

theorem set_mid (m : Nat) (x z : Value) (t : List Value) : (List.replicate (m + 1) z ++ t).set m x = List.replicate m z ++ x :: t := by
  rw [List.replicate_succ', List.append_assoc, List.set_append_right _ _ (by simp)]
  simp
theorem byte_of (n : BitVec 64) : (n.toNat : Int) % (256 : Int) = ((n.setWidth 8).toNat : Int) := by
  rw [BitVec.toNat_setWidth]; omega
theorem shr64 (n : BitVec 64) (j : Nat) : ((n >>> (8 * j)).toNat : Int) / (256 : Int) = ((n >>> (8 * (j + 1))).toNat : Int) := by
  rw [Nat.mul_add, BitVec.shiftRight_add, BitVec.toNat_ushiftRight (n >>> (8 * j)), Nat.shiftRight_eq_div_pow]
  rfl

/-- The row while it is written: j bytes from the end. -/
def part (k j : Nat) (n : BitVec 64) : List Value := List.replicate (k - j) (v8 0#8) ++ ((num k n).drop (k - j)).map v8

theorem part_zero (k : Nat) (n : BitVec 64) : part k 0 n = List.replicate k (v8 0#8) := by
  rw [part, Nat.sub_zero, List.drop_eq_nil_of_le (by rw [num_length]; exact Nat.le_refl _)]
  simp
theorem part_all (k : Nat) (n : BitVec 64) : part k k n = (num k n).map v8 := by simp [part]
theorem part_step (k j : Nat) (n : BitVec 64) (h : j < k) : (part k j n).set (k - 1 - j) (v8 ((n >>> (8 * j)).setWidth 8)) = part k (j + 1) n := by
  obtain ⟨m, rfl⟩ : ∃ m, k = m + 1 + j := ⟨k - 1 - j, by omega⟩
  have e1 : m + 1 + j - j = m + 1 := by omega
  have e2 : m + 1 + j - 1 - j = m := by omega
  have e3 : m + 1 + j - (j + 1) = m := by omega
  rw [part, part, e1, e2, e3, set_mid, num_drop _ n m (by omega), List.map_cons]
  have e4 : m + 1 + j - 1 - m = j := by omega
  rw [e4]

set_option maxRecDepth 100000 in
set_option maxHeartbeats 400000 in
theorem number (n : BitVec 64) (k : Nat) (hk : 1 ≤ k) (hk8 : k ≤ 8) (w : World) :
    Calls Try.prog 15 #[v64 n, .int .i64 (k : Int)] w fun e w' => ∃ A c, e = .returned (.slice A k c) ∧ Own w' w.heap.size A k c (num k n) ∧ Below w.heap.size w w' := by
  have hmk := fun w : World => run_make_bytes (P := Try.prog) w 25 5 bytesT .i64 .i64 k (by omega)
  go_enter Try.func15, Try.ntmps15
  go_wp2_with fail
  refine (isSize_yes _ _ (by simp [okSize]; omega)).mono ?_
  rintro e w' ⟨rfl, rfl⟩
  go_wp2_with fail
  go_loopw [0, 6] (fun x i wr => ∃ j : Nat, j ≤ k ∧ i = .int .i64 ((k : Int) - 1 - j) ∧ x = v64 (n >>> (8 * j)) ∧ Cel wr w.heap.size 5 (part k j n) ∧ Below w.heap.size w wr) (fun _ i _ => (intOf i + 1).toNat)
  case atStart => exact ⟨0, Nat.zero_le _, by simp, by simp, by rw [part_zero]; have h := Cel.new w 5 (List.replicate k (v8 0#8)); simp only [List.toArray_replicate] at h; exact h, (Below.refl _ _).alloc (Nat.le_refl _) _⟩
  case round =>
    obtain ⟨j, hj, rfl, rfl, hc, hb⟩ := hrel
    by_cases hlt : j < k
    · have hcell : wr.cell? ⟨w.heap.size, k - 1 - j, none⟩ = some (v8 0#8) := by
        rw [hc.cell, part, List.getElem?_append_left (by simp; omega), List.getElem?_replicate, if_pos (by omega)]
      have hfree := hc.free (k - 1 - j)
      have hnat : ((k : Int) - 1 - j).toNat = k - 1 - j := by omega
      have h0 : (0 : Int) ≤ (k : Int) - 1 - j := by omega
      have h1 : ((k : Int) - 1 - j) < k := by omega
      have HC := Lib.hid hc
      clear hc
      have hs8 := shr64 n j
      generalize hX : n >>> (8 * j) = X at hs8 ⊢
      have HX := Lib.hid hX
      have HS8 := Lib.hid hs8
      clear hX hs8
      go_wp2_with fail
      go_roundw
      case rel =>
        refine ⟨j + 1, by omega, by go_num, ?_, ?_, hb.setCell (Nat.le_refl _) _⟩
        · rw [HS8.out]
        · rw [byte_of, ← HX.out, ← part_step k j n hlt]; exact HC.out.set _ _
      case measure => simp [intOf]; omega
    · go_wp2_with fail
      go_ret
      have : j = k := by omega
      subst this
      rw [part_all] at hc
      refine ⟨_, _, rfl, ⟨by simp [num_length], .inr ⟨_, _, _, rfl, Nat.le_refl _, hc, Nat.le_refl _, by unfold maxLen; omega, by simp [num_length], ?_⟩⟩, hb⟩
      simp
      rw [List.take_of_length_le (by simp [num_length])]

set_option maxRecDepth 100000 in
theorem number_bad (n : BitVec 64) (size : Int) (h : okSize size = false) (w : World) :
    Calls Try.prog 15 #[v64 n, .int .i64 size] w fun e w' => e = .returned (.slice none 0 0) ∧ w = w' := by
  have H := Lib.hid h
  clear h
  go_enter Try.func15, Try.ntmps15
  go_wp2_with fail
  refine (isSize_no _ _ H.out).mono ?_
  rintro e w' ⟨rfl, rfl⟩
  go_wp2_with fail
  go_ret
  exact ⟨rfl, rfl⟩

theorem div64 (n : BitVec 64) : (n.toNat : Int) / (256 : Int) = ((n >>> 8).toNat : Int) := by
  rw [BitVec.toNat_ushiftRight, Nat.shiftRight_eq_div_pow]; rfl
theorem Own.of_nil (w : World) (B : Nat) : Own w B none 0 0 [] := World.ownsRow_nil w B _ _

set_option maxRecDepth 100000 in
set_option maxHeartbeats 400000 in
theorem refNumber (k : Nat) : ∀ (n : BitVec 64) (hk8 : k ≤ 8) (w : World),
    Calls Try.prog 24 #[v64 n, .int .i64 (k : Int)] w fun e w' => ∃ A c, e = .returned (.slice A k c) ∧ Own w' w.heap.size A k c (num k n) ∧ Below w.heap.size w w' := by
  induction k with
  | zero =>
    intro n _ w
    go_enter Try.func24, Try.ntmps24
    go_wp2_with fail
    go_ret
    exact ⟨_, _, rfl, Own.of_nil _ _, Below.refl _ _⟩
  | succ k ih =>
    intro n hk8 w
    have IH := Lib.hid (ih (n >>> 8) (by omega) w)
    clear ih
    have h0 : (((k + 1 : Nat) : Int) == 0) = false := by simp; omega
    have h1 : ((k + 1 : Nat) : Int) - 1 = (k : Int) := by omega
    go_enter Try.func24, Try.ntmps24
    go_wp2_with fail
    rw [div64]
    refine IH.out.mono ?_
    rintro e w1 ⟨A, c, rfl, ho, hb⟩
    have HO := Lib.hid ho
    clear ho
    go_wp2_with ((at_builtin; refine wpList_append_bs _ rfl _ _ 25 rfl w.heap.size 5 bytesT (.slice A k c) k (num k (n >>> 8)) rfl (HO.out.alloc _) (w1.heap.size + 1) _ 1 1 [n.setWidth 8] rfl (Bs.lit w1 _ _ _ _ (by exact congrArg (fun x => [Value.int .u8 x]) (byte_of n)) 1 rfl) (k + 1) (num (k + 1) n) rfl rfl (by omega) (by have := hb.size; simp; omega) ?_; intro A3 c3 w3 o3 g3 _))
    go_ret
    exact ⟨A3, c3, rfl, o3, (hb.alloc hb.size _).grown g3 (by have := hb.size; simp; omega) (fun g hg => (HO.out.lt g hg).1)⟩

set_option maxRecDepth 100000 in
theorem number_at (n : BitVec 64) (k : Nat) (hk : 1 ≤ k) (hk8 : k ≤ 8) (z s : Int) (hz : z = (n.toNat : Int)) (hs : s = (k : Int)) (w : World) :
    Calls Try.prog 15 #[.int .u64 z, .int .i64 s] w fun e w' => ∃ A c, e = .returned (.slice A k c) ∧ Own w' w.heap.size A k c (num k n) ∧ Below w.heap.size w w' := by
  subst hz hs; exact number n k hk hk8 w
set_option maxRecDepth 100000 in
theorem refNumber_at (n : BitVec 64) (k : Nat) (hk8 : k ≤ 8) (z s : Int) (hz : z = (n.toNat : Int)) (hs : s = (k : Int)) (w : World) :
    Calls Try.prog 24 #[.int .u64 z, .int .i64 s] w fun e w' => ∃ A c, e = .returned (.slice A k c) ∧ Own w' w.heap.size A k c (num k n) ∧ Below w.heap.size w w' := by
  subst hz hs; exact refNumber k n hk8 w

theorem len64 (n : Nat) (h : n ≤ 140737488355328) : ((BitVec.ofNat 64 n).toNat : Int) = (n : Int) := by
  rw [BitVec.toNat_ofNat, Nat.mod_eq_of_lt (by omega)]

set_option maxRecDepth 100000 in
set_option maxHeartbeats 400000 in
theorem textOk (B : Nat) (A : Option Addr) (n c : Nat) (bs : List (BitVec 8)) (w : World) (hbs : Bs w B A n bs) (hB : B ≤ w.heap.size) (hn : n ≤ 65535) :
    Calls Try.prog 71 #[.slice A n c] w fun e w' => ∃ A' c', e = .returned (.tuple #[.slice A' (2 + n) c', .int .i64 0]) ∧ Own w' w.heap.size A' (2 + n) c' (text bs) ∧ Below w.heap.size w w' := by
  have hd : decide ((65535 : Int) < (n : Int)) = false := by simp; omega
  have HB := Lib.hid hbs
  clear hbs
  go_enter Try.func71, Try.ntmps71
  go_wp2_with fail
  refine (number_at (BitVec.ofNat 64 n) 2 (by decide) (by decide) _ _ (len64 n (by omega)).symm rfl _).mono ?_
  rintro e w1 ⟨A1, c1, rfl, ho, hb⟩
  have HO := Lib.hid ho
  clear ho
  go_wp2_with ((at_builtin; refine wpList_append_bs _ rfl _ _ 25 rfl w.heap.size 5 bytesT (.slice A1 2 c1) 2 (num 2 (BitVec.ofNat 64 n)) rfl HO.out B A n c bs rfl (HB.out.below (hb.mono hB)) (2 + n) (text bs) rfl (by rw [text, HB.out.len]) (by omega) hb.size ?_; intro A3 c3 w3 o3 g3 _))
  go_ret2
  exact ⟨A3, c3, rfl, o3, hb.grown g3 hb.size (fun g hg => (HO.out.lt g hg).1)⟩

set_option maxRecDepth 100000 in
set_option maxHeartbeats 400000 in
theorem textFull (A : Option Addr) (n c : Nat) (w : World) (hn : 65535 < n) (hm : n ≤ maxLen) :
    Calls Try.prog 71 #[.slice A n c] w fun e w' => e = .returned (.tuple #[.slice none 0 0, .int .i64 3]) ∧ w = w' := by
  have hd : decide ((65535 : Int) < (n : Int)) = true := by simp; omega
  clear hm
  go_enter Try.func71, Try.ntmps71
  go_wp2_with fail
  go_ret2
  exact ⟨rfl, rfl⟩

set_option maxRecDepth 100000 in
set_option maxHeartbeats 400000 in
theorem refText (B : Nat) (A : Option Addr) (n c : Nat) (bs : List (BitVec 8)) (w : World) (hbs : Bs w B A n bs) (hB : B ≤ w.heap.size) (hn : n ≤ 65535) :
    Calls Try.prog 25 #[.slice A n c] w fun e w' => ∃ A' c', e = .returned (.slice A' (2 + n) c') ∧ Own w' w.heap.size A' (2 + n) c' (text bs) ∧ Below w.heap.size w w' := by
  have HB := Lib.hid hbs
  clear hbs
  go_enter Try.func25, Try.ntmps25
  go_wp2_with fail
  refine (refNumber_at (BitVec.ofNat 64 n) 2 (by decide) _ _ (len64 n (by omega)).symm rfl _).mono ?_
  rintro e w1 ⟨A1, c1, rfl, ho, hb⟩
  have HO := Lib.hid ho
  clear ho
  go_wp2_with ((at_builtin; refine wpList_append_bs _ rfl _ _ 25 rfl w.heap.size 5 bytesT (.slice A1 2 c1) 2 (num 2 (BitVec.ofNat 64 n)) rfl HO.out B A n c bs rfl (HB.out.below (hb.mono hB)) (2 + n) (text bs) rfl (by rw [text, HB.out.len]) (by omega) hb.size ?_; intro A3 c3 w3 o3 g3 _))
  go_ret
  exact ⟨A3, c3, rfl, o3, hb.grown g3 hb.size (fun g hg => (HO.out.lt g hg).1)⟩
end Go.Proofs.Ythaebchmlicgaaa.Pack
