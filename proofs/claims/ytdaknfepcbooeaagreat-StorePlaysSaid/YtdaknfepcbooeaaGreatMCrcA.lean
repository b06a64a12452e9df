/-
  What the Go functions of layer 1 (crc), and of the document's own answer for it, come to: one contract a function.
-/
import Derived.Test.YtdaknfepcbooeaaGreatMBase
import Derived.Test.YtdaknfepcbooeaaGreatMPure
import Derived.Test.YtdaknfepcbooeaaGreatChecked
import Derived.WalkKit
import Derived.ProofKit
import Derived.Below
import Derived.Lib.Hide
import Derived.Lib.SlBytesConst
import Derived.Outline
import Derived.Laws.BitsAllLaws
import Derived.Laws.Shifts
import Derived.Laws.ShiftsVarLaws
namespace Go.Proofs.YtdaknfepcbooeaaGreat.Crc
open Go.RowKit
set_option linter.unusedVariables false

/-! Numbers of the walk as bit vectors. -/
theorem ret_num {k : IntKind} {a b : Int} (h : a = b) : Ending.returned (.int k a) = .returned (.int k b) := by rw [h]
theorem xor32 (a b : BitVec 32) : bits .xor .u32 (a.toNat : Int) (b.toNat : Int) = ((a ^^^ b).toNat : Int) := by
  rw [u32_xor_nat _ _ a.isLt b.isLt, BitVec.toNat_xor]
theorem and32 (a b : BitVec 32) : bits .and .u32 (a.toNat : Int) (b.toNat : Int) = ((a &&& b).toNat : Int) := by
  rw [u32_and_nat _ _ a.isLt b.isLt, BitVec.toNat_and]
theorem wide32 (x : BitVec 8) : (x.toNat : Int) = ((x.setWidth 32).toNat : Int) := by
  rw [BitVec.toNat_setWidth, Nat.mod_eq_of_lt (by have := x.isLt; omega)]
theorem half32 (r : BitVec 32) : (r.toNat : Int) / (2 : Int) = ((r >>> 1).toNat : Int) := by
  rw [BitVec.toNat_ushiftRight, Nat.shiftRight_eq_div_pow]; omega
theorem taps32 (r : BitVec 32) : (r.toNat : Int) * 3988292384 % 4294967296 = ((r * 3988292384#32).toNat : Int) := by
  rw [BitVec.toNat_mul]
  show _ = ((r.toNat * 3988292384 % 4294967296 : Nat) : Int)
  omega
theorem fbit_go (r : BitVec 32) (x : BitVec 8) : bits .xor .u32 ((r.toNat : Int) / 2) (bits .and .u32 (bits .xor .u32 (r.toNat : Int) (x.toNat : Int)) 1 * 3988292384 % 4294967296) = ((fbit r (x.getLsbD 0)).toNat : Int) := by
  rw [half32, wide32 x, xor32, show (1 : Int) = ((1#32).toNat : Int) from rfl, and32, taps32, xor32]
  congr 2
  unfold fbit step
  rw [BitVec.ushiftRight_xor_distrib]
  have h1 : (if x.getLsbD 0 = true then 1#32 else 0#32) >>> 1 = 0#32 := by split <;> decide
  rw [h1, BitVec.xor_zero]
  congr 1
  have h2 : (r ^^^ x.setWidth 32) &&& 1#32 = if (r.getLsbD 0 ^^ x.getLsbD 0) then 1#32 else 0#32 := by
    apply BitVec.eq_of_getLsbD_eq
    intro i hi
    cases i with
    | zero => cases hr : r.getLsbD 0 <;> cases hx : x.getLsbD 0 <;> simp_all
    | succ i => cases hr : r.getLsbD 0 <;> cases hx : x.getLsbD 0 <;> simp [BitVec.getLsbD_one]
  have h3 : (r ^^^ (if x.getLsbD 0 = true then 1#32 else 0#32)).getLsbD 0 = (r.getLsbD 0 ^^ x.getLsbD 0) := by
    cases hx : x.getLsbD 0 <;> simp
  rw [h2, h3]
  cases (r.getLsbD 0 ^^ x.getLsbD 0) <;> decide

/-- The bit of a byte that is fed first. -/
def lsb (x : BitVec 8) : Bool := x.getLsbD 0

set_option maxHeartbeats 400000 in
theorem feedBit (r : BitVec 32) (x : BitVec 8) (a : Addr) (w : World) (hc : w.cell? a = some (v32 r)) (hf : w.frozen? a = false) :
    Calls Tryz.prog 163 #[.pointer (some a), v8 x] w fun e w' => e = .returned (.tuple #[]) ∧ w' = w.setCell a (v32 (fbit r (lsb x))) := by
  go_enter Tryz.func163, Tryz.ntmps163
  go_wp2
  go_end0
  exact ⟨rfl, by rw [fbit_go]; rfl⟩

/-- The register at a holds r, and may be written. -/
def Reg (w : World) (a : Addr) (r : BitVec 32) : Prop := w.cell? a = some (v32 r) ∧ w.frozen? a = false
theorem Reg.set {w : World} {a : Addr} {r : BitVec 32} (h : Reg w a r) (s : BitVec 32) : Reg (w.setCell a (v32 s)) a s := by
  obtain ⟨hc, hf⟩ := h
  exact ⟨World.cell?_setCell_same w a _ hc, by simpa using hf⟩

theorem shr8 (x : BitVec 8) (k : Nat) : (x.toNat : Int) / 2 ^ k = ((x >>> k).toNat : Int) := by
  rw [BitVec.toNat_ushiftRight, Nat.shiftRight_eq_div_pow]; simp
theorem low8 (x : BitVec 8) (k : Nat) : lsb (x >>> k) = x.getLsbD k := by simp [lsb]

set_option maxHeartbeats 400000 in
theorem feedByte (r : BitVec 32) (x : BitVec 8) (a : Addr) (w : World) (h : Reg w a r) :
    Calls Tryz.prog 162 #[.pointer (some a), v8 x] w fun e w' => e = .returned (.tuple #[]) ∧ Reg w' a (fbyte r x) ∧ Below a.block w w' ∧ w'.heap.size = w.heap.size := by
  have H := Lib.hid h
  clear h
  go_enter Tryz.func162, Tryz.ntmps162
  go_wp2
  go_loopw [5] (fun i wr => ∃ k : Nat, k ≤ 8 ∧ i = .int .i64 k ∧ Reg wr a (fbits k r x) ∧ Below a.block w wr ∧ wr.heap.size = w.heap.size) (fun i _ => 8 - (intOf i).toNat)
  case atStart => exact ⟨0, Nat.zero_le _, rfl, H.out, Below.refl _ _, rfl⟩
  case round =>
    obtain ⟨k, hk, rfl, hr, hb, hs⟩ := hrel
    have HS := Lib.hid hs
    have HR := Lib.hid hr
    clear hs hr
    by_cases hlt : k < 8
    · go_wp2_with fail
      rw [shr8]
      refine (feedBit _ (x >>> k) a _ HR.out.1 HR.out.2).mono ?_
      rintro e w' ⟨rfl, rfl⟩
      go_wp2_with fail
      go_roundw
      case rel => exact ⟨k + 1, by omega, by go_num, by rw [low8]; exact HR.out.set _, hb.setCell (Nat.le_refl _) _, by simpa using HS.out⟩
      case measure => simp [intOf]; omega
    · go_wp2_with fail
      go_end0
      have : k = 8 := by omega
      subst this
      exact ⟨rfl, HR.out, hb, HS.out⟩

set_option maxHeartbeats 400000 in
theorem each (A : Option Addr) (n c : Nat) (bs : List (BitVec 8)) (r : BitVec 32) (a : Addr) (w : World) (hbs : Bs w a.block A n bs) (h : Reg w a r) (hn : n ≤ maxLen) :
    Calls Tryz.prog 161 #[.slice A n c, .func (.func 162) #[.pointer (some a)] #[]] w fun e w' => e = .returned (.tuple #[]) ∧ Reg w' a (ext r bs) ∧ Below a.block w w' ∧ w'.heap.size = w.heap.size := by
  unfold maxLen at hn
  have H := Lib.hid h
  have HB := Lib.hid hbs
  clear h hbs
  go_enter Tryz.func161, Tryz.ntmps161
  go_wp2
  go_loopw [8] (fun i wr => ∃ k : Nat, k ≤ n ∧ i = .int .i64 k ∧ Reg wr a (ext r (bs.take k)) ∧ Below a.block w wr ∧ wr.heap.size = w.heap.size) (fun i _ => n - (intOf i).toNat)
  case atStart => exact ⟨0, Nat.zero_le _, rfl, H.out, Below.refl _ _, rfl⟩
  case round =>
    obtain ⟨k, hk, rfl, hr, hb, hs⟩ := hrel
    have HS := Lib.hid hs
    have HR := Lib.hid hr
    clear hs hr
    by_cases hlt : k < n
    · obtain ⟨ad, rfl, _, hcell⟩ := (HB.out.below hb).at_ hlt
      go_wp2_with fail
      refine (feedByte _ (bs.getD k 0#8) a _ HR.out).mono ?_
      rintro e w' ⟨rfl, hr1, hb1, hs1⟩
      have HR1 := Lib.hid hr1
      have HS1 := Lib.hid hs1
      clear hr1 hs1
      go_wp2_with fail
      go_roundw
      case rel => exact ⟨k + 1, by omega, by go_num, by rw [take_snoc8 _ _ (by rw [HB.out.len]; exact hlt), ext_snoc]; exact HR1.out, hb.trans hb1, HS1.out.trans HS.out⟩
      case measure => simp [intOf]; omega
    · go_wp2_with fail
      go_end0
      have : k = n := by omega
      subst this
      have hr := HR.out
      rw [List.take_of_length_le (by rw [HB.out.len]; exact Nat.le_refl _)] at hr
      exact ⟨rfl, hr, hb, HS.out⟩

theorem reg_new (w : World) (T : TypeId) (r : BitVec 32) : Reg (w.alloc (.cells #[v32 r] T)) ⟨w.heap.size, 0, none⟩ r := by
  constructor
  · simp [go_sem]
  · simp [go_sem]

set_option maxHeartbeats 400000 in
theorem extend (r : BitVec 32) (B : Nat) (A : Option Addr) (n c : Nat) (bs : List (BitVec 8)) (w : World) (hbs : Bs w B A n bs) (hB : B ≤ w.heap.size) (hn : n ≤ maxLen) :
    Calls Tryz.prog 159 #[v32 r, .slice A n c] w fun e w' => e = .returned (v32 (ext r bs)) ∧ Below w.heap.size w w' := by
  have HB := Lib.hid hbs
  clear hbs
  go_enter Tryz.func159, Tryz.ntmps159
  go_wp2_with fail
  refine (each A n c bs r ⟨w.heap.size, 0, none⟩ _ ((HB.out.alloc hB _).more hB) (reg_new w _ r) hn).mono ?_
  rintro e w1 ⟨rfl, ⟨hc, _⟩, hb, _⟩
  go_wp2_with fail
  go_ret
  exact ⟨rfl, ((Below.refl _ _).alloc (Nat.le_refl _) _).trans hb⟩

theorem not32 (r : BitVec 32) : bits .xor .u32 IntKind.u32.max (r.toNat : Int) = ((~~~ r).toNat : Int) := by
  rw [show IntKind.u32.max = ((BitVec.allOnes 32).toNat : Int) from rfl, xor32, BitVec.allOnes_xor]
theorem less32 (r : BitVec 32) : (4294967295 : Int) - (r.toNat : Int) = ((~~~ r).toNat : Int) := by
  have := r.isLt
  rw [BitVec.toNat_not]; omega

set_option maxHeartbeats 400000 in
theorem sum_any (B : Nat) (A : Option Addr) (n c : Nat) (bs : List (BitVec 8)) (w : World) (hbs : Bs w B A n bs) (hB : B ≤ w.heap.size) (hn : n ≤ maxLen) :
    Calls Tryz.prog 147 #[.slice A n c] w fun e w' => e = .returned (v32 (sum bs)) ∧ Below w.heap.size w w' := by
  have HB := Lib.hid hbs
  clear hbs
  go_enter Tryz.func147, Tryz.ntmps147
  go_wp2_with fail
  refine (extend 0xFFFFFFFF#32 B A n c bs _ HB.out hB hn).mono ?_
  rintro e w1 ⟨rfl, hb⟩
  go_wp2_with fail
  go_ret
  exact ⟨ret_num (not32 _), hb⟩

theorem xor_bit (R : BitVec 32) (X : BitVec 8) : (bits .xor .u32 (R.toNat : Int) (X.toNat : Int)).tmod 2 = if (R.getLsbD 0 ^^ lsb X) then 1 else 0 := by
  rw [wide32 X, xor32]
  have h : (R ^^^ X.setWidth 32).getLsbD 0 = (R.getLsbD 0 ^^ lsb X) := by simp [lsb]
  rw [← h]
  generalize R ^^^ X.setWidth 32 = y
  rw [Int.tmod_eq_emod_of_nonneg (by omega)]
  have hy : y.getLsbD 0 = decide (y.toNat % 2 = 1) := by
    rw [BitVec.getLsbD, Nat.testBit_zero]
  rw [hy]
  by_cases h1 : y.toNat % 2 = 1
  · simp [h1]; omega
  · simp [h1]; omega
theorem bit_yes (R : BitVec 32) (X : BitVec 8) (h : (R.getLsbD 0 ^^ lsb X) = true) : bits .xor .u32 ((R.toNat : Int) / (2 : Int)) 3988292384 = ((fbit R (lsb X)).toNat : Int) := by
  rw [half32, show (3988292384 : Int) = ((3988292384#32).toNat : Int) from rfl, xor32]
  congr 2
  unfold fbit step
  have h3 : (R ^^^ (if lsb X = true then 1#32 else 0#32)).getLsbD 0 = (R.getLsbD 0 ^^ lsb X) := by cases hx : lsb X <;> simp
  have h1 : (if lsb X = true then 1#32 else 0#32) >>> 1 = 0#32 := by split <;> decide
  rw [h3, h, BitVec.ushiftRight_xor_distrib, h1, BitVec.xor_zero]
  rfl
theorem bit_no (R : BitVec 32) (X : BitVec 8) (h : (R.getLsbD 0 ^^ lsb X) = false) : (R.toNat : Int) / (2 : Int) = ((fbit R (lsb X)).toNat : Int) := by
  rw [half32]
  congr 2
  unfold fbit step
  have h3 : (R ^^^ (if lsb X = true then 1#32 else 0#32)).getLsbD 0 = (R.getLsbD 0 ^^ lsb X) := by cases hx : lsb X <;> simp
  have h1 : (if lsb X = true then 1#32 else 0#32) >>> 1 = 0#32 := by split <;> decide
  rw [h3, h, BitVec.ushiftRight_xor_distrib, h1, BitVec.xor_zero]
  simp
theorem half8 (X : BitVec 8) (m : Nat) : ((X >>> m).toNat : Int) / (2 : Int) = ((X >>> (m + 1)).toNat : Int) := by
  rw [BitVec.toNat_ushiftRight, BitVec.toNat_ushiftRight, Nat.shiftRight_succ]; omega

set_option maxRecDepth 100000 in
set_option maxHeartbeats 1000000 in
theorem refExtend (r : BitVec 32) (B : Nat) (A : Option Addr) (n c : Nat) (bs : List (BitVec 8)) (w : World) (hbs : Bs w B A n bs) (hn : n ≤ maxLen) :
    Calls Tryz.prog 115 #[v32 r, .slice A n c] w fun e w' => e = .returned (v32 (ext r bs)) ∧ w = w' := by
  unfold maxLen at hn
  have HB := Lib.hid hbs
  clear hbs
  go_enter Tryz.func115, Tryz.ntmps115
  go_wp2_with fail
  go_loop [0, 5] (fun rr i => ∃ k : Nat, k ≤ n ∧ i = .int .i64 k ∧ rr = v32 (ext r (bs.take k))) (fun _ i => n - (intOf i).toNat)
  case atStart => exact ⟨0, Nat.zero_le _, rfl, rfl⟩
  case round =>
    obtain ⟨k, hk, rfl, rfl⟩ := hrel
    by_cases hlt : k < n
    · obtain ⟨ad, rfl, _, hcell⟩ := HB.out.at_ hlt
      generalize hR0 : ext r (bs.take k) = R0
      have HR0 := Lib.hid hR0
      clear hR0
      generalize hX0 : bs.getD k 0#8 = X0 at hcell
      have HX0 := Lib.hid hX0
      clear hX0
      go_wp2_with fail
      go_loop [0, 6, 7] (fun rr xx j => ∃ m : Nat, m ≤ 8 ∧ j = .int .i64 m ∧ rr = v32 (fbits m R0 X0) ∧ xx = v8 (X0 >>> m)) (fun _ _ j => 8 - (intOf j).toNat)
      case atStart => exact ⟨0, Nat.zero_le _, rfl, rfl, rfl⟩
      case round =>
        obtain ⟨m, hm, rfl, rfl, rfl⟩ := hrel
        by_cases hlt8 : m < 8
        · generalize hX : X0 >>> m = X
          have HX := Lib.hid hX
          clear hX
          generalize hR : fbits m R0 X0 = R
          have HR := Lib.hid hR
          clear hR
          have hx1 : (X.toNat : Int) < 256 := by have := X.isLt; omega
          have hstep : fbits (m + 1) R0 X0 = fbit R (lsb X) := by rw [← HR.out, ← HX.out, low8]; rfl
          have HST := Lib.hid hstep
          clear hstep
          have hhalf : (X.toNat : Int) / (2 : Int) = ((X0 >>> (m + 1)).toNat : Int) := by rw [← HX.out]; exact half8 _ _
          have HH := Lib.hid hhalf
          clear hhalf
          cases hb : (R.getLsbD 0 ^^ lsb X)
          · have ht : ((bits .xor .u32 (R.toNat : Int) (X.toNat : Int)).tmod 2 == 1) = false := by rw [xor_bit, hb]; rfl
            have HB0 := Lib.hid hb
            clear hb
            go_wp2_with fail
            go_round
            case rel => exact ⟨m + 1, by omega, by go_num, by rw [HST.out]; exact congrArg (Value.int .u32) (bit_no _ _ HB0.out), congrArg (Value.int .u8) HH.out⟩
            case measure => simp [intOf]; omega
          · have ht : ((bits .xor .u32 (R.toNat : Int) (X.toNat : Int)).tmod 2 == 1) = true := by rw [xor_bit, hb]; rfl
            have HB0 := Lib.hid hb
            clear hb
            go_wp2_with fail
            go_round
            case rel => exact ⟨m + 1, by omega, by go_num, by rw [HST.out]; exact congrArg (Value.int .u32) (bit_yes _ _ HB0.out), congrArg (Value.int .u8) HH.out⟩
            case measure => simp [intOf]; omega
        · have h8 : m = 8 := by omega
          subst h8
          go_wp2_with fail
          go_round
          case rel => exact ⟨k + 1, by omega, by go_num, by rw [take_snoc8 _ _ (by rw [HB.out.len]; exact hlt), ext_snoc, HR0.out, HX0.out]; rfl⟩
          case measure => simp [intOf]; omega
    · go_wp2_with fail
      go_ret
      have : k = n := by omega
      subst this
      rw [List.take_of_length_le (by rw [HB.out.len]; exact Nat.le_refl _)]
      exact ⟨rfl, rfl⟩

set_option maxHeartbeats 400000 in
theorem refSum (B : Nat) (A : Option Addr) (n c : Nat) (bs : List (BitVec 8)) (w : World) (hbs : Bs w B A n bs) (hn : n ≤ maxLen) :
    Calls Tryz.prog 96 #[.slice A n c] w fun e w' => e = .returned (v32 (sum bs)) ∧ w = w' := by
  have HB := Lib.hid hbs
  clear hbs
  have hlt := (ext 0xFFFFFFFF#32 bs).isLt
  go_enter Tryz.func96, Tryz.ntmps96
  go_wp2_with fail
  refine (refExtend 0xFFFFFFFF#32 B A n c bs _ HB.out hn).mono ?_
  rintro e w1 ⟨rfl, rfl⟩
  go_wp2_with fail
  go_ret
  exact ⟨ret_num (less32 _), rfl⟩

end Go.Proofs.YtdaknfepcbooeaaGreat.Crc
