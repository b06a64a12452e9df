/-
  What the document's own answers for layer 3 (sector) come to: May, Same, Put; and the law's As.
-/
import Derived.Test.YtdaknfepcbooeaaGreatMSectorGet
import Derived.Test.YtdaknfepcbooeaaGreatMPackRef
namespace Go.Proofs.YtdaknfepcbooeaaGreat.Sector
open Go.RowKit Go.Proofs.YtdaknfepcbooeaaGreat.Pack
set_option linter.unusedVariables false
set_option linter.unusedSimpArgs false

theorem load_ref {w : World} {g : Nat} {x0 x1 x2 x3 : Value} (h : Cel w g 100 [x0, x1, x2, x3]) : (loadVar 100 ⟨g, 0, none⟩).run Tryz.prog w = .ok (.agg #[x0, x1, x2, x3]) w :=
  run_loadVar_mid (P := Tryz.prog) w g 0 100 [x0, x1, x2, x3] _ (Cel.range h) Tryz.underlying100 rfl (by kernel_rfl)

/-! The document's Put. -/
theorem num1 (x : BitVec 64) : num 1 x = [x.setWidth 8] := rfl
theorem le4_at (x : BitVec 32) (k : Nat) (hk : k < 4) : (le4 x).take (k + 1) = (le4 x).take k ++ [(x >>> (8 * k)).setWidth 8] := by
  rw [take_snoc8 _ _ (by rw [le4_length]; exact hk)]
  congr 2
  have hl := num_length 4 (x.setWidth 64)
  rw [le4, List.getD_eq_getElem?_getD, List.getElem?_reverse (by omega), ← List.getD_eq_getElem?_getD, num_byte 4 _ _ (by omega)]
  apply BitVec.eq_of_getLsbD_eq
  intro i hi
  rw [BitVec.getLsbD_setWidth, BitVec.getLsbD_setWidth, BitVec.getLsbD_ushiftRight, BitVec.getLsbD_ushiftRight, BitVec.getLsbD_setWidth, hl]
  have e : 4 - 1 - (4 - 1 - k) = k := by omega
  rw [e]
  have h64 : 8 * k + i < 64 := by omega
  simp [h64]
theorem byte32 (x : BitVec 32) : (x.toNat : Int) % 256 % 256 = ((x.setWidth 8).toNat : Int) := by
  rw [BitVec.toNat_setWidth]; omega
theorem byte32' (x : BitVec 32) : (x.toNat : Int) % 256 = ((x.setWidth 8).toNat : Int) := by
  rw [BitVec.toNat_setWidth]; omega
theorem shr32 (x : BitVec 32) (k : Nat) : ((x >>> (8 * k)).toNat : Int) / (256 : Int) = ((x >>> (8 * (k + 1))).toNat : Int) := by
  rw [Nat.mul_add, BitVec.shiftRight_add, BitVec.toNat_ushiftRight (x >>> (8 * k)), Nat.shiftRight_eq_div_pow]
  rfl
theorem flag8 {f : Int} (h0 : 0 ≤ f) (h3 : f ≤ 3) : f = (((BitVec.ofInt 64 f).setWidth 8).toNat : Int) := by
  rw [BitVec.toNat_setWidth]
  have := flags_toNat h0 h3
  omega

/-- How many bytes are left up to 508. -/
def left508 : Value → Nat
  | .slice _ m _ => 508 - m
  | _ => 0

set_option maxRecDepth 100000 in
set_option maxHeartbeats 1000000 in
theorem refPut (p : Pt) (B : Nat) (A : Option Addr) (n c : Nat) (w : World) (hbs : Bs w B A n p.body) (hB : B ≤ w.heap.size) (hm : p.may = true) :
    Calls Tryz.prog 78 #[partV p.epoch p.seq p.flags A n c] w fun r w' => ∃ A' c', r = .returned (.slice A' 512 c') ∧ Own w' w.heap.size A' 512 c' (sec p) ∧ Below w.heap.size w w' := by
  have hn : n ≤ 493 := by have := may_body hm; rw [hbs.len] at this; exact this
  obtain ⟨hf0, hf3⟩ := may_flags hm
  have hfl : (fields p).length = 15 + n := by rw [fields_length, hbs.len]
  have HFL := Lib.hid hfl
  have HB := Lib.hid hbs
  have HM := Lib.hid hm
  clear hbs hm hfl
  have ho0 : ((w.alloc (.cells #[v32 p.epoch, v32 p.seq, .int .i64 p.flags, .slice A n c] 100)).alloc (.cells #[.int .u8 68, .int .u8 86, .int .u8 84, .int .u8 49] 5)).ownsRow (w.heap.size + 1) 5 1 (.slice (some ⟨w.heap.size + 1, 0, none⟩) 4 4) 4 (mark.map v8) := by
    have := World.ownsRow_lit (base := w.heap.size + 1) (e := 5) (size := 1) (w.alloc (.cells #[v32 p.epoch, v32 p.seq, .int .i64 p.flags, .slice A n c] 100)) #[.int .u8 68, .int .u8 86, .int .u8 84, .int .u8 49] 4 (by simp) (by decide) rfl
    simp only [World.size_alloc] at this
    exact this
  have hc0 : Cel ((w.alloc (.cells #[v32 p.epoch, v32 p.seq, .int .i64 p.flags, .slice A n c] 100)).alloc (.cells #[.int .u8 68, .int .u8 86, .int .u8 84, .int .u8 49] 5)) w.heap.size 100 [v32 p.epoch, v32 p.seq, .int .i64 p.flags, .slice A n c] := (Cel.new w _ _).alloc _
  have hb0 : Below w.heap.size w ((w.alloc (.cells #[v32 p.epoch, v32 p.seq, .int .i64 p.flags, .slice A n c] 100)).alloc (.cells #[.int .u8 68, .int .u8 86, .int .u8 84, .int .u8 49] 5)) := ((Below.refl _ _).alloc (Nat.le_refl _) _).alloc (by simp) _
  have O0 := Lib.hid ho0
  have HC0 := Lib.hid hc0
  have HB0 := Lib.hid hb0
  clear ho0 hc0 hb0
  go_enter Tryz.func78, Tryz.ntmps78
  go_wp2_with fail
  generalize (w.alloc (.cells #[v32 p.epoch, v32 p.seq, .int .i64 p.flags, .slice A n c] 100)).alloc (.cells #[.int .u8 68, .int .u8 86, .int .u8 84, .int .u8 49] 5) = W at *
  have sW := HB0.out.size
  have hcl := HC0.out.lt
  refine (refNumber_at (p.epoch.setWidth 64) 4 (by decide) _ _ (wide p.epoch) rfl _).mono ?_
  rintro r w1 ⟨A1, c1, rfl, ho1, hb1⟩
  have O1 := Lib.hid (Own.low ho1)
  have P0 := Lib.hid (own_up O0.out hb1)
  have X1 := Lib.hid (hb1.mono (Nat.succ_le_of_lt hcl))
  have s1 := hb1.size
  clear ho1 hb1 O0
  go_wp2_with ((at_builtin; refine wpList_append_bs _ rfl _ _ 44 rfl (w.heap.size + 1) 5 bytesT (.slice (some ⟨w.heap.size + 1, 0, none⟩) 4 4) 4 mark rfl P0.out w1.heap.size A1 4 c1 (num 4 (p.epoch.setWidth 64)) rfl O1.out 8 (mark ++ num 4 (p.epoch.setWidth 64)) rfl rfl (by decide) (by omega) ?_; intro A2 c2 w2 o2 g2 _; have X2 := Lib.hid (X1.out.grown g2 (by omega) (fun g hg => (P0.out.lt g hg).1)); have O2 := Lib.hid o2; have k1 := (HC0.out.below X2.out (Nat.lt_succ_self _)).cell 1; clear o2 g2))
  have s2 := X2.out.size
  refine (refNumber_at (p.seq.setWidth 64) 4 (by decide) _ _ (wide p.seq) rfl _).mono ?_
  rintro r w3 ⟨A3, c3, rfl, ho3, hb3⟩
  have O3 := Lib.hid (Own.low ho3)
  have P2 := Lib.hid (own_up O2.out hb3)
  have X3 := Lib.hid (X2.out.trans (hb3.mono (by omega)))
  have s3 := hb3.size
  clear ho3 hb3 O2 k1
  go_wp2_with (first
    | (at_builtin; refine wpList_append_bs _ rfl _ _ 44 rfl (w.heap.size + 1) 5 bytesT (.slice A2 8 c2) 8 (mark ++ num 4 (p.epoch.setWidth 64)) rfl P2.out w3.heap.size A3 4 c3 (num 4 (p.seq.setWidth 64)) rfl O3.out 12 (mark ++ num 4 (p.epoch.setWidth 64) ++ num 4 (p.seq.setWidth 64)) rfl rfl (by decide) (by omega) ?_; intro A4 c4 w4 o4 g4 _; have X4 := Lib.hid (X3.out.grown g4 (by omega) (fun g hg => (P2.out.lt g hg).1)); have O4 := Lib.hid o4; have k2 := (HC0.out.below X4.out (Nat.lt_succ_self _)).cell 2; clear o4 g4)
    | (at_builtin; refine wpList_append_bs _ rfl _ _ 44 rfl (w.heap.size + 1) 5 bytesT (.slice A4 12 c4) 12 (mark ++ num 4 (p.epoch.setWidth 64) ++ num 4 (p.seq.setWidth 64)) rfl (O4.out.alloc _) (w4.heap.size + 1) _ 1 1 (num 1 (BitVec.ofInt 64 p.flags)) rfl (Bs.lit w4 _ _ _ _ (congrArg (fun x => [Value.int .u8 x]) (flag8 hf0 hf3)) 1 rfl) 13 (mark ++ num 4 (p.epoch.setWidth 64) ++ num 4 (p.seq.setWidth 64) ++ num 1 (BitVec.ofInt 64 p.flags)) rfl rfl (by decide) (Nat.le_trans (Nat.succ_le_of_lt hcl) (Nat.le_trans X4.out.size (by simp))) ?_; intro A5 c5 w5 o5 g5 _; have X5 := Lib.hid ((X4.out.alloc (Nat.le_trans (Nat.succ_le_of_lt hcl) X4.out.size) _).grown g5 (Nat.le_trans (Nat.succ_le_of_lt hcl) (Nat.le_trans X4.out.size (by simp))) (fun g hg => (O4.out.lt g hg).1)); have O5 := Lib.hid o5; have k3 := (HC0.out.below X5.out (Nat.lt_succ_self _)).cell 3; clear o5 g5))
  have s5 := X5.out.size
  have hbw := Lib.hid (HB0.out.trans (X5.out.mono (Nat.le_succ _)))
  refine (refText B A n c p.body _ (HB.out.below (hbw.out.mono hB)) (Nat.le_trans hB hbw.out.size) (by omega)).mono ?_
  rintro r w6 ⟨A6, c6, rfl, ho6, hb6⟩
  have O6 := Lib.hid (Own.low ho6)
  have P5 := Lib.hid (own_up O5.out hb6)
  have X6 := Lib.hid (X5.out.trans (hb6.mono (by omega)))
  have s6 := hb6.size
  clear ho6 hb6 O5 k3
  go_wp2_with ((at_builtin; refine wpList_append_bs _ rfl _ _ 44 rfl (w.heap.size + 1) 5 bytesT (.slice A5 13 c5) 13 (mark ++ num 4 (p.epoch.setWidth 64) ++ num 4 (p.seq.setWidth 64) ++ num 1 (BitVec.ofInt 64 p.flags)) rfl P5.out w6.heap.size A6 (2 + n) c6 (text p.body) rfl O6.out (15 + n) (fields p) (by omega) (by simp only [fields, List.append_assoc]) (by omega) (by omega) ?_; intro A7 c7 w7 o7 g7 _; have X7 := Lib.hid (X6.out.grown g7 (by omega) (fun g hg => (P5.out.lt g hg).1)); have O7 := Lib.hid o7; clear o7 g7))
  have s7 := X7.out.size
  have HH := Lib.hid (show head p = fields p ++ List.replicate (508 - (15 + n)) 0#8 by rw [head, HFL.out])
  go_loopw [3] (fun v wr => ∃ (m : Nat) (A' : Option Addr) (c' : Nat), 15 + n ≤ m ∧ m ≤ 508 ∧ v = .slice A' m c' ∧ Own wr (w.heap.size + 1) A' m c' (fields p ++ List.replicate (m - (15 + n)) 0#8) ∧ Below (w.heap.size + 1) W wr) (fun v _ => left508 v)
  case atStart => exact ⟨15 + n, A7, c7, Nat.le_refl _, by omega, rfl, by rw [Nat.sub_self, List.replicate_zero, List.append_nil]; exact O7.out, X7.out⟩
  case round =>
    obtain ⟨m, A8, c8, hm1, hm2, rfl, ho8, hb8⟩ := hrel
    have O8 := Lib.hid ho8
    have X8 := Lib.hid hb8
    have s8 := hb8.size
    clear ho8 hb8
    by_cases hlt : m < 508
    · go_wp2_with ((at_builtin; refine wpList_append_bs _ rfl _ _ 44 rfl (w.heap.size + 1) 5 bytesT (.slice A8 m c8) m (fields p ++ List.replicate (m - (15 + n)) 0#8) rfl (O8.out.alloc _) (wr.heap.size + 1) _ 1 1 [0#8] rfl (Bs.lit wr _ _ _ _ rfl 1 rfl) (m + 1) (fields p ++ List.replicate (m + 1 - (15 + n)) 0#8) rfl (by rw [List.append_assoc, ← List.replicate_succ']; congr 2; omega) (by omega) (Nat.le_trans (Nat.succ_le_of_lt hcl) (Nat.le_trans s8 (by simp))) ?_; intro A9 c9 w9 o9 g9 _; have X9 := Lib.hid ((X8.out.alloc (Nat.le_trans (Nat.succ_le_of_lt hcl) s8) _).grown g9 (Nat.le_trans (Nat.succ_le_of_lt hcl) (Nat.le_trans s8 (by simp))) (fun g hg => (O8.out.lt g hg).1)); have O9 := Lib.hid o9; clear o9 g9))
      go_roundw
      case rel => exact ⟨m + 1, A9, c9, by omega, by omega, rfl, O9.out, X9.out⟩
      case measure => simp [left508]; omega
    · have hm : m = 508 := by omega
      subst hm
      rw [← HH.out] at O8
      go_wp2_with fail
      refine (Crc.refSum _ A8 508 c8 (head p) _ (Own.low O8.out) (by decide)).mono ?_
      rintro r w9 ⟨rfl, rfl⟩
      generalize hX : Crc.sum (head p) = X
      have HX := Lib.hid hX
      clear hX
      go_wp2_with fail
      go_loopw [3, 4, 5] (fun v s i wr' => ∃ (k : Nat) (A' : Option Addr) (c' : Nat), k ≤ 4 ∧ i = .int .i64 (k : Int) ∧ s = v32 (X >>> (8 * k)) ∧ v = .slice A' (508 + k) c' ∧ Own wr' (w.heap.size + 1) A' (508 + k) c' (head p ++ (le4 X).take k) ∧ Below (w.heap.size + 1) W wr') (fun _ _ i _ => 4 - (intOf i).toNat)
      case atStart => exact ⟨0, A8, c8, by omega, rfl, by simp, rfl, by rw [List.take_zero, List.append_nil]; exact O8.out, X8.out⟩
      case round =>
        obtain ⟨k, A9, c9, hk, rfl, rfl, rfl, ho9, hb9⟩ := hrel
        have O9 := Lib.hid ho9
        have X9 := Lib.hid hb9
        have s9 := hb9.size
        clear ho9 hb9
        have hs32 := Lib.hid (shr32 X k)
        have hl4 := Lib.hid (le4_at X k)
        generalize hY : X >>> (8 * k) = Y at *
        have HY := Lib.hid hY
        clear hY
        by_cases hlt : k < 4
        · have d4 : decide ((k : Int) < 4) = true := by simp; omega
          go_wp2_with ((at_builtin; refine wpList_append_bs _ rfl _ _ 44 rfl (w.heap.size + 1) 5 bytesT (.slice A9 (508 + k) c9) (508 + k) (head p ++ (le4 X).take k) rfl (O9.out.alloc _) (wr.heap.size + 1) _ 1 1 [Y.setWidth 8] rfl (Bs.lit wr _ _ _ _ (congrArg (fun x => [Value.int .u8 x]) (byte32' Y)) 1 rfl) (508 + (k + 1)) (head p ++ (le4 X).take (k + 1)) rfl (by rw [hl4.out hlt, List.append_assoc]) (by omega) (Nat.le_trans (Nat.succ_le_of_lt hcl) (Nat.le_trans s9 (by simp))) ?_; intro A10 c10 w10 o10 g10 _; have X10 := Lib.hid ((X9.out.alloc (Nat.le_trans (Nat.succ_le_of_lt hcl) s9) _).grown g10 (Nat.le_trans (Nat.succ_le_of_lt hcl) (Nat.le_trans s9 (by simp))) (fun g hg => (O9.out.lt g hg).1)); have O10 := Lib.hid o10; clear o10 g10))
          go_roundw
          case rel => exact ⟨k + 1, A10, c10, by omega, by go_num, by rw [hs32.out], rfl, O10.out, X10.out⟩
          case measure => simp [intOf]; omega
        · have d4 : decide ((k : Int) < 4) = false := by simp; omega
          have hk4 : k = 4 := by omega
          subst hk4
          go_wp2_with fail
          go_ret
          refine ⟨A9, c9, rfl, ?_, HB0.out.trans (X9.out.mono (Nat.le_succ _))⟩
          rw [sec, HX.out, ← List.take_of_length_le (i := 4) (l := le4 X) (by rw [le4_length]; exact Nat.le_refl _)]
          exact O9.out.base (Nat.le_succ _)
end Go.Proofs.YtdaknfepcbooeaaGreat.Sector
