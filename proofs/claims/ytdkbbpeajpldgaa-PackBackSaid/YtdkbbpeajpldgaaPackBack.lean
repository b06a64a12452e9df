/-
  The walk of davitlaw02.PackBack: it answers true, whatever comes in.
-/
import Derived.Test.YtdkbbpeajpldgaaPackKnows
namespace Go.Proofs.Ytdkbbpeajpldgaa.Pack
open Go.RowKit
set_option linter.unusedVariables false

/-- All that is written. -/
def allOf (n : BitVec 64) (m : BitVec 32) (bs : List (BitVec 8)) : List (BitVec 8) := (num 8 n ++ text bs) ++ num 4 (m.setWidth 64)
theorem wide64 (m : BitVec 32) : (m.toNat : Int) = ((m.setWidth 64).toNat : Int) := by
  rw [BitVec.toNat_setWidth, Nat.mod_eq_of_lt (by have := m.isLt; omega)]
theorem back1 (n : BitVec 64) (m : BitVec 32) (bs : List (BitVec 8)) : rnum 8 (some (allOf n m bs)) = (n, some (text bs ++ num 4 (m.setWidth 64))) := by
  rw [allOf, List.append_assoc]
  have := rnum_ok 8 (num 8 n) (text bs ++ num 4 (m.setWidth 64)) (by decide) (by decide) (num_length _ _)
  rw [val_num 8 n (by decide) n.isLt] at this
  exact this
theorem back2 (m : BitVec 32) (bs : List (BitVec 8)) (h : bs.length ≤ 65535) : rtext (some (text bs ++ num 4 (m.setWidth 64))) = (bs, some (num 4 (m.setWidth 64))) := rtext_ok _ _ h
theorem back3 (m : BitVec 32) : rnum 4 (some (num 4 (m.setWidth 64))) = (m.setWidth 64, some []) := by
  have := rnum_ok 4 (num 4 (m.setWidth 64)) [] (by decide) (by decide) (num_length _ _)
  rw [List.append_nil, val_num 4 _ (by decide) (by rw [BitVec.toNat_setWidth, Nat.mod_eq_of_lt (by have := m.isLt; omega)]; exact m.isLt)] at this
  exact this

set_option maxRecDepth 100000 in
set_option maxHeartbeats 1000000 in
theorem back_walk (n : BitVec 64) (m : BitVec 32) (A : Option Addr) (l c : Nat) (bs : List (BitVec 8)) (w : World) (h : Bs w w.heap.size A l bs) (hm : l ≤ maxLen) :
    Calls Try.prog 5 #[v64 n, v32 m, .slice A l c] w fun e w' => e = .returned (.bool true) ∧ Below w.heap.size w w' := by
  have H := Lib.hid h
  clear h
  by_cases k1 : 500 < l
  · have d1 : decide ((500 : Int) < (l : Int)) = true := by simp; omega
    go_enter Try.func5, Try.ntmps5
    go_wp2_with fail
    refine (knows _).mono ?_
    rintro e w1 ⟨rfl, hb⟩
    go_wp2_with fail
    go_ret
    exact ⟨rfl, hb⟩
  · have d1 : decide ((500 : Int) < (l : Int)) = false := by simp; omega
    have hl := H.out.len
    have HL := Lib.hid hl
    clear hl
    go_enter Try.func5, Try.ntmps5
    go_wp2_with fail
    refine (textOk _ A l c bs _ H.out (Nat.le_refl _) (by omega)).mono ?_
    rintro e w1 ⟨A1, c1, rfl, ho1, hb1⟩
    have s1 := hb1.size
    have O1 := Lib.hid ho1
    clear ho1
    go_wp2_with fail
    refine (number_at n 8 (by decide) (by decide) _ _ rfl rfl _).mono ?_
    rintro e w2 ⟨A2, c2, rfl, ho2, hb2⟩
    have s2 := hb2.size
    have O2 := Lib.hid ho2
    clear ho2
    go_wp2_with ((at_builtin; refine wpList_append_bs _ rfl _ _ 23 rfl w1.heap.size 5 bytesT (.slice A2 8 c2) 8 (num 8 n) rfl O2.out w1.heap.size A1 (2 + l) c1 (text bs) rfl (O1.out.low.below hb2) (8 + (2 + l)) (num 8 n ++ text bs) rfl rfl (by omega) (by omega) ?_; intro A3 c3 w3 o3 g3 _))
    have hb3 : Below w1.heap.size w1 w3 := hb2.grown g3 s2 (fun g hg => (O2.out.lt g hg).1)
    have s3 := hb3.size
    have O3 := Lib.hid o3
    clear o3 g3
    refine (number_at (m.setWidth 64) 4 (by decide) (by decide) _ _ (wide64 m) rfl _).mono ?_
    rintro e w4 ⟨A4, c4, rfl, ho4, hb4⟩
    have s4 := hb4.size
    have O4 := Lib.hid ho4
    have O3' := Lib.hid (Own.frm (l := []) O3.out (Frm.of_below hb4) (by simp))
    clear ho4
    go_wp2_with ((at_builtin; refine wpList_append_bs _ rfl _ _ 23 rfl w1.heap.size 5 bytesT (.slice A3 (8 + (2 + l)) c3) (8 + (2 + l)) (num 8 n ++ text bs) rfl O3'.out w4.heap.size A4 4 c4 (num 4 (m.setWidth 64)) rfl O4.out.low (8 + (2 + l) + 4) (allOf n m bs) rfl rfl (by omega) (by omega) ?_; intro A5 c5 w5 o5 g5 _))
    have hb5 : Below w1.heap.size w1 w5 := (hb3.trans (hb4.mono s3)).grown g5 (by omega) (fun g hg => (O3'.out.lt g hg).1)
    have s5 := hb5.size
    have O5 := Lib.hid o5
    clear o5 g5
    refine (read _ A5 _ c5 (allOf n m bs) _ (Own.low O5.out) (Nat.le_refl _) (by omega)).mono ?_
    rintro e w6 ⟨d, g, rfl, hr6, hs6, hb6⟩
    have R6 := Lib.hid hr6
    have HS6 := Lib.hid hs6
    clear hr6 hs6
    go_wp2_with fail
    refine (rNumber _ d g _ _ _ R6.out).mono ?_
    rw [back1]
    rintro e w7 ⟨rfl, hr7, hf7⟩
    have R7 := Lib.hid hr7
    have F7 := Lib.hid hf7
    clear hr7 hf7
    go_wp2_with fail
    refine (rText _ d g _ _ R7.out).mono ?_
    rw [back2 m bs (by rw [HL.out]; omega)]
    rintro e w8 ⟨A8, c8, rfl, ho8, hr8, hf8⟩
    have R8 := Lib.hid hr8
    have F8 := Lib.hid hf8
    have O8 := Lib.hid ho8
    clear hr8 hf8 ho8
    go_wp2_with fail
    refine (rNumber _ d g _ _ _ R8.out).mono ?_
    rw [back3]
    rintro e w9 ⟨rfl, hr9, hf9⟩
    have f69 : Frm [d, g] w6 w9 := (F7.out.trans F8.out).trans hf9
    have hlow := R6.out.1
    have hdg := R6.out.2.1
    have s6 := hb6.size
    have hb69 : Below w5.heap.size w6 w9 := f69.below s6 (by simp; omega)
    have hbw : Below w.heap.size w w9 := (hb1.trans (hb5.mono s1)).trans ((hb6.trans hb69).mono (by omega))
    have q1 := toStr (H.out.bp.below hbw (fun _ hk => hk)) c
    have q2 := toStr (Own.bp (Own.frm O8.out hf9 (by have := F7.out.size; have := HS6.out; simp; omega))) c8
    have R9 := Lib.hid hr9
    have F69 := Lib.hid f69
    clear hr9 hf9 f69
    go_wp2_with fail
    refine (rEnd _ d g _ _ R9.out).mono ?_
    rintro e w' ⟨rfl, rfl⟩
    go_wp2_with fail
    refine (knows _).mono ?_
    rintro e w10 ⟨rfl, hb10⟩
    go_wp2_with fail
    go_ret
    exact ⟨rfl, hbw.trans (hb10.mono hbw.size)⟩
end Go.Proofs.Ytdkbbpeajpldgaa.Pack
