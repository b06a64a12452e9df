/-
  The program's lines (layer 13): the piece with which a text begins.
-/
import Derived.Test.YtamklllmjppinaaVarsSmall
import Derived.BigQuiet
import Derived.Test.YtamklllmjppinaaSlices
import Derived.Test.YtamklllmjppinaaOrders
namespace Go.Proofs.Ytamklllmjppinaa.Vars
open Go.RowKit
open Go.Proofs.Ytamklllmjppinaa.Lex (letter digit within b_ne drop_at Owb lit_one rowB run_cutMid bs_cut add_pos')
set_option linter.unusedVariables false
set_option linter.unusedSimpArgs false

/-- What leading returns. -/
def LdSays (w : World) (B : Nat) (x : Pce) (e : Ending) (w' : World) : Prop := Below w.heap.size w w' ∧ ∃ A' c', e = .returned (.agg #[.int .i64 (x.k : Int), .int .i64 (x.n : Int), .slice A' x.t.length c']) ∧ Bs w' B A' x.t.length x.t
theorem ld_ok {w w' : World} {B m c k n : Nat} {A : Option Addr} {x : Pce} (hb : Below w.heap.size w w') (t : List (BitVec 8)) (hx : x = ⟨k, n, t⟩) (ht : Bs w' B A m t) : LdSays w B x (.returned (.agg #[.int .i64 (k : Int), .int .i64 (n : Int), .slice A m c])) w' := by
  have := ht.len
  subst hx; subst this; exact ⟨hb, A, c, rfl, ht⟩
theorem load_pce {w : World} {g : Nat} {x0 x1 x2 : Value} (h : Cel w g 41 [x0, x1, x2]) : (loadVar 41 ⟨g, 0, none⟩).run Try.prog w = .ok (.agg #[x0, x1, x2]) w :=
  run_loadVar_mid (P := Try.prog) w g 0 41 [x0, x1, x2] _ (fun j v hv => by rw [Nat.zero_add, h.cell j, hv]) Try.underlying41 rfl (by kernel_rfl)
def fw3 (w : World) (g : Nat) (a b c : Value) : World := ((w.setCell ⟨g, 0, none⟩ a).setCell ⟨g, 1, none⟩ b).setCell ⟨g, 2, none⟩ c
theorem fw3_cel {w : World} {g : Nat} {t : TypeId} {x y z a b c : Value} (h : Cel w g t [x, y, z]) : Cel (fw3 w g a b c) g t [a, b, c] := ((h.set 0 a).set 1 b).set 2 c
theorem fw3_frm (w : World) (g : Nat) (a b c : Value) : Frm [g] w (fw3 w g a b c) := (((Frm.refl [g] w).set (p := ⟨g, 0, none⟩) (by simp) a).set (p := ⟨g, 1, none⟩) (by simp) b).set (p := ⟨g, 2, none⟩) (by simp) c
theorem results_cel {P : Program} {fn : Func} {tmps : Array Value} {w : World} (a : Tmp) (t : TypeId) (hr : fn.results = #[.cell a t]) (ad : Addr) (ha : tmps.getD a undef = .pointer (some ad)) (v : Value) (hl : (loadVar t ad).run P w = .ok v w) :
    (results fn tmps).run P w = .ok v w := by
  unfold results
  rw [hr]
  simp only [List.mapM_toArray, List.mapM_cons, List.mapM_nil, ha, asAddr]
  simp [hl]
set_option maxRecDepth 100000 in
set_option maxHeartbeats 1000000 in
theorem plead (w : World) (B : Nat) (A : Option Addr) (n c : Nat) (s : List (BitVec 8)) (hs : Bs w B A n s) (hB : B ≤ w.heap.size) (h0 : 0 < n) (hn : n ≤ 100000) (hcap : n ≤ c) :
    Calls Try.prog 18 #[.slice A n c] w (LdSays w B (leadR s)) := by
  obtain ⟨X, hX⟩ : ∃ X, X = leadR s := ⟨_, rfl⟩
  rw [← hX]
  obtain ⟨x, hx⟩ : ∃ x, s[0]? = some x := ⟨_, List.getElem?_eq_getElem (by rw [hs.len]; exact h0)⟩
  obtain ⟨bd, rfl, hbB, b0⟩ := hs.at_ h0
  rw [List.getD_eq_getElem?_getD, hx] at b0
  change _ = some (v8 x) at b0
  rw [show bd.add 0 = bd from by unfold Addr.add; exact if_pos rfl] at b0
  have hd : s = x :: s.drop 1 := by have := drop_at hx; simpa using this
  obtain ⟨w1, hw1⟩ : ∃ w1, w1 = w.alloc (.cells #[.int .i64 0, .int .i64 0, .slice none 0 0] 41) := ⟨_, rfl⟩
  have hb1 : Below w.heap.size w w1 := by rw [hw1]; exact (Below.refl _ _).alloc (Nat.le_refl _) _
  have hc1 : Cel w1 w.heap.size 41 [.int .i64 0, .int .i64 0, .slice none 0 0] := by rw [hw1]; exact Cel.new w _ _
  have h1 : ∀ V : World, (Instr.sliceAt 22 (.slice (some bd) n c) none (some (.int .i64 1)) none).run Try.prog V = .ok (.slice (some bd) 1 c) V := fun V => run_cutTo (P := Try.prog) V (t := 22) (e := 5) (size := 1) Try.underlying22 rfl (some bd) n c 1 .i64 (by omega)
  obtain ⟨A2, n2, c2, h2, hs2, hn2, hc2⟩ : ∃ A2 n2 c2, (∀ V : World, (Instr.sliceAt 22 (.slice (some bd) n c) (some (.int .i64 1)) none none).run Try.prog V = .ok (.slice A2 n2 c2) V) ∧ Bs w B A2 n2 (s.drop 1) ∧ n2 ≤ 100000 ∧ n2 ≤ c2 :=
    ⟨_, _, _, fun V => run_cutFrom (P := Try.prog) V (t := 22) (e := 5) (size := 1) Try.underlying22 rfl (some bd) n c 1 .i64 (by omega), by have := (Bs.bp hs).cut (k := 1) (cap := c) (by omega) hcap; rw [show 1 * 1 = 1 from rfl]; exact this, by omega, by omega⟩
  have HS := Lib.hid hs
  have HD := Lib.hid hd
  have HX := Lib.hid hX
  have HS2 := Lib.hid hs2
  have HB1 := Lib.hid hb1
  have HC1 := Lib.hid hc1
  clear hd hX hs hs2 hb1 hc1 hx
  go_enter Try.func18, Try.ntmps18
  go_wp2_with fail
  go_quiet (fail)
  obtain ⟨W0, hW0⟩ : ∃ W0, W0 = (w.alloc (.cells #[.int .i64 0, .int .i64 0, .slice none 0 0] 41)).drewN nq := ⟨_, rfl⟩
  rw [← hW0]
  have HB0 := Lib.hid (show Below w.heap.size w W0 by rw [hW0, ← hw1]; exact ⟨HB1.out.os, HB1.out.tape, HB1.out.output, HB1.out.size, HB1.out.block⟩)
  have HC0 := Lib.hid (show Cel W0 w.heap.size 41 [.int .i64 0, .int .i64 0, .slice none 0 0] by rw [hW0, ← hw1]; exact HC1.out)
  have b0' := (HB0.out.cell (cell_lt b0)).trans b0
  have k0 := HC0.out.cell 0
  have k1 := HC0.out.cell 1
  have k2 := HC0.out.cell 2
  have l0 := HC0.out.free 0
  have l1 := HC0.out.free 1
  have l2 := HC0.out.free 2
  have hn1 : 1 ≤ n := h0
  have HSW := Lib.hid (HS.out.below (HB0.out.mono hB))
  have HS2W := Lib.hid (HS2.out.below (HB0.out.mono hB))
  have HS1W := Lib.hid (show Bs W0 B (some bd) 1 [x] by
    have := (Bs.bp HSW.out).take (k := 1) hn1
    rw [HD.out] at this
    exact this)
  clear hW0 hw1 h1 h2 b0
  by_cases h36 : x = 36#8
  · subst h36
    obtain ⟨l, hl⟩ : ∃ l, l = s.drop 1 := ⟨_, rfl⟩
    rw [← hl] at HS2W HD
    have HL2 := Lib.hid HS2W.out.len
    have con := pname W0 B A2 n2 c2 l HS2W.out hn2
    clear hl
    by_cases hh : l.head? = some 36#8
    · obtain ⟨m, rfl⟩ : ∃ m, l = 36#8 :: m := by cases l with
        | nil => simp at hh
        | cons d m => simp at hh; exact ⟨m, by rw [hh]⟩
      have hn2p : 0 < n2 := by have := HL2.out; simp at this; omega
      obtain ⟨bd2, rfl, _, b2⟩ := HS2W.out.at_ hn2p
      change _ = some (v8 36#8) at b2
      rw [show bd2.add 0 = bd2 from by unfold Addr.add; exact if_pos rfl] at b2
      have z2 : decide ((0 : Int) < (n2 : Int)) = true := by simp; omega
      have HF := Lib.hid (HB0.out.trans ((fw3_frm W0 w.heap.size (.int .i64 0) (.int .i64 2) (.slice (some bd) 1 c)).below HB0.out.size (by intro q hq; simp at hq; omega)))
      have HCF := Lib.hid (fw3_cel (a := .int .i64 0) (b := .int .i64 2) (c := .slice (some bd) 1 c) HC0.out)
      have HSF := Lib.hid (HS1W.out.below (((fw3_frm W0 w.heap.size (.int .i64 0) (.int .i64 2) (.slice (some bd) 1 c)).below (B := B) (Nat.le_trans hB HB0.out.size) (by intro q hq; simp at hq; omega))))
      unfold fw3 at HF HCF HSF
      clear con hh
      go_wp2_with fail
      refine bodyPost_ret (v := .agg #[.int .i64 0, .int .i64 2, .slice (some bd) 1 c]) (results_cel 2 41 Try.results18 ⟨w.heap.size, 0, none⟩ rfl _ (load_pce HCF.out)) rfl ?_
      exact ld_ok (k := 0) (n := 2) HF.out _ (by rw [HX.out, HD.out, lead_two]) HSF.out
    · have HH := Lib.hid hh
      obtain ⟨K, hK⟩ : ∃ K, K = nameR l := ⟨_, rfl⟩
      have HK := Lib.hid hK
      have hKl := nameR_le l
      rw [← hK] at con hKl
      rw [HL2.out] at hKl
      clear hK hh
      rcases Nat.eq_zero_or_pos n2 with hz | hp2
      · subst hz
        obtain rfl : K = 0 := by omega
        have HE := Lib.hid (show X = ⟨2, 1, []⟩ by rw [HX.out, HD.out]; exact lead_none HH.out (by rw [← HK.out]; omega))
        have HF := Lib.hid (HB0.out.trans ((fw3_frm W0 w.heap.size (.int .i64 2) (.int .i64 1) (.slice none 0 0)).below HB0.out.size (by intro q hq; simp at hq; omega)))
        have HCF := Lib.hid (fw3_cel (a := .int .i64 2) (b := .int .i64 1) (c := .slice none 0 0) HC0.out)
        have HSF := Lib.hid (((Bs.nil_ : Bs W0 B none 0 [])).below (((fw3_frm W0 w.heap.size (.int .i64 2) (.int .i64 1) (.slice none 0 0)).below (B := B) (Nat.le_trans hB HB0.out.size) (by intro q hq; simp at hq; omega))))
        unfold fw3 at HF HCF HSF
        go_wp2_with fail
        refine con.mono ?_
        rintro e w' ⟨rfl, rfl⟩
        go_wp2_with fail
        refine bodyPost_ret (v := .agg #[.int .i64 2, .int .i64 1, .slice none 0 0]) (results_cel 2 41 Try.results18 ⟨w.heap.size, 0, none⟩ rfl _ (load_pce HCF.out)) rfl ?_
        exact ld_ok (k := 2) (n := 1) HF.out _ HE.out HSF.out
      · obtain ⟨y, hy⟩ : ∃ y, l[0]? = some y := ⟨_, List.getElem?_eq_getElem (by rw [HL2.out]; exact hp2)⟩
        obtain ⟨bd2, rfl, _, b2⟩ := HS2W.out.at_ hp2
        rw [List.getD_eq_getElem?_getD, hy] at b2
        change _ = some (v8 y) at b2
        rw [show bd2.add 0 = bd2 from by unfold Addr.add; exact if_pos rfl] at b2
        have hy36 : y ≠ 36#8 := by
          rintro rfl
          apply HH.out
          rw [List.head?_eq_getElem?]; exact hy
        have e36 : ((y.toNat : Int) == 36) = false := b_ne (k := 36) (by decide) hy36
        have z2 : decide ((0 : Int) < (n2 : Int)) = true := by simp; omega
        clear hy hy36
        by_cases hK0 : 0 < K
        · by_cases hK20 : K ≤ 20
          · have HE := Lib.hid (show X = ⟨1, 1 + K, l.take K⟩ by rw [HX.out, HD.out, HK.out]; exact lead_name HH.out (by rw [← HK.out]; exact hK0) (by rw [← HK.out]; exact hK20))
            have z1 : decide ((0 : Int) < (K : Int)) = true := by simp; omega
            have z20 : decide ((K : Int) ≤ 20) = true := by simp; omega
            have h3 : ∀ V : World, (Instr.sliceAt 22 (.slice (some bd2) n2 c2) none (some (.int .i64 (K : Int))) none).run Try.prog V = .ok (.slice (some bd2) K c2) V := fun V => run_cutTo (P := Try.prog) V (t := 22) (e := 5) (size := 1) Try.underlying22 rfl (some bd2) n2 c2 K .i64 (by omega)
            have HF := Lib.hid (HB0.out.trans ((fw3_frm W0 w.heap.size (.int .i64 1) (.int .i64 ((1 : Int) + (K : Int))) (.slice (some bd2) K c2)).below HB0.out.size (by intro q hq; simp at hq; omega)))
            have HCF := Lib.hid (fw3_cel (a := .int .i64 1) (b := .int .i64 ((1 : Int) + (K : Int))) (c := .slice (some bd2) K c2) HC0.out)
            have HSF := Lib.hid ((show Bs W0 B (some bd2) K (l.take K) from (Bs.bp HS2W.out).take (by omega)).below (((fw3_frm W0 w.heap.size (.int .i64 1) (.int .i64 ((1 : Int) + (K : Int))) (.slice (some bd2) K c2)).below (B := B) (Nat.le_trans hB HB0.out.size) (by intro q hq; simp at hq; omega))))
            unfold fw3 at HF HCF HSF
            go_wp2_with fail
            refine con.mono ?_
            rintro e w' ⟨rfl, rfl⟩
            go_wp2_with (refine wpList_slice rfl 22 (.tmp 37) none (some (.tmp 38)) none rfl (.slice (some bd2) K c2) ?_ ?_; exact h3 _)
            refine bodyPost_ret (v := .agg #[.int .i64 1, .int .i64 ((1 : Int) + (K : Int)), .slice (some bd2) K c2]) (results_cel 2 41 Try.results18 ⟨w.heap.size, 0, none⟩ rfl _ (load_pce HCF.out)) rfl ?_
            exact by have := ld_ok (k := 1) (n := 1 + K) (c := c2) HF.out _ HE.out HSF.out; rw [show ((1 + K : Nat) : Int) = 1 + (K : Int) by omega] at this; exact this
          · have HE := Lib.hid (show X = ⟨2, 1, []⟩ by rw [HX.out, HD.out]; exact lead_none HH.out (by rw [← HK.out]; omega))
            have z1 : decide ((0 : Int) < (K : Int)) = true := by simp; omega
            have z20 : decide ((K : Int) ≤ 20) = false := by simp; omega
            have HF := Lib.hid (HB0.out.trans ((fw3_frm W0 w.heap.size (.int .i64 2) (.int .i64 1) (.slice none 0 0)).below HB0.out.size (by intro q hq; simp at hq; omega)))
            have HCF := Lib.hid (fw3_cel (a := .int .i64 2) (b := .int .i64 1) (c := .slice none 0 0) HC0.out)
            have HSF := Lib.hid (((Bs.nil_ : Bs W0 B none 0 [])).below (((fw3_frm W0 w.heap.size (.int .i64 2) (.int .i64 1) (.slice none 0 0)).below (B := B) (Nat.le_trans hB HB0.out.size) (by intro q hq; simp at hq; omega))))
            unfold fw3 at HF HCF HSF
            go_wp2_with fail
            refine con.mono ?_
            rintro e w' ⟨rfl, rfl⟩
            go_wp2_with fail
            refine bodyPost_ret (v := .agg #[.int .i64 2, .int .i64 1, .slice none 0 0]) (results_cel 2 41 Try.results18 ⟨w.heap.size, 0, none⟩ rfl _ (load_pce HCF.out)) rfl ?_
            exact ld_ok (k := 2) (n := 1) HF.out _ HE.out HSF.out
        · obtain rfl : K = 0 := by omega
          have HE := Lib.hid (show X = ⟨2, 1, []⟩ by rw [HX.out, HD.out]; exact lead_none HH.out (by rw [← HK.out]; omega))
          have HF := Lib.hid (HB0.out.trans ((fw3_frm W0 w.heap.size (.int .i64 2) (.int .i64 1) (.slice none 0 0)).below HB0.out.size (by intro q hq; simp at hq; omega)))
          have HCF := Lib.hid (fw3_cel (a := .int .i64 2) (b := .int .i64 1) (c := .slice none 0 0) HC0.out)
          have HSF := Lib.hid (((Bs.nil_ : Bs W0 B none 0 [])).below (((fw3_frm W0 w.heap.size (.int .i64 2) (.int .i64 1) (.slice none 0 0)).below (B := B) (Nat.le_trans hB HB0.out.size) (by intro q hq; simp at hq; omega))))
          unfold fw3 at HF HCF HSF
          go_wp2_with fail
          refine con.mono ?_
          rintro e w' ⟨rfl, rfl⟩
          go_wp2_with fail
          refine bodyPost_ret (v := .agg #[.int .i64 2, .int .i64 1, .slice none 0 0]) (results_cel 2 41 Try.results18 ⟨w.heap.size, 0, none⟩ rfl _ (load_pce HCF.out)) rfl ?_
          exact ld_ok (k := 2) (n := 1) HF.out _ HE.out HSF.out
  · have HE := Lib.hid (show X = ⟨0, 1, [x]⟩ by rw [HX.out, HD.out, lead_plain h36])
    have e36 : ((x.toNat : Int) == 36) = false := b_ne (k := 36) (by decide) h36
    have n36 : ((x.toNat : Int) != 36) = true := by unfold bne; rw [e36]; rfl
    clear h36
    have HF := Lib.hid (HB0.out.trans ((fw3_frm W0 w.heap.size (.int .i64 0) (.int .i64 1) (.slice (some bd) 1 c)).below HB0.out.size (by intro q hq; simp at hq; omega)))
    have HCF := Lib.hid (fw3_cel (a := .int .i64 0) (b := .int .i64 1) (c := .slice (some bd) 1 c) HC0.out)
    have HSF := Lib.hid ((HS1W.out).below (((fw3_frm W0 w.heap.size (.int .i64 0) (.int .i64 1) (.slice (some bd) 1 c)).below (B := B) (Nat.le_trans hB HB0.out.size) (by intro q hq; simp at hq; omega))))
    unfold fw3 at HF HCF HSF
    go_wp2_with fail
    refine bodyPost_ret (v := .agg #[.int .i64 0, .int .i64 1, .slice (some bd) 1 c]) (results_cel 2 41 Try.results18 ⟨w.heap.size, 0, none⟩ rfl _ (load_pce HCF.out)) rfl ?_
    exact ld_ok (k := 0) (n := 1) HF.out _ HE.out HSF.out
end Go.Proofs.Ytamklllmjppinaa.Vars
