/-
  The document's parser of patterns (layer 8): Parse.
-/
import Derived.Test.YtjpbndpfbdfhjaaMRegRefAlt
namespace Go.Proofs.Ytjpbndpfbdfhjaa.Reg
open Go.RowKit
set_option linter.unusedVariables false
set_option linter.unusedSimpArgs false

/-- What the document's Parse returns. -/
def RParseSays (w : World) (r : Except (Nat × Nat) (List Rop)) (e : Ending) (w' : World) : Prop := Below w.heap.size w w' ∧ match r with
  | .error (bad, p) => bad ≠ 0 ∧ e = .returned (.tuple #[.slice none 0 0, .int .i64 (p : Int), .int .i64 (bad : Int)])
  | .ok l => ∃ A' c', e = .returned (.tuple #[.slice A' l.length c', .int .i64 0, .int .i64 0]) ∧ ROws w' w.heap.size (.slice A' l.length c') l
theorem own_less {w : World} {base base' e size n : Nat} {v : Value} {us : List Value} (h : w.ownsRow base e size v n us) (hb : base' ≤ base) : w.ownsRow base' e size v n us :=
  ⟨h.1, h.2.imp id fun ⟨g', cap, cur, h1, h2, h3⟩ => ⟨g', cap, cur, h1, by omega, h3⟩⟩
theorem rows_of {V : World} {B m c : Nat} {A : Option Addr} {cs : List Value} {ops : List Rop} (h : V.ownsRow B 109 3 (.slice A m c) m cs) (hg : Gd V cs ops) : m = ops.length ∧ ROws V B (.slice A ops.length c) ops := by
  obtain ⟨us, rfl, rfl, h3⟩ := hg
  have hl := h.1
  rw [oflat_length] at hl
  have hm : m = (us.map (·.o)).length := by rw [List.length_map]; omega
  subst hm
  exact ⟨rfl, us, h, rfl, h3⟩

set_option maxRecDepth 100000 in
set_option maxHeartbeats 1000000 in
theorem rparse (w : World) (B : Nat) (A : Option Addr) (n c : Nat) (s : List (BitVec 8)) (hs : Bs w B A n s) (hB : B ≤ w.heap.size) :
    Calls Try.prog 16 #[.slice A n c] w (RParseSays w (parse s)) := by
  have hl := hs.len
  by_cases h80 : 80 < n
  · rw [parseR_full (by omega)]
    have d1 : decide (80 < n) = true := decide_eq_true h80
    clear hs
    go_enter Try.func16, Try.ntmps16
    go_wp2_with fail
    refine bodyPost_ret (v := .tuple #[.slice none 0 0, .int .i64 0, .int .i64 3]) (results3 2 3 4 rfl _ _ _ rfl rfl rfl) rfl ?_
    exact ⟨Below.refl _ _, by decide, rfl⟩
  · rw [parseR_run (by omega)]
    have d1 : decide (80 < n) = false := decide_eq_false h80
    have hn80 : n ≤ 80 := by omega
    generalize hW : w.alloc (.cells #[.slice A n c, .int .i64 0, .int .i64 0] 78) = W
    have hWs : W.heap.size = w.heap.size + 1 := by rw [← hW]; simp
    have hbW : Below w.heap.size w W := by rw [← hW]; exact (Below.refl _ _).alloc (Nat.le_refl _) _
    have hcW : Rc W w.heap.size (.slice A n c) 0 0 := by rw [← hW]; exact Cel.new w _ _
    have hbs : Bs W w.heap.size A n s := (hs.below (hbW.mono hB)).more hB
    have con := ralt_all w.heap.size w.heap.size A n c s (Nat.le_refl _) hn80 8 0 rfl W 0 0 hcW hbs (Nat.zero_le _)
    have HBW := Lib.hid hbW
    have HBS := Lib.hid hbs
    have CON := Lib.hid con
    clear hs hbW hcW hbs con
    go_enter Try.func16, Try.ntmps16
    go_wp2_with fail
    refine CON.out.mono ?_
    clear CON hW
    rintro e w1 ⟨A1, m1, c1, cs, j, rfl, ho, hone, hm, hj, hf, hst⟩
    have HO := Lib.hid ho
    have hlow := Lib.hid (HBW.out.trans (hf.below (B := w.heap.size) (by omega) (by simp)))
    clear ho hone hm
    rcases hst with ⟨ops, hrc, hgd, -, hjn, hend, -, hok⟩ | ⟨bad, q, hbad, hrc, hb⟩
    · obtain ⟨y, e1, e2, e3, e4⟩ := hok [] [] rfl
      replace e1 : run s St0 = run s y := e1
      rw [List.nil_append] at e4
      have r1 := Cel.cell hrc 1
      have HRC := Lib.hid hrc
      have HGD := Lib.hid hgd
      rcases hend with hend | hend
      · have hjl : j = s.length := by
          rcases Nat.lt_or_ge j s.length with q | q
          · rw [List.getElem?_eq_getElem q] at hend; cases hend
          · omega
        have hr : run s St0 = .ok ops := by rw [e1, run_end (e2.trans hjl), if_neg (by rw [e3]; simp), e4]
        have HR := Lib.hid hr
        have dj : decide (j < n) = false := by simp; omega
        clear hrc hgd hok e1 e2 e3 e4 hend hjl hr hf hj
        go_wp2_with fail
        refine bodyPost_ret (v := .tuple #[.slice A1 m1 c1, .int .i64 0, .int .i64 0]) (results3 2 3 4 rfl _ _ _ rfl rfl rfl) rfl ?_
        unfold RParseSays
        rw [HR.out]
        obtain ⟨rfl, hrow⟩ := rows_of (own_less HO.out (show w.heap.size ≤ W.heap.size by omega)) HGD.out
        exact ⟨hlow.out, A1, c1, rfl, hrow⟩
      · have hr : run s St0 = .error (2, j) := by
          rw [e1, run_step (x := y) (by rw [e2]; exact hend)]
          unfold step
          rw [if_neg (by decide), if_pos rfl, e3, e2]
        have HR := Lib.hid hr
        have hjlt : j < n := by have := get_lt hend; omega
        have dj : decide (j < n) = true := decide_eq_true hjlt
        have con2 := rwrong w1 w.heap.size (.slice A n c) j 2 0 HRC.out
        clear hrc hgd hok e1 e2 e3 e4 hend hr hf hj
        go_wp2_with fail
        refine con2.mono ?_
        clear con2
        rintro e w2 ⟨rfl, hra⟩
        have q1 := Cel.cell hra.rc 1
        have q2 := Cel.cell hra.rc 2
        have HB2 := Lib.hid (hlow.out.trans (hra.frm.below (B := w.heap.size) (by have := HRC.out.lt; omega) (by simp)))
        clear hra r1
        go_wp2_with fail
        go_quiet (fail)
        go_wp2_with fail
        refine bodyPost_ret (v := .tuple #[.slice none 0 0, .int .i64 (j : Int), .int .i64 2]) (results3 2 3 4 rfl _ _ _ rfl rfl rfl) rfl ?_
        unfold RParseSays
        rw [HR.out]
        exact ⟨Below.drewN9 HB2.out _, by decide, rfl⟩
    · have hr : run s St0 = .error (bad, q) := hb [] [] rfl
      have HR := Lib.hid hr
      have q1 := Cel.cell hrc 1
      have q2 := Cel.cell hrc 2
      have d0 : ((bad : Int) == 0) = false := by rw [beq_eq_false_iff_ne]; omega
      have d2 : ((bad : Int) != 0) = true := by rw [bne_iff_ne]; omega
      clear hrc hb hr hf hj
      go_wp2_with fail
      go_quiet (fail)
      go_wp2_with fail
      refine bodyPost_ret (v := .tuple #[.slice none 0 0, .int .i64 (q : Int), .int .i64 (bad : Int)]) (results3 2 3 4 rfl _ _ _ rfl rfl rfl) rfl ?_
      unfold RParseSays
      rw [HR.out]
      exact ⟨Below.drewN9 hlow.out _, hbad, rfl⟩
end Go.Proofs.Ytjpbndpfbdfhjaa.Reg
