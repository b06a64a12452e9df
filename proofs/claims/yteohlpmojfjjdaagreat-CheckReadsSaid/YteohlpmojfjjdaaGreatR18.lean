/-
Texts: RegRefAlt RegRefParse NfaWords NfaRef
-/
import Derived.Test.YteohlpmojfjjdaaGreatR0
import Derived.Test.YteohlpmojfjjdaaGreatR1
import Derived.Test.YteohlpmojfjjdaaGreatR2
import Derived.Test.YteohlpmojfjjdaaGreatR3
import Derived.Test.YteohlpmojfjjdaaGreatR4
import Derived.Test.YteohlpmojfjjdaaGreatR6
import Derived.Test.YteohlpmojfjjdaaGreatR14
import Derived.Test.YteohlpmojfjjdaaGreatR15
import Derived.Test.YteohlpmojfjjdaaGreatR16
import Derived.Test.YteohlpmojfjjdaaGreatR17
set_option linter.unusedVariables false
set_option linter.unusedSimpArgs false
set_option maxRecDepth 100000
set_option maxHeartbeats 4000000
section
namespace Go.Proofs.YteohlpmojfjjdaaGreat.Reg
open Go.RowKit
theorem Gd.looked {V V' : World} {b bad q : Nat} {sv : Value} {cs : List Value} {l : List Rop} (h : Gd V cs l) (hr : Rc V b sv bad q) (hf : Frm [b] V V') : Gd V' cs l := by
 obtain ⟨us, e1, e2, e3⟩ := h
 refine ⟨us, e1, e2, fun u hu => (e3 u hu).frm hf fun g hg o fz e => ?_⟩
 rw [List.mem_singleton.1 hg] at e
 exact hr.not_ty (by decide) o fz e
theorem Bo.sl {w V : World} {b m c : Nat} {A : Option Addr} {cs : List Value} (h : Bo w V b A m c cs) : Sl V A m cs := ⟨h.own.1, h.one, Ry.of_own h.own (by decide)⟩
def AStat (s : List (BitVec 8)) (deep k p n : Nat) (V : World) (b : Nat) (sv : Value) (kk m : Nat) (cs : List Value) : Prop :=
 (∃ ops, Rc V b sv 0 p ∧ Gd V cs ops ∧ k ≤ kk ∧ kk ≤ n ∧ (s[kk]? = none ∨ s[kk]? = some 124#8 ∨ s[kk]? = some 41#8) ∧ m ≤ 4 * (kk - k) + 1 ∧ AltOk s deep k ops kk) ∨
 (∃ bad q, bad ≠ 0 ∧ Rc V b sv bad q ∧ m ≤ 1000 * (9 - deep) + 900 ∧ kk ≤ 202 + 10 * (9 - deep) ∧ AltBad s deep k bad q)
theorem AStat.tr {s : List (BitVec 8)} {deep k p n b kk m : Nat} {V V' : World} {sv : Value} {cs : List Value} (h : AStat s deep k p n V b sv kk m cs) (ht : Tr b V V') : AStat s deep k p n V' b sv kk m cs := by
 rcases h with ⟨l0, h1, h2, h3⟩ | ⟨bad, q, h1, h2, h3⟩
 ·exact .inl ⟨l0, ht.rc h1, ht.gd h2, h3⟩
 ·exact .inr ⟨bad, q, h1, ht.rc h2, h3⟩
theorem AStat.first {w1 : World} {s : List (BitVec 8)} {deep k p n b j m : Nat} {sv : Value} {cs : List Value} (hm : m ≤ 1000 * (9 - deep) + 500) (hj : j ≤ 202 + 10 * (9 - deep))
  (h : (∃ l0 np, Rc w1 b sv 0 p ∧ Gd w1 cs (l0 ++ (if np then [] else [one 2])) ∧ k ≤ j ∧ j ≤ n ∧ (s[j]? = none ∨ s[j]? = some 124#8 ∨ s[j]? = some 41#8) ∧ m ≤ 4 * (j - k) + 1 ∧ BrRun s deep k l0 np j) ∨ (∃ bad q, bad ≠ 0 ∧ Rc w1 b sv bad q ∧ BrBad s deep k bad q)) : AStat s deep k p n w1 b sv j m cs := by
 rcases h with ⟨l0, np, h1, h2, h3, h4, h5, h6, h7⟩ | ⟨bad, q, h1, h2, h3⟩
 ·refine .inl ⟨_, h1, h2, h3, h4, h5, h6, fun o K hK => ⟨⟨j, o ++ l0, ⟨false, np⟩, K⟩, h7 o false K hK, rfl, rfl, ?_⟩⟩
  show (o ++ l0) ++ (if np then [] else [one 2]) ++ (if false = true then [one 4] else []) = _
  simp
 ·exact .inr ⟨bad, q, h1, h2, by omega, by omega, fun o K hK => h3 o false K hK⟩
theorem run_bar {s : List (BitVec 8)} {y : St} (hy : s[y.at_]? = some 124#8) : run s y = run s ⟨y.at_ + 1, (branchEnd y).ops, ⟨true, false⟩, y.outer⟩ := by
 rw [run_step hy]
 unfold step
 rw [if_neg (by decide), if_neg (by decide), if_pos rfl]
 rfl
theorem AStat.next {w1 : World} {s : List (BitVec 8)} {deep k p n b kk j m m1 : Nat} {sv : Value} {cs cs1 : List Value} {ops : List Rop} (hn : n ≤ 80) (hgd : Gd w1 cs ops) (hk : k ≤ kk) (hkn : kk ≤ n) (hm : m ≤ 4 * (kk - k) + 1) (hok : AltOk s deep k ops kk) (hy : s[kk]? = some 124#8) (hm1 : m1 ≤ 1000 * (9 - deep) + 500) (hj : j ≤ 202 + 10 * (9 - deep))
  (h : (∃ l0 np, Rc w1 b sv 0 p ∧ Gd w1 cs1 (l0 ++ (if np then [] else [one 2])) ∧ kk + 1 ≤ j ∧ j ≤ n ∧ (s[j]? = none ∨ s[j]? = some 124#8 ∨ s[j]? = some 41#8) ∧ m1 ≤ 4 * (j - (kk + 1)) + 1 ∧ BrRun s deep (kk + 1) l0 np j) ∨ (∃ bad q, bad ≠ 0 ∧ Rc w1 b sv bad q ∧ BrBad s deep (kk + 1) bad q)) :
  AStat s deep k p n w1 b sv j (m + m1 + 1) (cs ++ cs1 ++ oneC 4) ∧ (badOf b w1 = 0 → kk < j ∧ j ≤ n) := by
 rcases h with ⟨l0, np, h1, h2, h3, h4, h5, h6, h7⟩ | ⟨bad, q, h1, h2, h3⟩
 ·refine ⟨.inl ⟨_, h1, (hgd.app h2).app (Gd.single _ 4), by omega, h4, h5, by omega, fun o K hK => ?_⟩, fun _ => ⟨by omega, h4⟩⟩
  obtain ⟨y, e1, e2, e3, e4⟩ := hok o K hK
  refine ⟨⟨j, (o ++ ops) ++ l0, ⟨true, np⟩, K⟩, ?_, rfl, rfl, ?_⟩
  ·rw [e1, run_bar (by rw [e2]; exact hy), e2, e3, e4]
   exact h7 _ true K hK
  ·show ((o ++ ops) ++ l0) ++ (if np then [] else [one 2]) ++ (if true = true then [one 4] else []) = _
   simp only [if_true, List.append_assoc]
 ·refine ⟨.inr ⟨bad, q, h1, h2, by omega, by omega, fun o K hK => ?_⟩, fun e => by rw [badOf_rc h2] at e; omega⟩
  obtain ⟨y, e1, e2, e3, e4⟩ := hok o K hK
  rw [e1, run_bar (by rw [e2]; exact hy), e2, e3, e4]
  exact h3 _ true K hK
theorem tr_badOf {b bad q : Nat} {V V' : World} {sv : Value} (h : Rc V b sv bad q) (ht : Tr b V V') : badOf b V' = badOf b V := by rw [badOf_rc h, badOf_rc (ht.rc h)]
theorem AStat.rc {s : List (BitVec 8)} {deep k p n b kk m : Nat} {V : World} {sv : Value} {cs : List Value} (h : AStat s deep k p n V b sv kk m cs) : ∃ bad q, Rc V b sv bad q := by
 rcases h with ⟨l0, h1, _⟩ | ⟨bad, q, _, h2, _⟩
 ·exact ⟨_, _, h1⟩
 ·exact ⟨_, _, h2⟩
theorem ralt (w : World) (B b : Nat) (A : Option Addr) (n c p k deep : Nat) (s : List (BitVec 8)) (h : Rc w b (.slice A n c) 0 p) (hs : Bs w B A n s) (hB : B ≤ b) (hk : k ≤ n) (hn : n ≤ 80) (hd : deep ≤ 8)
  (con : ∀ (W : World) (j q : Nat), Rc W b (.slice A n c) 0 q → Bs W B A n s → j < n → deep < 8 → Calls Tryz.prog 108 #[.pointer (some ⟨b, 0, none⟩), .int .i64 ((j : Int) + 1), .int .i64 ((deep : Int) + 1)] W (RlSays W b (.slice A n c) s n (deep + 1) (j + 1) q)) :
  Calls Tryz.prog 108 #[.pointer (some ⟨b, 0, none⟩), .int .i64 (k : Int), .int .i64 (deep : Int)] w (RlSays w b (.slice A n c) s n deep k p) := by
 have hl := hs.len
 have hbw := h.lt
 have con1 := rbranch w B b A n c p k deep s h hs hB hk hn hd con
 have BR := Lib.hid (fun (W : World) (kk : Nat) (hrc : Rc W b (.slice A n c) 0 p) (hbs : Bs W B A n s) (hkk : kk ≤ n) => rbranch W B b A n c p kk deep s hrc hbs hB hkk hn hd con)
 have CON1 := Lib.hid con1
 have HS := Lib.hid hs
 have HD := Lib.hid hd
 clear h hs con con1 hd
 go_enter Tryz.func108, Tryz.ntmps108
 go_wp2_with fail
 refine CON1.out.mono ?_
 clear CON1
 rintro e w1 ⟨A1, m1, c1, cs1, j, rfl, hbo, hm1, hj, hst⟩
 have HBO := Lib.hid hbo
 have HST := Lib.hid (AStat.first hm1 hj hst)
 clear hbo hm1 hj hst
 go_wp2_with fail
 go_loopw [1, 8] (fun v1 v8 wr => ∃ (kk m c' : Nat) (A' : Option Addr) (cs : List Value), v1 = .int .i64 (kk : Int) ∧ v8 = .slice A' m c' ∧ Bo w wr b A' m c' cs ∧ AStat s deep k p n wr b (.slice A n c) kk m cs) (fun v1 _ wr => if badOf b wr = 0 then n + 1 - (intOf v1).toNat else 0)
 case atStart => exact ⟨j, m1, c1, A1, cs1, rfl, rfl, HBO.out, HST.out⟩
 case round =>
  clear HBO HST
  obtain ⟨kk, m, c', A', cs, rfl, rfl, hbo, hst⟩ := hrel
  have HBO := Lib.hid hbo
  have hws := hbo.frm.size
  clear hbo
  rcases hst with ⟨ops, hrc, hgd, hkk, hkn, hend, hm, hok⟩ | ⟨bad, q, hbad, hrc, hm, hj, hbr⟩
  ·have r1 := Cel.cell hrc 1
   have HRC := Lib.hid hrc
   have HGD := Lib.hid hgd
   have HOK := Lib.hid hok
   have HM := Lib.hid hm
   have HEND := Lib.hid hend
   have hkm : (if badOf b wr = 0 then n + 1 - (intOf (.int .i64 (kk : Int))).toNat else 0) = n + 1 - kk := by rw [if_pos (by rw [badOf_rc hrc]; rfl)]; simp [intOf]
   have HKM := Lib.hid hkm
   have HBW := Lib.hid ((Ra.mk hrc HBO.out.frm).bs HS.out hB hbw)
   clear hrc hgd hok hm hkm hend
   go_wp2_with fail
   refine (ris wr B b A n c 0 p kk s 124#8 HRC.out HBW.out).mono ?_
   rintro e w0 ⟨rfl, rfl⟩
   by_cases hbar : s[kk]? = some 124#8
   ·rw [decide_eq_true hbar]
    have HBAR := Lib.hid hbar
    have hk1 : kk + 1 ≤ n := by have := get_lt hbar; omega
    have con2 := BR.out wr (kk + 1) HRC.out HBW.out hk1
    rw [show ((kk + 1 : Nat) : Int) = (kk : Int) + 1 by omega] at con2
    have CON2 := Lib.hid con2
    clear con2 hbar
    go_wp2_with fail
    refine CON2.out.mono ?_
    clear CON2
    rintro e w2 ⟨A2, m2, c2, cs2, j2, rfl, hbo2, hm2, hj2, hst2⟩
    have hgd2 := HGD.out.looked HRC.out hbo2.frm
    have hnx := AStat.next (cs1 := cs2) hn hgd2 hkk hkn HM.out HOK.out HBAR.out hm2 hj2 hst2
    have HNX := Lib.hid hnx
    have HB2 := Lib.hid (HBO.out.looked hbw hbo2.frm)
    have HSL := Lib.hid hbo2.sl
    have hs2 := hbo2.frm.size
    clear hst2
    have hmb : m + m2 ≤ 12000 := by have := HM.out; omega
    have hj4 : j2 ≤ 400 := by omega
    clear hbo2 hm2 hj2 hgd2 hnx
    go_wp2_with (first | (at_builtin; refine wpList_append_any _ rfl _ _ 126 rfl w.heap.size 208 rrowOp (.slice A' m c') m cs rfl HB2.out.own A2 m2 c2 cs2 rfl HSL.out.1 HSL.out.src HSL.out.2.1 (m + m2) (cs ++ cs2) rfl rfl (by unfold maxLen; omega) (by omega) (by omega) ?_; intro A3 c3 w3 ho3 hg3 _; have HB3 := Lib.hid (HB2.out.pushed hg3 ho3 HSL.out.2.1); have HT3 := Lib.hid (Tr.grown HB2.out hbw hg3); have hs3 := HB3.out.frm.size; have HSR3 := Lib.hid (src_one w3 4); have HB6 := Lib.hid (HB3.out.below hbw ((Below.refl w3.heap.size w3).alloc (Nat.le_refl _) (.cells #[.int .i64 4, .bool false, .slice none 0 0] 208))); clear ho3 hg3) | (at_builtin; refine wpList_append_any _ rfl _ _ 126 rfl w.heap.size 208 rrowOp (.slice A3 (m + m2) c3) (m + m2) (cs ++ cs2) rfl HB6.out.own (some ⟨w3.heap.size, 0, none⟩) 1 1 (oneC 4) rfl rfl HSR3.out (oneC_one 4) (m + m2 + 1) (cs ++ cs2 ++ oneC 4) rfl rfl (by unfold maxLen; omega) (by omega) (by simp; omega) ?_; intro A4 c4 w4 ho4 hg4 _; have HB4 := Lib.hid (HB6.out.pushed hg4 ho4 (oneC_one 4)); have HT4 := Lib.hid (HT3.out.trans ((Tr.below (b := b) ((Below.refl w3.heap.size w3).alloc (Nat.le_refl _) (.cells #[.int .i64 4, .bool false, .slice none 0 0] 208))).trans (Tr.grown HB6.out hbw hg4))); clear ho4 hg4))
    obtain ⟨bad2, q2, hrc2⟩ := HNX.out.1.rc
    refine ⟨⟨j2, _, _, _, _, rfl, rfl, HB4.out, HNX.out.1.tr HT4.out⟩, rset_down HKM.out (fun e => HNX.out.2 (by rw [← tr_badOf hrc2 HT4.out]; exact e)) hkn⟩
   ·rw [decide_eq_false hbar]
    have HE2 := Lib.hid (show s[kk]? = none ∨ s[kk]? = some 41#8 from by
     rcases HEND.out with q | q | q
     ·exact .inl q
     ·exact absurd q hbar
     ·exact .inr q)
    clear hbar
    go_wp2_with fail
    go_ret2
    exact ⟨A', m, c', cs, kk, rfl, HBO.out.own, HBO.out.one, by have := HM.out; have := HD.out; omega, by omega, HBO.out.frm, .inl ⟨ops, HRC.out, HGD.out, hkk, hkn, HE2.out, HM.out, HOK.out⟩⟩
  ·have r1 := Cel.cell hrc 1
   have HRC := Lib.hid hrc
   have HBR := Lib.hid hbr
   have d0 : ((bad : Int) == 0) = false := by rw [beq_eq_false_iff_ne]; omega
   have HM := Lib.hid hm
   have HJ := Lib.hid hj
   clear hrc hbr hm hj
   go_wp2_with fail
   go_ret2
   exact ⟨A', m, c', cs, kk, rfl, HBO.out.own, HBO.out.one, by have := HM.out; have := HD.out; omega, by have := HJ.out; omega, HBO.out.frm, .inr ⟨bad, q, hbad, HRC.out, HBR.out⟩⟩
theorem ralt_all (B b : Nat) (A : Option Addr) (n c : Nat) (s : List (BitVec 8)) (hB : B ≤ b) (hn : n ≤ 80) : ∀ (d deep : Nat), deep + d = 8 → ∀ (w : World) (p k : Nat), Rc w b (.slice A n c) 0 p → Bs w B A n s → k ≤ n →
  Calls Tryz.prog 108 #[.pointer (some ⟨b, 0, none⟩), .int .i64 (k : Int), .int .i64 (deep : Int)] w (RlSays w b (.slice A n c) s n deep k p) := by
 intro d
 induction d with
 | zero => intro deep hd w p k h hs hk; exact ralt w B b A n c p k deep s h hs hB hk hn (by omega) fun W j q _ _ _ hlt => absurd hlt (by omega)
 | succ d ih =>
  intro deep hd w p k h hs hk
  refine ralt w B b A n c p k deep s h hs hB hk hn (by omega) fun W j q h1 h2 h3 _ => ?_
  have := ih (deep + 1) (by omega) W q (j + 1) h1 h2 h3
  rwa [show ((j + 1 : Nat) : Int) = (j : Int) + 1 by omega, show ((deep + 1 : Nat) : Int) = (deep : Int) + 1 by omega] at this
end Go.Proofs.YteohlpmojfjjdaaGreat.Reg
end
section
namespace Go.Proofs.YteohlpmojfjjdaaGreat.Reg
open Go.RowKit
def RParseSays (w : World) (r : Except (Nat × Nat) (List Rop)) (e : Ending) (w' : World) : Prop := Below w.heap.size w w' ∧ match r with
 | .error (bad, p) => bad ≠ 0 ∧ e = .returned (.tuple #[.slice none 0 0, .int .i64 (p : Int), .int .i64 (bad : Int)])
 | .ok l => ∃ A' c', e = .returned (.tuple #[.slice A' l.length c', .int .i64 0, .int .i64 0]) ∧ ROws w' w.heap.size (.slice A' l.length c') l
theorem own_less {w : World} {base base' e size n : Nat} {v : Value} {us : List Value} (h : w.ownsRow base e size v n us) (hb : base' ≤ base) : w.ownsRow base' e size v n us :=
 ⟨h.1, h.2.imp id fun ⟨g', cap, cur, h1, h2, h3⟩ => ⟨g', cap, cur, h1, by omega, h3⟩⟩
theorem rows_of {V : World} {B m c : Nat} {A : Option Addr} {cs : List Value} {ops : List Rop} (h : V.ownsRow B 208 3 (.slice A m c) m cs) (hg : Gd V cs ops) : m = ops.length ∧ ROws V B (.slice A ops.length c) ops := by
 obtain ⟨us, rfl, rfl, h3⟩ := hg
 have hl := h.1
 rw [oflat_length] at hl
 have hm : m = (us.map (·.o)).length := by rw [List.length_map]; omega
 subst hm
 exact ⟨rfl, us, h, rfl, h3⟩
theorem rparse (w : World) (B : Nat) (A : Option Addr) (n c : Nat) (s : List (BitVec 8)) (hs : Bs w B A n s) (hB : B ≤ w.heap.size) :
  Calls Tryz.prog 71 #[.slice A n c] w (RParseSays w (parse s)) := by
 have hl := hs.len
 by_cases h80 : 80 < n
 ·rw [parseR_full (by omega)]
  have d1 : decide (80 < n) = true := decide_eq_true h80
  clear hs
  go_enter Tryz.func71, Tryz.ntmps71
  go_wp2_with fail
  refine bodyPost_ret (v := .tuple #[.slice none 0 0, .int .i64 0, .int .i64 3]) (results3 2 3 4 rfl _ _ _ rfl rfl rfl) rfl ?_
  exact ⟨Below.refl _ _, by decide, rfl⟩
 ·rw [parseR_run (by omega)]
  have d1 : decide (80 < n) = false := decide_eq_false h80
  have hn80 : n ≤ 80 := by omega
  generalize hW : w.alloc (.cells #[.slice A n c, .int .i64 0, .int .i64 0] 161) = W
  have hWs : W.heap.size = w.heap.size + 1 := by rw [← hW]; simp
  have hbW : Below w.heap.size w W := by rw [← hW]; exact (Below.refl _ _).alloc (Nat.le_refl _) _
  have hcW : Rc W w.heap.size (.slice A n c) 0 0 := by rw [← hW]; exact Cel.new w _ _
  have hbs : Bs W w.heap.size A n s := (hs.below (hbW.mono hB)).more hB
  have con := ralt_all w.heap.size w.heap.size A n c s (Nat.le_refl _) hn80 8 0 rfl W 0 0 hcW hbs (Nat.zero_le _)
  have HBW := Lib.hid hbW
  have HBS := Lib.hid hbs
  have CON := Lib.hid con
  clear hs hbW hcW hbs con
  go_enter Tryz.func71, Tryz.ntmps71
  go_wp2_with fail
  refine CON.out.mono ?_
  clear CON hW
  rintro e w1 ⟨A1, m1, c1, cs, j, rfl, ho, hone, hm, hj, hf, hst⟩
  have HO := Lib.hid ho
  have hlow := Lib.hid (HBW.out.trans (hf.below (B := w.heap.size) (by omega) (by simp)))
  clear ho hone hm
  rcases hst with ⟨ops, hrc, hgd, -, hjn, hend, -, hok⟩ | ⟨bad, q, hbad, hrc, hb⟩
  ·obtain ⟨y, e1, e2, e3, e4⟩ := hok [] [] rfl
   replace e1 : run s St0 = run s y := e1
   rw [List.nil_append] at e4
   have r1 := Cel.cell hrc 1
   have HRC := Lib.hid hrc
   have HGD := Lib.hid hgd
   rcases hend with hend | hend
   ·have hjl : j = s.length := by
     rcases Nat.lt_or_ge j s.length with q | q
     ·rw [List.getElem?_eq_getElem q] at hend; cases hend
     ·omega
    have hr : run s St0 = .ok ops := by rw [e1, run_end (e2.trans hjl), if_neg (by rw [e3]; simp), e4]
    have HR := Lib.hid hr
    have dj : decide (j < n) = false := by simp; omega
    clear hrc hgd hok e1 e2 e3 e4 hend hjl hr hf hj
    go_wp2_with fail
    refine bodyPost_ret (v := .tuple #[.slice A1 m1 c1, .int .i64 0, .int .i64 0]) (results3 2 3 4 rfl _ _ _ rfl rfl rfl) rfl ?_
    unfold RParseSays
    rw [HR.out]
    obtain ⟨rfl, hrow⟩ := rows_of (own_less HO.out (show w.heap.size ≤ W.heap.size by omega)) HGD.out
    exact ⟨hlow.out, A1, c1, rfl, hrow⟩
   ·have hr : run s St0 = .error (2, j) := by
     rw [e1, run_step (x := y) (by rw [e2]; exact hend)]
     unfold step
     rw [if_neg (by decide), if_pos rfl, e3, e2]
    have HR := Lib.hid hr
    have hjlt : j < n := by have := get_lt hend; omega
    have dj : decide (j < n) = true := decide_eq_true hjlt
    have con2 := rwrong w1 w.heap.size (.slice A n c) j 2 0 HRC.out
    clear hrc hgd hok e1 e2 e3 e4 hend hr hf hj
    go_wp2_with fail
    refine con2.mono ?_
    clear con2
    rintro e w2 ⟨rfl, hra⟩
    have q1 := Cel.cell hra.rc 1
    have q2 := Cel.cell hra.rc 2
    have HB2 := Lib.hid (hlow.out.trans (hra.frm.below (B := w.heap.size) (by have := HRC.out.lt; omega) (by simp)))
    clear hra r1
    go_wp2_with fail
    go_quiet (fail)
    go_wp2_with fail
    refine bodyPost_ret (v := .tuple #[.slice none 0 0, .int .i64 (j : Int), .int .i64 2]) (results3 2 3 4 rfl _ _ _ rfl rfl rfl) rfl ?_
    unfold RParseSays
    rw [HR.out]
    exact ⟨Below.drewN9 HB2.out _, by decide, rfl⟩
  ·have hr : run s St0 = .error (bad, q) := hb [] [] rfl
   have HR := Lib.hid hr
   have q1 := Cel.cell hrc 1
   have q2 := Cel.cell hrc 2
   have d0 : ((bad : Int) == 0) = false := by rw [beq_eq_false_iff_ne]; omega
   have d2 : ((bad : Int) != 0) = true := by rw [bne_iff_ne]; omega
   clear hrc hb hr hf hj
   go_wp2_with fail
   go_quiet (fail)
   go_wp2_with fail
   refine bodyPost_ret (v := .tuple #[.slice none 0 0, .int .i64 (q : Int), .int .i64 (bad : Int)]) (results3 2 3 4 rfl _ _ _ rfl rfl rfl) rfl ?_
   unfold RParseSays
   rw [HR.out]
   exact ⟨Below.drewN9 hlow.out _, hbad, rfl⟩
end Go.Proofs.YteohlpmojfjjdaaGreat.Reg
end
section
namespace Go.Proofs.YteohlpmojfjjdaaGreat.Nfa
open Go.RowKit
open Reg (Ov oflat RSpn sflat results_at range_of setCells2 oflat_length)
theorem flat_at {α : Type} (f : α → List Value) (m : Nat) (hf : ∀ x, (f x).length = m) : ∀ (xs : List α) (i k : Nat) (x : α), xs[i]? = some x → k < m → (xs.flatMap f)[i * m + k]? = (f x)[k]?
 | [], _, _, _, h, _ => by simp at h
 | y :: ys, 0, k, x, h, hk => by
  simp at h
  subst h
  rw [List.flatMap_cons, List.getElem?_append_left (by rw [hf]; omega), Nat.zero_mul, Nat.zero_add]
 | y :: ys, i + 1, k, x, h, hk => by
  have h1 := flat_at f m hf ys i k x (by simpa using h) hk
  rw [List.flatMap_cons, List.getElem?_append_right (by rw [hf, Nat.succ_mul]; omega)]
  rw [← h1, hf]
  congr 1
  rw [Nat.succ_mul]
  omega
theorem add_at (ad : Addr) (i k : Nat) (hk : 0 < k) : (⟨(ad.add i).block, (ad.add i).off + k, none⟩ : Addr) = ad.add (i + k) := by
 rw [← add_add]
 generalize ad.add i = q
 unfold Addr.add
 rw [if_neg (by omega)]
structure Rl (w : World) (A : Option Addr) (us : List Ov) : Prop where
 ry : Ry 208 w A (oflat us)
 sp : ∀ u ∈ us, RSpn w u.A u.o.sp
theorem Rl.below {w w' : World} {A : Option Addr} {us : List Ov} (h : Rl w A us) (hb : Below w.heap.size w w') : Rl w' A us := ⟨h.ry.below hb, fun u hu => Ry.below (h.sp u hu) hb⟩
theorem Rl.at_ {w : World} {A : Option Addr} {us : List Ov} (h : Rl w A us) {i : Nat} {u : Ov} (hi : us[i]? = some u) :
  ∃ ad, A = some ad ∧ w.cell? (ad.add (i * 3)) = some (.int .i64 u.o.kind) ∧ w.cell? ⟨(ad.add (i * 3)).block, (ad.add (i * 3)).off + 1, none⟩ = some (.bool u.o.neg) ∧ w.cell? ⟨(ad.add (i * 3)).block, (ad.add (i * 3)).off + 2, none⟩ = some (.slice u.A u.o.sp.length u.c) := by
 have e : ∀ k, k < 3 → (oflat us)[i * 3 + k]? = u.cells[k]? := fun k hk => flat_at Ov.cells 3 (fun _ => rfl) us i k u hi hk
 obtain ⟨ad, rfl, hc⟩ := h.ry (fun q => by have := e 0 (by decide); rw [q] at this; simp [Ov.cells] at this)
 exact ⟨ad, rfl, hc.2 _ _ (e 0 (by decide)), by rw [add_at _ _ 1 (by decide)]; exact hc.2 _ _ (e 1 (by decide)), by rw [add_at _ _ 2 (by decide)]; exact hc.2 _ _ (e 2 (by decide))⟩
structure Iv where
 i : In
 A : Option Addr
 c : Nat
def Iv.cells (u : Iv) : List Value := [.int .i64 u.i.kind, .int .i64 u.i.x, .int .i64 u.i.y, .bool u.i.neg, .slice u.A u.i.sp.length u.c]
def iflat (us : List Iv) : List Value := us.flatMap Iv.cells
theorem iflat_length (us : List Iv) : (iflat us).length = us.length * 5 := by
 induction us with
 | nil => rfl
 | cons x l ih => rw [iflat, List.flatMap_cons, List.length_append, show (l.flatMap Iv.cells) = iflat l from rfl, ih]; show 5 + l.length * 5 = (l.length + 1) * 5; omega
theorem iflat_app (us vs : List Iv) : iflat (us ++ vs) = iflat us ++ iflat vs := by simp [iflat]
theorem iflat_one (us : List Iv) : ∀ u ∈ iflat us, u.oneCell' = true := by
 intro u hu
 obtain ⟨x, _, hx⟩ := List.mem_flatMap.1 hu
 simp [Iv.cells] at hx
 rcases hx with rfl | rfl | rfl | rfl | rfl <;> rfl
structure Ri (w : World) (B : Nat) (A : Option Addr) (n c : Nat) (us : List Iv) : Prop where
 own : w.ownsRow B 170 5 (.slice A n c) n (iflat us)
 len : us.length = n
 sp : ∀ u ∈ us, RSpn w u.A u.i.sp
section
variable {w w' : World} {B B' n c : Nat} {A : Option Addr} {us : List Iv}
theorem Ri.ry (h : Ri w B A n c us) : Ry 170 w A (iflat us) := Ry.of_own h.own (by decide)
theorem Ri.below (h : Ri w B A n c us) (hb : Below w.heap.size w w') : Ri w' B A n c us := ⟨own_frm (l := []) h.own (Frm.of_below hb) (by simp), h.len, fun u hu => Ry.below (h.sp u hu) hb⟩
theorem Ri.nil_ (w : World) (B : Nat) : Ri w B none 0 0 [] := ⟨World.ownsRow_nil _ _ _ _, rfl, by simp⟩
theorem Ri.src (h : Ri w B A n c us) : Src w A n (iflat us) := Ry.src h.ry (fun hm e => by have := iflat_length us; rw [e, h.len] at this; simp at this; omega)
theorem Ri.less (h : Ri w B A n c us) (hb : B' ≤ B) : Ri w B' A n c us := ⟨⟨h.own.1, h.own.2.imp id fun ⟨g', cap, cur, h1, h2, h3⟩ => ⟨g', cap, cur, h1, by omega, h3⟩⟩, h.len, h.sp⟩
theorem Ri.pushed {c' n' : Nat} {A' : Option Addr} {vs : List Iv} {cs : List Value} (h : Ri w B A n c us) (hv : ∀ u ∈ vs, RSpn w u.A u.i.sp) (hn : n' = n + vs.length) (hcs : cs = iflat us ++ iflat vs) (hg : w.grownBy w' (Value.slice A n c).ownBlock) (ho : w'.ownsRow B 170 5 (.slice A' n' c') n' cs) : Ri w' B A' n' c' (us ++ vs) := by
 subst hcs
 refine ⟨by rw [iflat_app]; exact ho, by rw [List.length_append, h.len, hn], fun u hu => ?_⟩
 rcases List.mem_append.1 hu with q | q
 ·exact Ry.grown (h.sp u q) hg (own_not_ty h.own (by decide))
 ·exact Ry.grown (hv u q) hg (own_not_ty h.own (by decide))
theorem Ri.grew (h : Ri w B A n c us) (hg : w.grownBy w' (Value.slice A n c).ownBlock) (hB : B ≤ w.heap.size) : Below B w w' :=
 ⟨hg.os, hg.tape, hg.output, hg.size, fun k hk => hg.block k (by omega) fun e => by have := own_ge h.own k e.symm; omega⟩
theorem Ri.lit (w : World) (hB : B ≤ w.heap.size) (u : Iv) (hs : RSpn w u.A u.i.sp) : Ri (w.alloc (.cells u.cells.toArray 170)) B (some ⟨w.heap.size, 0, none⟩) 1 1 [u] :=
 ⟨by
  have := World.ownsRow_lit (base := B) (e := 170) (size := 5) w u.cells.toArray 1 hB (by decide) rfl
  simpa [iflat] using this, rfl, by intro v hv; rw [List.mem_singleton.1 hv]; exact Ry.alloc hs _⟩
end
def pv (i : In) : Iv := ⟨i, none, 0⟩
def pcells (k x y : Int) : List Value := [.int .i64 k, .int .i64 x, .int .i64 y, .bool false, .slice none 0 0]
theorem pcells_one (k x y : Int) : ∀ u ∈ pcells k x y, u.oneCell' = true := by
 intro u hu
 simp [pcells] at hu
 rcases hu with rfl | rfl | rfl | rfl | rfl <;> rfl
theorem pv_sp (w : World) (k x y : Int) : ∀ u ∈ [pv ⟨k, x, y, false, []⟩], RSpn w u.A u.i.sp := by
 intro u hu
 rw [List.mem_singleton.1 hu]
 exact Ry.nil_
theorem src_pv (V : World) (k x y : Int) : Src (V.alloc (.cells (pcells k x y).toArray 170)) (some ⟨V.heap.size, 0, none⟩) 1 (pcells k x y) := Ry.src (m := 1) (Ry.of_cel (Cel.new V 170 (pcells k x y))) (by simp [pcells])
theorem rinfoIn : (Tryz.prog.info? 170).map (fun i => (i.zero, i.size, i.bytes)) = some (some (.agg #[.int .i64 0, .int .i64 0, .int .i64 0, .bool false, .slice none 0 0]), 5, 56) := by kernel_rfl
theorem rrowIn : ElemRow Tryz.prog 129 170 5 56 := ElemRow.mk' Tryz.underlying129 rinfoIn rfl (by decide)
end Go.Proofs.YteohlpmojfjjdaaGreat.Nfa
end
section
namespace Go.Proofs.YteohlpmojfjjdaaGreat.Nfa
open Go.RowKit
open Reg (Ov oflat RSpn sflat takes does piled weight heavy piled_append)
def takesI (k : Int) : Int := match takes k with
 | some t => (t : Int)
 | none => -1
theorem rtakes (w : World) (k : Int) : Calls Tryz.prog 143 #[.int .i64 k] w fun e w' => e = .returned (.int .i64 (takesI k)) ∧ w = w' := by
 unfold takesI takes
 by_cases h1 : k = 1
 ·subst h1
  go_enter Tryz.func143, Tryz.ntmps143
  go_wp2_with fail
  go_ret
  exact ⟨rfl, rfl⟩
 by_cases h2 : k = 2
 ·subst h2
  go_enter Tryz.func143, Tryz.ntmps143
  go_wp2_with fail
  go_ret
  exact ⟨rfl, rfl⟩
 by_cases h3 : k = 3
 ·subst h3
  go_enter Tryz.func143, Tryz.ntmps143
  go_wp2_with fail
  go_ret
  exact ⟨rfl, rfl⟩
 by_cases h4 : k = 4
 ·subst h4
  go_enter Tryz.func143, Tryz.ntmps143
  go_wp2_with fail
  go_ret
  exact ⟨rfl, rfl⟩
 by_cases h5 : k = 5
 ·subst h5
  go_enter Tryz.func143, Tryz.ntmps143
  go_wp2_with fail
  go_ret
  exact ⟨rfl, rfl⟩
 by_cases h6 : k = 6
 ·subst h6
  go_enter Tryz.func143, Tryz.ntmps143
  go_wp2_with fail
  go_ret
  exact ⟨rfl, rfl⟩
 by_cases h7 : k = 7
 ·subst h7
  go_enter Tryz.func143, Tryz.ntmps143
  go_wp2_with fail
  go_ret
  exact ⟨rfl, rfl⟩
 rw [if_neg (by omega), if_neg (by omega), if_neg (by omega)]
 have d1 : (k == 1) = false := beq_eq_false_iff_ne.2 h1
 have d2 : (k == 2) = false := beq_eq_false_iff_ne.2 h2
 have d3 : (k == 3) = false := beq_eq_false_iff_ne.2 h3
 have d4 : (k == 4) = false := beq_eq_false_iff_ne.2 h4
 have d5 : (k == 5) = false := beq_eq_false_iff_ne.2 h5
 have d6 : (k == 6) = false := beq_eq_false_iff_ne.2 h6
 have d7 : (k == 7) = false := beq_eq_false_iff_ne.2 h7
 clear h1 h2 h3 h4 h5 h6 h7
 go_enter Tryz.func143, Tryz.ntmps143
 go_wp2_with fail
 go_ret
 exact ⟨rfl, rfl⟩
theorem piled_le (l : List Reg.Rop) : ∀ n k, piled n l = some k → k ≤ n + l.length := by
 induction l with
 | nil => intro n k h; injection h with h; omega
 | cons o l ih =>
  intro n k h
  have h : (match does n o.kind with | none => none | some m => piled m l) = some k := h
  split at h
  ·cases h
  ·rename_i m hm
   have := ih m k h
   unfold does at hm
   split at hm
   ·cases hm
   ·rename_i t ht
    split at hm
    ·cases hm
    ·injection hm with hm
     simp; omega
theorem piled_take {l : List Reg.Rop} {k : Nat} {o : Reg.Rop} (h : l[k]? = some o) {n : Nat} (hn : piled 0 (l.take k) = some n) : piled 0 (l.take (k + 1)) = does n o.kind := by
 rw [List.take_add_one, h, piled_append, hn]
 show (match does n o.kind with | none => none | some m => some m) = _
 cases does n o.kind <;> rfl
theorem piled_none {l : List Reg.Rop} {k : Nat} (h : piled 0 (l.take k) = none) : piled 0 l = none := by
 have := piled_append (l.take k) (l.drop k) 0
 rw [List.take_append_drop, h] at this
 exact this
theorem rmay (w : World) (A : Option Addr) (n c : Nat) (us : List Ov) (h : Rl w A us) (hl : us.length = n) (hn : n ≤ 1000) :
  Calls Tryz.prog 110 #[.slice A n c] w fun e w' => e = .returned (.bool (decide (piled 0 (us.map (·.o)) = some 1))) ∧ w = w' := by
 have H := Lib.hid h
 generalize hops : us.map (·.o) = ops
 have HOPS := Lib.hid hops
 have hol : ops.length = n := by rw [← hops, List.length_map, hl]
 clear h hops
 go_enter Tryz.func110, Tryz.ntmps110
 go_wp2_with fail
 go_loopw [3, 4] (fun v3 v4 wr => ∃ (i m : Nat), i ≤ n ∧ v4 = .int .i64 (i : Int) ∧ v3 = .int .i64 (m : Int) ∧ piled 0 (ops.take i) = some m ∧ m ≤ i ∧ wr = w) (fun _ v4 _ => n - (intOf v4).toNat)
 case atStart => exact ⟨0, 0, Nat.zero_le _, rfl, rfl, by simp [piled], Nat.le_refl _, rfl⟩
 case round =>
  obtain ⟨i, m, hi, rfl, rfl, hp, hm, rfl⟩ := hrel
  have HP := Lib.hid hp
  clear hp
  rcases Nat.lt_or_ge i n with hlt | hge
  ·obtain ⟨u, hu⟩ : ∃ u, us[i]? = some u := ⟨_, List.getElem?_eq_getElem (by omega)⟩
   obtain ⟨ad, rfl, k0, k1, k2⟩ := H.out.at_ hu
   have ho : ops[i]? = some u.o := by rw [← HOPS.out, List.getElem?_map, hu]; rfl
   have HN := Lib.hid (piled_take ho HP.out)
   have HT := Lib.hid (show takesI u.o.kind = match takes u.o.kind with | some t => (t : Int) | none => -1 from rfl)
   clear hu ho
   generalize u.o.kind = kd at *
   go_wp2_with fail
   refine (rtakes wr kd).mono ?_
   rintro e w1 ⟨rfl, rfl⟩
   unfold does at HN
   rcases ht : takes kd with _ | t
   ·rw [HT.out, ht]
    rw [ht] at HN
    have HN2 := Lib.hid (piled_none HN.out)
    clear ht
    dsimp only
    go_wp2_with fail
    go_ret
    rw [HN2.out]
    exact ⟨rfl, rfl⟩
   ·rw [HT.out, ht]
    rw [ht] at HN
    dsimp only at HN ⊢
    have ht2 : t ≤ 2 := by
     unfold takes at ht
     split at ht
     ·injection ht with ht; omega
     ·split at ht
      ·injection ht with ht; omega
      ·split at ht
       ·injection ht with ht; omega
       ·cases ht
    have dt : decide ((t : Int) < 0) = false := by simp
    clear ht
    by_cases hmt : m < t
    ·rw [if_pos hmt] at HN
     have HN2 := Lib.hid (piled_none HN.out)
     have d1 : decide (m < t) = true := decide_eq_true hmt
     clear hmt
     go_wp2_with fail
     go_ret
     rw [HN2.out]
     exact ⟨rfl, rfl⟩
    ·rw [if_neg hmt] at HN
     have d1 : decide (m < t) = false := decide_eq_false hmt
     go_wp2_with fail
     exact ⟨⟨i + 1, m - t + 1, by omega, by rw [show ((i + 1 : Nat) : Int) = (i : Int) + 1 by omega], by rw [show ((m - t + 1 : Nat) : Int) = (m : Int) - t + 1 by omega], HN.out, by omega, by simp⟩, by simp [intOf]; omega⟩
  ·obtain rfl : i = n := by omega
   have HP2 := Lib.hid (show piled 0 ops = some m by have := HP.out; rwa [List.take_of_length_le (by omega)] at this)
   have hmd : ((m : Int) == 1) = decide (m = 1) := by
    rw [Bool.eq_iff_iff]; simp only [beq_iff_eq, decide_eq_true_eq]; omega
   clear hge
   go_wp2_with fail
   go_ret
   rw [HP2.out]
   simp
theorem heavy_take {l : List Reg.Rop} {k : Nat} {o : Reg.Rop} (h : l[k]? = some o) : heavy (l.take (k + 1)) = heavy (l.take k) + weight o.kind := by
 rw [List.take_add_one, h, Reg.heavy_append]
 simp [heavy]
theorem heavy_le (l : List Reg.Rop) : heavy l ≤ 2 * l.length := by
 induction l with
 | nil => simp [heavy]
 | cons o l ih =>
  have : heavy (o :: l) = weight o.kind + heavy l := by simp [heavy]
  rw [this, List.length_cons]
  have : weight o.kind ≤ 2 := by unfold weight; split <;> (try split) <;> omega
  omega
theorem rmany (w : World) (A : Option Addr) (n c : Nat) (us : List Ov) (h : Rl w A us) (hl : us.length = n) (hn : n ≤ 1000) :
  Calls Tryz.prog 111 #[.slice A n c] w fun e w' => e = .returned (.int .i64 ((heavy (us.map (·.o)) : Int) + 1)) ∧ w = w' := by
 have H := Lib.hid h
 generalize hops : us.map (·.o) = ops
 have HOPS := Lib.hid hops
 have hol : ops.length = n := by rw [← hops, List.length_map, hl]
 clear h hops
 go_enter Tryz.func111, Tryz.ntmps111
 go_wp2_with fail
 go_loopw [3, 4] (fun v3 v4 wr => ∃ (i m : Nat), i ≤ n ∧ v4 = .int .i64 (i : Int) ∧ v3 = .int .i64 ((m : Int) + 1) ∧ heavy (ops.take i) = m ∧ m ≤ 2 * i ∧ wr = w) (fun _ v4 _ => n - (intOf v4).toNat)
 case atStart => exact ⟨0, 0, Nat.zero_le _, rfl, rfl, by simp [heavy], by omega, rfl⟩
 case round =>
  obtain ⟨i, m, hi, rfl, rfl, hp, hm, rfl⟩ := hrel
  have HP := Lib.hid hp
  clear hp
  rcases Nat.lt_or_ge i n with hlt | hge
  ·obtain ⟨u, hu⟩ : ∃ u, us[i]? = some u := ⟨_, List.getElem?_eq_getElem (by omega)⟩
   obtain ⟨ad, rfl, k0, k1, k2⟩ := H.out.at_ hu
   have ho : ops[i]? = some u.o := by rw [← HOPS.out, List.getElem?_map, hu]; rfl
   have HN := Lib.hid (heavy_take ho)
   clear hu ho
   generalize u.o.kind = kd at *
   have fin : ∀ t : Nat, weight kd = t → t ≤ 2 → heavy (ops.take (i + 1)) = m + t := fun t e _ => by rw [HN.out, HP.out, e]
   have FIN := Lib.hid fin
   clear fin
   by_cases h4 : kd = 4 ∨ kd = 5
   ·have F := Lib.hid (FIN.out 2 (by unfold weight; rw [if_pos h4]) (by omega))
    have dor : (kd == 4) = true ∨ (kd == 4) = false ∧ (kd == 5) = true := by
     rcases h4 with q | q
     ·exact .inl (beq_iff_eq.2 q)
     ·exact .inr ⟨by rw [q]; rfl, beq_iff_eq.2 q⟩
    clear h4
    rcases dor with d1 | ⟨d1, d2⟩
    all_goals
     go_wp2_with fail
     exact ⟨⟨i + 1, m + 2, by omega, by rw [show ((i + 1 : Nat) : Int) = (i : Int) + 1 by omega], by rw [show ((m + 2 : Nat) : Int) + 1 = (m : Int) + 1 + 2 by omega], F.out, by omega, by simp⟩, by simp [intOf]; omega⟩
   ·have d1 : (kd == 4) = false := beq_eq_false_iff_ne.2 fun q => h4 (.inl q)
    have d2 : (kd == 5) = false := beq_eq_false_iff_ne.2 fun q => h4 (.inr q)
    by_cases h1 : kd = 1 ∨ kd = 6 ∨ kd = 7
    ·have F := Lib.hid (FIN.out 1 (by unfold weight; rw [if_neg h4, if_pos h1]) (by omega))
     have dor : (kd == 1) = true ∨ (kd == 1) = false ∧ (kd == 6) = true ∨ (kd == 1) = false ∧ (kd == 6) = false ∧ (kd == 7) = true := by
      rcases h1 with q | q | q
      ·exact .inl (beq_iff_eq.2 q)
      ·exact .inr (.inl ⟨by rw [q]; rfl, beq_iff_eq.2 q⟩)
      ·exact .inr (.inr ⟨by rw [q]; rfl, by rw [q]; rfl, beq_iff_eq.2 q⟩)
     clear h4 h1
     rcases dor with d3 | ⟨d3, d4⟩ | ⟨d3, d4, d5⟩
     all_goals
      go_wp2_with fail
      exact ⟨⟨i + 1, m + 1, by omega, by rw [show ((i + 1 : Nat) : Int) = (i : Int) + 1 by omega], by rw [show ((m + 1 : Nat) : Int) + 1 = (m : Int) + 1 + 1 by omega], F.out, by omega, by simp⟩, by simp [intOf]; omega⟩
    ·have F := Lib.hid (FIN.out 0 (by unfold weight; rw [if_neg h4, if_neg h1]) (by omega))
     have d3 : (kd == 1) = false := beq_eq_false_iff_ne.2 fun q => h1 (.inl q)
     have d4 : (kd == 6) = false := beq_eq_false_iff_ne.2 fun q => h1 (.inr (.inl q))
     have d5 : (kd == 7) = false := beq_eq_false_iff_ne.2 fun q => h1 (.inr (.inr q))
     clear h4 h1
     go_wp2_with fail
     exact ⟨⟨i + 1, m, by omega, by rw [show ((i + 1 : Nat) : Int) = (i : Int) + 1 by omega], rfl, F.out, by omega, by simp⟩, by simp [intOf]; omega⟩
  ·obtain rfl : i = n := by omega
   have HP2 := Lib.hid (show heavy ops = m by have := HP.out; rwa [List.take_of_length_le (by omega)] at this)
   clear hge
   go_wp2_with fail
   go_ret
   rw [HP2.out]
   exact ⟨rfl, rfl⟩
end Go.Proofs.YteohlpmojfjjdaaGreat.Nfa
end
