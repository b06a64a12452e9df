/-
  The document's parser of patterns (layer 8): branches behind one another; Parse.
-/
import Derived.Test.YtjpbndpfbdfhjaaMRegA
import Derived.Test.YtjpbndpfbdfhjaaMRegParse
namespace Go.Proofs.Ytjpbndpfbdfhjaa.Reg
open Go.RowKit
set_option linter.unusedVariables false
set_option linter.unusedSimpArgs false

theorem Gd.looked {V V' : World} {b bad q : Nat} {sv : Value} {cs : List Value} {l : List Rop} (h : Gd V cs l) (hr : Rc V b sv bad q) (hf : Frm [b] V V') : Gd V' cs l := by
  obtain ⟨us, e1, e2, e3⟩ := h
  refine ⟨us, e1, e2, fun u hu => (e3 u hu).frm hf fun g hg o fz e => ?_⟩
  rw [List.mem_singleton.1 hg] at e
  exact hr.not_ty (by decide) o fz e
theorem Bo.sl {w V : World} {b m c : Nat} {A : Option Addr} {cs : List Value} (h : Bo w V b A m c cs) : Sl V A m cs := ⟨h.own.1, h.one, Ry.of_own h.own (by decide)⟩
/-- Where the branches are, behind some. -/
def AStat (s : List (BitVec 8)) (deep k p n : Nat) (V : World) (b : Nat) (sv : Value) (kk m : Nat) (cs : List Value) : Prop :=
  (∃ ops, Rc V b sv 0 p ∧ Gd V cs ops ∧ k ≤ kk ∧ kk ≤ n ∧ (s[kk]? = none ∨ s[kk]? = some 124#8 ∨ s[kk]? = some 41#8) ∧ m ≤ 4 * (kk - k) + 1 ∧ AltOk s deep k ops kk) ∨
  (∃ bad q, bad ≠ 0 ∧ Rc V b sv bad q ∧ m ≤ 1000 * (9 - deep) + 900 ∧ kk ≤ 202 + 10 * (9 - deep) ∧ AltBad s deep k bad q)
theorem AStat.tr {s : List (BitVec 8)} {deep k p n b kk m : Nat} {V V' : World} {sv : Value} {cs : List Value} (h : AStat s deep k p n V b sv kk m cs) (ht : Tr b V V') : AStat s deep k p n V' b sv kk m cs := by
  rcases h with ⟨l0, h1, h2, h3⟩ | ⟨bad, q, h1, h2, h3⟩
  · exact .inl ⟨l0, ht.rc h1, ht.gd h2, h3⟩
  · exact .inr ⟨bad, q, h1, ht.rc h2, h3⟩
/-- The first branch. -/
theorem AStat.first {w1 : World} {s : List (BitVec 8)} {deep k p n b j m : Nat} {sv : Value} {cs : List Value} (hm : m ≤ 1000 * (9 - deep) + 500) (hj : j ≤ 202 + 10 * (9 - deep))
    (h : (∃ l0 np, Rc w1 b sv 0 p ∧ Gd w1 cs (l0 ++ (if np then [] else [one 2])) ∧ k ≤ j ∧ j ≤ n ∧ (s[j]? = none ∨ s[j]? = some 124#8 ∨ s[j]? = some 41#8) ∧ m ≤ 4 * (j - k) + 1 ∧ BrRun s deep k l0 np j) ∨ (∃ bad q, bad ≠ 0 ∧ Rc w1 b sv bad q ∧ BrBad s deep k bad q)) : AStat s deep k p n w1 b sv j m cs := by
  rcases h with ⟨l0, np, h1, h2, h3, h4, h5, h6, h7⟩ | ⟨bad, q, h1, h2, h3⟩
  · refine .inl ⟨_, h1, h2, h3, h4, h5, h6, fun o K hK => ⟨⟨j, o ++ l0, ⟨false, np⟩, K⟩, h7 o false K hK, rfl, rfl, ?_⟩⟩
    show (o ++ l0) ++ (if np then [] else [one 2]) ++ (if false = true then [one 4] else []) = _
    simp
  · exact .inr ⟨bad, q, h1, h2, by omega, by omega, fun o K hK => h3 o false K hK⟩
theorem run_bar {s : List (BitVec 8)} {y : St} (hy : s[y.at_]? = some 124#8) : run s y = run s ⟨y.at_ + 1, (branchEnd y).ops, ⟨true, false⟩, y.outer⟩ := by
  rw [run_step hy]
  unfold step
  rw [if_neg (by decide), if_neg (by decide), if_pos rfl]
  rfl
/-- A branch more. -/
theorem AStat.next {w1 : World} {s : List (BitVec 8)} {deep k p n b kk j m m1 : Nat} {sv : Value} {cs cs1 : List Value} {ops : List Rop} (hn : n ≤ 80) (hgd : Gd w1 cs ops) (hk : k ≤ kk) (hkn : kk ≤ n) (hm : m ≤ 4 * (kk - k) + 1) (hok : AltOk s deep k ops kk) (hy : s[kk]? = some 124#8) (hm1 : m1 ≤ 1000 * (9 - deep) + 500) (hj : j ≤ 202 + 10 * (9 - deep))
    (h : (∃ l0 np, Rc w1 b sv 0 p ∧ Gd w1 cs1 (l0 ++ (if np then [] else [one 2])) ∧ kk + 1 ≤ j ∧ j ≤ n ∧ (s[j]? = none ∨ s[j]? = some 124#8 ∨ s[j]? = some 41#8) ∧ m1 ≤ 4 * (j - (kk + 1)) + 1 ∧ BrRun s deep (kk + 1) l0 np j) ∨ (∃ bad q, bad ≠ 0 ∧ Rc w1 b sv bad q ∧ BrBad s deep (kk + 1) bad q)) :
    AStat s deep k p n w1 b sv j (m + m1 + 1) (cs ++ cs1 ++ oneC 4) ∧ (badOf b w1 = 0 → kk < j ∧ j ≤ n) := by
  rcases h with ⟨l0, np, h1, h2, h3, h4, h5, h6, h7⟩ | ⟨bad, q, h1, h2, h3⟩
  · refine ⟨.inl ⟨_, h1, (hgd.app h2).app (Gd.single _ 4), by omega, h4, h5, by omega, fun o K hK => ?_⟩, fun _ => ⟨by omega, h4⟩⟩
    obtain ⟨y, e1, e2, e3, e4⟩ := hok o K hK
    refine ⟨⟨j, (o ++ ops) ++ l0, ⟨true, np⟩, K⟩, ?_, rfl, rfl, ?_⟩
    · rw [e1, run_bar (by rw [e2]; exact hy), e2, e3, e4]
      exact h7 _ true K hK
    · show ((o ++ ops) ++ l0) ++ (if np then [] else [one 2]) ++ (if true = true then [one 4] else []) = _
      simp only [if_true, List.append_assoc]
  · refine ⟨.inr ⟨bad, q, h1, h2, by omega, by omega, fun o K hK => ?_⟩, fun e => by rw [badOf_rc h2] at e; omega⟩
    obtain ⟨y, e1, e2, e3, e4⟩ := hok o K hK
    rw [e1, run_bar (by rw [e2]; exact hy), e2, e3, e4]
    exact h3 _ true K hK
theorem tr_badOf {b bad q : Nat} {V V' : World} {sv : Value} (h : Rc V b sv bad q) (ht : Tr b V V') : badOf b V' = badOf b V := by rw [badOf_rc h, badOf_rc (ht.rc h)]
theorem AStat.rc {s : List (BitVec 8)} {deep k p n b kk m : Nat} {V : World} {sv : Value} {cs : List Value} (h : AStat s deep k p n V b sv kk m cs) : ∃ bad q, Rc V b sv bad q := by
  rcases h with ⟨l0, h1, _⟩ | ⟨bad, q, _, h2, _⟩
  · exact ⟨_, _, h1⟩
  · exact ⟨_, _, h2⟩

set_option maxRecDepth 100000 in
set_option maxHeartbeats 2000000 in
theorem ralt (w : World) (B b : Nat) (A : Option Addr) (n c p k deep : Nat) (s : List (BitVec 8)) (h : Rc w b (.slice A n c) 0 p) (hs : Bs w B A n s) (hB : B ≤ b) (hk : k ≤ n) (hn : n ≤ 80) (hd : deep ≤ 8)
    (con : ∀ (W : World) (j q : Nat), Rc W b (.slice A n c) 0 q → Bs W B A n s → j < n → deep < 8 → Calls Try.prog 25 #[.pointer (some ⟨b, 0, none⟩), .int .i64 ((j : Int) + 1), .int .i64 ((deep : Int) + 1)] W (RlSays W b (.slice A n c) s n (deep + 1) (j + 1) q)) :
    Calls Try.prog 25 #[.pointer (some ⟨b, 0, none⟩), .int .i64 (k : Int), .int .i64 (deep : Int)] w (RlSays w b (.slice A n c) s n deep k p) := by
  have hl := hs.len
  have hbw := h.lt
  have con1 := rbranch w B b A n c p k deep s h hs hB hk hn hd con
  have BR := Lib.hid (fun (W : World) (kk : Nat) (hrc : Rc W b (.slice A n c) 0 p) (hbs : Bs W B A n s) (hkk : kk ≤ n) => rbranch W B b A n c p kk deep s hrc hbs hB hkk hn hd con)
  have CON1 := Lib.hid con1
  have HS := Lib.hid hs
  have HD := Lib.hid hd
  clear h hs con con1 hd
  go_enter Try.func25, Try.ntmps25
  go_wp2_with fail
  refine CON1.out.mono ?_
  clear CON1
  rintro e w1 ⟨A1, m1, c1, cs1, j, rfl, hbo, hm1, hj, hst⟩
  have HBO := Lib.hid hbo
  have HST := Lib.hid (AStat.first hm1 hj hst)
  clear hbo hm1 hj hst
  go_wp2_with fail
  go_loopw [1, 8] (fun v1 v8 wr => ∃ (kk m c' : Nat) (A' : Option Addr) (cs : List Value), v1 = .int .i64 (kk : Int) ∧ v8 = .slice A' m c' ∧ Bo w wr b A' m c' cs ∧ AStat s deep k p n wr b (.slice A n c) kk m cs) (fun v1 _ wr => if badOf b wr = 0 then n + 1 - (intOf v1).toNat else 0)
  case atStart => exact ⟨j, m1, c1, A1, cs1, rfl, rfl, HBO.out, HST.out⟩
  case round =>
    clear HBO HST
    obtain ⟨kk, m, c', A', cs, rfl, rfl, hbo, hst⟩ := hrel
    have HBO := Lib.hid hbo
    have hws := hbo.frm.size
    clear hbo
    rcases hst with ⟨ops, hrc, hgd, hkk, hkn, hend, hm, hok⟩ | ⟨bad, q, hbad, hrc, hm, hj, hbr⟩
    · have r1 := Cel.cell hrc 1
      have HRC := Lib.hid hrc
      have HGD := Lib.hid hgd
      have HOK := Lib.hid hok
      have HM := Lib.hid hm
      have HEND := Lib.hid hend
      have hkm : (if badOf b wr = 0 then n + 1 - (intOf (.int .i64 (kk : Int))).toNat else 0) = n + 1 - kk := by rw [if_pos (by rw [badOf_rc hrc]; rfl)]; simp [intOf]
      have HKM := Lib.hid hkm
      have HBW := Lib.hid ((Ra.mk hrc HBO.out.frm).bs HS.out hB hbw)
      clear hrc hgd hok hm hkm hend
      go_wp2_with fail
      refine (ris wr B b A n c 0 p kk s 124#8 HRC.out HBW.out).mono ?_
      rintro e w0 ⟨rfl, rfl⟩
      by_cases hbar : s[kk]? = some 124#8
      · rw [decide_eq_true hbar]
        have HBAR := Lib.hid hbar
        have hk1 : kk + 1 ≤ n := by have := get_lt hbar; omega
        have con2 := BR.out wr (kk + 1) HRC.out HBW.out hk1
        rw [show ((kk + 1 : Nat) : Int) = (kk : Int) + 1 by omega] at con2
        have CON2 := Lib.hid con2
        clear con2 hbar
        go_wp2_with fail
        refine CON2.out.mono ?_
        clear CON2
        rintro e w2 ⟨A2, m2, c2, cs2, j2, rfl, hbo2, hm2, hj2, hst2⟩
        have hgd2 := HGD.out.looked HRC.out hbo2.frm
        have hnx := AStat.next (cs1 := cs2) hn hgd2 hkk hkn HM.out HOK.out HBAR.out hm2 hj2 hst2
        have HNX := Lib.hid hnx
        have HB2 := Lib.hid (HBO.out.looked hbw hbo2.frm)
        have HSL := Lib.hid hbo2.sl
        have hs2 := hbo2.frm.size
        clear hst2
        have hmb : m + m2 ≤ 12000 := by have := HM.out; omega
        have hj4 : j2 ≤ 400 := by omega
        clear hbo2 hm2 hj2 hgd2 hnx
        go_wp2_with (first | (at_builtin; refine wpList_append_any _ rfl _ _ 52 rfl w.heap.size 109 rrowOp (.slice A' m c') m cs rfl HB2.out.own A2 m2 c2 cs2 rfl HSL.out.1 HSL.out.src HSL.out.2.1 (m + m2) (cs ++ cs2) rfl rfl (by unfold maxLen; omega) (by omega) (by omega) ?_; intro A3 c3 w3 ho3 hg3 _; have HB3 := Lib.hid (HB2.out.pushed hg3 ho3 HSL.out.2.1); have HT3 := Lib.hid (Tr.grown HB2.out hbw hg3); have hs3 := HB3.out.frm.size; have HSR3 := Lib.hid (src_one w3 4); have HB6 := Lib.hid (HB3.out.below hbw ((Below.refl w3.heap.size w3).alloc (Nat.le_refl _) (.cells #[.int .i64 4, .bool false, .slice none 0 0] 109))); clear ho3 hg3) | (at_builtin; refine wpList_append_any _ rfl _ _ 52 rfl w.heap.size 109 rrowOp (.slice A3 (m + m2) c3) (m + m2) (cs ++ cs2) rfl HB6.out.own (some ⟨w3.heap.size, 0, none⟩) 1 1 (oneC 4) rfl rfl HSR3.out (oneC_one 4) (m + m2 + 1) (cs ++ cs2 ++ oneC 4) rfl rfl (by unfold maxLen; omega) (by omega) (by simp; omega) ?_; intro A4 c4 w4 ho4 hg4 _; have HB4 := Lib.hid (HB6.out.pushed hg4 ho4 (oneC_one 4)); have HT4 := Lib.hid (HT3.out.trans ((Tr.below (b := b) ((Below.refl w3.heap.size w3).alloc (Nat.le_refl _) (.cells #[.int .i64 4, .bool false, .slice none 0 0] 109))).trans (Tr.grown HB6.out hbw hg4))); clear ho4 hg4))
        obtain ⟨bad2, q2, hrc2⟩ := HNX.out.1.rc
        refine ⟨⟨j2, _, _, _, _, rfl, rfl, HB4.out, HNX.out.1.tr HT4.out⟩, rset_down HKM.out (fun e => HNX.out.2 (by rw [← tr_badOf hrc2 HT4.out]; exact e)) hkn⟩
      · rw [decide_eq_false hbar]
        have HE2 := Lib.hid (show s[kk]? = none ∨ s[kk]? = some 41#8 from by
          rcases HEND.out with q | q | q
          · exact .inl q
          · exact absurd q hbar
          · exact .inr q)
        clear hbar
        go_wp2_with fail
        go_ret2
        exact ⟨A', m, c', cs, kk, rfl, HBO.out.own, HBO.out.one, by have := HM.out; have := HD.out; omega, by omega, HBO.out.frm, .inl ⟨ops, HRC.out, HGD.out, hkk, hkn, HE2.out, HM.out, HOK.out⟩⟩
    · have r1 := Cel.cell hrc 1
      have HRC := Lib.hid hrc
      have HBR := Lib.hid hbr
      have d0 : ((bad : Int) == 0) = false := by rw [beq_eq_false_iff_ne]; omega
      have HM := Lib.hid hm
      have HJ := Lib.hid hj
      clear hrc hbr hm hj
      go_wp2_with fail
      go_ret2
      exact ⟨A', m, c', cs, kk, rfl, HBO.out.own, HBO.out.one, by have := HM.out; have := HD.out; omega, by have := HJ.out; omega, HBO.out.frm, .inr ⟨bad, q, hbad, HRC.out, HBR.out⟩⟩

/-- The document's Alt, at every depth. -/
theorem ralt_all (B b : Nat) (A : Option Addr) (n c : Nat) (s : List (BitVec 8)) (hB : B ≤ b) (hn : n ≤ 80) : ∀ (d deep : Nat), deep + d = 8 → ∀ (w : World) (p k : Nat), Rc w b (.slice A n c) 0 p → Bs w B A n s → k ≤ n →
    Calls Try.prog 25 #[.pointer (some ⟨b, 0, none⟩), .int .i64 (k : Int), .int .i64 (deep : Int)] w (RlSays w b (.slice A n c) s n deep k p) := by
  intro d
  induction d with
  | zero => intro deep hd w p k h hs hk; exact ralt w B b A n c p k deep s h hs hB hk hn (by omega) fun W j q _ _ _ hlt => absurd hlt (by omega)
  | succ d ih =>
    intro deep hd w p k h hs hk
    refine ralt w B b A n c p k deep s h hs hB hk hn (by omega) fun W j q h1 h2 h3 _ => ?_
    have := ih (deep + 1) (by omega) W q (j + 1) h1 h2 h3
    rwa [show ((j + 1 : Nat) : Int) = (j : Int) + 1 by omega, show ((deep + 1 : Nat) : Int) = (deep : Int) + 1 by omega] at this
end Go.Proofs.Ytjpbndpfbdfhjaa.Reg
