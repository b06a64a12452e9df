/-
The document's parser of patterns (layer 8): branches.
-/
import Derived.Test.YteohlpmojfjjdaaGreatR0
import Derived.Test.YteohlpmojfjjdaaGreatR1
import Derived.Test.YteohlpmojfjjdaaGreatR2
import Derived.Test.YteohlpmojfjjdaaGreatR3
import Derived.Test.YteohlpmojfjjdaaGreatR4
import Derived.Test.YteohlpmojfjjdaaGreatR14
import Derived.Test.YteohlpmojfjjdaaGreatR15
import Derived.Test.YteohlpmojfjjdaaGreatR16
set_option linter.unusedVariables false
set_option linter.unusedSimpArgs false
set_option maxRecDepth 100000
set_option maxHeartbeats 4000000
namespace Go.Proofs.YteohlpmojfjjdaaGreat.Reg
open Go.RowKit
theorem rinfoOp : (Tryz.prog.info? 208).map (fun i => (i.zero, i.size, i.bytes)) = some (some (.agg #[.int .i64 0, .bool false, .slice none 0 0]), 3, 40) := by kernel_rfl
theorem rrowOp : ElemRow Tryz.prog 126 208 3 40 := ElemRow.mk' Tryz.underlying126 rinfoOp rfl (by decide)
structure Bo (w V : World) (b : Nat) (A : Option Addr) (m c : Nat) (cs : List Value) : Prop where
 frm : Frm [b] w V
 own : V.ownsRow w.heap.size 208 3 (.slice A m c) m cs
 one : ∀ u ∈ cs, u.oneCell' = true
structure Tr (b : Nat) (V V' : World) : Prop where
 rc : ∀ {sv : Value} {bad q : Nat}, Rc V b sv bad q → Rc V' b sv bad q
 gd : ∀ {cs : List Value} {l : List Rop}, Gd V cs l → Gd V' cs l
theorem Tr.trans {b : Nat} {V V' V'' : World} (h : Tr b V V') (h2 : Tr b V' V'') : Tr b V V'' := ⟨fun q => h2.rc (h.rc q), fun q => h2.gd (h.gd q)⟩
theorem Tr.below {b : Nat} {V V' : World} (hb : Below V.heap.size V V') : Tr b V V' := ⟨fun h => Cel.below h hb h.lt, fun ⟨us, h1, h2, h3⟩ => ⟨us, h1, h2, fun u hu => Ry.below (h3 u hu) hb⟩⟩
theorem Tr.grown {w V V' : World} {b m c : Nat} {A : Option Addr} {cs : List Value} (h : Bo w V b A m c cs) (hw : b < w.heap.size) (hg : V.grownBy V' (Value.slice A m c).ownBlock) : Tr b V V' :=
 ⟨fun hr => Cel.grown hr hg (own_ne h.own hw), fun ⟨us, h1, h2, h3⟩ => ⟨us, h1, h2, fun u hu => Ry.grown (h3 u hu) hg (own_not_ty h.own (by decide))⟩⟩
theorem Bo.looked {w V V' : World} {b m c : Nat} {A : Option Addr} {cs : List Value} (h : Bo w V b A m c cs) (hw : b < w.heap.size) (hf : Frm [b] V V') : Bo w V' b A m c cs :=
 ⟨h.frm.trans hf, own_frm h.own hf (by intro q hq; simp at hq; subst hq; exact own_ne h.own hw), h.one⟩
theorem Bo.below {w V V' : World} {b m c : Nat} {A : Option Addr} {cs : List Value} (h : Bo w V b A m c cs) (hw : b < w.heap.size) (hb : Below V.heap.size V V') : Bo w V' b A m c cs := h.looked hw (Frm.of_below hb)
theorem Bo.pushed {w V V' : World} {b m c m' c' : Nat} {A A' : Option Addr} {cs cs' : List Value} (h : Bo w V b A m c cs) (hg : V.grownBy V' (Value.slice A m c).ownBlock) (ho : V'.ownsRow w.heap.size 208 3 (.slice A' m' c') m' (cs ++ cs')) (h1 : ∀ u ∈ cs', u.oneCell' = true) : Bo w V' b A' m' c' (cs ++ cs') :=
 ⟨h.frm.grown hg fun q e hlt => absurd (own_ge h.own q e) (by omega), ho, fun u hu => by
  rcases List.mem_append.1 hu with q | q
  ·exact h.one u q
  ·exact h1 u q⟩
theorem Gd.nil (V : World) : Gd V [] [] := ⟨[], rfl, rfl, by simp⟩
theorem Gd.app {V : World} {cs cs' : List Value} {l l' : List Rop} (h : Gd V cs l) (h' : Gd V cs' l') : Gd V (cs ++ cs') (l ++ l') := by
 obtain ⟨us, rfl, rfl, h3⟩ := h
 obtain ⟨us', rfl, rfl, h3'⟩ := h'
 refine ⟨us ++ us', by simp [oflat], by simp, fun u hu => ?_⟩
 rcases List.mem_append.1 hu with q | q
 ·exact h3 u q
 ·exact h3' u q
def oneC (k : Int) : List Value := [.int .i64 k, .bool false, .slice none 0 0]
theorem oneC_one (k : Int) : ∀ u ∈ oneC k, u.oneCell' = true := by
 intro u hu
 simp [oneC] at hu
 rcases hu with rfl | rfl | rfl <;> rfl
theorem Gd.single (V : World) (k : Int) : Gd V (oneC k) [Reg.one k] := ⟨[⟨Reg.one k, none, 0⟩], rfl, rfl, by intro u hu; rw [List.mem_singleton.1 hu]; exact Ry.nil_⟩
def BrRun (s : List (BitVec 8)) (deep k : Nat) (l0 : List Rop) (np : Bool) (j : Nat) : Prop := ∀ (o : List Rop) (hb : Bool) (K : List Lv), K.length = deep → run s ⟨k, o, ⟨hb, false⟩, K⟩ = run s ⟨j, o ++ l0, ⟨hb, np⟩, K⟩
def BrBad (s : List (BitVec 8)) (deep k bad q : Nat) : Prop := ∀ (o : List Rop) (hb : Bool) (K : List Lv), K.length = deep → run s ⟨k, o, ⟨hb, false⟩, K⟩ = .error (bad, q)
def BStat (s : List (BitVec 8)) (deep k p n : Nat) (V : World) (b : Nat) (sv : Value) (kk cnt m : Nat) (cs : List Value) : Prop :=
 (∃ l0, Rc V b sv 0 p ∧ Gd V cs l0 ∧ k ≤ kk ∧ kk ≤ n ∧ m ≤ 4 * (kk - k) ∧ cnt ≤ kk - k ∧ BrRun s deep k l0 (decide (0 < cnt)) kk) ∨
 (∃ bad q, bad ≠ 0 ∧ Rc V b sv bad q ∧ 0 < cnt ∧ cnt ≤ 100 ∧ m ≤ 1000 * (9 - deep) + 400 ∧ kk ≤ 201 + 10 * (9 - deep) ∧ BrBad s deep k bad q)
def MStat (s : List (BitVec 8)) (deep k kk p n : Nat) (V : World) (b : Nat) (sv : Value) (j cnt m : Nat) (cs : List Value) : Prop :=
 (∃ l0, Rc V b sv 0 p ∧ Gd V cs l0 ∧ (k ≤ kk ∧ kk < j) ∧ j ≤ n ∧ m + 1 ≤ 4 * (j - k) ∧ cnt + 1 ≤ j - k ∧ ∀ (o : List Rop) (hb : Bool) (K : List Lv), K.length = deep → run s ⟨k, o, ⟨hb, false⟩, K⟩ = run s (pieceEnd s ⟨j, o ++ l0, ⟨hb, decide (0 < cnt)⟩, K⟩)) ∨
 (∃ bad q, bad ≠ 0 ∧ Rc V b sv bad q ∧ cnt < 100 ∧ m ≤ 1000 * (9 - deep) + 320 ∧ j ≤ 200 + 10 * (9 - deep) ∧ BrBad s deep k bad q)
theorem MStat.tr {s : List (BitVec 8)} {deep k kk p n b j cnt m : Nat} {V V' : World} {sv : Value} {cs : List Value} (h : MStat s deep k kk p n V b sv j cnt m cs) (ht : Tr b V V') : MStat s deep k kk p n V' b sv j cnt m cs := by
 rcases h with ⟨l0, h1, h2, h3⟩ | ⟨bad, q, h1, h2, h3⟩
 ·exact .inl ⟨l0, ht.rc h1, ht.gd h2, h3⟩
 ·exact .inr ⟨bad, q, h1, ht.rc h2, h3⟩
theorem MStat.rc {s : List (BitVec 8)} {deep k kk p n b j cnt m : Nat} {V : World} {sv : Value} {cs : List Value} (h : MStat s deep k kk p n V b sv j cnt m cs) : ∃ bad q, Rc V b sv bad q := by
 rcases h with ⟨l0, h1, _⟩ | ⟨bad, q, _, h2, _⟩
 ·exact ⟨_, _, h1⟩
 ·exact ⟨_, _, h2⟩
theorem BStat.atom {s : List (BitVec 8)} {deep k p n b kk cnt m m1 j : Nat} {V' : World} {sv : Value} {cs cs1 : List Value} {l0 : List Rop} (hn : n ≤ 80) (hcs : Gd V' cs l0) (hk : k ≤ kk) (hkn : kk ≤ n) (hm : m ≤ 4 * (kk - k)) (hc : cnt ≤ kk - k) (hrun : BrRun s deep k l0 (decide (0 < cnt)) kk) (hm1 : m1 ≤ 1000 * (9 - deep)) (hj : j ≤ 200 + 10 * (9 - deep))
  (h : (∃ ops, Rc V' b sv 0 p ∧ Gd V' cs1 ops ∧ kk < j ∧ j ≤ n ∧ m1 + 1 ≤ 4 * (j - kk) ∧ AtOk s deep kk ops j) ∨ (∃ bad q, bad ≠ 0 ∧ Rc V' b sv bad q ∧ AtBad s deep kk bad q)) : MStat s deep k kk p n V' b sv j cnt (m + m1) (cs ++ cs1) := by
 rcases h with ⟨ops, h1, h2, h3, h4, h5, h6⟩ | ⟨bad, q, h1, h2, h3⟩
 ·refine .inl ⟨l0 ++ ops, h1, hcs.app h2, ⟨hk, h3⟩, h4, by omega, by omega, fun o hb K hK => ?_⟩
  rw [hrun o hb K hK, h6 _ _ K hK, List.append_assoc]
 ·refine .inr ⟨bad, q, h1, h2, by omega, by omega, hj, fun o hb K hK => ?_⟩
  rw [hrun o hb K hK, h3 _ _ K hK]
theorem MStat.piece {s : List (BitVec 8)} {deep k kk p n b j cnt m m' j' : Nat} {V : World} {sv : Value} {cs cr cc : List Value} {r : Int} (hr : repet s j = r) (hl : n = s.length) (h : MStat s deep k kk p n V b sv j cnt m cs)
  (hj : j' = if r = 0 then j else j + 1) (hm : m' ≤ m + (if r = 0 then 0 else 1) + (if 0 < cnt then 1 else 0)) (hcr : Gd V cr (if r = 0 then [] else [one r])) (hcc : Gd V cc (if 0 < cnt then [one 3] else [])) : BStat s deep k p n V b sv j' (cnt + 1) m' (cs ++ cr ++ cc) ∧ (badOf b V = 0 → kk < j' ∧ j' ≤ n) := by
 rcases h with ⟨l0, h1, h2, h3, h4, h5, h6, h7⟩ | ⟨bad, q, h1, h2, h3, h4, h5, h6⟩
 ·have hjn : j' ≤ n ∧ j ≤ j' ∧ m' ≤ 4 * (j' - k) := by
   by_cases h0 : r = 0
   ·rw [if_pos h0] at hj hm
    subst hj
    refine ⟨h4, Nat.le_refl _, ?_⟩
    split at hm <;> omega
   ·have := repet_lt (s := s) (k := j) (by rw [hr]; exact h0)
    rw [if_neg h0] at hj hm
    subst hj
    refine ⟨by omega, by omega, ?_⟩
    split at hm <;> omega
  refine ⟨.inl ⟨l0 ++ (if r = 0 then [] else [one r]) ++ (if 0 < cnt then [one 3] else []), h1, (h2.app hcr).app hcc, by omega, hjn.1, hjn.2.2, by omega, fun o hb K hK => ?_⟩, fun _ => ⟨by omega, hjn.1⟩⟩
  rw [h7 o hb K hK]
  unfold pieceEnd
  simp only [hr, decide_eq_true_eq]
  rw [hj, show decide (0 < cnt + 1) = true from decide_eq_true (Nat.succ_pos _)]
  simp only [List.append_assoc]
 ·refine ⟨.inr ⟨bad, q, h1, h2, Nat.succ_pos _, by omega, ?_, ?_, h6⟩, fun e => by rw [badOf_rc h2] at e; omega⟩
  ·split at hm <;> split at hm <;> omega
  ·rw [hj]; split <;> omega
def RbrSays (w : World) (b : Nat) (sv : Value) (s : List (BitVec 8)) (n deep k p : Nat) (e : Ending) (w' : World) : Prop :=
 ∃ A m c cs j, e = .returned (.tuple #[.slice A m c, .int .i64 ((j : Nat) : Int)]) ∧ Bo w w' b A m c cs ∧ m ≤ 1000 * (9 - deep) + 500 ∧ j ≤ 202 + 10 * (9 - deep) ∧
  ((∃ l0 np, Rc w' b sv 0 p ∧ Gd w' cs (l0 ++ (if np then [] else [one 2])) ∧ k ≤ j ∧ j ≤ n ∧ (s[j]? = none ∨ s[j]? = some 124#8 ∨ s[j]? = some 41#8) ∧ m ≤ 4 * (j - k) + 1 ∧ BrRun s deep k l0 np j) ∨ (∃ bad q, bad ≠ 0 ∧ Rc w' b sv bad q ∧ BrBad s deep k bad q))
theorem src_one (V : World) (r : Int) : Src (V.alloc (.cells #[.int .i64 r, .bool false, .slice none 0 0] 208)) (some ⟨V.heap.size, 0, none⟩) 1 (oneC r) := Ry.src (m := 1) (Ry.of_cel (Cel.new V 208 [.int .i64 r, .bool false, .slice none 0 0])) (by simp [oneC])
theorem Sl.src {V : World} {A : Option Addr} {m : Nat} {cs : List Value} (h : Sl V A m cs) : Src V A m cs := Ry.src h.2.2 (fun hm e => by have := h.1; rw [e] at this; simp at this; omega)
theorem rbranch (w : World) (B b : Nat) (A : Option Addr) (n c p k deep : Nat) (s : List (BitVec 8)) (h : Rc w b (.slice A n c) 0 p) (hs : Bs w B A n s) (hB : B ≤ b) (hk : k ≤ n) (hn : n ≤ 80) (hd : deep ≤ 8)
  (con : ∀ (W : World) (j q : Nat), Rc W b (.slice A n c) 0 q → Bs W B A n s → j < n → deep < 8 → Calls Tryz.prog 108 #[.pointer (some ⟨b, 0, none⟩), .int .i64 ((j : Int) + 1), .int .i64 ((deep : Int) + 1)] W (RlSays W b (.slice A n c) s n (deep + 1) (j + 1) q)) :
  Calls Tryz.prog 141 #[.pointer (some ⟨b, 0, none⟩), .int .i64 (k : Int), .int .i64 (deep : Int)] w (RbrSays w b (.slice A n c) s n deep k p) := by
 have hl := hs.len
 have hbw := h.lt
 have H := Lib.hid h
 have HS := Lib.hid hs
 have CON := Lib.hid con
 have HD := Lib.hid hd
 clear h hs con hd
 go_enter Tryz.func141, Tryz.ntmps141
 go_wp2_with fail
 go_loopw [1, 8, 9] (fun v1 v8 v9 wr => ∃ (kk cnt m c' : Nat) (A' : Option Addr) (cs : List Value), v1 = .int .i64 (kk : Int) ∧ v9 = .int .i64 (cnt : Int) ∧ v8 = .slice A' m c' ∧ Bo w wr b A' m c' cs ∧ BStat s deep k p n wr b (.slice A n c) kk cnt m cs) (fun v1 _ _ wr => if badOf b wr = 0 then n + 1 - (intOf v1).toNat else 0)
 case atStart =>
  exact ⟨k, 0, 0, 0, none, [], rfl, rfl, rfl, ⟨Frm.refl _ _, World.ownsRow_nil _ _ _ _, by simp⟩, .inl ⟨[], H.out, Gd.nil _, Nat.le_refl _, hk, by omega, by omega, fun o hb K hK => by simp⟩⟩
 case round =>
  obtain ⟨kk, cnt, m, c', A', cs, rfl, rfl, rfl, hbo, hst⟩ := hrel
  have HBO := Lib.hid hbo
  have hws := hbo.frm.size
  clear hbo
  rcases hst with ⟨l0, hrc, hgd, hkk, hkn, hm, hcnt, hrun⟩ | ⟨bad, q, hbad, hrc, hcnt, hc100, hm, hj, hbr⟩
  ·have r0 := Cel.cell hrc 0
   have r1 := Cel.cell hrc 1
   have HRC := Lib.hid hrc
   have HGD := Lib.hid hgd
   have HRUN := Lib.hid hrun
   have HM := Lib.hid hm
   have hkm : (if badOf b wr = 0 then n + 1 - (intOf (.int .i64 (kk : Int))).toNat else 0) = n + 1 - kk := by rw [if_pos (by rw [badOf_rc hrc]; rfl)]; simp [intOf]
   have HKM := Lib.hid hkm
   have HBW := Lib.hid ((Ra.mk hrc HBO.out.frm).bs HS.out hB hbw)
   clear hrc hgd hrun hm hkm
   rcases Nat.lt_or_ge kk n with hlt | hge
   ·obtain ⟨y, hy⟩ : ∃ y, s[kk]? = some y := ⟨_, List.getElem?_eq_getElem (by omega)⟩
    have HY := Lib.hid hy
    clear hy
    go_wp2_with fail
    refine (ris wr B b A n c 0 p kk s 124#8 HRC.out HBW.out).mono ?_
    rintro e w0 ⟨rfl, rfl⟩
    rw [HY.out]
    by_cases h124 : y = 124#8
    ·subst h124
     rw [decide_eq_true rfl]
     have HNO := Lib.hid (show s[kk]? = none ∨ s[kk]? = some 124#8 ∨ s[kk]? = some 41#8 from .inr (.inl HY.out))
     by_cases hc0 : cnt = 0
     ·subst hc0
      have HSRC := Lib.hid (src_one wr 2)
      have HB5 := Lib.hid (HBO.out.below hbw ((Below.refl wr.heap.size wr).alloc (Nat.le_refl _) (.cells #[.int .i64 2, .bool false, .slice none 0 0] 208)))
      have hmb : m ≤ 12000 := by have := HM.out; omega
      go_wp2_with ((at_builtin; refine wpList_append_any _ rfl _ _ 126 rfl w.heap.size 208 rrowOp (.slice A' (m) c') (m) (cs) rfl HB5.out.own (some ⟨wr.heap.size, 0, none⟩) 1 1 (oneC 2) rfl rfl HSRC.out (oneC_one 2) (m + 1) (cs ++ oneC 2) rfl rfl (by unfold maxLen; omega) (by omega) (by simp; omega) ?_; intro A8 c8 w8 ho8 hg8 _; have HO8 := Lib.hid ho8; have HG8 := Lib.hid hg8; clear ho8 hg8))
      go_ret2
      have ht := (Tr.below (b := b) ((Below.refl wr.heap.size wr).alloc (Nat.le_refl _) (.cells #[.int .i64 2, .bool false, .slice none 0 0] 208))).trans (Tr.grown HB5.out hbw HG8.out)
      exact ⟨A8, m + 1, c8, cs ++ oneC 2, kk, rfl, HB5.out.pushed HG8.out HO8.out (oneC_one 2), by have := HM.out; omega, by omega, .inl ⟨l0, false, ht.rc HRC.out, (ht.gd HGD.out).app (Gd.single _ 2), hkk, hkn, HNO.out, by have := HM.out; omega, HRUN.out⟩⟩
     ·have d0 : ((cnt : Int) == 0) = false := by rw [beq_eq_false_iff_ne]; omega
      go_wp2_with fail
      go_ret2
      exact ⟨A', m, c', cs, kk, rfl, HBO.out, by have := HM.out; omega, by omega, .inl ⟨l0, true, HRC.out, by simpa using HGD.out, hkk, hkn, HNO.out, by have := HM.out; omega, by have := HRUN.out; rwa [decide_eq_true (show 0 < cnt by omega)] at this⟩⟩
    rw [decide_eq_false (fun q => h124 (by injection q))]
    go_wp2_with fail
    refine (ris wr B b A n c 0 p kk s 41#8 HRC.out HBW.out).mono ?_
    rintro e w0 ⟨rfl, rfl⟩
    rw [HY.out]
    by_cases h41 : y = 41#8
    ·subst h41
     rw [decide_eq_true rfl]
     have HNO := Lib.hid (show s[kk]? = none ∨ s[kk]? = some 124#8 ∨ s[kk]? = some 41#8 from .inr (.inr HY.out))
     by_cases hc0 : cnt = 0
     ·subst hc0
      have HSRC := Lib.hid (src_one wr 2)
      have HB5 := Lib.hid (HBO.out.below hbw ((Below.refl wr.heap.size wr).alloc (Nat.le_refl _) (.cells #[.int .i64 2, .bool false, .slice none 0 0] 208)))
      have hmb : m ≤ 12000 := by have := HM.out; omega
      go_wp2_with ((at_builtin; refine wpList_append_any _ rfl _ _ 126 rfl w.heap.size 208 rrowOp (.slice A' (m) c') (m) (cs) rfl HB5.out.own (some ⟨wr.heap.size, 0, none⟩) 1 1 (oneC 2) rfl rfl HSRC.out (oneC_one 2) (m + 1) (cs ++ oneC 2) rfl rfl (by unfold maxLen; omega) (by omega) (by simp; omega) ?_; intro A8 c8 w8 ho8 hg8 _; have HO8 := Lib.hid ho8; have HG8 := Lib.hid hg8; clear ho8 hg8))
      go_ret2
      have ht := (Tr.below (b := b) ((Below.refl wr.heap.size wr).alloc (Nat.le_refl _) (.cells #[.int .i64 2, .bool false, .slice none 0 0] 208))).trans (Tr.grown HB5.out hbw HG8.out)
      exact ⟨A8, m + 1, c8, cs ++ oneC 2, kk, rfl, HB5.out.pushed HG8.out HO8.out (oneC_one 2), by have := HM.out; omega, by omega, .inl ⟨l0, false, ht.rc HRC.out, (ht.gd HGD.out).app (Gd.single _ 2), hkk, hkn, HNO.out, by have := HM.out; omega, HRUN.out⟩⟩
     ·have d0 : ((cnt : Int) == 0) = false := by rw [beq_eq_false_iff_ne]; omega
      go_wp2_with fail
      go_ret2
      exact ⟨A', m, c', cs, kk, rfl, HBO.out, by have := HM.out; omega, by omega, .inl ⟨l0, true, HRC.out, by simpa using HGD.out, hkk, hkn, HNO.out, by have := HM.out; omega, by have := HRUN.out; rwa [decide_eq_true (show 0 < cnt by omega)] at this⟩⟩
    rw [decide_eq_false (fun q => h41 (by injection q))]
    have con2 := ratom wr B b A n c p kk deep s y HRC.out HBW.out hB hlt hn HD.out HY.out h41 h124 (fun hd8 => CON.out wr kk p HRC.out HBW.out hlt hd8)
    have CON2 := Lib.hid con2
    clear con2 h124 h41
    go_wp2_with fail
    refine CON2.out.mono ?_
    clear CON2
    rintro e w1 ⟨A1, m1, c1, cs1, j, rfl, hsl, hm1, hj, hf, hst⟩
    have hgd1 : Gd w1 cs l0 := by
     obtain ⟨us, e1, e2, e3⟩ := HGD.out
     refine ⟨us, e1, e2, fun u hu => (e3 u hu).frm hf fun g hg o fz e => ?_⟩
     rw [List.mem_singleton.1 hg] at e
     exact HRC.out.not_ty (by decide) o fz e
    have HB1 := Lib.hid (HBO.out.looked hbw hf)
    have HMS := Lib.hid (BStat.atom (cnt := cnt) hn hgd1 hkk hkn HM.out hcnt HRUN.out hm1 hj hst)
    have HSL := Lib.hid hsl
    have hs1 := hf.size
    have hmb : m + m1 ≤ 12000 := by have := HM.out; omega
    have hj4 : j ≤ 400 := by omega
    have hc1 : cnt ≤ 100 := by omega
    clear hgd1 hst hsl hm1 hj hf
    go_wp2_with ((at_builtin; refine wpList_append_any _ rfl _ _ 126 rfl w.heap.size 208 rrowOp (.slice A' m c') m cs rfl HB1.out.own A1 m1 c1 cs1 rfl HSL.out.1 HSL.out.src HSL.out.2.1 (m + m1) (cs ++ cs1) rfl rfl (by unfold maxLen; omega) (by omega) (by omega) ?_; intro A2 c2 w2 ho2 hg2 _; have HB2 := Lib.hid (HB1.out.pushed hg2 ho2 HSL.out.2.1); have HM2 := Lib.hid (HMS.out.tr (Tr.grown HB1.out hbw hg2)); have hs2 := hg2.size; clear ho2 hg2))
    obtain ⟨bad2, q2, hrc2⟩ := HM2.out.rc
    have r2 := Cel.cell hrc2 1
    have HBS2 := (Ra.mk hrc2 HB2.out.frm).bs HS.out hB hbw
    have ISC := Lib.hid (fun x => ris w2 B b A n c bad2 q2 j s x hrc2 HBS2)
    clear hrc2 r2 HBS2
    by_cases h42 : s[j]? = some 42#8
    ·have HREP := Lib.hid (show repet s j = 5 by unfold repet; rw [if_pos h42])
     refine (ISC.out 42#8).mono ?_
     rintro e w0 ⟨rfl, rfl⟩
     rw [decide_eq_true h42]
     go_wp2_with fail
     refine (ISC.out 43#8).mono ?_
     rintro e w0 ⟨rfl, rfl⟩
     rw [decide_eq_false (by rw [h42]; simp)]
     go_wp2_with fail
     refine (ISC.out 63#8).mono ?_
     rintro e w0 ⟨rfl, rfl⟩
     rw [decide_eq_false (by rw [h42]; simp)]
     by_cases hc0 : cnt = 0
     ·subst hc0
      have HSR2 := Lib.hid (src_one w2 5)
      have HB5 := Lib.hid (HB2.out.below hbw ((Below.refl w2.heap.size w2).alloc (Nat.le_refl _) (.cells #[.int .i64 5, .bool false, .slice none 0 0] 208)))
      go_wp2_with ((at_builtin; refine wpList_append_any _ rfl _ _ 126 rfl w.heap.size 208 rrowOp (.slice A2 (m + m1) c2) (m + m1) (cs ++ cs1) rfl HB5.out.own (some ⟨w2.heap.size, 0, none⟩) 1 1 (oneC 5) rfl rfl HSR2.out (oneC_one 5) (m + m1 + 1) (cs ++ cs1 ++ oneC 5) rfl rfl (by unfold maxLen; omega) (by omega) (by simp; omega) ?_; intro A3 c3 w3 ho3 hg3 _; have HB3 := Lib.hid (HB5.out.pushed hg3 ho3 (oneC_one 5)); have HM3 := Lib.hid (HM2.out.tr ((Tr.below (b := b) ((Below.refl w2.heap.size w2).alloc (Nat.le_refl _) (.cells #[.int .i64 5, .bool false, .slice none 0 0] 208))).trans (Tr.grown HB5.out hbw hg3))); have hs3 := HB3.out.frm.size; clear ho3 hg3))
      have hpc := MStat.piece (cr := oneC 5) (cc := []) (m' := m + m1 + 1) (j' := (j + 1)) (r := 5) HREP.out hl.symm HM3.out rfl (by simp) (Gd.single _ _) (Gd.nil _)
      try simp only [List.append_nil] at hpc
      exact ⟨⟨(j + 1), 0 + 1, _, _, _, _, by rw [show ((j + 1 : Nat) : Int) = (j : Int) + 1 by omega], by rfl, rfl, HB3.out, hpc.1⟩, rset_down HKM.out hpc.2 hkn⟩
     ·have dc : decide (0 < cnt) = true := decide_eq_true (by omega)
      have HSR2 := Lib.hid (src_one w2 5)
      have HB5 := Lib.hid (HB2.out.below hbw ((Below.refl w2.heap.size w2).alloc (Nat.le_refl _) (.cells #[.int .i64 5, .bool false, .slice none 0 0] 208)))
      go_wp2_with (first | (at_builtin; refine wpList_append_any _ rfl _ _ 126 rfl w.heap.size 208 rrowOp (.slice A2 (m + m1) c2) (m + m1) (cs ++ cs1) rfl HB5.out.own (some ⟨w2.heap.size, 0, none⟩) 1 1 (oneC 5) rfl rfl HSR2.out (oneC_one 5) (m + m1 + 1) (cs ++ cs1 ++ oneC 5) rfl rfl (by unfold maxLen; omega) (by omega) (by simp; omega) ?_; intro A3 c3 w3 ho3 hg3 _; have HB3 := Lib.hid (HB5.out.pushed hg3 ho3 (oneC_one 5)); have HM3 := Lib.hid (HM2.out.tr ((Tr.below (b := b) ((Below.refl w2.heap.size w2).alloc (Nat.le_refl _) (.cells #[.int .i64 5, .bool false, .slice none 0 0] 208))).trans (Tr.grown HB5.out hbw hg3))); have hs3 := HB3.out.frm.size; have HSR3 := Lib.hid (src_one w3 3); have HB6 := Lib.hid (HB3.out.below hbw ((Below.refl w3.heap.size w3).alloc (Nat.le_refl _) (.cells #[.int .i64 3, .bool false, .slice none 0 0] 208))); clear ho3 hg3) | (at_builtin; refine wpList_append_any _ rfl _ _ 126 rfl w.heap.size 208 rrowOp (.slice A3 (m + m1 + 1) c3) (m + m1 + 1) (cs ++ cs1 ++ oneC 5) rfl HB6.out.own (some ⟨w3.heap.size, 0, none⟩) 1 1 (oneC 3) rfl rfl HSR3.out (oneC_one 3) (m + m1 + 1 + 1) (cs ++ cs1 ++ oneC 5 ++ oneC 3) rfl rfl (by unfold maxLen; omega) (by omega) (by simp; omega) ?_; intro A4 c4 w4 ho4 hg4 _; have HB4 := Lib.hid (HB6.out.pushed hg4 ho4 (oneC_one 3)); have HM4 := Lib.hid (HM3.out.tr ((Tr.below (b := b) ((Below.refl w3.heap.size w3).alloc (Nat.le_refl _) (.cells #[.int .i64 3, .bool false, .slice none 0 0] 208))).trans (Tr.grown HB6.out hbw hg4))); have hs4 := HB4.out.frm.size; clear ho4 hg4))
      have hpc := MStat.piece (cr := oneC 5) (cc := oneC 3) (m' := m + m1 + 1 + 1) (j' := (j + 1)) (r := 5) HREP.out hl.symm HM4.out rfl (by simp [show 0 < cnt by omega]) (Gd.single _ _) (by rw [if_pos (show 0 < cnt by omega)]; exact Gd.single _ 3)
      try simp only [List.append_nil] at hpc
      exact ⟨⟨(j + 1), cnt + 1, _, _, _, _, by rw [show ((j + 1 : Nat) : Int) = (j : Int) + 1 by omega], by rw [show ((cnt + 1 : Nat) : Int) = (cnt : Int) + 1 by omega], rfl, HB4.out, hpc.1⟩, rset_down HKM.out hpc.2 hkn⟩
    by_cases h43 : s[j]? = some 43#8
    ·have HREP := Lib.hid (show repet s j = 6 by unfold repet; rw [if_neg h42, if_pos h43])
     refine (ISC.out 42#8).mono ?_
     rintro e w0 ⟨rfl, rfl⟩
     rw [decide_eq_false h42]
     go_wp2_with fail
     refine (ISC.out 43#8).mono ?_
     rintro e w0 ⟨rfl, rfl⟩
     rw [decide_eq_true h43]
     go_wp2_with fail
     refine (ISC.out 63#8).mono ?_
     rintro e w0 ⟨rfl, rfl⟩
     rw [decide_eq_false (by rw [h43]; simp)]
     by_cases hc0 : cnt = 0
     ·subst hc0
      have HSR2 := Lib.hid (src_one w2 6)
      have HB5 := Lib.hid (HB2.out.below hbw ((Below.refl w2.heap.size w2).alloc (Nat.le_refl _) (.cells #[.int .i64 6, .bool false, .slice none 0 0] 208)))
      go_wp2_with ((at_builtin; refine wpList_append_any _ rfl _ _ 126 rfl w.heap.size 208 rrowOp (.slice A2 (m + m1) c2) (m + m1) (cs ++ cs1) rfl HB5.out.own (some ⟨w2.heap.size, 0, none⟩) 1 1 (oneC 6) rfl rfl HSR2.out (oneC_one 6) (m + m1 + 1) (cs ++ cs1 ++ oneC 6) rfl rfl (by unfold maxLen; omega) (by omega) (by simp; omega) ?_; intro A3 c3 w3 ho3 hg3 _; have HB3 := Lib.hid (HB5.out.pushed hg3 ho3 (oneC_one 6)); have HM3 := Lib.hid (HM2.out.tr ((Tr.below (b := b) ((Below.refl w2.heap.size w2).alloc (Nat.le_refl _) (.cells #[.int .i64 6, .bool false, .slice none 0 0] 208))).trans (Tr.grown HB5.out hbw hg3))); have hs3 := HB3.out.frm.size; clear ho3 hg3))
      have hpc := MStat.piece (cr := oneC 6) (cc := []) (m' := m + m1 + 1) (j' := (j + 1)) (r := 6) HREP.out hl.symm HM3.out rfl (by simp) (Gd.single _ _) (Gd.nil _)
      try simp only [List.append_nil] at hpc
      exact ⟨⟨(j + 1), 0 + 1, _, _, _, _, by rw [show ((j + 1 : Nat) : Int) = (j : Int) + 1 by omega], by rfl, rfl, HB3.out, hpc.1⟩, rset_down HKM.out hpc.2 hkn⟩
     ·have dc : decide (0 < cnt) = true := decide_eq_true (by omega)
      have HSR2 := Lib.hid (src_one w2 6)
      have HB5 := Lib.hid (HB2.out.below hbw ((Below.refl w2.heap.size w2).alloc (Nat.le_refl _) (.cells #[.int .i64 6, .bool false, .slice none 0 0] 208)))
      go_wp2_with (first | (at_builtin; refine wpList_append_any _ rfl _ _ 126 rfl w.heap.size 208 rrowOp (.slice A2 (m + m1) c2) (m + m1) (cs ++ cs1) rfl HB5.out.own (some ⟨w2.heap.size, 0, none⟩) 1 1 (oneC 6) rfl rfl HSR2.out (oneC_one 6) (m + m1 + 1) (cs ++ cs1 ++ oneC 6) rfl rfl (by unfold maxLen; omega) (by omega) (by simp; omega) ?_; intro A3 c3 w3 ho3 hg3 _; have HB3 := Lib.hid (HB5.out.pushed hg3 ho3 (oneC_one 6)); have HM3 := Lib.hid (HM2.out.tr ((Tr.below (b := b) ((Below.refl w2.heap.size w2).alloc (Nat.le_refl _) (.cells #[.int .i64 6, .bool false, .slice none 0 0] 208))).trans (Tr.grown HB5.out hbw hg3))); have hs3 := HB3.out.frm.size; have HSR3 := Lib.hid (src_one w3 3); have HB6 := Lib.hid (HB3.out.below hbw ((Below.refl w3.heap.size w3).alloc (Nat.le_refl _) (.cells #[.int .i64 3, .bool false, .slice none 0 0] 208))); clear ho3 hg3) | (at_builtin; refine wpList_append_any _ rfl _ _ 126 rfl w.heap.size 208 rrowOp (.slice A3 (m + m1 + 1) c3) (m + m1 + 1) (cs ++ cs1 ++ oneC 6) rfl HB6.out.own (some ⟨w3.heap.size, 0, none⟩) 1 1 (oneC 3) rfl rfl HSR3.out (oneC_one 3) (m + m1 + 1 + 1) (cs ++ cs1 ++ oneC 6 ++ oneC 3) rfl rfl (by unfold maxLen; omega) (by omega) (by simp; omega) ?_; intro A4 c4 w4 ho4 hg4 _; have HB4 := Lib.hid (HB6.out.pushed hg4 ho4 (oneC_one 3)); have HM4 := Lib.hid (HM3.out.tr ((Tr.below (b := b) ((Below.refl w3.heap.size w3).alloc (Nat.le_refl _) (.cells #[.int .i64 3, .bool false, .slice none 0 0] 208))).trans (Tr.grown HB6.out hbw hg4))); have hs4 := HB4.out.frm.size; clear ho4 hg4))
      have hpc := MStat.piece (cr := oneC 6) (cc := oneC 3) (m' := m + m1 + 1 + 1) (j' := (j + 1)) (r := 6) HREP.out hl.symm HM4.out rfl (by simp [show 0 < cnt by omega]) (Gd.single _ _) (by rw [if_pos (show 0 < cnt by omega)]; exact Gd.single _ 3)
      try simp only [List.append_nil] at hpc
      exact ⟨⟨(j + 1), cnt + 1, _, _, _, _, by rw [show ((j + 1 : Nat) : Int) = (j : Int) + 1 by omega], by rw [show ((cnt + 1 : Nat) : Int) = (cnt : Int) + 1 by omega], rfl, HB4.out, hpc.1⟩, rset_down HKM.out hpc.2 hkn⟩
    by_cases h63 : s[j]? = some 63#8
    ·have HREP := Lib.hid (show repet s j = 7 by unfold repet; rw [if_neg h42, if_neg h43, if_pos h63])
     refine (ISC.out 42#8).mono ?_
     rintro e w0 ⟨rfl, rfl⟩
     rw [decide_eq_false h42]
     go_wp2_with fail
     refine (ISC.out 43#8).mono ?_
     rintro e w0 ⟨rfl, rfl⟩
     rw [decide_eq_false h43]
     go_wp2_with fail
     refine (ISC.out 63#8).mono ?_
     rintro e w0 ⟨rfl, rfl⟩
     rw [decide_eq_true h63]
     by_cases hc0 : cnt = 0
     ·subst hc0
      have HSR2 := Lib.hid (src_one w2 7)
      have HB5 := Lib.hid (HB2.out.below hbw ((Below.refl w2.heap.size w2).alloc (Nat.le_refl _) (.cells #[.int .i64 7, .bool false, .slice none 0 0] 208)))
      go_wp2_with ((at_builtin; refine wpList_append_any _ rfl _ _ 126 rfl w.heap.size 208 rrowOp (.slice A2 (m + m1) c2) (m + m1) (cs ++ cs1) rfl HB5.out.own (some ⟨w2.heap.size, 0, none⟩) 1 1 (oneC 7) rfl rfl HSR2.out (oneC_one 7) (m + m1 + 1) (cs ++ cs1 ++ oneC 7) rfl rfl (by unfold maxLen; omega) (by omega) (by simp; omega) ?_; intro A3 c3 w3 ho3 hg3 _; have HB3 := Lib.hid (HB5.out.pushed hg3 ho3 (oneC_one 7)); have HM3 := Lib.hid (HM2.out.tr ((Tr.below (b := b) ((Below.refl w2.heap.size w2).alloc (Nat.le_refl _) (.cells #[.int .i64 7, .bool false, .slice none 0 0] 208))).trans (Tr.grown HB5.out hbw hg3))); have hs3 := HB3.out.frm.size; clear ho3 hg3))
      have hpc := MStat.piece (cr := oneC 7) (cc := []) (m' := m + m1 + 1) (j' := (j + 1)) (r := 7) HREP.out hl.symm HM3.out rfl (by simp) (Gd.single _ _) (Gd.nil _)
      try simp only [List.append_nil] at hpc
      exact ⟨⟨(j + 1), 0 + 1, _, _, _, _, by rw [show ((j + 1 : Nat) : Int) = (j : Int) + 1 by omega], by rfl, rfl, HB3.out, hpc.1⟩, rset_down HKM.out hpc.2 hkn⟩
     ·have dc : decide (0 < cnt) = true := decide_eq_true (by omega)
      have HSR2 := Lib.hid (src_one w2 7)
      have HB5 := Lib.hid (HB2.out.below hbw ((Below.refl w2.heap.size w2).alloc (Nat.le_refl _) (.cells #[.int .i64 7, .bool false, .slice none 0 0] 208)))
      go_wp2_with (first | (at_builtin; refine wpList_append_any _ rfl _ _ 126 rfl w.heap.size 208 rrowOp (.slice A2 (m + m1) c2) (m + m1) (cs ++ cs1) rfl HB5.out.own (some ⟨w2.heap.size, 0, none⟩) 1 1 (oneC 7) rfl rfl HSR2.out (oneC_one 7) (m + m1 + 1) (cs ++ cs1 ++ oneC 7) rfl rfl (by unfold maxLen; omega) (by omega) (by simp; omega) ?_; intro A3 c3 w3 ho3 hg3 _; have HB3 := Lib.hid (HB5.out.pushed hg3 ho3 (oneC_one 7)); have HM3 := Lib.hid (HM2.out.tr ((Tr.below (b := b) ((Below.refl w2.heap.size w2).alloc (Nat.le_refl _) (.cells #[.int .i64 7, .bool false, .slice none 0 0] 208))).trans (Tr.grown HB5.out hbw hg3))); have hs3 := HB3.out.frm.size; have HSR3 := Lib.hid (src_one w3 3); have HB6 := Lib.hid (HB3.out.below hbw ((Below.refl w3.heap.size w3).alloc (Nat.le_refl _) (.cells #[.int .i64 3, .bool false, .slice none 0 0] 208))); clear ho3 hg3) | (at_builtin; refine wpList_append_any _ rfl _ _ 126 rfl w.heap.size 208 rrowOp (.slice A3 (m + m1 + 1) c3) (m + m1 + 1) (cs ++ cs1 ++ oneC 7) rfl HB6.out.own (some ⟨w3.heap.size, 0, none⟩) 1 1 (oneC 3) rfl rfl HSR3.out (oneC_one 3) (m + m1 + 1 + 1) (cs ++ cs1 ++ oneC 7 ++ oneC 3) rfl rfl (by unfold maxLen; omega) (by omega) (by simp; omega) ?_; intro A4 c4 w4 ho4 hg4 _; have HB4 := Lib.hid (HB6.out.pushed hg4 ho4 (oneC_one 3)); have HM4 := Lib.hid (HM3.out.tr ((Tr.below (b := b) ((Below.refl w3.heap.size w3).alloc (Nat.le_refl _) (.cells #[.int .i64 3, .bool false, .slice none 0 0] 208))).trans (Tr.grown HB6.out hbw hg4))); have hs4 := HB4.out.frm.size; clear ho4 hg4))
      have hpc := MStat.piece (cr := oneC 7) (cc := oneC 3) (m' := m + m1 + 1 + 1) (j' := (j + 1)) (r := 7) HREP.out hl.symm HM4.out rfl (by simp [show 0 < cnt by omega]) (Gd.single _ _) (by rw [if_pos (show 0 < cnt by omega)]; exact Gd.single _ 3)
      try simp only [List.append_nil] at hpc
      exact ⟨⟨(j + 1), cnt + 1, _, _, _, _, by rw [show ((j + 1 : Nat) : Int) = (j : Int) + 1 by omega], by rw [show ((cnt + 1 : Nat) : Int) = (cnt : Int) + 1 by omega], rfl, HB4.out, hpc.1⟩, rset_down HKM.out hpc.2 hkn⟩
    have HREP := Lib.hid (show repet s j = 0 by unfold repet; rw [if_neg h42, if_neg h43, if_neg h63])
    refine (ISC.out 42#8).mono ?_
    rintro e w0 ⟨rfl, rfl⟩
    rw [decide_eq_false h42]
    go_wp2_with fail
    refine (ISC.out 43#8).mono ?_
    rintro e w0 ⟨rfl, rfl⟩
    rw [decide_eq_false h43]
    go_wp2_with fail
    refine (ISC.out 63#8).mono ?_
    rintro e w0 ⟨rfl, rfl⟩
    rw [decide_eq_false h63]
    by_cases hc0 : cnt = 0
    ·subst hc0
     go_wp2_with fail
     have hpc := MStat.piece (cr := []) (cc := []) (m' := m + m1) (j' := j) (r := 0) HREP.out hl.symm HM2.out rfl (by simp) (Gd.nil _) (Gd.nil _)
     try simp only [List.append_nil] at hpc
     exact ⟨⟨j, 0 + 1, _, _, _, _, by rfl, by rfl, rfl, HB2.out, hpc.1⟩, rset_down HKM.out hpc.2 hkn⟩
    ·have dc : decide (0 < cnt) = true := decide_eq_true (by omega)
     have HSR2 := Lib.hid (src_one w2 3)
     have HB5 := Lib.hid (HB2.out.below hbw ((Below.refl w2.heap.size w2).alloc (Nat.le_refl _) (.cells #[.int .i64 3, .bool false, .slice none 0 0] 208)))
     go_wp2_with ((at_builtin; refine wpList_append_any _ rfl _ _ 126 rfl w.heap.size 208 rrowOp (.slice A2 (m + m1) c2) (m + m1) (cs ++ cs1) rfl HB5.out.own (some ⟨w2.heap.size, 0, none⟩) 1 1 (oneC 3) rfl rfl HSR2.out (oneC_one 3) (m + m1 + 1) (cs ++ cs1 ++ oneC 3) rfl rfl (by unfold maxLen; omega) (by omega) (by simp; omega) ?_; intro A3 c3 w3 ho3 hg3 _; have HB3 := Lib.hid (HB5.out.pushed hg3 ho3 (oneC_one 3)); have HM3 := Lib.hid (HM2.out.tr ((Tr.below (b := b) ((Below.refl w2.heap.size w2).alloc (Nat.le_refl _) (.cells #[.int .i64 3, .bool false, .slice none 0 0] 208))).trans (Tr.grown HB5.out hbw hg3))); have hs3 := HB3.out.frm.size; clear ho3 hg3))
     have hpc := MStat.piece (cr := []) (cc := oneC 3) (m' := m + m1 + 1) (j' := j) (r := 0) HREP.out hl.symm HM3.out rfl (by simp [show 0 < cnt by omega]) (Gd.nil _) (by rw [if_pos (show 0 < cnt by omega)]; exact Gd.single _ 3)
     try simp only [List.append_nil] at hpc
     exact ⟨⟨j, cnt + 1, _, _, _, _, by rfl, by rw [show ((cnt + 1 : Nat) : Int) = (cnt : Int) + 1 by omega], rfl, HB3.out, hpc.1⟩, rset_down HKM.out hpc.2 hkn⟩
   ·obtain rfl : kk = n := by omega
    have hno : s[kk]? = none := List.getElem?_eq_none (by omega)
    have HNO := Lib.hid (show s[kk]? = none ∨ s[kk]? = some 124#8 ∨ s[kk]? = some 41#8 from .inl hno)
    clear hno hge
    by_cases hc0 : cnt = 0
    ·subst hc0
     have HSRC := Lib.hid (src_one wr 2)
     have HB5 := Lib.hid (HBO.out.below hbw ((Below.refl wr.heap.size wr).alloc (Nat.le_refl _) (.cells #[.int .i64 2, .bool false, .slice none 0 0] 208)))
     have hmb : m ≤ 12000 := by have := HM.out; omega
     go_wp2_with ((at_builtin; refine wpList_append_any _ rfl _ _ 126 rfl w.heap.size 208 rrowOp (.slice A' (m) c') (m) (cs) rfl HB5.out.own (some ⟨wr.heap.size, 0, none⟩) 1 1 (oneC 2) rfl rfl HSRC.out (oneC_one 2) (m + 1) (cs ++ oneC 2) rfl rfl (by unfold maxLen; omega) (by omega) (by simp; omega) ?_; intro A8 c8 w8 ho8 hg8 _; have HO8 := Lib.hid ho8; have HG8 := Lib.hid hg8; clear ho8 hg8))
     go_ret2
     have ht := (Tr.below (b := b) ((Below.refl wr.heap.size wr).alloc (Nat.le_refl _) (.cells #[.int .i64 2, .bool false, .slice none 0 0] 208))).trans (Tr.grown HB5.out hbw HG8.out)
     exact ⟨A8, m + 1, c8, cs ++ oneC 2, kk, rfl, HB5.out.pushed HG8.out HO8.out (oneC_one 2), by have := HM.out; omega, by omega, .inl ⟨l0, false, ht.rc HRC.out, (ht.gd HGD.out).app (Gd.single _ 2), hkk, hkn, HNO.out, by have := HM.out; omega, HRUN.out⟩⟩
    ·have d0 : ((cnt : Int) == 0) = false := by rw [beq_eq_false_iff_ne]; omega
     go_wp2_with fail
     go_ret2
     exact ⟨A', m, c', cs, kk, rfl, HBO.out, by have := HM.out; omega, by omega, .inl ⟨l0, true, HRC.out, by simpa using HGD.out, hkk, hkn, HNO.out, by have := HM.out; omega, by have := HRUN.out; rwa [decide_eq_true (show 0 < cnt by omega)] at this⟩⟩
  ·have r0 := Cel.cell hrc 0
   have r1 := Cel.cell hrc 1
   have HRC := Lib.hid hrc
   have HBR := Lib.hid hbr
   have d0 : ((bad : Int) == 0) = false := by rw [beq_eq_false_iff_ne]; omega
   have d1 : ((cnt : Int) == 0) = false := by rw [beq_eq_false_iff_ne]; omega
   have HM := Lib.hid hm
   have HJ := Lib.hid hj
   clear hrc hbr hm hj
   go_wp2_with fail
   go_ret2
   exact ⟨A', m, c', cs, kk, rfl, HBO.out, by have := HM.out; omega, by have := HJ.out; omega, .inr ⟨bad, q, hbad, HRC.out, HBR.out⟩⟩
end Go.Proofs.YteohlpmojfjjdaaGreat.Reg
