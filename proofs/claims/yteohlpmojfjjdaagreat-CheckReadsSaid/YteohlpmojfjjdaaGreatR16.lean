/-
Texts: RegRefAtom RegRefAtoms RegRefEsc
-/
import Derived.Test.YteohlpmojfjjdaaGreatR0
import Derived.Test.YteohlpmojfjjdaaGreatR1
import Derived.Test.YteohlpmojfjjdaaGreatR2
import Derived.Test.YteohlpmojfjjdaaGreatR3
import Derived.Test.YteohlpmojfjjdaaGreatR4
import Derived.Test.YteohlpmojfjjdaaGreatR14
import Derived.Test.YteohlpmojfjjdaaGreatR15
set_option linter.unusedVariables false
set_option linter.unusedSimpArgs false
set_option maxRecDepth 100000
set_option maxHeartbeats 4000000
section
namespace Go.Proofs.YteohlpmojfjjdaaGreat.Reg
open Go.RowKit
def Sl (w : World) (A : Option Addr) (m : Nat) (cs : List Value) : Prop := cs.length = m * 3 ∧ (∀ u ∈ cs, u.oneCell' = true) ∧ Ry 208 w A cs
def Gd (w : World) (cs : List Value) (ops : List Rop) : Prop := ∃ us : List Ov, cs = oflat us ∧ us.map (·.o) = ops ∧ ∀ u ∈ us, RSpn w u.A u.o.sp
theorem oflat_length (us : List Ov) : (oflat us).length = us.length * 3 := by
 induction us with
 | nil => rfl
 | cons x l ih => rw [oflat, List.flatMap_cons, List.length_append, show (l.flatMap Ov.cells) = oflat l from rfl, ih]; show 3 + l.length * 3 = (l.length + 1) * 3; omega
theorem Sl.one {w : World} {g : Nat} {x0 x1 x2 : Value} (h : Cel w g 208 [x0, x1, x2]) (h0 : x0.oneCell' = true) (h1 : x1.oneCell' = true) (h2 : x2.oneCell' = true) : Sl w (some ⟨g, 0, none⟩) 1 [x0, x1, x2] :=
 ⟨rfl, by intro u hu; simp at hu; rcases hu with rfl | rfl | rfl <;> assumption, Ry.of_cel h⟩
theorem Gd.one {w : World} {A : Option Addr} {c : Nat} (o : Rop) (h : RSpn w A o.sp) : Gd w [.int .i64 o.kind, .bool o.neg, .slice A o.sp.length c] [o] := ⟨[⟨o, A, c⟩], by simp [oflat, Ov.cells], rfl, by simpa using h⟩
structure ROws (w : World) (B : Nat) (v : Value) (ops : List Rop) : Prop where
 row : ∃ us : List Ov, w.ownsRow B 208 3 v ops.length (oflat us) ∧ us.map (·.o) = ops ∧ ∀ u ∈ us, RSpn w u.A u.o.sp
def AtOk (s : List (BitVec 8)) (deep k : Nat) (ops : List Rop) (j : Nat) : Prop := ∀ (o : List Rop) (lv : Lv) (K : List Lv), K.length = deep → run s ⟨k, o, lv, K⟩ = run s (pieceEnd s ⟨j, o ++ ops, lv, K⟩)
def AtBad (s : List (BitVec 8)) (deep k bad q : Nat) : Prop := ∀ (o : List Rop) (lv : Lv) (K : List Lv), K.length = deep → run s ⟨k, o, lv, K⟩ = .error (bad, q)
def AltOk (s : List (BitVec 8)) (deep k : Nat) (ops : List Rop) (j : Nat) : Prop := ∀ (o : List Rop) (K : List Lv), K.length = deep → ∃ y : St, run s ⟨k, o, ⟨false, false⟩, K⟩ = run s y ∧ y.at_ = j ∧ y.outer = K ∧ (branchEnd y).ops = o ++ ops
def AltBad (s : List (BitVec 8)) (deep k bad q : Nat) : Prop := ∀ (o : List Rop) (K : List Lv), K.length = deep → run s ⟨k, o, ⟨false, false⟩, K⟩ = .error (bad, q)
theorem at_ok {s : List (BitVec 8)} {deep k : Nat} {y : BitVec 8} {o : Rop} {j : Nat} (hy : s[k]? = some y) (h40 : y ≠ 40#8) (h41 : y ≠ 41#8) (h124 : y ≠ 124#8) (h : atomL s k y = .ok (o, j)) : AtOk s deep k [o] j := fun o' lv K _ => by
 rw [run_step (x := ⟨k, o', lv, K⟩) hy]
 unfold step
 rw [if_neg h40, if_neg h41, if_neg h124, h]
theorem at_bad {s : List (BitVec 8)} {deep k : Nat} {y : BitVec 8} {q : Nat} (hy : s[k]? = some y) (h40 : y ≠ 40#8) (h41 : y ≠ 41#8) (h124 : y ≠ 124#8) (h : atomL s k y = .error q) : AtBad s deep k 2 q := fun o' lv K _ => by
 rw [run_step (x := ⟨k, o', lv, K⟩) hy]
 unfold step
 rw [if_neg h40, if_neg h41, if_neg h124, h]
theorem at_deep {s : List (BitVec 8)} {k : Nat} (hy : s[k]? = some 40#8) : AtBad s 8 k 5 k := fun o' lv K hK => by
 rw [run_step (x := ⟨k, o', lv, K⟩) hy]
 unfold step
 rw [if_pos rfl, if_pos (by exact hK)]
theorem run_open {s : List (BitVec 8)} {k : Nat} (hy : s[k]? = some 40#8) {o : List Rop} {lv : Lv} {K : List Lv} (hK : K.length ≠ 8) : run s ⟨k, o, lv, K⟩ = run s ⟨k + 1, o, ⟨false, false⟩, lv :: K⟩ := by
 rw [run_step (x := ⟨k, o, lv, K⟩) hy]
 unfold step
 rw [if_pos rfl, if_neg (by exact hK)]
theorem at_in_bad {s : List (BitVec 8)} {deep k bad q : Nat} (hd : deep < 8) (hy : s[k]? = some 40#8) (h : AltBad s (deep + 1) (k + 1) bad q) : AtBad s deep k bad q := fun o' lv K hK => by
 rw [run_open hy (by omega)]
 exact h o' (lv :: K) (by simp [hK])
theorem at_in_end {s : List (BitVec 8)} {deep k j : Nat} {ops : List Rop} (hd : deep < 8) (hy : s[k]? = some 40#8) (h : AltOk s (deep + 1) (k + 1) ops j) (hj : j = s.length) : AtBad s deep k 2 j := fun o' lv K hK => by
 rw [run_open hy (by omega)]
 obtain ⟨y, h1, h2, h3, h4⟩ := h o' (lv :: K) (by simp [hK])
 rw [h1, run_end (h2.trans hj), if_pos (by rw [h3]; simp), h2]
theorem at_in_ok {s : List (BitVec 8)} {deep k j : Nat} {ops : List Rop} (hd : deep < 8) (hy : s[k]? = some 40#8) (h : AltOk s (deep + 1) (k + 1) ops j) (hj : s[j]? = some 41#8) : AtOk s deep k ops (j + 1) := fun o' lv K hK => by
 rw [run_open hy (by omega)]
 obtain ⟨y, h1, h2, h3, h4⟩ := h o' (lv :: K) (by simp [hK])
 rw [h1, run_step (x := y) (by rw [h2]; exact hj)]
 unfold step
 rw [if_neg (by decide), if_pos rfl, h3]
 dsimp only
 rw [h2, h4]
def RaSays (w : World) (b : Nat) (sv : Value) (s : List (BitVec 8)) (n deep k p : Nat) (e : Ending) (w' : World) : Prop :=
 ∃ A m c cs j, e = .returned (.tuple #[.slice A m c, .int .i64 ((j : Nat) : Int)]) ∧ Sl w' A m cs ∧ m ≤ 1000 * (9 - deep) ∧ j ≤ 200 + 10 * (9 - deep) ∧ Frm [b] w w' ∧
  ((∃ ops, Rc w' b sv 0 p ∧ Gd w' cs ops ∧ k < j ∧ j ≤ n ∧ m + 1 ≤ 4 * (j - k) ∧ AtOk s deep k ops j) ∨ (∃ bad q, bad ≠ 0 ∧ Rc w' b sv bad q ∧ AtBad s deep k bad q))
def RlSays (w : World) (b : Nat) (sv : Value) (s : List (BitVec 8)) (n deep k p : Nat) (e : Ending) (w' : World) : Prop :=
 ∃ A m c cs j, e = .returned (.tuple #[.slice A m c, .int .i64 ((j : Nat) : Int)]) ∧ w'.ownsRow w.heap.size 208 3 (.slice A m c) m cs ∧ (∀ u ∈ cs, u.oneCell' = true) ∧ m ≤ 1000 * (10 - deep) ∧ j ≤ 205 + 10 * (9 - deep) ∧ Frm [b] w w' ∧
  ((∃ ops, Rc w' b sv 0 p ∧ Gd w' cs ops ∧ k ≤ j ∧ j ≤ n ∧ (s[j]? = none ∨ s[j]? = some 41#8) ∧ m ≤ 4 * (j - k) + 1 ∧ AltOk s deep k ops j) ∨ (∃ bad q, bad ≠ 0 ∧ Rc w' b sv bad q ∧ AltBad s deep k bad q))
section
variable (w : World) (B b : Nat) (A : Option Addr) (n c p k deep : Nat) (s : List (BitVec 8)) (y : BitVec 8)
theorem ratom_deep (h : Rc w b (.slice A n c) 0 p) (hs : Bs w B A n s) (hk : k < n) (hn : n ≤ 80) (hy : s[k]? = some 40#8) :
  Calls Tryz.prog 160 #[.pointer (some ⟨b, 0, none⟩), .int .i64 (k : Int), .int .i64 ((8 : Nat) : Int)] w (RaSays w b (.slice A n c) s n 8 k p) := by
 have h0 := Cel.cell h 0
 obtain ⟨ad, rfl, _, hc⟩ := hs.at_ hk
 rw [List.getD_eq_getElem?_getD, hy] at hc
 have con := rwrong w b (.slice (some ad) n c) k 5 p h
 have HY := Lib.hid hy
 clear h hs hy
 go_enter Tryz.func160, Tryz.ntmps160
 go_wp2_with fail
 refine con.mono ?_
 rintro e w1 ⟨rfl, hra⟩
 have HRA := Lib.hid hra
 clear hra con
 go_wp2_with fail
 go_ret2
 exact ⟨none, 0, 0, [], k, rfl, ⟨rfl, by simp, Ry.nil_⟩, by omega, by omega, HRA.out.frm, .inr ⟨5, k, by decide, HRA.out.rc, at_deep HY.out⟩⟩
theorem ratom_in (h : Rc w b (.slice A n c) 0 p) (hs : Bs w B A n s) (hB : B ≤ b) (hk : k < n) (hn : n ≤ 80) (hy : s[k]? = some 40#8) (hd : deep < 8)
  (con : Calls Tryz.prog 108 #[.pointer (some ⟨b, 0, none⟩), .int .i64 ((k : Int) + 1), .int .i64 ((deep : Int) + 1)] w (RlSays w b (.slice A n c) s n (deep + 1) (k + 1) p)) :
  Calls Tryz.prog 160 #[.pointer (some ⟨b, 0, none⟩), .int .i64 (k : Int), .int .i64 (deep : Int)] w (RaSays w b (.slice A n c) s n deep k p) := by
 have h0 := Cel.cell h 0
 have hl := hs.len
 have hbw := h.lt
 have HBS := Lib.hid hs
 obtain ⟨ad, rfl, _, hc⟩ := hs.at_ hk
 rw [List.getD_eq_getElem?_getD, hy] at hc
 have HY := Lib.hid hy
 have HD := Lib.hid hd
 have d8 : decide ((8 : Int) ≤ (deep : Int)) = false := by simp; omega
 have CON := Lib.hid con
 clear h hs hy con
 go_enter Tryz.func160, Tryz.ntmps160
 go_wp2_with fail
 refine CON.out.mono ?_
 rintro e w1 ⟨A1, m1, c1, cs, j, rfl, ho, hone, hm, hj, hf, hst⟩
 have hcs : cs.length = m1 * 3 := ho.1
 have HSL := Lib.hid (show Sl w1 A1 m1 cs from ⟨hcs, hone, Ry.of_own ho (by decide)⟩)
 have HF := Lib.hid hf
 have HM := Lib.hid hm
 have HJ := Lib.hid hj
 have hj4 : j ≤ 400 := by omega
 clear ho hone hcs CON hm hj
 rcases hst with ⟨ops, hrc, hgd, hkj, hjn, hend, hm4, hok⟩ | ⟨bad, q, hbad, hrc, hb⟩
 ·have HGD := Lib.hid hgd
  have HM4 := Lib.hid hm4
  have HOK := Lib.hid hok
  have HRC := Lib.hid hrc
  have r1 := Cel.cell hrc 1
  have HB1 := Lib.hid ((Ra.mk hrc hf).bs HBS.out hB hbw)
  clear hrc hgd hm4 hok hf
  go_wp2_with fail
  refine (ris w1 B b _ n c 0 p j s 41#8 HRC.out HB1.out).mono ?_
  rintro e w2 ⟨rfl, rfl⟩
  rcases hend with hend | hend
  ·rw [decide_eq_false (by rw [hend]; simp)]
   have hjl : j = s.length := by
    rcases Nat.lt_or_ge j s.length with q | q
    ·rw [List.getElem?_eq_getElem q] at hend; cases hend
    ·omega
   have HJL := Lib.hid hjl
   clear hend hjl
   go_wp2_with fail
   refine (rwrong w1 b _ j 2 p HRC.out).mono ?_
   rintro e w3 ⟨rfl, hra⟩
   have HRA := Lib.hid hra
   clear hra
   go_wp2_with fail
   go_ret2
   refine ⟨A1, m1, c1, cs, j + 1, by rw [show ((j + 1 : Nat) : Int) = (j : Int) + 1 by omega]; rfl, ⟨HSL.out.1, HSL.out.2.1, HSL.out.2.2.frm HRA.out.frm ?_⟩, by have := HM.out; omega, by omega, HF.out.trans HRA.out.frm, .inr ⟨2, j, by decide, HRA.out.rc, at_in_end HD.out HY.out HOK.out HJL.out⟩⟩
   intro g hg o fz e
   rw [List.mem_singleton.1 hg] at e
   exact HRC.out.not_ty (by decide) o fz e
  ·rw [decide_eq_true hend]
   have HEND := Lib.hid hend
   clear hend
   go_wp2_with fail
   go_ret2
   exact ⟨A1, m1, c1, cs, j + 1, by rw [show ((j + 1 : Nat) : Int) = (j : Int) + 1 by omega]; rfl, HSL.out, by have := HM.out; omega, by omega, HF.out, .inl ⟨ops, HRC.out, HGD.out, by omega, by have := get_lt HEND.out; omega, by have := HM4.out; omega, at_in_ok HD.out HY.out HOK.out HEND.out⟩⟩
 ·have HRC := Lib.hid hrc
  have r1 := Cel.cell hrc 1
  have d0 : ((bad : Int) == 0) = false := by rw [beq_eq_false_iff_ne]; omega
  have HBD := Lib.hid hb
  clear hrc hb hf
  go_wp2_with fail
  go_ret2
  exact ⟨A1, m1, c1, cs, j + 1, by rw [show ((j + 1 : Nat) : Int) = (j : Int) + 1 by omega]; rfl, HSL.out, by have := HM.out; omega, by have := HJ.out; omega, HF.out, .inr ⟨bad, q, hbad, HRC.out, at_in_bad HD.out HY.out HBD.out⟩⟩
end
end Go.Proofs.YteohlpmojfjjdaaGreat.Reg
end
section
namespace Go.Proofs.YteohlpmojfjjdaaGreat.Reg
open Go.RowKit
theorem new1 (w : World) (o : Obj) (t : TypeId) (cs : List Value) : Cel ((w.alloc o).alloc (.cells cs.toArray t)) (w.heap.size + 1) t cs := by
 have := Cel.new (w.alloc o) t cs
 rwa [show (w.alloc o).heap.size = w.heap.size + 1 by simp] at this
theorem below2 (w : World) (o o' : Obj) : Below w.heap.size w ((w.alloc o).alloc o') := ((Below.refl _ _).alloc (Nat.le_refl _) _).alloc (by simp) _
theorem escape_class {s : List (BitVec 8)} {k : Nat} {y : BitVec 8} (h : s[k + 1]? = some y) (h2 : classOf y ≠ []) : escape s k = .ok (⟨1, false, classOf y⟩, k + 2) := by
 have e : escS y = classOf y := by
  unfold escS
  rcases hc : classOf y with _ | ⟨a, l⟩
  ·exact absurd hc h2
  ·rfl
 rw [escape_o2 h (by rw [e]; exact h2), e]
theorem escape_escd {s : List (BitVec 8)} {k : Nat} (h : ∀ y, s[k + 1]? = some y → classOf y = []) : escape s k = match escd s (k + 1) with
  | .error q => .error q
  | .ok (z, j) => .ok (⟨1, false, [⟨z, z⟩]⟩, j) := by
 unfold escd
 rcases hy : s[k + 1]? with _ | y
 ·exact escape_e1 hy
 ·dsimp only
  have hc := h y hy
  rcases hb : escB y with _ | z
  ·exact escape_e2 hy (by unfold escS; rw [hc]; dsimp only; rw [hb])
  ·have e : escS y = [⟨z, z⟩] := by unfold escS; rw [hc]; dsimp only; rw [hb]
   rw [escape_o2 hy (by rw [e]; simp), e]
theorem escd_ok {s : List (BitVec 8)} {k j : Nat} {z : BitVec 8} (h : escd s k = .ok (z, j)) : j = k + 1 ∧ k < s.length := by
 unfold escd at h
 rcases hy : s[k]? with _ | y <;> rw [hy] at h
 ·cases h
 ·dsimp only at h
  rcases hb : escB y with _ | q <;> rw [hb] at h
  ·cases h
  ·injection h with h; injection h with _ h2
   exact ⟨h2.symm, get_lt hy⟩
section
variable (w : World) (B b : Nat) (A : Option Addr) (n c p k deep : Nat) (s : List (BitVec 8)) (y : BitVec 8)
theorem ratom_set (h : Rc w b (.slice A n c) 0 p) (hs : Bs w B A n s) (hB : B ≤ b) (hk : k < n) (hn : n ≤ 80) (hd : deep ≤ 8) (hy : s[k]? = some 91#8) :
  Calls Tryz.prog 160 #[.pointer (some ⟨b, 0, none⟩), .int .i64 (k : Int), .int .i64 (deep : Int)] w (RaSays w b (.slice A n c) s n deep k p) := by
 have h0 := Cel.cell h 0
 have hl := hs.len
 have con := rset w B b A n c p k s h hs hB hk (by omega)
 rw [show ((k + 1 : Nat) : Int) = (k : Int) + 1 by omega] at con
 obtain ⟨ad, rfl, _, hc⟩ := hs.at_ hk
 rw [List.getD_eq_getElem?_getD, hy] at hc
 have HA := Lib.hid (show atomL s k 91#8 = setR s k by unfold atomL; rw [if_neg (by decide), if_pos rfl])
 have HY := Lib.hid hy
 have HD := Lib.hid hd
 have CON := Lib.hid con
 clear h hs hy hd con
 go_enter Tryz.func160, Tryz.ntmps160
 go_wp2_with fail
 refine CON.out.mono ?_
 clear CON
 rintro e w1 hsay
 generalize hr : setR s k = r at *
 rcases r with q | ⟨o, j⟩
 ·obtain ⟨z, ng, A3, m3, c3, j, rfl, hj, hra⟩ := hsay
  have HRA := Lib.hid hra
  have HJ := Lib.hid hj
  clear hra hj hr
  go_wp2_with fail
  go_ret2
  have hb2 := below2 w1 (.cells #[.int .i64 z, .bool ng, .slice A3 m3 c3] 208) (.cells #[.int .i64 z, .bool ng, .slice A3 m3 c3] 208)
  have := HRA.out.below hb2
  exact ⟨_, 1, 1, _, j, rfl, Sl.one (new1 w1 _ _ [.int .i64 z, .bool ng, .slice A3 m3 c3]) rfl rfl rfl, by have := HD.out; omega, by have := HJ.out; omega, this.frm, .inr ⟨2, q, by decide, this.rc, at_bad HY.out (by decide) (by decide) (by decide) HA.out⟩⟩
 ·obtain ⟨A3, c3, rfl, hsp, hra⟩ := hsay
  have hj := setR_ok hr (by omega)
  have HRA := Lib.hid hra
  have HSP := Lib.hid hsp
  have HJ := Lib.hid hj
  clear hra hj hsp hr
  dsimp only [opV]
  go_wp2_with fail
  go_ret2
  have hb2 := below2 w1 (.cells #[.int .i64 o.kind, .bool o.neg, .slice A3 o.sp.length c3] 208) (.cells #[.int .i64 o.kind, .bool o.neg, .slice A3 o.sp.length c3] 208)
  have := HRA.out.below hb2
  have hj := HJ.out
  exact ⟨_, 1, 1, _, j, rfl, Sl.one (new1 w1 _ _ [.int .i64 o.kind, .bool o.neg, .slice A3 o.sp.length c3]) rfl rfl rfl, by have := HD.out; omega, by omega, this.frm, .inl ⟨[o], this.rc, Gd.one o (Ry.below HSP.out hb2), by omega, by omega, by omega, at_ok HY.out (by decide) (by decide) (by decide) HA.out⟩⟩
theorem ratom_dot (h : Rc w b (.slice A n c) 0 p) (hs : Bs w B A n s) (hk : k < n) (hn : n ≤ 80) (hd : deep ≤ 8) (hy : s[k]? = some 46#8) :
  Calls Tryz.prog 160 #[.pointer (some ⟨b, 0, none⟩), .int .i64 (k : Int), .int .i64 (deep : Int)] w (RaSays w b (.slice A n c) s n deep k p) := by
 have h0 := Cel.cell h 0
 obtain ⟨ad, rfl, _, hc⟩ := hs.at_ hk
 rw [List.getD_eq_getElem?_getD, hy] at hc
 have HA := Lib.hid (show atomL s k 46#8 = .ok (⟨1, true, [⟨10#8, 10#8⟩]⟩, k + 1) by unfold atomL; rw [if_neg (by decide), if_neg (by decide), if_neg (by decide), if_pos rfl])
 have HY := Lib.hid hy
 have HD := Lib.hid hd
 have H := Lib.hid h
 clear h hs hy hd
 go_enter Tryz.func160, Tryz.ntmps160
 go_wp2_with fail
 go_ret2
 have hb2 := below2 w (.cells #[.int .u8 10, .int .u8 10] 237) (.cells #[.int .i64 1, .bool true, .slice (some ⟨w.heap.size, 0, none⟩) 1 1] 208)
 have := (Ra.refl H.out).below hb2
 exact ⟨_, 1, 1, _, k + 1, by rw [show ((k + 1 : Nat) : Int) = (k : Int) + 1 by omega]; rfl, Sl.one (new1 w _ _ [.int .i64 1, .bool true, .slice (some ⟨w.heap.size, 0, none⟩) 1 1]) rfl rfl rfl, by have := HD.out; omega, by omega, this.frm, .inl ⟨[⟨1, true, [⟨10#8, 10#8⟩]⟩], this.rc, Gd.one ⟨1, true, [⟨10#8, 10#8⟩]⟩ (Ry.of_cel ((Cel.new w 237 [.int .u8 10, .int .u8 10]).alloc _)), by omega, by omega, by omega, at_ok HY.out (by decide) (by decide) (by decide) HA.out⟩⟩
theorem ratom_one (h : Rc w b (.slice A n c) 0 p) (hs : Bs w B A n s) (hk : k < n) (hn : n ≤ 80) (hd : deep ≤ 8) (hy : s[k]? = some y) (h40 : y ≠ 40#8) (h41 : y ≠ 41#8) (h124 : y ≠ 124#8) (h91 : y ≠ 91#8) (h46 : y ≠ 46#8) (h42 : y ≠ 42#8) (h43 : y ≠ 43#8) (h63 : y ≠ 63#8) (h93 : y ≠ 93#8) (h92 : y ≠ 92#8) :
  Calls Tryz.prog 160 #[.pointer (some ⟨b, 0, none⟩), .int .i64 (k : Int), .int .i64 (deep : Int)] w (RaSays w b (.slice A n c) s n deep k p) := by
 have h0 := Cel.cell h 0
 obtain ⟨ad, rfl, _, hc⟩ := hs.at_ hk
 rw [List.getD_eq_getElem?_getD, hy] at hc
 replace hc : w.cell? (ad.add k) = some (v8 y) := hc
 have HA := Lib.hid (show atomL s k y = .ok (⟨1, false, [⟨y, y⟩]⟩, k + 1) by unfold atomL; rw [if_neg (fun q => q.elim h42 fun q => q.elim h43 fun q => q.elim h63 h93), if_neg h91, if_neg h92, if_neg h46])
 have HAT := Lib.hid (at_ok (deep := deep) hy h40 h41 h124 HA.out)
 have d1 : ((y.toNat : Int) == 40) = false := by rw [show ((y.toNat : Int) == 40) = decide (y = 40#8) from v8_lit (by decide)]; exact decide_eq_false h40
 have d2 : ((y.toNat : Int) == 91) = false := by rw [show ((y.toNat : Int) == 91) = decide (y = 91#8) from v8_lit (by decide)]; exact decide_eq_false h91
 have d3 : ((y.toNat : Int) == 46) = false := by rw [show ((y.toNat : Int) == 46) = decide (y = 46#8) from v8_lit (by decide)]; exact decide_eq_false h46
 have d4 : ((y.toNat : Int) == 42) = false := by rw [show ((y.toNat : Int) == 42) = decide (y = 42#8) from v8_lit (by decide)]; exact decide_eq_false h42
 have d5 : ((y.toNat : Int) == 43) = false := by rw [show ((y.toNat : Int) == 43) = decide (y = 43#8) from v8_lit (by decide)]; exact decide_eq_false h43
 have d6 : ((y.toNat : Int) == 63) = false := by rw [show ((y.toNat : Int) == 63) = decide (y = 63#8) from v8_lit (by decide)]; exact decide_eq_false h63
 have d7 : ((y.toNat : Int) == 93) = false := by rw [show ((y.toNat : Int) == 93) = decide (y = 93#8) from v8_lit (by decide)]; exact decide_eq_false h93
 have d8 : ((y.toNat : Int) == 92) = false := by rw [show ((y.toNat : Int) == 92) = decide (y = 92#8) from v8_lit (by decide)]; exact decide_eq_false h92
 have HD := Lib.hid hd
 have H := Lib.hid h
 clear h hs hy hd h40 h41 h124 h91 h46 h42 h43 h63 h93 h92
 go_enter Tryz.func160, Tryz.ntmps160
 go_wp2_with fail
 go_ret2
 have hb2 := below2 w (.cells #[v8 y, v8 y] 237) (.cells #[.int .i64 1, .bool false, .slice (some ⟨w.heap.size, 0, none⟩) 1 1] 208)
 have := (Ra.refl H.out).below hb2
 exact ⟨_, 1, 1, _, k + 1, by rw [show ((k + 1 : Nat) : Int) = (k : Int) + 1 by omega]; rfl, Sl.one (new1 w _ _ [.int .i64 1, .bool false, .slice (some ⟨w.heap.size, 0, none⟩) 1 1]) rfl rfl rfl, by have := HD.out; omega, by omega, this.frm, .inl ⟨[⟨1, false, [⟨y, y⟩]⟩], this.rc, Gd.one ⟨1, false, [⟨y, y⟩]⟩ (Ry.of_cel ((Cel.new w 237 [v8 y, v8 y]).alloc _)), by omega, by omega, by omega, HAT.out⟩⟩
theorem ratom_no (h : Rc w b (.slice A n c) 0 p) (hs : Bs w B A n s) (hk : k < n) (hn : n ≤ 80) (hd : deep ≤ 8) (hy : s[k]? = some y) (hx : y = 42#8 ∨ y = 43#8 ∨ y = 63#8 ∨ y = 93#8) :
  Calls Tryz.prog 160 #[.pointer (some ⟨b, 0, none⟩), .int .i64 (k : Int), .int .i64 (deep : Int)] w (RaSays w b (.slice A n c) s n deep k p) := by
 have h0 := Cel.cell h 0
 obtain ⟨ad, rfl, _, hc⟩ := hs.at_ hk
 rw [List.getD_eq_getElem?_getD, hy] at hc
 replace hc : w.cell? (ad.add k) = some (v8 y) := hc
 have HA := Lib.hid (show atomL s k y = .error k by unfold atomL; rw [if_pos hx])
 have HAT := Lib.hid (at_bad (deep := deep) hy (by rintro rfl; simp at hx) (by rintro rfl; simp at hx) (by rintro rfl; simp at hx) HA.out)
 have con := rwrong w b (.slice (some ad) n c) k 2 p h
 have HD := Lib.hid hd
 clear h hs hy hd HA
 rcases hx with rfl | rfl | rfl | rfl
 all_goals
  go_enter Tryz.func160, Tryz.ntmps160
  go_wp2_with fail
  refine con.mono ?_
  rintro e w1 ⟨rfl, hra⟩
  have HRA := Lib.hid hra
  clear hra con
  go_wp2_with fail
  go_ret2
  exact ⟨_, 1, 1, _, k + 1, by rw [show ((k + 1 : Nat) : Int) = (k : Int) + 1 by omega]; rfl, Sl.one (new1 w1 _ _ [.int .i64 1, .bool false, .slice (some ⟨w1.heap.size, 0, none⟩) 1 1]) rfl rfl rfl, by have := HD.out; omega, by omega, (HRA.out.below (below2 w1 _ _)).frm, .inr ⟨2, k, by decide, (HRA.out.below (below2 w1 _ _)).rc, HAT.out⟩⟩
end
end Go.Proofs.YteohlpmojfjjdaaGreat.Reg
end
section
namespace Go.Proofs.YteohlpmojfjjdaaGreat.Reg
open Go.RowKit
theorem add_succ (a : Addr) (k : Nat) : a.add (k + 1) = ⟨a.block, a.off + (k + 1), none⟩ := by
 unfold Addr.add
 rw [if_neg (by omega)]
section
variable (w : World) (B b : Nat) (A : Option Addr) (n c p k deep : Nat) (s : List (BitVec 8)) (y : BitVec 8)
theorem ratom_class (h : Rc w b (.slice A n c) 0 p) (hs : Bs w B A n s) (hk : k < n) (hn : n ≤ 80) (hd : deep ≤ 8) (hy : s[k]? = some 92#8) (hz : s[k + 1]? = some y) (hcl : classOf y ≠ []) :
  Calls Tryz.prog 160 #[.pointer (some ⟨b, 0, none⟩), .int .i64 (k : Int), .int .i64 (deep : Int)] w (RaSays w b (.slice A n c) s n deep k p) := by
 have h0 := Cel.cell h 0
 have hl := hs.len
 have hk1 : k + 1 < n := by have := get_lt hz; omega
 obtain ⟨ad, rfl, _, hc⟩ := hs.at_ hk
 obtain ⟨ad', e', _, hc'⟩ := hs.at_ hk1
 cases e'
 rw [List.getD_eq_getElem?_getD, hy] at hc
 rw [List.getD_eq_getElem?_getD, hz] at hc'
 replace hc' : w.cell? ⟨ad.block, ad.off + (k + 1), none⟩ = some (v8 y) := by rw [← add_succ]; exact hc'
 have HA := Lib.hid (show atomL s k 92#8 = .ok (⟨1, false, classOf y⟩, k + 2) by unfold atomL; rw [if_neg (by decide), if_neg (by decide), if_pos rfl, escape_class hz hcl])
 have HAT := Lib.hid (at_ok (deep := deep) hy (by decide) (by decide) (by decide) HA.out)
 have con := rclass w y
 have d1 : decide (0 < (classOf y).length) = true := decide_eq_true (List.length_pos_iff.2 hcl)
 have d2 : decide ((k : Int) + 1 < (n : Int)) = true := by simp; omega
 have HD := Lib.hid hd
 have H := Lib.hid h
 clear h hs hy hz hd hcl HA
 go_enter Tryz.func160, Tryz.ntmps160
 go_wp2_with fail
 refine con.mono ?_
 clear con
 rintro e w1 ⟨A3, c3, rfl, hsp, hb1⟩
 have HB1 := Lib.hid hb1
 have HSP := Lib.hid hsp
 clear hb1 hsp
 generalize classOf y = l at *
 generalize hll : l.length = ll at *
 go_wp2_with fail
 go_ret2
 subst hll
 have hb2 := (Below.refl w1.heap.size w1).alloc (Nat.le_refl _) (.cells #[.int .i64 1, .bool false, .slice A3 l.length c3] 208)
 have := ((Ra.refl H.out).below HB1.out).below hb2
 exact ⟨_, 1, 1, _, k + 2, by rw [show ((k + 2 : Nat) : Int) = (k : Int) + 2 by omega]; rfl, Sl.one (Cel.new w1 _ [.int .i64 1, .bool false, .slice A3 l.length c3]) rfl rfl rfl, by have := HD.out; omega, by omega, this.frm, .inl ⟨[⟨1, false, l⟩], this.rc, Gd.one ⟨1, false, l⟩ (Ry.below HSP.out hb2), by omega, by have := of_decide_eq_true d2; omega, by omega, HAT.out⟩⟩
theorem ratom_esc_says {w w1 : World} {b n c p k deep : Nat} {A : Option Addr} {s : List (BitVec 8)} {u : BitVec 8} {j : Nat} {bad q : Nat} (hd : deep ≤ 8) (hj : j ≤ n + 2) (hn : n ≤ 80) (hra : Ra w w1 b (.slice A n c) bad q)
  (h : (bad = 0 ∧ q = p ∧ k < j ∧ j ≤ n ∧ AtOk s deep k [⟨1, false, [⟨u, u⟩]⟩] j) ∨ (bad ≠ 0 ∧ AtBad s deep k bad q)) :
  RaSays w b (.slice A n c) s n deep k p (.returned (.tuple #[.slice (some ⟨w1.heap.size + 1, 0, none⟩) 1 1, .int .i64 (j : Int)])) ((w1.alloc (.cells #[v8 u, v8 u] 237)).alloc (.cells #[.int .i64 1, .bool false, .slice (some ⟨w1.heap.size, 0, none⟩) 1 1] 208)) := by
 have hb2 := below2 w1 (.cells #[v8 u, v8 u] 237) (.cells #[.int .i64 1, .bool false, .slice (some ⟨w1.heap.size, 0, none⟩) 1 1] 208)
 have hr := hra.below hb2
 refine ⟨_, 1, 1, _, j, rfl, Sl.one (new1 w1 _ _ [.int .i64 1, .bool false, .slice (some ⟨w1.heap.size, 0, none⟩) 1 1]) rfl rfl rfl, by omega, by omega, hr.frm, ?_⟩
 rcases h with ⟨rfl, rfl, h1, h2, h3⟩ | ⟨h1, h2⟩
 ·exact .inl ⟨[⟨1, false, [⟨u, u⟩]⟩], hr.rc, Gd.one ⟨1, false, [⟨u, u⟩]⟩ (Ry.of_cel ((Cel.new w1 237 [v8 u, v8 u]).alloc _)), h1, h2, by omega, h3⟩
 ·exact .inr ⟨bad, q, h1, hr.rc, h2⟩
theorem ratom_escd (h : Rc w b (.slice A n c) 0 p) (hs : Bs w B A n s) (hB : B ≤ b) (hk : k < n) (hn : n ≤ 80) (hd : deep ≤ 8) (hy : s[k]? = some 92#8) (hcl : ∀ y, s[k + 1]? = some y → classOf y = []) :
  Calls Tryz.prog 160 #[.pointer (some ⟨b, 0, none⟩), .int .i64 (k : Int), .int .i64 (deep : Int)] w (RaSays w b (.slice A n c) s n deep k p) := by
 have h0 := Cel.cell h 0
 have hl := hs.len
 have hbw := h.lt
 have HBS := Lib.hid hs
 have HRC := Lib.hid h
 have HA := Lib.hid (show atomL s k 92#8 = escape s k by unfold atomL; rw [if_neg (by decide), if_neg (by decide), if_pos rfl])
 have HEE := Lib.hid (escape_escd hcl)
 have HY := Lib.hid hy
 have HD := Lib.hid hd
 have fin : ∀ (w0 : World), Below w.heap.size w w0 → ∀ e w1, RbSays w0 b (.slice A n c) p n (escd s (k + 1)) e w1 → ∃ (u : BitVec 8) (j : Nat), e = .returned (.tuple #[v8 u, .int .i64 (j : Int)]) ∧ RaSays w b (.slice A n c) s n deep k p (.returned (.tuple #[.slice (some ⟨w1.heap.size + 1, 0, none⟩) 1 1, .int .i64 (j : Int)])) ((w1.alloc (.cells #[v8 u, v8 u] 237)).alloc (.cells #[.int .i64 1, .bool false, .slice (some ⟨w1.heap.size, 0, none⟩) 1 1] 208)) := by
  intro w0 hb0 e w1 hsay
  have hw0 := (Ra.refl h).below hb0
  rcases hr : escd s (k + 1) with q | ⟨z, j⟩ <;> rw [hr] at hsay
  ·obtain ⟨u, j, rfl, hj, hra⟩ := hsay
   refine ⟨u, j, rfl, ratom_esc_says hd hj hn (hw0.trans hra) (.inr ⟨by decide, at_bad hy (by decide) (by decide) (by decide) ?_⟩)⟩
   rw [HA.out, HEE.out, hr]
  ·obtain ⟨rfl, hra⟩ := hsay
   obtain ⟨rfl, hlt⟩ := escd_ok hr
   refine ⟨z, k + 1 + 1, rfl, ratom_esc_says hd (by omega) hn (hw0.trans hra) (.inl ⟨rfl, rfl, by omega, by omega, at_ok hy (by decide) (by decide) (by decide) ?_⟩)⟩
   rw [HA.out, HEE.out, hr]
 have FIN := Lib.hid fin
 obtain ⟨ad, rfl, _, hc⟩ := hs.at_ hk
 rw [List.getD_eq_getElem?_getD, hy] at hc
 have con : ∀ w0, Below w.heap.size w w0 → Calls Tryz.prog 178 #[.pointer (some ⟨b, 0, none⟩), .int .i64 ((k : Int) + 1)] w0 (RbSays w0 b (.slice (some ad) n c) p n (escd s (k + 1))) := fun w0 hb0 => by
  have hw0 := (Ra.refl h).below hb0
  have := rescaped w0 B b (some ad) n c p (k + 1) s hw0.rc (hs.below (hb0.mono (by omega))) (by omega) (by omega)
  rwa [show ((k + 1 : Nat) : Int) = (k : Int) + 1 by omega] at this
 have CON := Lib.hid con
 rcases Nat.lt_or_ge (k + 1) n with hk1 | hk1
 ·obtain ⟨ad', e', _, hc'⟩ := hs.at_ hk1
  cases e'
  have hz : s[k + 1]? = some (s.getD (k + 1) 0#8) := by rw [List.getD_eq_getElem?_getD, List.getElem?_eq_getElem (by omega)]; rfl
  have hcy := hcl _ hz
  rw [add_succ] at hc'
  generalize s.getD (k + 1) 0#8 = y at *
  have con2 := rclass w y
  rw [hcy] at con2
  have d2 : decide ((k : Int) + 1 < (n : Int)) = true := by simp; omega
  clear h hs hy hz hd hcl con fin
  go_enter Tryz.func160, Tryz.ntmps160
  go_wp2_with fail
  refine con2.mono ?_
  clear con2
  rintro e w1 ⟨A3, c3, rfl, hsp, hb1⟩
  have HB1 := Lib.hid hb1
  clear hb1 hsp
  go_wp2_with fail
  refine (CON.out w1 HB1.out).mono ?_
  rintro e w2 hsay
  obtain ⟨u, j, rfl, hsay2⟩ := FIN.out w1 HB1.out e w2 hsay
  have HSAY := Lib.hid hsay2
  clear hsay hsay2
  go_wp2_with fail
  go_ret2
  exact HSAY.out
 ·have d2 : decide (k + 1 < n) = false := by simp; omega
  clear h hs hy hd hcl con fin
  go_enter Tryz.func160, Tryz.ntmps160
  go_wp2_with fail
  refine (CON.out w (Below.refl _ _)).mono ?_
  rintro e w2 hsay
  obtain ⟨u, j, rfl, hsay2⟩ := FIN.out w (Below.refl _ _) e w2 hsay
  have HSAY := Lib.hid hsay2
  clear hsay hsay2
  go_wp2_with fail
  go_ret2
  exact HSAY.out
theorem ratom (h : Rc w b (.slice A n c) 0 p) (hs : Bs w B A n s) (hB : B ≤ b) (hk : k < n) (hn : n ≤ 80) (hd : deep ≤ 8) (hy : s[k]? = some y) (h41 : y ≠ 41#8) (h124 : y ≠ 124#8)
  (con : deep < 8 → Calls Tryz.prog 108 #[.pointer (some ⟨b, 0, none⟩), .int .i64 ((k : Int) + 1), .int .i64 ((deep : Int) + 1)] w (RlSays w b (.slice A n c) s n (deep + 1) (k + 1) p)) :
  Calls Tryz.prog 160 #[.pointer (some ⟨b, 0, none⟩), .int .i64 (k : Int), .int .i64 (deep : Int)] w (RaSays w b (.slice A n c) s n deep k p) := by
 by_cases h40 : y = 40#8
 ·subst h40
  rcases Nat.lt_or_ge deep 8 with hlt | hge
  ·exact ratom_in w B b A n c p k deep s h hs hB hk hn hy hlt (con hlt)
  ·obtain rfl : deep = 8 := by omega
   exact ratom_deep w B b A n c p k s h hs hk hn hy
 by_cases h91 : y = 91#8
 ·subst h91; exact ratom_set w B b A n c p k deep s h hs hB hk hn hd hy
 by_cases h46 : y = 46#8
 ·subst h46; exact ratom_dot w B b A n c p k deep s h hs hk hn hd hy
 by_cases hx : y = 42#8 ∨ y = 43#8 ∨ y = 63#8 ∨ y = 93#8
 ·exact ratom_no w B b A n c p k deep s y h hs hk hn hd hy hx
 by_cases h92 : y = 92#8
 ·subst h92
  rcases hz : s[k + 1]? with _ | z
  ·exact ratom_escd w B b A n c p k deep s h hs hB hk hn hd hy (fun z q => by rw [hz] at q; cases q)
  ·by_cases hcl : classOf z = []
   ·exact ratom_escd w B b A n c p k deep s h hs hB hk hn hd hy (fun z' q => by rw [hz] at q; cases q; exact hcl)
   ·exact ratom_class w B b A n c p k deep s z h hs hk hn hd hy hz hcl
 exact ratom_one w B b A n c p k deep s y h hs hk hn hd hy h40 h41 h124 h91 h46 (fun q => hx (.inl q)) (fun q => hx (.inr (.inl q))) (fun q => hx (.inr (.inr (.inl q)))) (fun q => hx (.inr (.inr (.inr q)))) h92
end
end Go.Proofs.YteohlpmojfjjdaaGreat.Reg
end
