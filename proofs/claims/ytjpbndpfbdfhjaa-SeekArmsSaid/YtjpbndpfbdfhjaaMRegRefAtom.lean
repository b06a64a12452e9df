/-
  The document's parser of patterns (layer 8): atoms.
-/
import Derived.Test.YtjpbndpfbdfhjaaMRegRefItems
import Derived.Test.YtjpbndpfbdfhjaaMRegMem
namespace Go.Proofs.Ytjpbndpfbdfhjaa.Reg
open Go.RowKit
set_option linter.unusedVariables false
set_option linter.unusedSimpArgs false

/-- The cells cs lie at a slice of the document's ops. -/
def Sl (w : World) (A : Option Addr) (m : Nat) (cs : List Value) : Prop := cs.length = m * 3 ∧ (∀ u ∈ cs, u.oneCell' = true) ∧ Ry 109 w A cs
/-- Cells that are ops. -/
def Gd (w : World) (cs : List Value) (ops : List Rop) : Prop := ∃ us : List Ov, cs = oflat us ∧ us.map (·.o) = ops ∧ ∀ u ∈ us, RSpn w u.A u.o.sp
theorem oflat_length (us : List Ov) : (oflat us).length = us.length * 3 := by
  induction us with
  | nil => rfl
  | cons x l ih => rw [oflat, List.flatMap_cons, List.length_append, show (l.flatMap Ov.cells) = oflat l from rfl, ih]; show 3 + l.length * 3 = (l.length + 1) * 3; omega
theorem oflat_one (us : List Ov) : ∀ u ∈ oflat us, u.oneCell' = true := by
  intro u hu
  obtain ⟨x, _, hx⟩ := List.mem_flatMap.1 hu
  simp [Ov.cells] at hx
  rcases hx with rfl | rfl | rfl <;> rfl
/-- A slice of one op. -/
theorem Sl.one {w : World} {g : Nat} {x0 x1 x2 : Value} (h : Cel w g 109 [x0, x1, x2]) (h0 : x0.oneCell' = true) (h1 : x1.oneCell' = true) (h2 : x2.oneCell' = true) : Sl w (some ⟨g, 0, none⟩) 1 [x0, x1, x2] :=
  ⟨rfl, by intro u hu; simp at hu; rcases hu with rfl | rfl | rfl <;> assumption, Ry.of_cel h⟩
theorem Gd.one {w : World} {A : Option Addr} {c : Nat} (o : Rop) (h : RSpn w A o.sp) : Gd w [.int .i64 o.kind, .bool o.neg, .slice A o.sp.length c] [o] := ⟨[⟨o, A, c⟩], by simp [oflat, Ov.cells], rfl, by simpa using h⟩

/-- The document's ops, in an own row. -/
structure ROws (w : World) (B : Nat) (v : Value) (ops : List Rop) : Prop where
  row : ∃ us : List Ov, w.ownsRow B 109 3 v ops.length (oflat us) ∧ us.map (·.o) = ops ∧ ∀ u ∈ us, RSpn w u.A u.o.sp

def AtOk (s : List (BitVec 8)) (deep k : Nat) (ops : List Rop) (j : Nat) : Prop := ∀ (o : List Rop) (lv : Lv) (K : List Lv), K.length = deep → run s ⟨k, o, lv, K⟩ = run s (pieceEnd s ⟨j, o ++ ops, lv, K⟩)
def AtBad (s : List (BitVec 8)) (deep k bad q : Nat) : Prop := ∀ (o : List Rop) (lv : Lv) (K : List Lv), K.length = deep → run s ⟨k, o, lv, K⟩ = .error (bad, q)
def AltOk (s : List (BitVec 8)) (deep k : Nat) (ops : List Rop) (j : Nat) : Prop := ∀ (o : List Rop) (K : List Lv), K.length = deep → ∃ y : St, run s ⟨k, o, ⟨false, false⟩, K⟩ = run s y ∧ y.at_ = j ∧ y.outer = K ∧ (branchEnd y).ops = o ++ ops
def AltBad (s : List (BitVec 8)) (deep k bad q : Nat) : Prop := ∀ (o : List Rop) (K : List Lv), K.length = deep → run s ⟨k, o, ⟨false, false⟩, K⟩ = .error (bad, q)
theorem at_ok {s : List (BitVec 8)} {deep k : Nat} {y : BitVec 8} {o : Rop} {j : Nat} (hy : s[k]? = some y) (h40 : y ≠ 40#8) (h41 : y ≠ 41#8) (h124 : y ≠ 124#8) (h : atomL s k y = .ok (o, j)) : AtOk s deep k [o] j := fun o' lv K _ => by
  rw [run_step (x := ⟨k, o', lv, K⟩) hy]
  unfold step
  rw [if_neg h40, if_neg h41, if_neg h124, h]
theorem at_bad {s : List (BitVec 8)} {deep k : Nat} {y : BitVec 8} {q : Nat} (hy : s[k]? = some y) (h40 : y ≠ 40#8) (h41 : y ≠ 41#8) (h124 : y ≠ 124#8) (h : atomL s k y = .error q) : AtBad s deep k 2 q := fun o' lv K _ => by
  rw [run_step (x := ⟨k, o', lv, K⟩) hy]
  unfold step
  rw [if_neg h40, if_neg h41, if_neg h124, h]
theorem at_deep {s : List (BitVec 8)} {k : Nat} (hy : s[k]? = some 40#8) : AtBad s 8 k 5 k := fun o' lv K hK => by
  rw [run_step (x := ⟨k, o', lv, K⟩) hy]
  unfold step
  rw [if_pos rfl, if_pos (by exact hK)]
theorem run_open {s : List (BitVec 8)} {k : Nat} (hy : s[k]? = some 40#8) {o : List Rop} {lv : Lv} {K : List Lv} (hK : K.length ≠ 8) : run s ⟨k, o, lv, K⟩ = run s ⟨k + 1, o, ⟨false, false⟩, lv :: K⟩ := by
  rw [run_step (x := ⟨k, o, lv, K⟩) hy]
  unfold step
  rw [if_pos rfl, if_neg (by exact hK)]
theorem at_in_bad {s : List (BitVec 8)} {deep k bad q : Nat} (hd : deep < 8) (hy : s[k]? = some 40#8) (h : AltBad s (deep + 1) (k + 1) bad q) : AtBad s deep k bad q := fun o' lv K hK => by
  rw [run_open hy (by omega)]
  exact h o' (lv :: K) (by simp [hK])
theorem at_in_end {s : List (BitVec 8)} {deep k j : Nat} {ops : List Rop} (hd : deep < 8) (hy : s[k]? = some 40#8) (h : AltOk s (deep + 1) (k + 1) ops j) (hj : j = s.length) : AtBad s deep k 2 j := fun o' lv K hK => by
  rw [run_open hy (by omega)]
  obtain ⟨y, h1, h2, h3, h4⟩ := h o' (lv :: K) (by simp [hK])
  rw [h1, run_end (h2.trans hj), if_pos (by rw [h3]; simp), h2]
theorem at_in_ok {s : List (BitVec 8)} {deep k j : Nat} {ops : List Rop} (hd : deep < 8) (hy : s[k]? = some 40#8) (h : AltOk s (deep + 1) (k + 1) ops j) (hj : s[j]? = some 41#8) : AtOk s deep k ops (j + 1) := fun o' lv K hK => by
  rw [run_open hy (by omega)]
  obtain ⟨y, h1, h2, h3, h4⟩ := h o' (lv :: K) (by simp [hK])
  rw [h1, run_step (x := y) (by rw [h2]; exact hj)]
  unfold step
  rw [if_neg (by decide), if_pos rfl, h3]
  dsimp only
  rw [h2, h4]

/-- What atom returns. -/
def RaSays (w : World) (b : Nat) (sv : Value) (s : List (BitVec 8)) (n deep k p : Nat) (e : Ending) (w' : World) : Prop :=
  ∃ A m c cs j, e = .returned (.tuple #[.slice A m c, .int .i64 ((j : Nat) : Int)]) ∧ Sl w' A m cs ∧ m ≤ 1000 * (9 - deep) ∧ j ≤ 200 + 10 * (9 - deep) ∧ Frm [b] w w' ∧
    ((∃ ops, Rc w' b sv 0 p ∧ Gd w' cs ops ∧ k < j ∧ j ≤ n ∧ m + 1 ≤ 4 * (j - k) ∧ AtOk s deep k ops j) ∨ (∃ bad q, bad ≠ 0 ∧ Rc w' b sv bad q ∧ AtBad s deep k bad q))
/-- What Alt returns: an own row. -/
def RlSays (w : World) (b : Nat) (sv : Value) (s : List (BitVec 8)) (n deep k p : Nat) (e : Ending) (w' : World) : Prop :=
  ∃ A m c cs j, e = .returned (.tuple #[.slice A m c, .int .i64 ((j : Nat) : Int)]) ∧ w'.ownsRow w.heap.size 109 3 (.slice A m c) m cs ∧ (∀ u ∈ cs, u.oneCell' = true) ∧ m ≤ 1000 * (10 - deep) ∧ j ≤ 205 + 10 * (9 - deep) ∧ Frm [b] w w' ∧
    ((∃ ops, Rc w' b sv 0 p ∧ Gd w' cs ops ∧ k ≤ j ∧ j ≤ n ∧ (s[j]? = none ∨ s[j]? = some 41#8) ∧ m ≤ 4 * (j - k) + 1 ∧ AltOk s deep k ops j) ∨ (∃ bad q, bad ≠ 0 ∧ Rc w' b sv bad q ∧ AltBad s deep k bad q))

section
variable (w : World) (B b : Nat) (A : Option Addr) (n c p k deep : Nat) (s : List (BitVec 8)) (y : BitVec 8)
set_option maxRecDepth 100000 in
set_option maxHeartbeats 1000000 in
theorem ratom_deep (h : Rc w b (.slice A n c) 0 p) (hs : Bs w B A n s) (hk : k < n) (hn : n ≤ 80) (hy : s[k]? = some 40#8) :
    Calls Try.prog 50 #[.pointer (some ⟨b, 0, none⟩), .int .i64 (k : Int), .int .i64 ((8 : Nat) : Int)] w (RaSays w b (.slice A n c) s n 8 k p) := by
  have h0 := Cel.cell h 0
  obtain ⟨ad, rfl, _, hc⟩ := hs.at_ hk
  rw [List.getD_eq_getElem?_getD, hy] at hc
  have con := rwrong w b (.slice (some ad) n c) k 5 p h
  have HY := Lib.hid hy
  clear h hs hy
  go_enter Try.func50, Try.ntmps50
  go_wp2_with fail
  refine con.mono ?_
  rintro e w1 ⟨rfl, hra⟩
  have HRA := Lib.hid hra
  clear hra con
  go_wp2_with fail
  go_ret2
  exact ⟨none, 0, 0, [], k, rfl, ⟨rfl, by simp, Ry.nil_⟩, by omega, by omega, HRA.out.frm, .inr ⟨5, k, by decide, HRA.out.rc, at_deep HY.out⟩⟩

set_option maxRecDepth 100000 in
set_option maxHeartbeats 1000000 in
theorem ratom_in (h : Rc w b (.slice A n c) 0 p) (hs : Bs w B A n s) (hB : B ≤ b) (hk : k < n) (hn : n ≤ 80) (hy : s[k]? = some 40#8) (hd : deep < 8)
    (con : Calls Try.prog 25 #[.pointer (some ⟨b, 0, none⟩), .int .i64 ((k : Int) + 1), .int .i64 ((deep : Int) + 1)] w (RlSays w b (.slice A n c) s n (deep + 1) (k + 1) p)) :
    Calls Try.prog 50 #[.pointer (some ⟨b, 0, none⟩), .int .i64 (k : Int), .int .i64 (deep : Int)] w (RaSays w b (.slice A n c) s n deep k p) := by
  have h0 := Cel.cell h 0
  have hl := hs.len
  have hbw := h.lt
  have HBS := Lib.hid hs
  obtain ⟨ad, rfl, _, hc⟩ := hs.at_ hk
  rw [List.getD_eq_getElem?_getD, hy] at hc
  have HY := Lib.hid hy
  have HD := Lib.hid hd
  have d8 : decide ((8 : Int) ≤ (deep : Int)) = false := by simp; omega
  have CON := Lib.hid con
  clear h hs hy con
  go_enter Try.func50, Try.ntmps50
  go_wp2_with fail
  refine CON.out.mono ?_
  rintro e w1 ⟨A1, m1, c1, cs, j, rfl, ho, hone, hm, hj, hf, hst⟩
  have hcs : cs.length = m1 * 3 := ho.1
  have HSL := Lib.hid (show Sl w1 A1 m1 cs from ⟨hcs, hone, Ry.of_own ho (by decide)⟩)
  have HF := Lib.hid hf
  have HM := Lib.hid hm
  have HJ := Lib.hid hj
  have hj4 : j ≤ 400 := by omega
  clear ho hone hcs CON hm hj
  rcases hst with ⟨ops, hrc, hgd, hkj, hjn, hend, hm4, hok⟩ | ⟨bad, q, hbad, hrc, hb⟩
  · have HGD := Lib.hid hgd
    have HM4 := Lib.hid hm4
    have HOK := Lib.hid hok
    have HRC := Lib.hid hrc
    have r1 := Cel.cell hrc 1
    have HB1 := Lib.hid ((Ra.mk hrc hf).bs HBS.out hB hbw)
    clear hrc hgd hm4 hok hf
    go_wp2_with fail
    refine (ris w1 B b _ n c 0 p j s 41#8 HRC.out HB1.out).mono ?_
    rintro e w2 ⟨rfl, rfl⟩
    rcases hend with hend | hend
    · rw [decide_eq_false (by rw [hend]; simp)]
      have hjl : j = s.length := by
        rcases Nat.lt_or_ge j s.length with q | q
        · rw [List.getElem?_eq_getElem q] at hend; cases hend
        · omega
      have HJL := Lib.hid hjl
      clear hend hjl
      go_wp2_with fail
      refine (rwrong w1 b _ j 2 p HRC.out).mono ?_
      rintro e w3 ⟨rfl, hra⟩
      have HRA := Lib.hid hra
      clear hra
      go_wp2_with fail
      go_ret2
      refine ⟨A1, m1, c1, cs, j + 1, by rw [show ((j + 1 : Nat) : Int) = (j : Int) + 1 by omega]; rfl, ⟨HSL.out.1, HSL.out.2.1, HSL.out.2.2.frm HRA.out.frm ?_⟩, by have := HM.out; omega, by omega, HF.out.trans HRA.out.frm, .inr ⟨2, j, by decide, HRA.out.rc, at_in_end HD.out HY.out HOK.out HJL.out⟩⟩
      intro g hg o fz e
      rw [List.mem_singleton.1 hg] at e
      exact HRC.out.not_ty (by decide) o fz e
    · rw [decide_eq_true hend]
      have HEND := Lib.hid hend
      clear hend
      go_wp2_with fail
      go_ret2
      exact ⟨A1, m1, c1, cs, j + 1, by rw [show ((j + 1 : Nat) : Int) = (j : Int) + 1 by omega]; rfl, HSL.out, by have := HM.out; omega, by omega, HF.out, .inl ⟨ops, HRC.out, HGD.out, by omega, by have := get_lt HEND.out; omega, by have := HM4.out; omega, at_in_ok HD.out HY.out HOK.out HEND.out⟩⟩
  · have HRC := Lib.hid hrc
    have r1 := Cel.cell hrc 1
    have d0 : ((bad : Int) == 0) = false := by rw [beq_eq_false_iff_ne]; omega
    have HBD := Lib.hid hb
    clear hrc hb hf
    go_wp2_with fail
    go_ret2
    exact ⟨A1, m1, c1, cs, j + 1, by rw [show ((j + 1 : Nat) : Int) = (j : Int) + 1 by omega]; rfl, HSL.out, by have := HM.out; omega, by have := HJ.out; omega, HF.out, .inr ⟨bad, q, hbad, HRC.out, at_in_bad HD.out HY.out HBD.out⟩⟩
end
end Go.Proofs.Ytjpbndpfbdfhjaa.Reg
