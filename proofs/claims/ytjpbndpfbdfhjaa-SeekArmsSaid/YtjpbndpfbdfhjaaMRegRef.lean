/-
  The document's parser of patterns (layer 8): what it looks at.
-/
import Derived.Test.YtjpbndpfbdfhjaaMRegSet
namespace Go.Proofs.Ytjpbndpfbdfhjaa.Reg
open Go.RowKit
set_option linter.unusedVariables false
set_option linter.unusedSimpArgs false

/-- The reader at block b: its pattern, what is amiss, and where. -/
def Rc (w : World) (b : Nat) (sv : Value) (bad place : Nat) : Prop := Cel w b 78 [sv, .int .i64 (bad : Int), .int .i64 (place : Int)]
/-- Behind a call that looks: only the reader has changed. -/
structure Ra (w w' : World) (b : Nat) (sv : Value) (bad place : Nat) : Prop where
  rc : Rc w' b sv bad place
  frm : Frm [b] w w'
theorem Rc.lt {w : World} {b bad p : Nat} {sv : Value} (h : Rc w b sv bad p) : b < w.heap.size := Cel.lt h
theorem Ra.refl {w : World} {b bad p : Nat} {sv : Value} (h : Rc w b sv bad p) : Ra w w b sv bad p := ⟨h, Frm.refl _ _⟩
theorem Ra.trans {w w1 w2 : World} {b bad p bad' p' : Nat} {sv : Value} (h : Ra w w1 b sv bad p) (h2 : Ra w1 w2 b sv bad' p') : Ra w w2 b sv bad' p' := ⟨h2.rc, h.frm.trans h2.frm⟩
theorem Ra.below {w w1 w2 : World} {b bad p : Nat} {sv : Value} (h : Ra w w1 b sv bad p) (hb : Below w1.heap.size w1 w2) : Ra w w2 b sv bad p := ⟨Cel.below h.rc hb h.rc.lt, h.frm.trans (Frm.of_below hb)⟩
theorem Ra.bs {w w' : World} {b bad p : Nat} {sv : Value} (h : Ra w w' b sv bad p) {A : Option Addr} {B n : Nat} {s : List (BitVec 8)} (hs : Bs w B A n s) (hB : B ≤ b) (hw : b < w.heap.size) : Bs w' B A n s := hs.below (h.frm.below (by omega) (by simp; omega))
theorem Ra.setNew {w w1 : World} {b bad p : Nat} {sv : Value} (h : Ra w w1 b sv bad p) {g : Nat} (hg : w.heap.size ≤ g) (hw : b < w.heap.size) (i : Nat) (u : Value) : Ra w (w1.setCell ⟨g, i, none⟩ u) b sv bad p :=
  ⟨Cel.far h.rc (by simp; omega) u, h.frm.setNew hg u⟩
theorem Ra.setNew3 {w w1 : World} {b bad p : Nat} {sv : Value} (h : Ra w w1 b sv bad p) {g : Nat} (hg : w.heap.size ≤ g) (hw : b < w.heap.size) (u0 u1 u2 : Value) : Ra w (((w1.setCell ⟨g, 0, none⟩ u0).setCell ⟨g, 1, none⟩ u1).setCell ⟨g, 2, none⟩ u2) b sv bad p :=
  ((h.setNew hg hw 0 u0).setNew hg hw 1 u1).setNew hg hw 2 u2
theorem Ra.grown {w w1 w2 : World} {b bad p : Nat} {sv : Value} (h : Ra w w1 b sv bad p) (hw : b < w.heap.size) {row : Option Nat} (hg : w1.grownBy w2 row) (hr : ∀ q, row = some q → w.heap.size ≤ q) : Ra w w2 b sv bad p :=
  ⟨Cel.grown h.rc hg (fun e => by have := hr b e; omega), h.frm.grown hg fun q e hlt => absurd (hr q e) (by omega)⟩

set_option maxRecDepth 100000 in
set_option maxHeartbeats 400000 in
theorem rwrong (w : World) (b : Nat) (sv : Value) (k bad p : Nat) (h : Rc w b sv 0 p) :
    Calls Try.prog 26 #[.pointer (some ⟨b, 0, none⟩), .int .i64 (k : Int), .int .i64 (bad : Int)] w fun e w' => e = .returned (.tuple #[]) ∧ Ra w w' b sv bad k := by
  have h1 := Cel.cell h 1
  have f1 := Cel.free h 1
  have h2 := Cel.cell h 2
  have f2 := Cel.free h 2
  have H := Lib.hid h
  clear h
  go_enter Try.func26, Try.ntmps26
  go_wp2_with fail
  go_end0
  exact ⟨rfl, (Cel.set H.out 1 _).set 2 _, ((Frm.refl [b] w).set (by simp) _).set (by simp) _⟩

set_option maxRecDepth 100000 in
set_option maxHeartbeats 400000 in
theorem ris (w : World) (B b : Nat) (A : Option Addr) (n c bad p k : Nat) (s : List (BitVec 8)) (x : BitVec 8) (h : Rc w b (.slice A n c) bad p) (hs : Bs w B A n s) :
    Calls Try.prog 40 #[.pointer (some ⟨b, 0, none⟩), .int .i64 (k : Int), v8 x] w fun e w' => e = .returned (.bool (decide (s[k]? = some x))) ∧ w = w' := by
  have h0 := Cel.cell h 0
  have hl := hs.len
  rcases Nat.lt_or_ge k n with hlt | hge
  · obtain ⟨ad, rfl, _, hc⟩ := hs.at_ hlt
    have e : s[k]? = some (s.getD k 0#8) := by rw [List.getD_eq_getElem?_getD, List.getElem?_eq_getElem (by omega)]; rfl
    have e2 : decide (s[k]? = some x) = (((s.getD k 0#8).toNat : Int) == (x.toNat : Int)) := by
      rw [e, Bool.eq_iff_iff]
      simp only [beq_iff_eq, decide_eq_true_eq, Option.some.injEq]
      exact ⟨fun q => by rw [q], fun q => BitVec.eq_of_toNat_eq (by omega)⟩
    rw [e2]
    generalize s.getD k 0#8 = y at *
    have d1 : decide ((k : Int) < (n : Int)) = true := by simp; omega
    clear h hs e e2
    go_enter Try.func40, Try.ntmps40
    go_wp2_with fail
    go_ret
    exact ⟨rfl, rfl⟩
  · have e : s[k]? = none := List.getElem?_eq_none (by omega)
    rw [e]
    have d1 : decide (k < n) = false := by simp; omega
    clear h hs e
    go_enter Try.func40, Try.ntmps40
    go_wp2_with fail
    go_ret
    exact ⟨rfl, rfl⟩

set_option maxRecDepth 100000 in
set_option maxHeartbeats 400000 in
theorem rnamed (w : World) (x : BitVec 8) :
    Calls Try.prog 79 #[v8 x] w fun e w' => e = .returned (.bool (named x)) ∧ w = w' := by
  unfold named
  by_cases h1 : 48 ≤ x.toNat
  all_goals by_cases h2 : x.toNat ≤ 57
  all_goals by_cases h3 : 65 ≤ x.toNat
  all_goals by_cases h4 : x.toNat ≤ 90
  all_goals by_cases h5 : 97 ≤ x.toNat
  all_goals by_cases h6 : x.toNat ≤ 122
  all_goals first | (exfalso; omega) | skip
  all_goals
    go_enter Try.func79, Try.ntmps79
    go_wp2_with fail
    go_ret
    simp [*] <;> omega

/-- The byte that is escaped at a place, and the place behind it; or it is amiss there. -/
def escd (s : List (BitVec 8)) (k : Nat) : Except Nat (BitVec 8 × Nat) := match s[k]? with
  | none => .error k
  | some c => match escB c with
    | none => .error k
    | some y => .ok (y, k + 1)
/-- What a call that reads a byte returns: what, if nothing is amiss. -/
def RbSays (w : World) (b : Nat) (sv : Value) (p n : Nat) (x : Except Nat (BitVec 8 × Nat)) (e : Ending) (w' : World) : Prop := match x with
  | .error q => ∃ (u : BitVec 8) (j : Nat), e = .returned (.tuple #[v8 u, .int .i64 (j : Int)]) ∧ j ≤ n + 2 ∧ Ra w w' b sv 2 q
  | .ok (y, j) => e = .returned (.tuple #[v8 y, .int .i64 (j : Int)]) ∧ Ra w w' b sv 0 p

set_option maxRecDepth 100000 in
set_option maxHeartbeats 1000000 in
theorem rescaped (w : World) (B b : Nat) (A : Option Addr) (n c p k : Nat) (s : List (BitVec 8)) (h : Rc w b (.slice A n c) 0 p) (hs : Bs w B A n s) (hk : k ≤ n) (hn : n ≤ 100000) :
    Calls Try.prog 67 #[.pointer (some ⟨b, 0, none⟩), .int .i64 (k : Int)] w (RbSays w b (.slice A n c) p n (escd s k)) := by
  have h0 := Cel.cell h 0
  have hl := hs.len
  have H := Lib.hid h
  rcases Nat.lt_or_ge k n with hlt | hge
  · obtain ⟨ad, rfl, _, hc⟩ := hs.at_ hlt
    have e : s[k]? = some (s.getD k 0#8) := by rw [List.getD_eq_getElem?_getD, List.getElem?_eq_getElem (by omega)]; rfl
    unfold escd
    rw [e]
    dsimp only
    generalize s.getD k 0#8 = y at *
    have d1 : decide (n ≤ k) = false := by simp; omega
    clear h hs e
    unfold escB
    have e1 : ((y.toNat : Int) == 110) = decide (y = 110#8) := v8_lit (by decide)
    have e2 : ((y.toNat : Int) == 116) = decide (y = 116#8) := v8_lit (by decide)
    have e3 : ((y.toNat : Int) == 114) = decide (y = 114#8) := v8_lit (by decide)
    by_cases h1 : y = 110#8
    · subst h1
      go_enter Try.func67, Try.ntmps67
      go_wp2_with fail
      go_ret2
      exact ⟨rfl, Ra.refl H.out⟩
    by_cases h2 : y = 116#8
    · subst h2
      go_enter Try.func67, Try.ntmps67
      go_wp2_with fail
      go_ret2
      exact ⟨rfl, Ra.refl H.out⟩
    by_cases h3 : y = 114#8
    · subst h3
      go_enter Try.func67, Try.ntmps67
      go_wp2_with fail
      go_ret2
      exact ⟨rfl, Ra.refl H.out⟩
    rw [decide_eq_false h1] at e1
    rw [decide_eq_false h2] at e2
    rw [decide_eq_false h3] at e3
    rw [if_neg h1, if_neg h2, if_neg h3]
    have con := rnamed w y
    clear h1 h2 h3
    cases hnm : named y <;> rw [hnm] at con <;> clear hnm
    · go_enter Try.func67, Try.ntmps67
      go_wp2_with fail
      refine con.mono ?_
      rintro e w1 ⟨rfl, rfl⟩
      go_wp2_with fail
      go_ret2
      exact ⟨rfl, Ra.refl H.out⟩
    · go_enter Try.func67, Try.ntmps67
      go_wp2_with fail
      refine con.mono ?_
      rintro e w1 ⟨rfl, rfl⟩
      go_wp2_with fail
      refine (rwrong w b _ k 2 p H.out).mono ?_
      rintro e w2 ⟨rfl, hra⟩
      have HRA := Lib.hid hra
      clear hra
      go_wp2_with fail
      go_ret2
      exact ⟨y, k + 1, rfl, by omega, HRA.out⟩
  · obtain rfl : k = n := by omega
    have e : s[k]? = none := List.getElem?_eq_none (by omega)
    unfold escd
    rw [e]
    dsimp only
    clear h hs e
    go_enter Try.func67, Try.ntmps67
    go_wp2_with fail
    refine (rwrong w b _ k 2 p H.out).mono ?_
    rintro e w2 ⟨rfl, hra⟩
    have HRA := Lib.hid hra
    clear hra
    go_wp2_with fail
    go_ret2
    exact ⟨0#8, k, rfl, by omega, HRA.out⟩
end Go.Proofs.Ytjpbndpfbdfhjaa.Reg
