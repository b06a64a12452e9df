/-
  The program's parser of patterns (layer 8): the calls that read on.
-/
import Derived.Test.YtjpbndpfbdfhjaaMRegPure
import Derived.Test.YtjpbndpfbdfhjaaMBase
import Derived.WalkSpells
import Derived.Laws.EntriesVeiled
import Derived.WalkKit
import Derived.ProofKit
import Derived.Below
import Derived.Outline
import Derived.Laws.BitsAllLaws
import Derived.OwnWalk
import Derived.RegionTactic
import Derived.Lib.Hide
import Derived.Deep.QuietTactic
import Derived.BigQuiet
import Derived.Test.YtjpbndpfbdfhjaaRows
namespace Go.Proofs.Ytjpbndpfbdfhjaa.Reg
open Go.RowKit
set_option linter.unusedVariables false
set_option linter.unusedSimpArgs false

/-- The parser at block b: its pattern, how far it has read, its ops, its level, its pile. -/
def Pc (w : World) (b : Nat) (sv : Value) (k : Nat) (ov : Value) (hb hp : Bool) (iv : Value) : Prop := Cel w b 98 [sv, .int .i64 (k : Int), ov, .bool hb, .bool hp, iv]
/-- Only draws are between w and w'. -/
structure Dr (w w' : World) : Prop where
  os : w'.os = w.os
  tape : w'.tape = w.tape
  output : w'.output = w.output
  heap : w'.heap = w.heap
theorem Dr.refl (w : World) : Dr w w := ⟨rfl, rfl, rfl, rfl⟩
theorem Dr.trans {w w1 w2 : World} (h : Dr w w1) (h2 : Dr w1 w2) : Dr w w2 := ⟨h2.os.trans h.os, h2.tape.trans h.tape, h2.output.trans h.output, h2.heap.trans h.heap⟩
theorem Dr.below {w w' : World} (h : Dr w w') (B : Nat) : Below B w w' := ⟨h.os, h.tape, h.output, by rw [h.heap]; exact Nat.le_refl _, fun _ _ => by rw [h.heap]⟩
theorem Dr.cel {w w' : World} (h : Dr w w') {g : Nat} {t : TypeId} {cs : List Value} (hc : Cel w g t cs) : Cel w' g t cs := by
  unfold Cel at hc ⊢
  rw [h.heap]; exact hc
theorem Dr.frm {w w' : World} (h : Dr w w') (l : List Nat) : Frm l w w' := ⟨h.os, h.tape, h.output, by rw [h.heap]; exact Nat.le_refl _, fun _ _ _ => by rw [h.heap]⟩
theorem Dr.bs {w w' : World} (h : Dr w w') {B n : Nat} {A : Option Addr} {s : List (BitVec 8)} (hs : Bs w B A n s) : Bs w' B A n s := hs.below (h.below _)

set_option maxRecDepth 100000 in
set_option maxHeartbeats 400000 in
theorem peek_no (w : World) (b : Nat) (A : Option Addr) (n c : Nat) (ov : Value) (hb hp : Bool) (iv : Value) (h : Pc w b (.slice A n c) n ov hb hp iv) :
    Calls Try.prog 44 #[.pointer (some ⟨b, 0, none⟩)] w fun e w' => e = .returned (.tuple #[.int .u8 0, .bool false]) ∧ Dr w w' := by
  have h0 := Cel.cell h 0
  have h1 := Cel.cell h 1
  clear h
  go_enter Try.func44, Try.ntmps44
  go_wp2_with fail
  go_quiet (fail)
  go_wp2_with fail
  go_ret2
  exact ⟨rfl, rfl, rfl, rfl, rfl⟩
set_option maxRecDepth 100000 in
set_option maxHeartbeats 400000 in
theorem peek_ok (w : World) (B b : Nat) (A : Option Addr) (n c k : Nat) (s : List (BitVec 8)) (ov : Value) (hb hp : Bool) (iv : Value) (h : Pc w b (.slice A n c) k ov hb hp iv) (hs : Bs w B A n s) (hk : k < n) :
    Calls Try.prog 44 #[.pointer (some ⟨b, 0, none⟩)] w fun e w' => e = .returned (.tuple #[v8 (s.getD k 0#8), .bool true]) ∧ Dr w w' := by
  have h0 := Cel.cell h 0
  have h1 := Cel.cell h 1
  obtain ⟨ad, rfl, _, hc⟩ := hs.at_ hk
  have d1 : ((k : Int) == (n : Int)) = false := by simp; omega
  clear h hs
  generalize s.getD k 0#8 = x at *
  go_enter Try.func44, Try.ntmps44
  go_wp2_with fail
  go_quiet (fail)
  go_wp2_with fail
  go_quiet (fail)
  go_wp2_with fail
  go_ret2
  exact ⟨rfl, rfl, rfl, rfl, rfl⟩
/-- What peek returns at a place. -/
def PkSays (s : List (BitVec 8)) (k : Nat) : Value := match s[k]? with
  | none => .tuple #[.int .u8 0, .bool false]
  | some x => .tuple #[v8 x, .bool true]
theorem peek_call (w : World) (B b : Nat) (A : Option Addr) (n c k : Nat) (s : List (BitVec 8)) (ov : Value) (hb hp : Bool) (iv : Value) (h : Pc w b (.slice A n c) k ov hb hp iv) (hs : Bs w B A n s) (hk : k ≤ n) :
    Calls Try.prog 44 #[.pointer (some ⟨b, 0, none⟩)] w fun e w' => e = .returned (PkSays s k) ∧ Dr w w' := by
  unfold PkSays
  have hl := hs.len
  rcases Nat.lt_or_ge k n with hlt | hge
  · have e : s[k]? = some (s.getD k 0#8) := by
      rw [List.getD_eq_getElem?_getD, List.getElem?_eq_getElem (by omega)]; rfl
    rw [e]
    exact peek_ok w B b A n c k s ov hb hp iv h hs hlt
  · obtain rfl : k = n := by omega
    rw [List.getElem?_eq_none (by omega)]
    exact peek_no w b A k c ov hb hp iv h

/-- Behind a call that reads on: the parser is at place k, and nothing else has changed. -/
structure At (w w' : World) (b : Nat) (sv : Value) (k : Nat) (ov : Value) (hb hp : Bool) (iv : Value) : Prop where
  pc : Pc w' b sv k ov hb hp iv
  frm : Frm [b] w w'
theorem Pc.lt {w : World} {b k : Nat} {sv ov iv : Value} {hb hp : Bool} (h : Pc w b sv k ov hb hp iv) : b < w.heap.size := Cel.lt h
theorem At.bs {w w' : World} {b k : Nat} {sv ov iv : Value} {hb hp : Bool} (h : At w w' b sv k ov hb hp iv) {A : Option Addr} {B n : Nat} {s : List (BitVec 8)} (hs : Bs w B A n s) (hB : B ≤ b) (hw : b < w.heap.size) : Bs w' B A n s :=
  hs.below (h.frm.below (by omega) (by simp; omega))
theorem At.refl {w : World} {b k : Nat} {sv ov iv : Value} {hb hp : Bool} (h : Pc w b sv k ov hb hp iv) : At w w b sv k ov hb hp iv := ⟨h, Frm.refl _ _⟩
theorem At.trans {w w1 w2 : World} {b k k' : Nat} {sv ov iv : Value} {hb hp : Bool} (h : At w w1 b sv k ov hb hp iv) (h2 : At w1 w2 b sv k' ov hb hp iv) : At w w2 b sv k' ov hb hp iv := ⟨h2.pc, h.frm.trans h2.frm⟩
theorem At.of_dr {w w' : World} {b k : Nat} {sv ov iv : Value} {hb hp : Bool} (h : Pc w b sv k ov hb hp iv) (hd : Dr w w') : At w w' b sv k ov hb hp iv := ⟨hd.cel h, hd.frm _⟩
theorem At.dr {w w1 w2 : World} {b k : Nat} {sv ov iv : Value} {hb hp : Bool} (h : At w w1 b sv k ov hb hp iv) (hd : Dr w1 w2) : At w w2 b sv k ov hb hp iv := h.trans (At.of_dr h.pc hd)
theorem Pc.next {w : World} {b k : Nat} {sv ov iv : Value} {hb hp : Bool} (h : Pc w b sv k ov hb hp iv) : At w (w.setCell ⟨b, 1, none⟩ (.int .i64 ((k : Int) + 1))) b sv (k + 1) ov hb hp iv :=
  ⟨by
    have := Cel.set h 1 (.int .i64 ((k : Int) + 1))
    unfold Pc
    rw [show ((k + 1 : Nat) : Int) = (k : Int) + 1 by omega]
    exact this, (Frm.refl _ _).set (by simp) _⟩
/-- Memory that is made changes nothing. -/
theorem At.below {w w1 w2 : World} {b k : Nat} {sv ov iv : Value} {hb hp : Bool} (h : At w w1 b sv k ov hb hp iv) (hb2 : Below w1.heap.size w1 w2) : At w w2 b sv k ov hb hp iv :=
  ⟨Cel.below h.pc hb2 (Cel.lt h.pc), h.frm.trans (Frm.of_below hb2)⟩

set_option maxRecDepth 100000 in
set_option maxHeartbeats 400000 in
theorem skip_yes (w : World) (B b : Nat) (A : Option Addr) (n c k : Nat) (s : List (BitVec 8)) (x : BitVec 8) (ov : Value) (hb hp : Bool) (iv : Value) (h : Pc w b (.slice A n c) k ov hb hp iv) (hs : Bs w B A n s) (hn : n ≤ 100000) (hx : s[k]? = some x) :
    Calls Try.prog 80 #[.pointer (some ⟨b, 0, none⟩), v8 x] w fun e w' => e = .returned (.bool true) ∧ At w w' b (.slice A n c) (k + 1) ov hb hp iv := by
  have hk := get_lt hx
  rw [hs.len] at hk
  have con := peek_call w B b A n c k s ov hb hp iv h hs (by omega)
  unfold PkSays at con
  rw [hx] at con
  dsimp only at con
  have H := Lib.hid h
  clear h hs hx
  go_enter Try.func80, Try.ntmps80
  go_wp2_with fail
  refine con.mono ?_
  rintro e w' ⟨rfl, hd⟩
  have h1 := Cel.cell (hd.cel H.out) 1
  have f1 := Cel.free (hd.cel H.out) 1
  have HD := Lib.hid hd
  clear hd
  go_wp2_with fail
  go_ret
  exact ⟨rfl, (At.of_dr H.out HD.out).trans (Pc.next (At.of_dr H.out HD.out).pc)⟩
set_option maxRecDepth 100000 in
set_option maxHeartbeats 400000 in
theorem skip_no (w : World) (B b : Nat) (A : Option Addr) (n c k : Nat) (s : List (BitVec 8)) (x : BitVec 8) (ov : Value) (hb hp : Bool) (iv : Value) (h : Pc w b (.slice A n c) k ov hb hp iv) (hs : Bs w B A n s) (hk : k ≤ n) (hx : s[k]? ≠ some x) :
    Calls Try.prog 80 #[.pointer (some ⟨b, 0, none⟩), v8 x] w fun e w' => e = .returned (.bool false) ∧ Dr w w' := by
  have con := peek_call w B b A n c k s ov hb hp iv h hs hk
  unfold PkSays at con
  clear h hs
  rcases hy : s[k]? with _ | y <;> rw [hy] at con hx <;> dsimp only at con
  · clear hx hy
    go_enter Try.func80, Try.ntmps80
    go_wp2_with fail
    refine con.mono ?_
    rintro e w' ⟨rfl, hd⟩
    have HD := Lib.hid hd
    clear hd
    go_wp2_with fail
    go_ret
    exact ⟨rfl, HD.out⟩
  · have d1 : ((y.toNat : Int) == (x.toNat : Int)) = false := by
      rw [beq_eq_false_iff_ne]
      intro e
      exact hx (by congr 1; apply BitVec.eq_of_toNat_eq; omega)
    clear hx hy
    go_enter Try.func80, Try.ntmps80
    go_wp2_with fail
    refine con.mono ?_
    rintro e w' ⟨rfl, hd⟩
    have HD := Lib.hid hd
    clear hd
    go_wp2_with fail
    go_ret
    exact ⟨rfl, HD.out⟩
/-- The program's skip. -/
theorem skip_call (w : World) (B b : Nat) (A : Option Addr) (n c k : Nat) (s : List (BitVec 8)) (x : BitVec 8) (ov : Value) (hb hp : Bool) (iv : Value) (h : Pc w b (.slice A n c) k ov hb hp iv) (hs : Bs w B A n s) (hk : k ≤ n) (hn : n ≤ 100000) :
    Calls Try.prog 80 #[.pointer (some ⟨b, 0, none⟩), v8 x] w fun e w' => e = .returned (.bool (decide (s[k]? = some x))) ∧ At w w' b (.slice A n c) (if s[k]? = some x then k + 1 else k) ov hb hp iv := by
  by_cases hx : s[k]? = some x
  · rw [if_pos hx, decide_eq_true hx]
    exact skip_yes w B b A n c k s x ov hb hp iv h hs hn hx
  · rw [if_neg hx, decide_eq_false hx]
    exact (skip_no w B b A n c k s x ov hb hp iv h hs hk hx).mono fun e w' q => ⟨q.1, At.of_dr h q.2⟩

set_option maxRecDepth 100000 in
set_option maxHeartbeats 400000 in
theorem named_call (w : World) (x : BitVec 8) :
    Calls Try.prog 88 #[v8 x] w fun e w' => e = .returned (.bool (named x)) ∧ w = w' := by
  unfold named
  by_cases h1 : 48 ≤ x.toNat
  all_goals by_cases h2 : x.toNat ≤ 57
  all_goals by_cases h3 : 65 ≤ x.toNat
  all_goals by_cases h4 : x.toNat ≤ 90
  all_goals by_cases h5 : 97 ≤ x.toNat
  all_goals by_cases h6 : x.toNat ≤ 122
  all_goals first | (exfalso; omega) | skip
  all_goals
    go_enter Try.func88, Try.ntmps88
    go_wp2_with fail
    go_ret
    simp [*] <;> omega
theorem v8_lit {x : BitVec 8} {k : Nat} (hk : k < 256) : ((x.toNat : Int) == (k : Int)) = decide (x = BitVec.ofNat 8 k) := by
  rw [Bool.eq_iff_iff]
  simp only [beq_iff_eq, decide_eq_true_eq]
  constructor
  · intro h
    apply BitVec.eq_of_toNat_eq
    rw [BitVec.toNat_ofNat, Nat.mod_eq_of_lt (by omega)]
    omega
  · rintro rfl
    rw [BitVec.toNat_ofNat, Nat.mod_eq_of_lt (by omega)]
set_option maxRecDepth 100000 in
set_option maxHeartbeats 400000 in
theorem escapedByte_call (w : World) (x : BitVec 8) :
    Calls Try.prog 85 #[v8 x] w fun e w' => e = .returned (match escB x with | none => .tuple #[.int .u8 0, .bool false] | some y => .tuple #[v8 y, .bool true]) ∧ w = w' := by
  unfold escB
  have e1 : ((x.toNat : Int) == 110) = decide (x = 110#8) := v8_lit (by decide)
  have e2 : ((x.toNat : Int) == 116) = decide (x = 116#8) := v8_lit (by decide)
  have e3 : ((x.toNat : Int) == 114) = decide (x = 114#8) := v8_lit (by decide)
  by_cases h1 : x = 110#8
  · subst h1
    go_enter Try.func85, Try.ntmps85
    go_wp2_with fail
    go_ret2
    exact ⟨rfl, rfl⟩
  by_cases h2 : x = 116#8
  · subst h2
    go_enter Try.func85, Try.ntmps85
    go_wp2_with fail
    go_ret2
    exact ⟨rfl, rfl⟩
  by_cases h3 : x = 114#8
  · subst h3
    go_enter Try.func85, Try.ntmps85
    go_wp2_with fail
    go_ret2
    exact ⟨rfl, rfl⟩
  rw [decide_eq_false h1] at e1
  rw [decide_eq_false h2] at e2
  rw [decide_eq_false h3] at e3
  rw [if_neg h1, if_neg h2, if_neg h3]
  have con := named_call w x
  clear h1 h2 h3
  cases hn : named x <;> rw [hn] at con <;> clear hn
  · go_enter Try.func85, Try.ntmps85
    go_wp2_with fail
    refine con.mono ?_
    rintro e w' ⟨rfl, rfl⟩
    go_wp2_with fail
    go_ret2
    exact ⟨rfl, rfl⟩
  · go_enter Try.func85, Try.ntmps85
    go_wp2_with fail
    refine con.mono ?_
    rintro e w' ⟨rfl, rfl⟩
    go_wp2_with fail
    go_ret2
    exact ⟨rfl, rfl⟩
def alone (x : BitVec 8) : Bool := decide (x ≠ 93#8 ∧ x ≠ 92#8 ∧ x ≠ 45#8 ∧ x ≠ 94#8)
set_option maxRecDepth 100000 in
set_option maxHeartbeats 400000 in
theorem alone_call (w : World) (x : BitVec 8) :
    Calls Try.prog 87 #[v8 x] w fun e w' => e = .returned (.bool (alone x)) ∧ w = w' := by
  have e1 : ((x.toNat : Int) == 93) = decide (x = 93#8) := v8_lit (by decide)
  have e2 : ((x.toNat : Int) == 92) = decide (x = 92#8) := v8_lit (by decide)
  have e3 : ((x.toNat : Int) == 45) = decide (x = 45#8) := v8_lit (by decide)
  have e4 : ((x.toNat : Int) == 94) = decide (x = 94#8) := v8_lit (by decide)
  by_cases h1 : x = 93#8
  · subst h1
    go_enter Try.func87, Try.ntmps87
    go_wp2_with fail
    go_ret
    exact ⟨rfl, rfl⟩
  by_cases h2 : x = 92#8
  · subst h2
    go_enter Try.func87, Try.ntmps87
    go_wp2_with fail
    go_ret
    exact ⟨rfl, rfl⟩
  by_cases h3 : x = 45#8
  · subst h3
    go_enter Try.func87, Try.ntmps87
    go_wp2_with fail
    go_ret
    exact ⟨rfl, rfl⟩
  by_cases h4 : x = 94#8
  · subst h4
    go_enter Try.func87, Try.ntmps87
    go_wp2_with fail
    go_ret
    exact ⟨rfl, rfl⟩
  have e5 : alone x = true := decide_eq_true ⟨h1, h2, h3, h4⟩
  rw [e5]
  rw [decide_eq_false h1] at e1
  rw [decide_eq_false h2] at e2
  rw [decide_eq_false h3] at e3
  rw [decide_eq_false h4] at e4
  clear h1 h2 h3 h4 e5
  go_enter Try.func87, Try.ntmps87
  go_wp2_with fail
  go_ret
  exact ⟨rfl, rfl⟩

/-- What a call that reads a byte of a set's item returns, and where the parser is then. -/
def SbSays (x : Except Nat (BitVec 8 × Nat)) : Value × Nat := match x with
  | .error e => (.tuple #[.int .u8 0, .bool false], e)
  | .ok (y, j) => (.tuple #[v8 y, .bool true], j)
theorem setByte_e1 {s : List (BitVec 8)} {k : Nat} {least : BitVec 8} (h : s[k]? = some 92#8) (h1 : s[k + 1]? = none) : setByte s k least = .error (k + 1) := by simp [setByte, h, h1]
theorem setByte_e2 {s : List (BitVec 8)} {k : Nat} {least y : BitVec 8} (h : s[k]? = some 92#8) (h1 : s[k + 1]? = some y) (h2 : escB y = none) : setByte s k least = .error (k + 1) := by simp [setByte, h, h1, h2]
theorem setByte_e3 {s : List (BitVec 8)} {k : Nat} {least y z : BitVec 8} (h : s[k]? = some 92#8) (h1 : s[k + 1]? = some y) (h2 : escB y = some z) (h3 : z.toNat < least.toNat) : setByte s k least = .error (k + 1) := by simp [setByte, h, h1, h2, h3]
theorem setByte_o3 {s : List (BitVec 8)} {k : Nat} {least y z : BitVec 8} (h : s[k]? = some 92#8) (h1 : s[k + 1]? = some y) (h2 : escB y = some z) (h3 : ¬ z.toNat < least.toNat) : setByte s k least = .ok (z, k + 2) := by
  unfold setByte; rw [if_pos h, h1]; dsimp only; rw [h2]; dsimp only; rw [if_neg h3]
theorem setByte_e4 {s : List (BitVec 8)} {k : Nat} {least : BitVec 8} (h : s[k]? = none) : setByte s k least = .error k := by simp [setByte, h]
theorem setByte_e5 {s : List (BitVec 8)} {k : Nat} {least y : BitVec 8} (h : s[k]? = some y) (h92 : y ≠ 92#8) (h3 : y = 93#8 ∨ y = 45#8 ∨ y = 94#8 ∨ y.toNat < least.toNat) : setByte s k least = .error k := by
  unfold setByte; rw [if_neg (by rw [h]; simpa using h92), h]; dsimp only; rw [if_pos h3]
theorem setByte_o5 {s : List (BitVec 8)} {k : Nat} {least y : BitVec 8} (h : s[k]? = some y) (h92 : y ≠ 92#8) (h3 : ¬ (y = 93#8 ∨ y = 45#8 ∨ y = 94#8 ∨ y.toNat < least.toNat)) : setByte s k least = .ok (y, k + 1) := by
  unfold setByte; rw [if_neg (by rw [h]; simpa using h92), h]; dsimp only; rw [if_neg h3]
set_option maxRecDepth 100000 in
set_option maxHeartbeats 1000000 in
theorem setByte_call (w : World) (B b : Nat) (A : Option Addr) (n c k : Nat) (s : List (BitVec 8)) (least : BitVec 8) (ov : Value) (hb hp : Bool) (iv : Value) (h : Pc w b (.slice A n c) k ov hb hp iv) (hs : Bs w B A n s) (hB : B ≤ b) (hk : k ≤ n) (hn : n ≤ 100000) :
    Calls Try.prog 84 #[.pointer (some ⟨b, 0, none⟩), v8 least] w fun e w' => e = .returned (SbSays (setByte s k least)).1 ∧ At w w' b (.slice A n c) (SbSays (setByte s k least)).2 ov hb hp iv := by
  have hl := hs.len
  have con := skip_call w B b A n c k s 92#8 ov hb hp iv h hs hk hn
  replace con : Calls Try.prog 80 #[.pointer (some ⟨b, 0, none⟩), .int .u8 92] w fun e w' => e = .returned (.bool (decide (s[k]? = some 92#8))) ∧ At w w' b (.slice A n c) (if s[k]? = some 92#8 then k + 1 else k) ov hb hp iv := con
  have hbw := h.lt
  have HS := Lib.hid hs
  clear h hs
  generalize hr : setByte s k least = r
  by_cases h92 : s[k]? = some 92#8
  · rw [if_pos h92, decide_eq_true h92] at con
    have hk1 : k + 1 ≤ n := by have := get_lt h92; omega
    have H92 := Lib.hid h92
    clear h92
    go_enter Try.func84, Try.ntmps84
    go_wp2_with fail
    refine con.mono ?_
    rintro e w1 ⟨rfl, hw1⟩
    have HW1 := Lib.hid hw1
    go_wp2_with fail
    refine (peek_call w1 B b A n c (k + 1) s ov hb hp iv hw1.pc (hw1.bs HS.out hB hbw) hk1).mono ?_
    clear hw1
    rintro e w2 ⟨rfl, hd⟩
    have HD := Lib.hid (HW1.out.dr hd)
    clear hd
    unfold PkSays
    rcases hy : s[k + 1]? with _ | y <;> dsimp only
    · have HR := Lib.hid (setByte_e1 (least := least) H92.out hy)
      clear hy
      go_wp2_with fail
      go_ret2
      rw [← hr, HR.out]
      exact ⟨rfl, HD.out⟩
    · have HY := Lib.hid hy
      clear hy
      go_wp2_with fail
      refine (escapedByte_call _ y).mono ?_
      rintro e w3 ⟨rfl, rfl⟩
      rcases hz : escB y with _ | z <;> dsimp only
      · have HR := Lib.hid (setByte_e2 (least := least) H92.out HY.out hz)
        clear hz
        go_wp2_with fail
        go_ret2
        rw [← hr, HR.out]
        exact ⟨rfl, HD.out⟩
      · have HZ := Lib.hid hz
        clear hz
        by_cases hlt : z.toNat < least.toNat
        · have HR := Lib.hid (setByte_e3 (least := least) H92.out HY.out HZ.out hlt)
          have d1 : decide (z.toNat < least.toNat) = true := decide_eq_true hlt
          clear hlt
          go_wp2_with fail
          go_ret2
          rw [← hr, HR.out]
          exact ⟨rfl, HD.out⟩
        · have HR := Lib.hid (setByte_o3 (least := least) H92.out HY.out HZ.out hlt)
          have d1 : decide (z.toNat < least.toNat) = false := decide_eq_false hlt
          clear hlt
          have h1 := Cel.cell HD.out.pc 1
          have f1 := Cel.free HD.out.pc 1
          go_wp2_with fail
          go_ret2
          rw [← hr, HR.out]
          exact ⟨rfl, HD.out.trans (Pc.next HD.out.pc)⟩
  · rw [if_neg h92, decide_eq_false h92] at con
    have H92 := Lib.hid h92
    clear h92
    go_enter Try.func84, Try.ntmps84
    go_wp2_with fail
    refine con.mono ?_
    rintro e w1 ⟨rfl, hw1⟩
    have HW1 := Lib.hid hw1
    go_wp2_with fail
    refine (peek_call w1 B b A n c k s ov hb hp iv hw1.pc (hw1.bs HS.out hB hbw) hk).mono ?_
    clear hw1
    rintro e w2 ⟨rfl, hd⟩
    have HD := Lib.hid (HW1.out.dr hd)
    clear hd
    unfold PkSays
    rcases hy : s[k]? with _ | y <;> dsimp only
    · have HR := Lib.hid (setByte_e4 (least := least) hy)
      clear hy
      go_wp2_with fail
      go_ret2
      rw [← hr, HR.out]
      exact ⟨rfl, HD.out⟩
    · have HY := Lib.hid hy
      have h9 := Lib.hid (show y ≠ 92#8 from fun e => H92.out (by rw [hy, e]))
      clear hy
      go_wp2_with fail
      refine (alone_call _ y).mono ?_
      rintro e w3 ⟨rfl, rfl⟩
      rcases ha : alone y with _ | _
      · have HR := Lib.hid (setByte_e5 (least := least) HY.out h9.out (by
          by_cases q1 : y = 93#8
          · exact .inl q1
          by_cases q2 : y = 45#8
          · exact .inr (.inl q2)
          by_cases q3 : y = 94#8
          · exact .inr (.inr (.inl q3))
          · have q : alone y = true := decide_eq_true ⟨q1, h9.out, q2, q3⟩
            rw [ha] at q; cases q))
        clear ha
        go_wp2_with fail
        go_ret2
        rw [← hr, HR.out]
        exact ⟨rfl, HD.out⟩
      · have HA := Lib.hid (of_decide_eq_true (show decide (y ≠ 93#8 ∧ y ≠ 92#8 ∧ y ≠ 45#8 ∧ y ≠ 94#8) = true from ha))
        clear ha
        by_cases hlt : y.toNat < least.toNat
        · have HR := Lib.hid (setByte_e5 (least := least) HY.out h9.out (.inr (.inr (.inr hlt))))
          have d1 : decide (y.toNat < least.toNat) = true := decide_eq_true hlt
          clear hlt
          go_wp2_with fail
          go_ret2
          rw [← hr, HR.out]
          exact ⟨rfl, HD.out⟩
        · have HR := Lib.hid (setByte_o5 (least := least) HY.out h9.out (by
            rintro (q | q | q | q)
            · exact HA.out.1 q
            · exact HA.out.2.2.1 q
            · exact HA.out.2.2.2 q
            · exact hlt q))
          have d1 : decide (y.toNat < least.toNat) = false := decide_eq_false hlt
          clear hlt
          have h1 := Cel.cell HD.out.pc 1
          have f1 := Cel.free HD.out.pc 1
          go_wp2_with fail
          go_ret2
          rw [← hr, HR.out]
          exact ⟨rfl, HD.out.trans (Pc.next HD.out.pc)⟩
end Go.Proofs.Ytjpbndpfbdfhjaa.Reg
