/-
Texts: ChkAsk ChkNames VarsFilled VarsPieces VarsSmall VarsLead
-/
import Derived.Test.YteohlpmojfjjdaaGreatC0
import Derived.Test.YteohlpmojfjjdaaGreatC1
import Derived.Test.YteohlpmojfjjdaaGreatC2
import Derived.Test.YteohlpmojfjjdaaGreatC3
import Derived.Test.YteohlpmojfjjdaaGreatC5
import Derived.Test.YteohlpmojfjjdaaGreatC7
import Derived.Test.YteohlpmojfjjdaaGreatC8
import Derived.Test.YteohlpmojfjjdaaGreatC9
import Derived.Test.YteohlpmojfjjdaaGreatC18
import Derived.Test.YteohlpmojfjjdaaGreatC23
import Derived.BigQuiet
set_option linter.unusedVariables false
set_option linter.unusedSimpArgs false
set_option maxRecDepth 100000
set_option maxHeartbeats 4000000
section
namespace Go.Proofs.YteohlpmojfjjdaaGreat.Chk
open Go.RowKit
open Lex (Tx Cr cr_ry)
structure Ask where
 k : Nat
 c : Array Value
def Ask.v (a : Ask) : Value := .func (.func a.k) #[] a.c
def Ans (w : World) (a : Ask) (e : Int) : Prop := Book.Enters a.k ∧ ∀ W, Below w.heap.size w W → Calls Tryz.prog a.k a.c W fun en w' => en = .returned (.int .i64 e) ∧ Below W.heap.size W w'
theorem errorIf_ (w : World) (c : Bool) (e : Int) : Calls Tryz.prog 45 #[.bool c, .int .i64 e] w fun en w' => en = .returned (.int .i64 (bE c e)) ∧ w = w' := by
 cases c
 ·go_enter Tryz.func45, Tryz.ntmps45
  go_wp2_with fail
  go_ret
  exact ⟨rfl, rfl⟩
 ·go_enter Tryz.func45, Tryz.ntmps45
  go_wp2_with fail
  go_ret
  exact ⟨rfl, rfl⟩
theorem isWithin_ (w : World) (x a b : Int) : Calls Tryz.prog 47 #[.int .i64 x, .int .i64 a, .int .i64 b] w fun en w' => en = .returned (.bool (decide (a ≤ x) && decide (x ≤ b))) ∧ w = w' := by
 by_cases h : a ≤ x
 ·have d := decide_eq_true h
  go_enter Tryz.func47, Tryz.ntmps47
  go_wp2_with fail
  go_ret
  exact ⟨by first | rfl | (rw [d]; rfl), rfl⟩
 ·have d := decide_eq_false h
  go_enter Tryz.func47, Tryz.ntmps47
  go_wp2_with fail
  go_ret
  exact ⟨by first | rfl | (rw [d]; rfl), rfl⟩
theorem isTag_ (w : World) (x : Int) : Calls Tryz.prog 52 #[.int .i64 x] w fun en w' => en = .returned (.bool (decide (x = 0) || decide (x = 1) || decide (x = 2))) ∧ w = w' := by
 by_cases h : x = 0
 ·subst h
  go_enter Tryz.func52, Tryz.ntmps52
  go_wp2_with fail
  go_ret
  exact ⟨rfl, rfl⟩
 by_cases h1 : x = 1
 ·subst h1
  go_enter Tryz.func52, Tryz.ntmps52
  go_wp2_with fail
  go_ret
  exact ⟨rfl, rfl⟩
 have d0 : (x == 0) = false := by simp [h]
 have d1 : (x == 1) = false := by simp [h1]
 go_enter Tryz.func52, Tryz.ntmps52
 go_wp2_with fail
 go_ret
 refine ⟨?_, rfl⟩
 rw [decide_eq_false h, decide_eq_false h1, Bool.false_or, Bool.false_or]
 rfl
theorem first_ (w : World) (l : List (Ask × Int)) (h : ∀ p ∈ l, Ans w p.1 p.2) {rb n c : Nat} (hc : Cel w rb 114 (l.map fun p => p.1.v)) (hn : n = l.length) (hn2 : n ≤ 100) :
  Calls Tryz.prog 26 #[.slice (some ⟨rb, 0, none⟩) n c] w fun e w' => e = .returned (.int .i64 (firstE (l.map (·.2)))) ∧ Below w.heap.size w w' := by
 have HH := Lib.hid h
 have HC := Lib.hid hc
 have HN := Lib.hid hn
 obtain ⟨E, hE⟩ : ∃ E, E = firstE (l.map (·.2)) := ⟨_, rfl⟩
 rw [← hE]
 have HE := Lib.hid hE
 clear h hc hn hE
 go_enter Tryz.func26, Tryz.ntmps26
 go_wp2_with fail
 go_loopw [8] (fun v8 wr => ∃ (i : Nat), i ≤ n ∧ v8 = .int .i64 (i : Int) ∧ Below w.heap.size w wr ∧ Hid (E = firstE ((l.drop i).map (·.2)))) (fun v8 _ => n - (intOf v8).toNat)
 case atStart => exact ⟨0, Nat.zero_le _, rfl, Below.refl _ _, Lib.hid (by rw [List.drop_zero]; exact HE.out)⟩
 case round =>
  obtain ⟨i, hi, rfl, hb, HK⟩ := hrel
  obtain ⟨W0, rfl⟩ : ∃ W0, W0 = wr := ⟨_, rfl⟩
  have HB := Lib.hid hb
  clear hb
  rcases Nat.lt_or_ge i n with hlt | hge
  ·obtain ⟨p, hp⟩ : ∃ p, l[i]? = some p := ⟨_, List.getElem?_eq_getElem (by rw [← HN.out]; exact hlt)⟩
   obtain ⟨hE, con⟩ := HH.out p (List.mem_of_getElem? hp)
   have con := con W0 HB.out
   have k0 : W0.cell? ⟨rb, i, none⟩ = some p.1.v := by
    rw [Cel.cell (Cel.below HC.out HB.out (Cel.lt HC.out)) i, List.getElem?_map, hp]
    rfl
   have hd : l.drop i = p :: l.drop (i + 1) := drop_at' hp
   obtain ⟨⟨kf, cf⟩, z⟩ := p
   have HK1 := Lib.hid (show E = if z ≠ 0 then z else firstE ((l.drop (i + 1)).map (·.2)) by rw [HK.out, hd]; rfl)
   unfold Book.Enters at hE
   unfold Ask.v at k0
   dsimp only at hE con k0
   clear hp hd HK
   go_wp2_with fail
   refine con.mono ?_
   clear con k0
   rintro e w2 ⟨rfl, hb2⟩
   have HB2 := Lib.hid (HB.out.trans (hb2.mono HB.out.size))
   clear hb2
   by_cases hz : z = 0
   ·subst hz
    have HK2 := Lib.hid (show E = firstE ((l.drop (i + 1)).map (·.2)) by rw [HK1.out, if_neg (by simp)])
    go_wp2_with fail
    exact ⟨⟨i + 1, hlt, by rw [show ((i + 1 : Nat) : Int) = (i : Int) + 1 by omega], HB2.out, HK2⟩, by simp [intOf]; omega⟩
   ·have HK2 := Lib.hid (show E = z by rw [HK1.out, if_pos hz])
    have d : (z == 0) = false := by simp [hz]
    clear hz
    go_wp2_with fail
    go_ret
    exact ⟨by rw [HK2.out]; rfl, HB2.out⟩
  ·obtain rfl : i = n := by omega
   have HK2 := Lib.hid (show E = 0 by rw [HK.out, List.drop_eq_nil_of_le (by rw [← HN.out]; exact Nat.le_refl _)]; rfl)
   go_wp2_with fail
   go_ret
   exact ⟨by rw [HK2.out]; rfl, HB.out⟩
end Go.Proofs.YteohlpmojfjjdaaGreat.Chk
end
section
namespace Go.Proofs.YteohlpmojfjjdaaGreat.Chk
open Go.RowKit
open Lex (Tx Cr cr_ry)
open Vars (scell)
open Book (str_beq)
structure Nn (w : World) (g : Nat) (ss : List GStep) (o : List (List B)) : Prop where
 ex : ∃ b1 n1 b2 n2 A c, Cel w g 83 [.map (some b1), .map (some b2), .slice A o.length c] ∧ Mp w b1 n1 (stF ss) ∧ Mp w b2 n2 (vaF o) ∧ Ry 9 w A (o.map scell)
theorem Nn.below {w w' : World} {g : Nat} {ss : List GStep} {o : List (List B)} (h : Nn w g ss o) (hb : Below w.heap.size w w') : Nn w' g ss o := by
 obtain ⟨b1, n1, b2, n2, A, c, h1, h2, h3, h4⟩ := h.ex
 exact ⟨b1, n1, b2, n2, A, c, Cel.below h1 hb h1.lt, h2.below hb, h3.below hb, h4.below hb⟩
section
variable {w : World} {g : Nat} {ss : List GStep} {o : List (List B)}
theorem isVariable_ (h : Nn w g ss o) (x : List B) (hx : x.length ≤ 100000) : Calls Tryz.prog 43 #[.pointer (some ⟨g, 0, none⟩), .string (str x)] w fun e w' => e = .returned (.bool (vaF o x).isSome) ∧ w = w' := by
 obtain ⟨b1, n1, b2, n2, A, c, h1, h2, h3, h4⟩ := h.ex
 have k1 := h1.cell 1
 change _ = some (Value.map (some b2)) at k1
 have r := h3.lookS x hx
 obtain ⟨s, hs⟩ : ∃ s, s = str x := ⟨_, rfl⟩
 obtain ⟨q, hq⟩ : ∃ q, q = (vaF o x).isSome := ⟨_, rfl⟩
 obtain ⟨z, hz⟩ : ∃ z, z = (vaF o x).getD 0 := ⟨_, rfl⟩
 rw [← hs, ← hq, ← hz] at r
 rw [← hs, ← hq]
 clear h1 h2 h3 h4 h hs hq hz
 go_enter Tryz.func43, Tryz.ntmps43
 go_wp2_with fail
 go_ret
 exact ⟨rfl, rfl⟩
theorem variable_ (h : Nn w g ss o) (x : List B) (hx : x.length ≤ 100000) : Calls Tryz.prog 65 #[.pointer (some ⟨g, 0, none⟩), .string (str x)] w fun e w' => e = .returned (.int .i64 (varF o x)) ∧ w = w' := by
 obtain ⟨b1, n1, b2, n2, A, c, h1, h2, h3, h4⟩ := h.ex
 have k1 := h1.cell 1
 change _ = some (Value.map (some b2)) at k1
 have r := h3.lookZ x hx
 have he := str_empty (a := x)
 by_cases hx0 : x = []
 ·subst hx0
  clear h1 h2 h3 h4 h r he
  rw [show str [] = ByteArray.mk #[] from rfl]
  go_enter Tryz.func65, Tryz.ntmps65
  go_wp2_with fail
  go_ret
  exact ⟨rfl, rfl⟩
 ·have HV := Lib.hid (show varF o x = (vaF o x).getD 0 by unfold varF; rw [if_neg hx0])
  rw [decide_eq_false hx0] at he
  obtain ⟨s, hs⟩ : ∃ s, s = str x := ⟨_, rfl⟩
  obtain ⟨z, hz⟩ : ∃ z, z = (vaF o x).getD 0 := ⟨_, rfl⟩
  rw [← hs, ← hz] at r
  rw [← hs] at he
  rw [HV.out, ← hs, ← hz]
  clear h1 h2 h3 h4 h hs hz HV hx0
  go_enter Tryz.func65, Tryz.ntmps65
  go_wp2_with fail
  go_ret
  exact ⟨rfl, rfl⟩
theorem end_ (w : World) (nm : List B) : Calls Tryz.prog 103 #[.string (str nm)] w fun e w' => e = .returned (.tuple #[.int .i64 ((endF nm).getD 0), .bool (endF nm).isSome]) ∧ w = w' := by
 by_cases h1 : nm = wDone
 ·rw [show endF nm = some (-1) by unfold endF; rw [if_pos h1]]
  subst h1
  rw [show str wDone = ByteArray.mk #[100, 111, 110, 101] from rfl]
  go_enter Tryz.func103, Tryz.ntmps103
  go_wp2_with fail
  go_ret2
  exact ⟨rfl, rfl⟩
 have e1 : ((str nm).toList == [100, 111, 110, 101]) = false := by rw [show [100, 111, 110, 101] = (str wDone).toList by rw [Book.str_toList]; rfl, str_beq, decide_eq_false h1]
 by_cases h2 : nm = wFail
 ·rw [show endF nm = some (-2) by unfold endF; rw [if_neg h1, if_pos h2]]
  subst h2
  rw [show str wFail = ByteArray.mk #[102, 97, 105, 108] from rfl]
  clear e1
  go_enter Tryz.func103, Tryz.ntmps103
  go_wp2_with fail
  go_ret2
  exact ⟨rfl, rfl⟩
 have e2 : ((str nm).toList == [102, 97, 105, 108]) = false := by rw [show [102, 97, 105, 108] = (str wFail).toList by rw [Book.str_toList]; rfl, str_beq, decide_eq_false h2]
 by_cases h3 : nm = wDoubt
 ·rw [show endF nm = some (-3) by unfold endF; rw [if_neg h1, if_neg h2, if_pos h3]]
  subst h3
  rw [show str wDoubt = ByteArray.mk #[100, 111, 117, 98, 116] from rfl]
  clear e1 e2
  go_enter Tryz.func103, Tryz.ntmps103
  go_wp2_with fail
  go_ret2
  exact ⟨rfl, rfl⟩
 have e3 : ((str nm).toList == [100, 111, 117, 98, 116]) = false := by rw [show [100, 111, 117, 98, 116] = (str wDoubt).toList by rw [Book.str_toList]; rfl, str_beq, decide_eq_false h3]
 rw [show endF nm = none by unfold endF; rw [if_neg h1, if_neg h2, if_neg h3]]
 obtain ⟨s, hs⟩ : ∃ s, s = str nm := ⟨_, rfl⟩
 rw [← hs] at e1 e2 e3 ⊢
 clear hs h1 h2 h3
 go_enter Tryz.func103, Tryz.ntmps103
 go_wp2_with fail
 go_ret2
 exact ⟨rfl, rfl⟩
theorem isTaken_ (h : Nn w g ss o) (x : List B) (hx : x.length ≤ 100000) (i : Nat) : Calls Tryz.prog 50 #[.pointer (some ⟨g, 0, none⟩), .string (str x), .int .i64 (i : Int)] w fun e w' => e = .returned (.bool (takenF ss x i)) ∧ w = w' := by
 obtain ⟨b1, n1, b2, n2, A, c, h1, h2, h3, h4⟩ := h.ex
 have k0 := h1.cell 0
 change _ = some (Value.map (some b1)) at k0
 have r := h2.lookZ x hx
 have con := end_ w x
 unfold takenF
 obtain ⟨s, hs⟩ : ∃ s, s = str x := ⟨_, rfl⟩
 obtain ⟨z, hz⟩ : ∃ z, z = (stF ss x).getD 0 := ⟨_, rfl⟩
 obtain ⟨q, hq⟩ : ∃ q, q = (endF x).isSome := ⟨_, rfl⟩
 rw [← hs, ← hz] at r
 rw [← hs, ← hq] at con
 rw [← hs, ← hz, ← hq]
 obtain ⟨y, hy⟩ : ∃ y, y = (endF x).getD 0 := ⟨_, rfl⟩
 rw [← hy] at con
 clear h1 h2 h3 h4 h hs hz hq hy
 cases q
 ·go_enter Tryz.func50, Tryz.ntmps50
  go_wp2_with fail
  refine con.mono ?_
  clear con
  rintro e w1 ⟨rfl, rfl⟩
  go_wp2_with fail
  go_ret
  exact ⟨rfl, rfl⟩
 ·clear r k0
  go_enter Tryz.func50, Tryz.ntmps50
  go_wp2_with fail
  refine con.mono ?_
  clear con
  rintro e w1 ⟨rfl, rfl⟩
  go_wp2_with fail
  go_ret
  exact ⟨rfl, rfl⟩
theorem ptarget_ (h : Nn w g ss o) (x : List B) (hx : x.length ≤ 100000) : Calls Tryz.prog 67 #[.pointer (some ⟨g, 0, none⟩), .string (str x)] w fun e w' => e = .returned (.tuple #[.int .i64 (tgtF ss x).1, .bool (tgtF ss x).2]) ∧ w = w' := by
 obtain ⟨b1, n1, b2, n2, A, c, h1, h2, h3, h4⟩ := h.ex
 have k0 := h1.cell 0
 change _ = some (Value.map (some b1)) at k0
 have r := h2.lookS x hx
 have con := end_ w x
 unfold tgtF
 obtain ⟨s, hs⟩ : ∃ s, s = str x := ⟨_, rfl⟩
 obtain ⟨z, hz⟩ : ∃ z, z = (stF ss x).getD 0 := ⟨_, rfl⟩
 obtain ⟨f, hf⟩ : ∃ f, f = (stF ss x).isSome := ⟨_, rfl⟩
 obtain ⟨q, hq⟩ : ∃ q, q = endF x := ⟨_, rfl⟩
 rw [← hs, ← hz, ← hf] at r
 rw [← hs, ← hq] at con
 rw [← hs, ← hz, ← hq, ← hf]
 clear h1 h2 h3 h4 h hs hz hf hq
 cases q with
 | none =>
  dsimp only [Option.isSome, Option.getD] at con ⊢
  go_enter Tryz.func67, Tryz.ntmps67
  go_wp2_with fail
  refine con.mono ?_
  clear con
  rintro e w1 ⟨rfl, rfl⟩
  go_wp2_with fail
  go_ret2
  exact ⟨rfl, rfl⟩
 | some q =>
  dsimp only [Option.isSome, Option.getD] at con ⊢
  clear r k0
  go_enter Tryz.func67, Tryz.ntmps67
  go_wp2_with fail
  refine con.mono ?_
  clear con
  rintro e w1 ⟨rfl, rfl⟩
  go_wp2_with fail
  go_ret2
  exact ⟨rfl, rfl⟩
theorem isTarget_ (h : Nn w g ss o) (x : List B) (hx : x.length ≤ 100000) : Calls Tryz.prog 60 #[.pointer (some ⟨g, 0, none⟩), .string (str x)] w fun e w' => e = .returned (.bool (tgtF ss x).2) ∧ w = w' := by
 have con := ptarget_ h x hx
 clear h
 go_enter Tryz.func60, Tryz.ntmps60
 go_wp2_with fail
 refine con.mono ?_
 clear con
 rintro e w1 ⟨rfl, rfl⟩
 go_wp2_with fail
 go_ret
 exact ⟨rfl, rfl⟩
end
end Go.Proofs.YteohlpmojfjjdaaGreat.Chk
end
section
namespace Go.Proofs.YteohlpmojfjjdaaGreat.Vars
open Go.RowKit
open Lex (letter digit within b_ne drop_at Owb lit_one rowB run_cutMid bs_cut add_pos')
section
variable {ns : List ByteArray} {vs : List (List B)}
end
theorem namesR_len : ∀ (f p : Nat) (l : List B) (ns : List (List B)), l.length < f → namesR f p l = .ok ns → ns.length ≤ l.length
 | 0, _, _, _, h, _ => absurd h (Nat.not_lt_zero _)
 | f + 1, p, [], ns, _, h => by rw [namesR_nil] at h; injection h with h; subst h; simp
 | f + 1, p, c :: l, ns, h1, h => by
  simp only [List.length_cons] at h1 ⊢
  by_cases hc : c ≠ 36#8
  ·rw [namesR_plain hc] at h
   have := namesR_len f _ _ _ (by omega) h
   omega
  ·obtain rfl : c = 36#8 := by simpa using hc
   by_cases h0 : nameR l = 0
   ·cases l with
    | nil => rw [namesR_none h0] at h; cases h
    | cons d m =>
     by_cases hd : d = 36#8
     ·subst hd
      rw [namesR_two] at h
      simp only [List.length_cons] at h1 ⊢
      have := namesR_len f _ _ _ (by omega) h
      omega
     ·rw [namesR_bad h0 hd] at h; cases h
   ·by_cases h20 : 20 < nameR l
    ·rw [namesR_long h0 h20] at h; cases h
    ·rw [namesR_go h0 h20] at h
     cases e : namesR f (p + 1 + nameR l) (l.drop (nameR l)) with
     | error q => rw [e] at h; cases h
     | ok ms =>
      rw [e] at h
      simp only [nadd] at h
      injection h with h
      subst h
      have := namesR_len f _ _ _ (by rw [List.length_drop]; omega) e
      rw [List.length_drop] at this
      simp
      omega
end Go.Proofs.YteohlpmojfjjdaaGreat.Vars
end
section
namespace Go.Proofs.YteohlpmojfjjdaaGreat.Vars
open Lex (letter digit within)
structure Pce where
 k : Nat
 n : Nat
 t : List B
def leadR : List B → Pce
 | [] => ⟨2, 1, []⟩
 | c :: l => if c ≠ 36#8 then ⟨0, 1, [c]⟩ else if l.head? = some 36#8 then ⟨0, 2, [c]⟩ else if 0 < nameR l ∧ nameR l ≤ 20 then ⟨1, 1 + nameR l, l.take (nameR l)⟩ else ⟨2, 1, []⟩
theorem lead_plain {c : B} {l : List B} (h : c ≠ 36#8) : leadR (c :: l) = ⟨0, 1, [c]⟩ := by unfold leadR; dsimp only; rw [if_pos h]
theorem lead_two {l : List B} : leadR (36#8 :: 36#8 :: l) = ⟨0, 2, [36#8]⟩ := by unfold leadR; dsimp only; rw [if_neg (by simp), if_pos (by rfl)]
theorem lead_name {l : List B} (h : l.head? ≠ some 36#8) (h0 : 0 < nameR l) (h20 : nameR l ≤ 20) : leadR (36#8 :: l) = ⟨1, 1 + nameR l, l.take (nameR l)⟩ := by unfold leadR; dsimp only; rw [if_neg (by simp), if_neg h, if_pos ⟨h0, h20⟩]
theorem lead_none {l : List B} (h : l.head? ≠ some 36#8) (h0 : ¬ (0 < nameR l ∧ nameR l ≤ 20)) : leadR (36#8 :: l) = ⟨2, 1, []⟩ := by unfold leadR; dsimp only; rw [if_neg (by simp), if_neg h, if_neg h0]
theorem head_no {l : List B} (h : 0 < nameR l) : l.head? ≠ some 36#8 := by
 cases l with
 | nil => simp
 | cons d m => rintro e; simp at e; subst e; rw [nameR_cons, if_neg (by decide)] at h; omega
theorem lead_size : ∀ (s : List B), s ≠ [] → 1 ≤ (leadR s).n ∧ (leadR s).n ≤ s.length ∧ (leadR s).k ≤ 2 ∧ (leadR s).t.length ≤ s.length
 | [], h => absurd rfl h
 | c :: l, _ => by
  by_cases hc : c ≠ 36#8
  ·rw [lead_plain hc]; simp
  ·obtain rfl : c = 36#8 := by simpa using hc
   by_cases h : l.head? = some 36#8
   ·cases l with
    | nil => simp at h
    | cons d m => simp at h; subst h; rw [lead_two]; simp
   ·by_cases h0 : 0 < nameR l ∧ nameR l ≤ 20
    ·rw [lead_name h h0.1 h0.2]
     have := nameR_le l
     simp
     omega
    ·rw [lead_none h h0]; simp
def pcsR : Nat → Nat → List B → List (Nat × Pce)
 | 0, _, _ => []
 | _ + 1, _, [] => []
 | f + 1, p, c :: l => (p, leadR (c :: l)) :: pcsR f (p + (leadR (c :: l)).n) ((c :: l).drop (leadR (c :: l)).n)
theorem pcsR_nil (f p : Nat) : pcsR f p [] = [] := by cases f <;> rfl
theorem pcsR_go {f p : Nat} {s : List B} (h : s ≠ []) : pcsR (f + 1) p s = (p, leadR s) :: pcsR f (p + (leadR s).n) (s.drop (leadR s).n) := by
 cases s with
 | nil => exact absurd rfl h
 | cons c l => rfl
theorem pcsR_fuel : ∀ (f g p : Nat) (l : List B), l.length < f → l.length < g → pcsR f p l = pcsR g p l
 | 0, _, _, _, h, _ => absurd h (Nat.not_lt_zero _)
 | _, 0, _, _, _, h => absurd h (Nat.not_lt_zero _)
 | f + 1, g + 1, p, [], _, _ => rfl
 | f + 1, g + 1, p, c :: l, h1, h2 => by
  have := lead_size (c :: l) (by simp)
  rw [pcsR_go (by simp), pcsR_go (by simp), pcsR_fuel f g _ _ (by rw [List.length_drop]; omega) (by rw [List.length_drop]; omega)]
def pcs (s : List B) : List (Nat × Pce) := pcsR (s.length + 1) 0 s
theorem pcsR_len : ∀ (f p : Nat) (l : List B), (pcsR f p l).length ≤ l.length
 | 0, _, _ => by simp [pcsR]
 | f + 1, p, [] => by simp [pcsR]
 | f + 1, p, c :: l => by
  have := lead_size (c :: l) (by simp)
  have ih := pcsR_len f (p + (leadR (c :: l)).n) ((c :: l).drop (leadR (c :: l)).n)
  rw [pcsR_go (by simp), List.length_cons]
  rw [List.length_drop] at ih
  omega
def nmP : List (Nat × Pce) → Except Nat (List (List B))
 | [] => .ok []
 | x :: r => if x.2.k = 2 then .error x.1 else if x.2.k = 1 then nadd [x.2.t] (nmP r) else nmP r
theorem nmP_cons (x : Nat × Pce) (r : List (Nat × Pce)) : nmP (x :: r) = if x.2.k = 2 then .error x.1 else if x.2.k = 1 then nadd [x.2.t] (nmP r) else nmP r := rfl
theorem names_pcsR : ∀ (f p : Nat) (l : List B), l.length < f → namesR f p l = nmP (pcsR f p l)
 | 0, _, _, h => absurd h (Nat.not_lt_zero _)
 | f + 1, p, [], _ => rfl
 | f + 1, p, c :: l, h => by
  simp only [List.length_cons] at h
  rw [pcsR_go (by simp), nmP_cons]
  by_cases hc : c ≠ 36#8
  ·rw [namesR_plain hc, lead_plain hc]
   simpa using names_pcsR f (p + 1) l (by omega)
  ·obtain rfl : c = 36#8 := by simpa using hc
   by_cases h0 : nameR l = 0
   ·cases l with
    | nil => rw [namesR_none h0, lead_none (by simp) (by simp [nameR])]; rfl
    | cons d m =>
     by_cases hd : d = 36#8
     ·subst hd
      rw [namesR_two, lead_two]
      simp only [List.length_cons] at h
      simpa using names_pcsR f (p + 2) m (by omega)
     ·rw [namesR_bad h0 hd, lead_none (by simpa using hd) (by omega)]; rfl
   ·by_cases h20 : 20 < nameR l
    ·rw [namesR_long h0 h20, lead_none (head_no (by omega)) (by omega)]; rfl
    ·rw [namesR_go h0 h20, lead_name (head_no (by omega)) (by omega) (by omega), names_pcsR f _ _ (by rw [List.length_drop]; omega)]
     simp only [List.drop_succ_cons, Nat.add_comm 1 (nameR l)]
     rw [show p + 1 + nameR l = p + (nameR l + 1) by omega]
     rfl
theorem names_pcs (s : List B) : names s = nmP (pcs s) := names_pcsR _ _ _ (by omega)
def nms (xs : List (Nat × Pce)) : List (List B) := xs.flatMap fun x => if x.2.k = 1 then [x.2.t] else []
theorem nmP_app : ∀ {a b : List (Nat × Pce)}, (∀ x ∈ a, x.2.k ≠ 2) → nmP (a ++ b) = nadd (nms a) (nmP b)
 | [], b, _ => by simp [nms, nadd_nil]
 | x :: a, b, h => by
  rw [List.cons_append, nmP_cons, if_neg (h x (by simp)), nmP_app (fun y hy => h y (by simp [hy]))]
  unfold nms
  rw [List.flatMap_cons]
  split
  ·rw [nadd_nadd]
  ·rw [List.nil_append]
theorem nmP_all {a : List (Nat × Pce)} (h : ∀ x ∈ a, x.2.k ≠ 2) : nmP a = .ok (nms a) := by
 have := nmP_app (b := []) h
 rw [List.append_nil] at this
 rw [this]; simp [nmP, nadd]
theorem nmP_bad {a : List (Nat × Pce)} {x : Nat × Pce} {r : List (Nat × Pce)} (h : ∀ y ∈ a, y.2.k ≠ 2) (hx : x.2.k = 2) : nmP (a ++ x :: r) = .error x.1 := by
 rw [nmP_app h, nmP_cons, if_pos hx]; rfl
end Go.Proofs.YteohlpmojfjjdaaGreat.Vars
end
section
namespace Go.Proofs.YteohlpmojfjjdaaGreat.Vars
open Go.RowKit
open Lex (letter digit within b_ne drop_at Owb lit_one rowB run_cutMid bs_cut add_pos')
theorem pletter (w : World) (x : BitVec 8) : Calls Tryz.prog 179 #[v8 x] w fun e w' => e = .returned (.bool (letter x)) ∧ w' = w := by
 have HL := Lib.hid (show letter x = (decide (97 ≤ x.toNat) && decide (x.toNat ≤ 122)) from rfl)
 by_cases h1 : 97 ≤ x.toNat
 ·by_cases h2 : x.toNat ≤ 122
  ·go_enter Tryz.func179, Tryz.ntmps179
   go_wp2_with fail
   go_ret
   exact ⟨by rw [HL.out]; simp [h1, h2]; try omega, rfl⟩
  ·go_enter Tryz.func179, Tryz.ntmps179
   go_wp2_with fail
   go_ret
   exact ⟨by rw [HL.out]; simp [h1, h2]; try omega, rfl⟩
 ·go_enter Tryz.func179, Tryz.ntmps179
  go_wp2_with fail
  go_ret
  exact ⟨by rw [HL.out]; simp [h1], rfl⟩
theorem pwithin (w : World) (x : BitVec 8) : Calls Tryz.prog 180 #[v8 x] w fun e w' => e = .returned (.bool (within x)) ∧ w' = w := by
 have con := pletter w x
 obtain ⟨r, hr⟩ : ∃ r, r = within x := ⟨_, rfl⟩
 rw [← hr]
 cases hl : letter x
 ·rw [hl] at con
  by_cases h5 : x = 95#8
  ·subst h5
   rw [show within 95#8 = true by decide] at hr
   subst hr
   clear hl
   go_enter Tryz.func180, Tryz.ntmps180
   go_wp2_with fail
   refine con.mono ?_
   rintro e w' ⟨rfl, rfl⟩
   go_wp2_with fail
   go_ret
   exact ⟨rfl, rfl⟩
  have e5 : ((x.toNat : Int) == 95) = false := b_ne (k := 95) (by decide) h5
  rw [show within x = digit x by simp [within, h5, hl]] at hr
  unfold digit at hr
  clear h5 hl
  by_cases h3 : 48 ≤ x.toNat
  ·by_cases h4 : x.toNat ≤ 57
   ·rw [decide_eq_true h3, decide_eq_true h4] at hr
    simp only [Bool.and_self] at hr
    subst hr
    go_enter Tryz.func180, Tryz.ntmps180
    go_wp2_with fail
    refine con.mono ?_
    rintro e w' ⟨rfl, rfl⟩
    go_wp2_with fail
    go_ret
    exact ⟨rfl, rfl⟩
   ·rw [decide_eq_true h3, decide_eq_false h4] at hr
    simp only [Bool.and_false] at hr
    subst hr
    have z4 : decide ((x.toNat : Int) ≤ 57) = false := by simp; omega
    go_enter Tryz.func180, Tryz.ntmps180
    go_wp2_with fail
    refine con.mono ?_
    rintro e w' ⟨rfl, rfl⟩
    go_wp2_with fail
    go_ret
    exact ⟨rfl, rfl⟩
  ·rw [decide_eq_false h3] at hr
   simp only [Bool.false_and] at hr
   subst hr
   go_enter Tryz.func180, Tryz.ntmps180
   go_wp2_with fail
   refine con.mono ?_
   rintro e w' ⟨rfl, rfl⟩
   go_wp2_with fail
   go_ret
   exact ⟨rfl, rfl⟩
 ·rw [hl] at con
  rw [show within x = true from Lex.letter_within hl] at hr
  subst hr
  clear hl
  go_enter Tryz.func180, Tryz.ntmps180
  go_wp2_with fail
  refine con.mono ?_
  rintro e w' ⟨rfl, rfl⟩
  go_wp2_with fail
  go_ret
  exact ⟨rfl, rfl⟩
theorem pname (w : World) (B : Nat) (A : Option Addr) (n c : Nat) (s : List (BitVec 8)) (hs : Bs w B A n s) (hn : n ≤ 100000) :
  Calls Tryz.prog 162 #[.slice A n c] w fun e w' => e = .returned (.int .i64 (nameR s : Int)) ∧ w = w' := by
 obtain ⟨K, hK⟩ : ∃ K, K = nameR s := ⟨_, rfl⟩
 rw [← hK]
 have HS := Lib.hid hs
 have HSL := Lib.hid hs.len
 rcases Nat.eq_zero_or_pos n with h0 | h0
 ·subst h0
  have hs0 : s = [] := List.eq_nil_of_length_eq_zero hs.len
  have hk0 : K = 0 := by rw [hK, hs0]; rfl
  subst hk0
  clear hK hs hs0
  go_enter Tryz.func162, Tryz.ntmps162
  go_wp2_with fail
  go_ret
  exact ⟨rfl, rfl⟩
 obtain ⟨x, hx⟩ : ∃ x, s[0]? = some x := ⟨_, List.getElem?_eq_getElem (by rw [HSL.out]; exact h0)⟩
 obtain ⟨bd, rfl, _, b0⟩ := HS.out.at_ h0
 rw [List.getD_eq_getElem?_getD, hx] at b0
 change _ = some (v8 x) at b0
 rw [show bd.add 0 = bd from by unfold Addr.add; exact if_pos rfl] at b0
 have hd : s = x :: s.drop 1 := by have := drop_at hx; simpa using this
 have con := pletter w x
 have n0 : ((n : Int) == 0) = false := by simp; omega
 cases hl : letter x
 ·rw [hl] at con
  have hk0 : K = 0 := by rw [hK, hd, nameR_cons, if_neg (by simp [hl])]
  subst hk0
  clear hK hs hd hl hx
  go_enter Tryz.func162, Tryz.ntmps162
  go_wp2_with fail
  refine con.mono ?_
  rintro e w' ⟨rfl, rfl⟩
  go_wp2_with fail
  go_ret
  exact ⟨rfl, rfl⟩
 ·rw [hl] at con
  have HK0 := Lib.hid (show K = 1 + more 1 (s.drop 1) by rw [hK, hd, nameR_cons, if_pos hl]; rfl)
  clear hK hs hd hl hx
  go_enter Tryz.func162, Tryz.ntmps162
  go_wp2_with fail
  refine con.mono ?_
  clear con
  rintro e w' ⟨rfl, rfl⟩
  go_wp2_with fail
  go_loopw [3] (fun v3 wr => ∃ (k : Nat), 1 ≤ k ∧ k ≤ n ∧ v3 = .int .i64 (k : Int) ∧ w' = wr ∧ Hid (K = k + more k (s.drop k))) (fun v3 _ => n - (intOf v3).toNat)
  case atStart => exact ⟨1, Nat.le_refl _, h0, rfl, rfl, HK0⟩
  case round =>
   clear HK0
   obtain ⟨k, hk1, hk, rfl, rfl, HK⟩ := hrel
   rcases Nat.lt_or_ge k n with hlt | hge
   ·obtain ⟨y, hy⟩ : ∃ y, s[k]? = some y := ⟨_, List.getElem?_eq_getElem (by rw [HSL.out]; exact hlt)⟩
    obtain ⟨bd2, hbd, _, b1⟩ := HS.out.at_ hlt
    cases hbd
    rw [List.getD_eq_getElem?_getD, hy] at b1
    change _ = some (v8 y) at b1
    have con := pwithin w' y
    cases hw : within y
    ·rw [hw] at con
     have HN := Lib.hid (show K = k by rw [HK.out, drop_at hy, more_no (by cases h : letter y; rfl; rw [Lex.letter_within h] at hw; exact hw) (.inr hw)]; rfl)
     clear HK hy hw
     go_wp2_with fail
     refine con.mono ?_
     rintro e w2 ⟨rfl, rfl⟩
     go_wp2_with fail
     go_ret
     rw [HN.out]
     exact ⟨rfl, rfl⟩
    ·rw [hw] at con
     have HN := Lib.hid (show K = (k + 1) + more (k + 1) (s.drop (k + 1)) by rw [HK.out, drop_at hy, more_go (.inr ⟨hk1, hw⟩)]; omega)
     clear HK hy hw
     go_wp2_with fail
     refine con.mono ?_
     rintro e w2 ⟨rfl, rfl⟩
     go_wp2_with fail
     exact ⟨⟨k + 1, by omega, by omega, by rw [show ((k + 1 : Nat) : Int) = (k : Int) + 1 by omega], by trivial, HN⟩, by simp [intOf]; omega⟩
   ·have HN := Lib.hid (show K = k by rw [HK.out, List.drop_eq_nil_of_le (by rw [HSL.out]; exact hge), more_nil]; rfl)
    go_wp2_with fail
    go_ret
    rw [HN.out]
    exact ⟨rfl, rfl⟩
end Go.Proofs.YteohlpmojfjjdaaGreat.Vars
end
section
namespace Go.Proofs.YteohlpmojfjjdaaGreat.Vars
open Go.RowKit
open Lex (letter digit within b_ne drop_at Owb lit_one rowB run_cutMid bs_cut add_pos')
def LdSays (w : World) (B : Nat) (x : Pce) (e : Ending) (w' : World) : Prop := Below w.heap.size w w' ∧ ∃ A' c', e = .returned (.agg #[.int .i64 (x.k : Int), .int .i64 (x.n : Int), .slice A' x.t.length c']) ∧ Bs w' B A' x.t.length x.t
theorem ld_ok {w w' : World} {B m c k n : Nat} {A : Option Addr} {x : Pce} (hb : Below w.heap.size w w') (t : List (BitVec 8)) (hx : x = ⟨k, n, t⟩) (ht : Bs w' B A m t) : LdSays w B x (.returned (.agg #[.int .i64 (k : Int), .int .i64 (n : Int), .slice A m c])) w' := by
 have := ht.len
 subst hx; subst this; exact ⟨hb, A, c, rfl, ht⟩
theorem load_pce {w : World} {g : Nat} {x0 x1 x2 : Value} (h : Cel w g 187 [x0, x1, x2]) : (loadVar 187 ⟨g, 0, none⟩).run Tryz.prog w = .ok (.agg #[x0, x1, x2]) w :=
 run_loadVar_mid (P := Tryz.prog) w g 0 187 [x0, x1, x2] _ (fun j v hv => by rw [Nat.zero_add, h.cell j, hv]) Tryz.underlying187 rfl (by kernel_rfl)
def fw3 (w : World) (g : Nat) (a b c : Value) : World := ((w.setCell ⟨g, 0, none⟩ a).setCell ⟨g, 1, none⟩ b).setCell ⟨g, 2, none⟩ c
theorem fw3_cel {w : World} {g : Nat} {t : TypeId} {x y z a b c : Value} (h : Cel w g t [x, y, z]) : Cel (fw3 w g a b c) g t [a, b, c] := ((h.set 0 a).set 1 b).set 2 c
theorem fw3_frm (w : World) (g : Nat) (a b c : Value) : Frm [g] w (fw3 w g a b c) := (((Frm.refl [g] w).set (p := ⟨g, 0, none⟩) (by simp) a).set (p := ⟨g, 1, none⟩) (by simp) b).set (p := ⟨g, 2, none⟩) (by simp) c
theorem results_cel {P : Program} {fn : Func} {tmps : Array Value} {w : World} (a : Tmp) (t : TypeId) (hr : fn.results = #[.cell a t]) (ad : Addr) (ha : tmps.getD a undef = .pointer (some ad)) (v : Value) (hl : (loadVar t ad).run P w = .ok v w) :
  (results fn tmps).run P w = .ok v w := by
 unfold results
 rw [hr]
 simp only [List.mapM_toArray, List.mapM_cons, List.mapM_nil, ha, asAddr]
 simp [hl]
theorem plead (w : World) (B : Nat) (A : Option Addr) (n c : Nat) (s : List (BitVec 8)) (hs : Bs w B A n s) (hB : B ≤ w.heap.size) (h0 : 0 < n) (hn : n ≤ 100000) (hcap : n ≤ c) :
  Calls Tryz.prog 153 #[.slice A n c] w (LdSays w B (leadR s)) := by
 obtain ⟨X, hX⟩ : ∃ X, X = leadR s := ⟨_, rfl⟩
 rw [← hX]
 obtain ⟨x, hx⟩ : ∃ x, s[0]? = some x := ⟨_, List.getElem?_eq_getElem (by rw [hs.len]; exact h0)⟩
 obtain ⟨bd, rfl, hbB, b0⟩ := hs.at_ h0
 rw [List.getD_eq_getElem?_getD, hx] at b0
 change _ = some (v8 x) at b0
 rw [show bd.add 0 = bd from by unfold Addr.add; exact if_pos rfl] at b0
 have hd : s = x :: s.drop 1 := by have := drop_at hx; simpa using this
 obtain ⟨w1, hw1⟩ : ∃ w1, w1 = w.alloc (.cells #[.int .i64 0, .int .i64 0, .slice none 0 0] 187) := ⟨_, rfl⟩
 have hb1 : Below w.heap.size w w1 := by rw [hw1]; exact (Below.refl _ _).alloc (Nat.le_refl _) _
 have hc1 : Cel w1 w.heap.size 187 [.int .i64 0, .int .i64 0, .slice none 0 0] := by rw [hw1]; exact Cel.new w _ _
 have h1 : ∀ V : World, (Instr.sliceAt 41 (.slice (some bd) n c) none (some (.int .i64 1)) none).run Tryz.prog V = .ok (.slice (some bd) 1 c) V := fun V => run_cutTo (P := Tryz.prog) V (t := 41) (e := 5) (size := 1) Tryz.underlying41 rfl (some bd) n c 1 .i64 (by omega)
 obtain ⟨A2, n2, c2, h2, hs2, hn2, hc2⟩ : ∃ A2 n2 c2, (∀ V : World, (Instr.sliceAt 41 (.slice (some bd) n c) (some (.int .i64 1)) none none).run Tryz.prog V = .ok (.slice A2 n2 c2) V) ∧ Bs w B A2 n2 (s.drop 1) ∧ n2 ≤ 100000 ∧ n2 ≤ c2 :=
  ⟨_, _, _, fun V => run_cutFrom (P := Tryz.prog) V (t := 41) (e := 5) (size := 1) Tryz.underlying41 rfl (some bd) n c 1 .i64 (by omega), by have := (Bs.bp hs).cut (k := 1) (cap := c) (by omega) hcap; rw [show 1 * 1 = 1 from rfl]; exact this, by omega, by omega⟩
 have HS := Lib.hid hs
 have HD := Lib.hid hd
 have HX := Lib.hid hX
 have HS2 := Lib.hid hs2
 have HB1 := Lib.hid hb1
 have HC1 := Lib.hid hc1
 clear hd hX hs hs2 hb1 hc1 hx
 go_enter Tryz.func153, Tryz.ntmps153
 go_wp2_with fail
 go_quiet (fail)
 obtain ⟨W0, hW0⟩ : ∃ W0, W0 = (w.alloc (.cells #[.int .i64 0, .int .i64 0, .slice none 0 0] 187)).drewN nq := ⟨_, rfl⟩
 rw [← hW0]
 have HB0 := Lib.hid (show Below w.heap.size w W0 by rw [hW0, ← hw1]; exact ⟨HB1.out.os, HB1.out.tape, HB1.out.output, HB1.out.size, HB1.out.block⟩)
 have HC0 := Lib.hid (show Cel W0 w.heap.size 187 [.int .i64 0, .int .i64 0, .slice none 0 0] by rw [hW0, ← hw1]; exact HC1.out)
 have b0' := (HB0.out.cell (cell_lt b0)).trans b0
 have k0 := HC0.out.cell 0
 have k1 := HC0.out.cell 1
 have k2 := HC0.out.cell 2
 have l0 := HC0.out.free 0
 have l1 := HC0.out.free 1
 have l2 := HC0.out.free 2
 have hn1 : 1 ≤ n := h0
 have HSW := Lib.hid (HS.out.below (HB0.out.mono hB))
 have HS2W := Lib.hid (HS2.out.below (HB0.out.mono hB))
 have HS1W := Lib.hid (show Bs W0 B (some bd) 1 [x] by
  have := (Bs.bp HSW.out).take (k := 1) hn1
  rw [HD.out] at this
  exact this)
 clear hW0 hw1 h1 h2 b0
 by_cases h36 : x = 36#8
 ·subst h36
  obtain ⟨l, hl⟩ : ∃ l, l = s.drop 1 := ⟨_, rfl⟩
  rw [← hl] at HS2W HD
  have HL2 := Lib.hid HS2W.out.len
  have con := pname W0 B A2 n2 c2 l HS2W.out hn2
  clear hl
  by_cases hh : l.head? = some 36#8
  ·obtain ⟨m, rfl⟩ : ∃ m, l = 36#8 :: m := by cases l with
    | nil => simp at hh
    | cons d m => simp at hh; exact ⟨m, by rw [hh]⟩
   have hn2p : 0 < n2 := by have := HL2.out; simp at this; omega
   obtain ⟨bd2, rfl, _, b2⟩ := HS2W.out.at_ hn2p
   change _ = some (v8 36#8) at b2
   rw [show bd2.add 0 = bd2 from by unfold Addr.add; exact if_pos rfl] at b2
   have z2 : decide ((0 : Int) < (n2 : Int)) = true := by simp; omega
   have HF := Lib.hid (HB0.out.trans ((fw3_frm W0 w.heap.size (.int .i64 0) (.int .i64 2) (.slice (some bd) 1 c)).below HB0.out.size (by intro q hq; simp at hq; omega)))
   have HCF := Lib.hid (fw3_cel (a := .int .i64 0) (b := .int .i64 2) (c := .slice (some bd) 1 c) HC0.out)
   have HSF := Lib.hid (HS1W.out.below (((fw3_frm W0 w.heap.size (.int .i64 0) (.int .i64 2) (.slice (some bd) 1 c)).below (B := B) (Nat.le_trans hB HB0.out.size) (by intro q hq; simp at hq; omega))))
   unfold fw3 at HF HCF HSF
   clear con hh
   go_wp2_with fail
   refine bodyPost_ret (v := .agg #[.int .i64 0, .int .i64 2, .slice (some bd) 1 c]) (results_cel 2 187 Tryz.results153 ⟨w.heap.size, 0, none⟩ rfl _ (load_pce HCF.out)) rfl ?_
   exact ld_ok (k := 0) (n := 2) HF.out _ (by rw [HX.out, HD.out, lead_two]) HSF.out
  ·have HH := Lib.hid hh
   obtain ⟨K, hK⟩ : ∃ K, K = nameR l := ⟨_, rfl⟩
   have HK := Lib.hid hK
   have hKl := nameR_le l
   rw [← hK] at con hKl
   rw [HL2.out] at hKl
   clear hK hh
   rcases Nat.eq_zero_or_pos n2 with hz | hp2
   ·subst hz
    obtain rfl : K = 0 := by omega
    have HE := Lib.hid (show X = ⟨2, 1, []⟩ by rw [HX.out, HD.out]; exact lead_none HH.out (by rw [← HK.out]; omega))
    have HF := Lib.hid (HB0.out.trans ((fw3_frm W0 w.heap.size (.int .i64 2) (.int .i64 1) (.slice none 0 0)).below HB0.out.size (by intro q hq; simp at hq; omega)))
    have HCF := Lib.hid (fw3_cel (a := .int .i64 2) (b := .int .i64 1) (c := .slice none 0 0) HC0.out)
    have HSF := Lib.hid (((Bs.nil_ : Bs W0 B none 0 [])).below (((fw3_frm W0 w.heap.size (.int .i64 2) (.int .i64 1) (.slice none 0 0)).below (B := B) (Nat.le_trans hB HB0.out.size) (by intro q hq; simp at hq; omega))))
    unfold fw3 at HF HCF HSF
    go_wp2_with fail
    refine con.mono ?_
    rintro e w' ⟨rfl, rfl⟩
    go_wp2_with fail
    refine bodyPost_ret (v := .agg #[.int .i64 2, .int .i64 1, .slice none 0 0]) (results_cel 2 187 Tryz.results153 ⟨w.heap.size, 0, none⟩ rfl _ (load_pce HCF.out)) rfl ?_
    exact ld_ok (k := 2) (n := 1) HF.out _ HE.out HSF.out
   ·obtain ⟨y, hy⟩ : ∃ y, l[0]? = some y := ⟨_, List.getElem?_eq_getElem (by rw [HL2.out]; exact hp2)⟩
    obtain ⟨bd2, rfl, _, b2⟩ := HS2W.out.at_ hp2
    rw [List.getD_eq_getElem?_getD, hy] at b2
    change _ = some (v8 y) at b2
    rw [show bd2.add 0 = bd2 from by unfold Addr.add; exact if_pos rfl] at b2
    have hy36 : y ≠ 36#8 := by
     rintro rfl
     apply HH.out
     rw [List.head?_eq_getElem?]; exact hy
    have e36 : ((y.toNat : Int) == 36) = false := b_ne (k := 36) (by decide) hy36
    have z2 : decide ((0 : Int) < (n2 : Int)) = true := by simp; omega
    clear hy hy36
    by_cases hK0 : 0 < K
    ·by_cases hK20 : K ≤ 20
     ·have HE := Lib.hid (show X = ⟨1, 1 + K, l.take K⟩ by rw [HX.out, HD.out, HK.out]; exact lead_name HH.out (by rw [← HK.out]; exact hK0) (by rw [← HK.out]; exact hK20))
      have z1 : decide ((0 : Int) < (K : Int)) = true := by simp; omega
      have z20 : decide ((K : Int) ≤ 20) = true := by simp; omega
      have h3 : ∀ V : World, (Instr.sliceAt 41 (.slice (some bd2) n2 c2) none (some (.int .i64 (K : Int))) none).run Tryz.prog V = .ok (.slice (some bd2) K c2) V := fun V => run_cutTo (P := Tryz.prog) V (t := 41) (e := 5) (size := 1) Tryz.underlying41 rfl (some bd2) n2 c2 K .i64 (by omega)
      have HF := Lib.hid (HB0.out.trans ((fw3_frm W0 w.heap.size (.int .i64 1) (.int .i64 ((1 : Int) + (K : Int))) (.slice (some bd2) K c2)).below HB0.out.size (by intro q hq; simp at hq; omega)))
      have HCF := Lib.hid (fw3_cel (a := .int .i64 1) (b := .int .i64 ((1 : Int) + (K : Int))) (c := .slice (some bd2) K c2) HC0.out)
      have HSF := Lib.hid ((show Bs W0 B (some bd2) K (l.take K) from (Bs.bp HS2W.out).take (by omega)).below (((fw3_frm W0 w.heap.size (.int .i64 1) (.int .i64 ((1 : Int) + (K : Int))) (.slice (some bd2) K c2)).below (B := B) (Nat.le_trans hB HB0.out.size) (by intro q hq; simp at hq; omega))))
      unfold fw3 at HF HCF HSF
      go_wp2_with fail
      refine con.mono ?_
      rintro e w' ⟨rfl, rfl⟩
      go_wp2_with (refine wpList_slice rfl 41 (.tmp 37) none (some (.tmp 38)) none rfl (.slice (some bd2) K c2) ?_ ?_; exact h3 _)
      refine bodyPost_ret (v := .agg #[.int .i64 1, .int .i64 ((1 : Int) + (K : Int)), .slice (some bd2) K c2]) (results_cel 2 187 Tryz.results153 ⟨w.heap.size, 0, none⟩ rfl _ (load_pce HCF.out)) rfl ?_
      exact by have := ld_ok (k := 1) (n := 1 + K) (c := c2) HF.out _ HE.out HSF.out; rw [show ((1 + K : Nat) : Int) = 1 + (K : Int) by omega] at this; exact this
     ·have HE := Lib.hid (show X = ⟨2, 1, []⟩ by rw [HX.out, HD.out]; exact lead_none HH.out (by rw [← HK.out]; omega))
      have z1 : decide ((0 : Int) < (K : Int)) = true := by simp; omega
      have z20 : decide ((K : Int) ≤ 20) = false := by simp; omega
      have HF := Lib.hid (HB0.out.trans ((fw3_frm W0 w.heap.size (.int .i64 2) (.int .i64 1) (.slice none 0 0)).below HB0.out.size (by intro q hq; simp at hq; omega)))
      have HCF := Lib.hid (fw3_cel (a := .int .i64 2) (b := .int .i64 1) (c := .slice none 0 0) HC0.out)
      have HSF := Lib.hid (((Bs.nil_ : Bs W0 B none 0 [])).below (((fw3_frm W0 w.heap.size (.int .i64 2) (.int .i64 1) (.slice none 0 0)).below (B := B) (Nat.le_trans hB HB0.out.size) (by intro q hq; simp at hq; omega))))
      unfold fw3 at HF HCF HSF
      go_wp2_with fail
      refine con.mono ?_
      rintro e w' ⟨rfl, rfl⟩
      go_wp2_with fail
      refine bodyPost_ret (v := .agg #[.int .i64 2, .int .i64 1, .slice none 0 0]) (results_cel 2 187 Tryz.results153 ⟨w.heap.size, 0, none⟩ rfl _ (load_pce HCF.out)) rfl ?_
      exact ld_ok (k := 2) (n := 1) HF.out _ HE.out HSF.out
    ·obtain rfl : K = 0 := by omega
     have HE := Lib.hid (show X = ⟨2, 1, []⟩ by rw [HX.out, HD.out]; exact lead_none HH.out (by rw [← HK.out]; omega))
     have HF := Lib.hid (HB0.out.trans ((fw3_frm W0 w.heap.size (.int .i64 2) (.int .i64 1) (.slice none 0 0)).below HB0.out.size (by intro q hq; simp at hq; omega)))
     have HCF := Lib.hid (fw3_cel (a := .int .i64 2) (b := .int .i64 1) (c := .slice none 0 0) HC0.out)
     have HSF := Lib.hid (((Bs.nil_ : Bs W0 B none 0 [])).below (((fw3_frm W0 w.heap.size (.int .i64 2) (.int .i64 1) (.slice none 0 0)).below (B := B) (Nat.le_trans hB HB0.out.size) (by intro q hq; simp at hq; omega))))
     unfold fw3 at HF HCF HSF
     go_wp2_with fail
     refine con.mono ?_
     rintro e w' ⟨rfl, rfl⟩
     go_wp2_with fail
     refine bodyPost_ret (v := .agg #[.int .i64 2, .int .i64 1, .slice none 0 0]) (results_cel 2 187 Tryz.results153 ⟨w.heap.size, 0, none⟩ rfl _ (load_pce HCF.out)) rfl ?_
     exact ld_ok (k := 2) (n := 1) HF.out _ HE.out HSF.out
 ·have HE := Lib.hid (show X = ⟨0, 1, [x]⟩ by rw [HX.out, HD.out, lead_plain h36])
  have e36 : ((x.toNat : Int) == 36) = false := b_ne (k := 36) (by decide) h36
  have n36 : ((x.toNat : Int) != 36) = true := by unfold bne; rw [e36]; rfl
  clear h36
  have HF := Lib.hid (HB0.out.trans ((fw3_frm W0 w.heap.size (.int .i64 0) (.int .i64 1) (.slice (some bd) 1 c)).below HB0.out.size (by intro q hq; simp at hq; omega)))
  have HCF := Lib.hid (fw3_cel (a := .int .i64 0) (b := .int .i64 1) (c := .slice (some bd) 1 c) HC0.out)
  have HSF := Lib.hid ((HS1W.out).below (((fw3_frm W0 w.heap.size (.int .i64 0) (.int .i64 1) (.slice (some bd) 1 c)).below (B := B) (Nat.le_trans hB HB0.out.size) (by intro q hq; simp at hq; omega))))
  unfold fw3 at HF HCF HSF
  go_wp2_with fail
  refine bodyPost_ret (v := .agg #[.int .i64 0, .int .i64 1, .slice (some bd) 1 c]) (results_cel 2 187 Tryz.results153 ⟨w.heap.size, 0, none⟩ rfl _ (load_pce HCF.out)) rfl ?_
  exact ld_ok (k := 0) (n := 1) HF.out _ HE.out HSF.out
end Go.Proofs.YteohlpmojfjjdaaGreat.Vars
end
