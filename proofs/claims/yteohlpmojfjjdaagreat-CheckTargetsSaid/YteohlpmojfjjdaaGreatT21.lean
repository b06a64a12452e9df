/-
Texts: ChkLine ChkRow ChkAns
-/
import Derived.Test.YteohlpmojfjjdaaGreatT0
import Derived.Test.YteohlpmojfjjdaaGreatT1
import Derived.Test.YteohlpmojfjjdaaGreatT2
import Derived.Test.YteohlpmojfjjdaaGreatT3
import Derived.Test.YteohlpmojfjjdaaGreatT4
import Derived.Test.YteohlpmojfjjdaaGreatT5
import Derived.Test.YteohlpmojfjjdaaGreatT7
import Derived.Test.YteohlpmojfjjdaaGreatT8
import Derived.Test.YteohlpmojfjjdaaGreatT14
import Derived.Test.YteohlpmojfjjdaaGreatT15
import Derived.Test.YteohlpmojfjjdaaGreatT16
import Derived.Test.YteohlpmojfjjdaaGreatT19
import Derived.Test.YteohlpmojfjjdaaGreatT20
set_option linter.unusedVariables false
set_option linter.unusedSimpArgs false
set_option maxRecDepth 100000
set_option maxHeartbeats 4000000
section
namespace Go.Proofs.YteohlpmojfjjdaaGreat.Chk
open Go.RowKit Nfa
open Reg (Sp Spn sflat Ov oflat Rop Ows parse ParseSays parse_top parse_good parse_sp piled_kinds parse_len)
open Lex (Tx Cr cr_ry)
open Vars (scell Ons names pnames PnSays nameR namesR namesR_nil namesR_plain namesR_two namesR_none namesR_bad namesR_long namesR_go nadd)
open Book (str_beq)
theorem namesR_short : ∀ (f p : Nat) (l : List B) (ns : List (List B)), namesR f p l = .ok ns → ∀ x ∈ ns, x.length ≤ 20
 | 0, p, l, ns, h => by unfold namesR at h; injection h with h; subst h; simp
 | f + 1, p, [], ns, h => by rw [namesR_nil] at h; injection h with h; subst h; simp
 | f + 1, p, c :: l, ns, h => by
  by_cases hc : c ≠ 36#8
  ·rw [namesR_plain hc] at h; exact namesR_short f _ _ _ h
  ·obtain rfl : c = 36#8 := by simpa using hc
   by_cases h0 : nameR l = 0
   ·cases l with
    | nil => rw [namesR_none h0] at h; cases h
    | cons d m =>
     by_cases hd : d = 36#8
     ·subst hd
      rw [namesR_two] at h
      exact namesR_short f _ _ _ h
     ·rw [namesR_bad h0 hd] at h; cases h
   ·by_cases h20 : 20 < nameR l
    ·rw [namesR_long h0 h20] at h; cases h
    ·rw [namesR_go h0 h20] at h
     cases e : namesR f (p + 1 + nameR l) (l.drop (nameR l)) with
     | error q => rw [e] at h; cases h
     | ok ms =>
      rw [e] at h
      simp only [nadd] at h
      injection h with h
      subst h
      intro x hx
      rcases List.mem_append.1 hx with hx | hx
      ·rw [List.mem_singleton.1 hx, List.length_take]; omega
      ·exact namesR_short f _ _ _ e x hx
theorem ons_at {w : World} {D n c : Nat} {A : Option Addr} {ns : List (List B)} (h : Ons w D A n c ns) {i : Nat} {x : List B} (hx : ns[i]? = some x) : ∃ ad, A = some ad ∧ w.cell? (ad.add i) = some (.string (str x)) := by
 have e : (ns.map scell)[i]? = some (scell x) := by rw [List.getElem?_map, hx]; rfl
 obtain ⟨ad, rfl, _, hc⟩ := Ry.of_own h (by decide) (fun q => by rw [q] at e; simp at e)
 exact ⟨ad, rfl, hc _ _ e⟩
theorem any_miss {b : GBook} {x : List B} {l : List (List B)} (h : (vaF (varsOf b) x).isSome = true) : (x :: l).any (fun n => decide (atOf (varsOf b) n < 0)) = l.any (fun n => decide (atOf (varsOf b) n < 0)) := by
 rw [vaF_some] at h
 have := of_decide_eq_true h
 rw [List.any_cons, decide_eq_false (by omega), Bool.false_or]
theorem any_hit {b : GBook} {x : List B} {l : List (List B)} (h : (vaF (varsOf b) x).isSome = false) : (x :: l).any (fun n => decide (atOf (varsOf b) n < 0)) = true := by
 rw [vaF_some] at h
 have := of_decide_eq_false h
 rw [List.any_cons, decide_eq_true (by omega), Bool.true_or]
theorem lineError_ {w : World} {g : Nat} {b : GBook} (h : Nn w g b.steps (varsOf b)) (A : Option Addr) (n c : Nat) (s : List B) (hs : Bs w w.heap.size A n s) (hn : n ≤ 100000) (hcap : n ≤ c) :
  Calls Tryz.prog 58 #[.pointer (some ⟨g, 0, none⟩), .slice A n c] w (IntSays w (lineE b s)) := by
 have con := pnames w A n c s hs hn hcap
 have HH := Lib.hid h
 have HLS := Lib.hid hs.1
 obtain ⟨E, hE⟩ : ∃ E, E = lineE b s := ⟨_, rfl⟩
 rw [← hE]
 unfold lineE at hE
 have HE := Lib.hid hE
 clear h hs hE
 go_enter Tryz.func58, Tryz.ntmps58
 go_wp2_with fail
 refine con.mono ?_
 clear con
 rintro e w1 ⟨hb1, hr⟩
 have HB1 := Lib.hid hb1
 cases hp : names s with
 | error p =>
  rw [hp] at hr
  obtain rfl := hr
  have HE2 := Lib.hid (show E = 2 by rw [HE.out, hp])
  clear hb1 hp
  go_wp2_with fail
  go_ret
  exact ⟨by rw [HE2.out]; rfl, HB1.out⟩
 | ok ns =>
  rw [hp] at hr
  obtain ⟨A1, m, c1, rfl, ho⟩ := hr
  have HE2 := Lib.hid (show E = if ns.any (fun n => decide (atOf (varsOf b) n < 0)) then 9 else 0 by rw [HE.out, hp])
  have HSH := Lib.hid (namesR_short _ _ _ _ hp)
  have HLN := Lib.hid ho.len
  have hm : m ≤ 100000 := by
   have := ho.len
   have h2 := Vars.namesR_len _ _ _ _ (Nat.lt_succ_self _) hp
   have h3 := HLS.out
   omega
  have HN1 := Lib.hid (HH.out.below hb1)
  have HO := Lib.hid ho
  clear hb1 hp ho
  go_wp2_with fail
  go_loopw [20] (fun v20 wr => ∃ (i : Nat), i ≤ m ∧ v20 = .int .i64 (i : Int) ∧ w1 = wr ∧ Hid (E = if (ns.drop i).any (fun n => decide (atOf (varsOf b) n < 0)) then 9 else 0)) (fun v20 _ => m - (intOf v20).toNat)
  case atStart => exact ⟨0, Nat.zero_le _, rfl, rfl, Lib.hid (by rw [List.drop_zero]; exact HE2.out)⟩
  case round =>
   obtain ⟨i, hi, rfl, hw, HK⟩ := hrel
   obtain ⟨W0, rfl⟩ : ∃ W0, W0 = wr := ⟨_, rfl⟩
   subst hw
   rcases Nat.lt_or_ge i m with hlt | hge
   ·obtain ⟨x, hx⟩ : ∃ x, ns[i]? = some x := ⟨_, List.getElem?_eq_getElem (by rw [HLN.out]; exact hlt)⟩
    obtain ⟨ad, rfl, k0⟩ := ons_at HO.out hx
    have con := isVariable_ HN1.out x (by have := HSH.out x (List.mem_of_getElem? hx); omega)
    have hd : ns.drop i = x :: ns.drop (i + 1) := drop_at' hx
    cases hq : (vaF (varsOf b) x).isSome
    ·have HE3 := Lib.hid (show E = 9 by rw [HK.out, hd, any_hit hq]; rfl)
     rw [hq] at con
     clear hq hd HK hx
     go_wp2_with fail
     refine con.mono ?_
     clear con
     rintro e w2 ⟨rfl, rfl⟩
     go_wp2_with fail
     go_ret
     exact ⟨by rw [HE3.out]; rfl, HB1.out⟩
    ·have HK2 := Lib.hid (show E = if (ns.drop (i + 1)).any (fun n => decide (atOf (varsOf b) n < 0)) then 9 else 0 by rw [HK.out, hd, any_miss hq])
     rw [hq] at con
     clear hq hd HK hx
     go_wp2_with fail
     refine con.mono ?_
     clear con
     rintro e w2 ⟨rfl, rfl⟩
     go_wp2_with fail
     exact ⟨⟨i + 1, hlt, by rw [show ((i + 1 : Nat) : Int) = (i : Int) + 1 by omega], trivial, HK2⟩, by simp [intOf]; omega⟩
   ·obtain rfl : i = m := by omega
    have HE3 := Lib.hid (show E = 0 by rw [HK.out, List.drop_eq_nil_of_le (by rw [HLN.out]; exact Nat.le_refl _)]; rfl)
    go_wp2_with fail
    go_ret
    exact ⟨by rw [HE3.out]; rfl, HB1.out⟩
theorem patternError_ (w : World) (A : Option Addr) (n c : Nat) (s : List B) (hs : Bs w w.heap.size A n s) : Calls Tryz.prog 63 #[.slice A n c] w (IntSays w (patE s)) := by
 have con := parse_top w w.heap.size A n c s hs (Nat.le_refl _)
 obtain ⟨E, hE⟩ : ∃ E, E = patE s := ⟨_, rfl⟩
 rw [← hE]
 unfold patE at hE
 have HE := Lib.hid hE
 clear hs hE
 go_enter Tryz.func63, Tryz.ntmps63
 go_wp2_with fail
 refine con.mono ?_
 intro e w1 hps
 clear con
 cases hpa : parse s with
 | error x =>
  obtain ⟨bad, p⟩ := x
  rw [hpa] at hps
  obtain ⟨hb1, hbad, rfl⟩ := hps
  have HB1 := Lib.hid hb1
  have HE2 := Lib.hid (show E = (bad : Int) by rw [HE.out, hpa])
  have hbi : ((bad : Int) == 0) = false := by simp; omega
  clear hb1 hpa hbad
  go_wp2_with fail
  go_ret
  exact ⟨by rw [HE2.out]; rfl, HB1.out⟩
 | ok l =>
  rw [hpa] at hps
  obtain ⟨hb1, A1, c1, rfl, ho1⟩ := hps
  obtain ⟨us, hm1, hl1, hp1⟩ := Pr8.of_ows ho1 rfl
  have hg := parse_good hpa
  have hln : l.length ≤ 100000 := Nat.le_trans (parse_len hpa) (by decide)
  have con2 := build_call w1 A1 l.length c1 us hp1 hl1 hln (fun u hu => by have := piled_kinds _ 0 1 hg.2.1 u.o (by rw [← hm1]; exact List.mem_map_of_mem hu); omega) (fun u hu => parse_sp hpa u.o (by rw [← hm1]; exact List.mem_map_of_mem hu))
  rw [hm1] at con2
  have HB1 := Lib.hid hb1
  have HE2 := Lib.hid (show E = match Nfa.build l with
   | .error bad => (bad : Int)
   | .ok _ => 0 by rw [HE.out, hpa]; rfl)
  generalize l.length = ll at *
  clear hb1 ho1 hm1 hl1 hp1 hg hpa
  go_wp2_with fail
  refine con2.mono ?_
  clear con2
  rintro e w2 ⟨hb2, hr2⟩
  have HB2 := Lib.hid (HB1.out.trans (hb2.mono HB1.out.size))
  clear hb2
  cases hbu : build l with
  | error bad =>
   rw [hbu] at hr2
   obtain rfl := hr2
   have HE3 := Lib.hid (show E = (bad : Int) by rw [HE2.out, hbu])
   clear hbu
   go_wp2_with fail
   go_ret
   exact ⟨by rw [HE3.out]; rfl, HB2.out⟩
  | ok a =>
   rw [hbu] at hr2
   obtain ⟨A2, c2, vs, rfl, hvi, hov, hsv⟩ := hr2
   have HE3 := Lib.hid (show E = 0 by rw [HE2.out, hbu])
   clear hbu hvi hov hsv
   generalize hal : a.length = m
   clear hal
   go_wp2_with fail
   go_ret
   exact ⟨by rw [HE3.out]; rfl, HB2.out⟩
end Go.Proofs.YteohlpmojfjjdaaGreat.Chk
end
section
namespace Go.Proofs.YteohlpmojfjjdaaGreat.Chk
open Go.RowKit
open Lex (Tx Cr cr_ry)
open Vars (scell Ons names)
abbrev pa (g : Nat) : Value := .pointer (some ⟨g, 0, none⟩)
theorem hmfC : ∀ (fn : Fn) (first cap : Array Value) (w : World), (Instr.makeFunc fn first cap).run Tryz.prog w = .ok (.func fn first cap) w := fun _ _ _ _ => rfl
structure BxS (w : World) (q g i : Nat) (v : Gs) : Prop where
 n : Cel w q 57 [pa g]
 i : Cel w (q + 1) 3 [.int .i64 (i : Int)]
 s : Cel w (q + 1 + 1) 52 v.cells
theorem BxS.below {w w' : World} {q g i : Nat} {v : Gs} (h : BxS w q g i v) (hb : Below w.heap.size w w') : BxS w' q g i v := ⟨Cel.below h.n hb h.n.lt, Cel.below h.i hb h.i.lt, Cel.below h.s hb h.s.lt⟩
structure BxA (w : World) (q g j : Nat) (a : Ga) : Prop where
 n : Cel w q 57 [pa g]
 j : Cel w (q + 1) 3 [.int .i64 (j : Int)]
 a : Cel w (q + 1 + 1) 56 a.cells
theorem BxA.below {w w' : World} {q g j : Nat} {a : Ga} (h : BxA w q g j a) (hb : Below w.heap.size w w') : BxA w' q g j a := ⟨Cel.below h.n hb h.n.lt, Cel.below h.j hb h.j.lt, Cel.below h.a hb h.a.lt⟩
def asksS (q : Nat) : List Ask := [⟨48, #[pa (q + 1)]⟩, ⟨49, #[pa q, pa (q + 1 + 1), pa (q + 1)]⟩, ⟨51, #[pa (q + 1 + 1)]⟩, ⟨53, #[pa (q + 1 + 1)]⟩,
 ⟨54, #[pa (q + 1 + 1)]⟩, ⟨55, #[pa (q + 1 + 1)]⟩, ⟨56, #[pa (q + 1 + 1)]⟩, ⟨57, #[pa q, pa (q + 1 + 1)]⟩, ⟨59, #[pa q, pa (q + 1 + 1)]⟩]
def asksA (q : Nat) : List Ask := [⟨61, #[pa (q + 1)]⟩, ⟨62, #[pa (q + 1 + 1)]⟩, ⟨64, #[pa q, pa (q + 1 + 1)]⟩, ⟨66, #[pa q, pa (q + 1 + 1)]⟩]
def asksB (q : Nat) : List Ask := [⟨44, #[pa q]⟩, ⟨46, #[pa q]⟩]
def RowSays (w : World) (l : List Ask) (k : Nat) (P : World → Prop) (e : Ending) (w' : World) : Prop := e = .returned (.slice (some ⟨k, 0, none⟩) l.length l.length) ∧ Below w.heap.size w w' ∧ Cel w' k 114 (l.map Ask.v) ∧ P w'
section
variable (w : World) (g i : Nat) (z0 z2 z3 z6 z7 m : Int) (b3 : Bool) (s1 s8 : ByteArray) (A4 A5 : Option Addr) (l4 c4 l5 c5 : Nat)
theorem ofStepV : Calls Tryz.prog 28 #[pa g, .int .i64 (i : Int), .agg #[.int .i64 z0, .string s1, .int .i64 z2, .bool b3, .slice A4 l4 c4, .slice A5 l5 c5, .int .i64 z6, .int .i64 z7, .string s8]] w
  (RowSays w (asksS w.heap.size) (w.heap.size + 1 + 1 + 1) fun w' => Cel w' w.heap.size 57 [pa g] ∧ Cel w' (w.heap.size + 1) 3 [.int .i64 (i : Int)] ∧ Cel w' (w.heap.size + 1 + 1) 52 [.int .i64 z0, .string s1, .int .i64 z2, .bool b3, .slice A4 l4 c4, .slice A5 l5 c5, .int .i64 z6, .int .i64 z7, .string s8]) := by
 have hm := hmfC
 go_enter Tryz.func28, Tryz.ntmps28
 go_wp2_with fail
 go_ret
 refine ⟨rfl, ?_, ?_, ?_, ?_, ?_⟩
 ·exact ((((Below.refl _ _).alloc (Nat.le_refl _) _).alloc (by simp) _).alloc (by simp; omega) _).alloc (by simp; omega) _
 ·have := Cel.new (((w.alloc (.cells #[pa g] 57)).alloc (.cells #[.int .i64 (i : Int)] 3)).alloc (.cells #[.int .i64 z0, .string s1, .int .i64 z2, .bool b3, .slice A4 l4 c4, .slice A5 l5 c5, .int .i64 z6, .int .i64 z7, .string s8] 52)) 114 ((asksS w.heap.size).map Ask.v)
  simp only [World.size_alloc] at this
  exact this
 ·exact (((Cel.new w 57 [pa g]).alloc _).alloc _).alloc _
 ·have := Cel.new (w.alloc (.cells #[pa g] 57)) 3 [.int .i64 (i : Int)]
  simp only [World.size_alloc] at this
  exact (this.alloc _).alloc _
 ·have := Cel.new ((w.alloc (.cells #[pa g] 57)).alloc (.cells #[.int .i64 (i : Int)] 3)) 52 [.int .i64 z0, .string s1, .int .i64 z2, .bool b3, .slice A4 l4 c4, .slice A5 l5 c5, .int .i64 z6, .int .i64 z7, .string s8]
  simp only [World.size_alloc] at this
  exact this.alloc _
theorem ofArmV : Calls Tryz.prog 29 #[pa g, .int .i64 (i : Int), .agg #[.int .i64 z0, .slice A4 l4 c4, .string s1, .string s8]] w
  (RowSays w (asksA w.heap.size) (w.heap.size + 1 + 1 + 1) fun w' => Cel w' w.heap.size 57 [pa g] ∧ Cel w' (w.heap.size + 1) 3 [.int .i64 (i : Int)] ∧ Cel w' (w.heap.size + 1 + 1) 56 [.int .i64 z0, .slice A4 l4 c4, .string s1, .string s8]) := by
 have hm := hmfC
 go_enter Tryz.func29, Tryz.ntmps29
 go_wp2_with fail
 go_ret
 refine ⟨rfl, ?_, ?_, ?_, ?_, ?_⟩
 ·exact ((((Below.refl _ _).alloc (Nat.le_refl _) _).alloc (by simp) _).alloc (by simp; omega) _).alloc (by simp; omega) _
 ·have := Cel.new (((w.alloc (.cells #[pa g] 57)).alloc (.cells #[.int .i64 (i : Int)] 3)).alloc (.cells #[.int .i64 z0, .slice A4 l4 c4, .string s1, .string s8] 56)) 114 ((asksA w.heap.size).map Ask.v)
  simp only [World.size_alloc] at this
  exact this
 ·exact (((Cel.new w 57 [pa g]).alloc _).alloc _).alloc _
 ·have := Cel.new (w.alloc (.cells #[pa g] 57)) 3 [.int .i64 (i : Int)]
  simp only [World.size_alloc] at this
  exact (this.alloc _).alloc _
 ·have := Cel.new ((w.alloc (.cells #[pa g] 57)).alloc (.cells #[.int .i64 (i : Int)] 3)) 56 [.int .i64 z0, .slice A4 l4 c4, .string s1, .string s8]
  simp only [World.size_alloc] at this
  exact this.alloc _
theorem ofBookV : Calls Tryz.prog 27 #[.agg #[.int .i64 m, .slice A4 l4 c4]] w
  (RowSays w (asksB w.heap.size) (w.heap.size + 1) fun w' => Cel w' w.heap.size 24 [.int .i64 m, .slice A4 l4 c4]) := by
 have hm := hmfC
 go_enter Tryz.func27, Tryz.ntmps27
 go_wp2_with fail
 go_ret
 refine ⟨rfl, ?_, ?_, ?_⟩
 ·exact ((Below.refl _ _).alloc (Nat.le_refl _) _).alloc (by simp) _
 ·have := Cel.new (w.alloc (.cells #[.int .i64 m, .slice A4 l4 c4] 24)) 114 ((asksB w.heap.size).map Ask.v)
  simp only [World.size_alloc] at this
  exact this
 ·exact (Cel.new w 24 [.int .i64 m, .slice A4 l4 c4]).alloc _
end
end Go.Proofs.YteohlpmojfjjdaaGreat.Chk
end
section
namespace Go.Proofs.YteohlpmojfjjdaaGreat.Chk
open Go.RowKit
open Lex (Tx Cr cr_ry)
open Vars (scell Ons names)
section
variable {w : World} {q g i : Nat} {b : GBook} {v : Gs} {a : Ga}
theorem ansS1 (hx : BxS w q g i v) : Ans w ⟨48, #[pa (q + 1)]⟩ (bE (decide (30 ≤ i)) 3) := ⟨enters_of Tryz.func48 (by kernel_rfl) rfl, fun W hb => by
 have hX := hx.below hb
 have k0 := hX.i.cell 0
 change _ = some (Value.int .i64 (i : Int)) at k0
 have hd : decide (30 ≤ i) = decide ((30 : Int) ≤ (i : Int)) := by rw [decide_eq_decide]; omega
 rw [hd]
 clear hX hx hb
 go_enter Tryz.func48, Tryz.ntmps48
 go_wp2_with fail
 refine (errorIf_ _ _ _).mono ?_
 rintro e w1 ⟨rfl, rfl⟩
 go_wp2_with fail
 go_ret
 exact ⟨rfl, Below.refl _ _⟩⟩
theorem ansS2 (hx : BxS w q g i v) (hn : Nn w g b.steps (varsOf b)) (hl : v.g.name.length ≤ 100000) : Ans w ⟨49, #[pa q, pa (q + 1 + 1), pa (q + 1)]⟩ (bE (takenF b.steps v.g.name i) 6) := ⟨enters_of Tryz.func49 (by kernel_rfl) rfl, fun W hb => by
 have hX := hx.below hb
 have hN := hn.below hb
 have k0 := hX.n.cell 0
 change _ = some (Value.pointer (some ⟨g, 0, none⟩)) at k0
 have k1 := hX.s.cell 1
 change _ = some (Value.string (str v.g.name)) at k1
 have k2 := hX.i.cell 0
 change _ = some (Value.int .i64 (i : Int)) at k2
 have con := isTaken_ hN v.g.name hl i
 generalize takenF b.steps v.g.name i = T at *
 generalize str v.g.name = s at *
 clear hX hN hx hn hb
 go_enter Tryz.func49, Tryz.ntmps49
 go_wp2_with fail
 refine con.mono ?_
 clear con
 rintro e w1 ⟨rfl, rfl⟩
 go_wp2_with fail
 refine (errorIf_ _ _ _).mono ?_
 rintro e w1 ⟨rfl, rfl⟩
 go_wp2_with fail
 go_ret
 exact ⟨rfl, Below.refl _ _⟩⟩
theorem ansS3 (hx : BxS w q g i v) : Ans w ⟨51, #[pa (q + 1 + 1)]⟩ (bE (!(decide (v.g.tag = 0) || decide (v.g.tag = 1) || decide (v.g.tag = 2))) 1) := ⟨enters_of Tryz.func51 (by kernel_rfl) rfl, fun W hb => by
 have hX := hx.below hb
 have k0 := hX.s.cell 2
 change _ = some (Value.int .i64 v.g.tag) at k0
 have con := isTag_ W v.g.tag
 generalize v.g.tag = t at *
 generalize (decide (t = 0) || decide (t = 1) || decide (t = 2)) = c at *
 clear hX hx hb
 go_enter Tryz.func51, Tryz.ntmps51
 go_wp2_with fail
 refine con.mono ?_
 clear con
 rintro e w1 ⟨rfl, rfl⟩
 go_wp2_with fail
 refine (errorIf_ _ _ _).mono ?_
 rintro e w1 ⟨rfl, rfl⟩
 go_wp2_with fail
 go_ret
 exact ⟨rfl, Below.refl _ _⟩⟩
theorem ansS4 (hx : BxS w q g i v) : Ans w ⟨53, #[pa (q + 1 + 1)]⟩ (bE (v.g.sends == decide (v.g.tag = 0)) 1) := ⟨enters_of Tryz.func53 (by kernel_rfl) rfl, fun W hb => by
 have hX := hx.below hb
 have k0 := hX.s.cell 3
 change _ = some (Value.bool v.g.sends) at k0
 have k1 := hX.s.cell 2
 change _ = some (Value.int .i64 v.g.tag) at k1
 generalize v.g.tag = t at *
 generalize v.g.sends = c at *
 clear hX hx hb
 go_enter Tryz.func53, Tryz.ntmps53
 go_wp2_with fail
 refine (errorIf_ _ _ _).mono ?_
 rintro e w1 ⟨rfl, rfl⟩
 go_wp2_with fail
 go_ret
 exact ⟨rfl, Below.refl _ _⟩⟩
theorem ansS5 (hx : BxS w q g i v) : Ans w ⟨54, #[pa (q + 1 + 1)]⟩ (bE (decide (v.g.tag = 1) && !decide (v.g.try_ = 0)) 1) := ⟨enters_of Tryz.func54 (by kernel_rfl) rfl, fun W hb => by
 have hX := hx.below hb
 have k0 := hX.s.cell 2
 change _ = some (Value.int .i64 v.g.tag) at k0
 have k1 := hX.s.cell 7
 change _ = some (Value.int .i64 v.g.try_) at k1
 generalize v.g.tag = t at *
 generalize v.g.try_ = r at *
 clear hX hx hb
 by_cases h1 : t = 1
 ·subst h1
  go_enter Tryz.func54, Tryz.ntmps54
  go_wp2_with fail
  refine (errorIf_ _ _ _).mono ?_
  rintro e w1 ⟨rfl, rfl⟩
  go_wp2_with fail
  go_ret
  exact ⟨rfl, Below.refl _ _⟩
 ·have d : (t == 1) = false := by simp [h1]
  rw [decide_eq_false h1]
  clear h1
  go_enter Tryz.func54, Tryz.ntmps54
  go_wp2_with fail
  refine (errorIf_ _ _ _).mono ?_
  rintro e w1 ⟨rfl, rfl⟩
  go_wp2_with fail
  go_ret
  exact ⟨rfl, Below.refl _ _⟩⟩
theorem ansS6 (hx : BxS w q g i v) : Ans w ⟨55, #[pa (q + 1 + 1)]⟩ (bE (!(decide (1 ≤ v.g.time) && decide (v.g.time ≤ 100))) 1) := ⟨enters_of Tryz.func55 (by kernel_rfl) rfl, fun W hb => by
 have hX := hx.below hb
 have k0 := hX.s.cell 6
 change _ = some (Value.int .i64 v.g.time) at k0
 have con := isWithin_ W v.g.time 1 100
 generalize v.g.time = t at *
 generalize (decide (1 ≤ t) && decide (t ≤ 100)) = c at *
 clear hX hx hb
 go_enter Tryz.func55, Tryz.ntmps55
 go_wp2_with fail
 refine con.mono ?_
 clear con
 rintro e w1 ⟨rfl, rfl⟩
 go_wp2_with fail
 refine (errorIf_ _ _ _).mono ?_
 rintro e w1 ⟨rfl, rfl⟩
 go_wp2_with fail
 go_ret
 exact ⟨rfl, Below.refl _ _⟩⟩
theorem ansS7 (hx : BxS w q g i v) : Ans w ⟨56, #[pa (q + 1 + 1)]⟩ (bE (!(decide (0 ≤ v.g.try_) && decide (v.g.try_ ≤ 5))) 1) := ⟨enters_of Tryz.func56 (by kernel_rfl) rfl, fun W hb => by
 have hX := hx.below hb
 have k0 := hX.s.cell 7
 change _ = some (Value.int .i64 v.g.try_) at k0
 have con := isWithin_ W v.g.try_ 0 5
 generalize v.g.try_ = t at *
 generalize (decide (0 ≤ t) && decide (t ≤ 5)) = c at *
 clear hX hx hb
 go_enter Tryz.func56, Tryz.ntmps56
 go_wp2_with fail
 refine con.mono ?_
 clear con
 rintro e w1 ⟨rfl, rfl⟩
 go_wp2_with fail
 refine (errorIf_ _ _ _).mono ?_
 rintro e w1 ⟨rfl, rfl⟩
 go_wp2_with fail
 go_ret
 exact ⟨rfl, Below.refl _ _⟩⟩
theorem ansS8 (hx : BxS w q g i v) (hn : Nn w g b.steps (varsOf b)) {T : Nat} (ht : Tx w T v.A4 v.g.send) (hT : T ≤ w.heap.size) (hl : v.g.send.length ≤ 100000) (hc : v.g.send.length ≤ v.c4) : Ans w ⟨57, #[pa q, pa (q + 1 + 1)]⟩ (lineE b v.g.send) := ⟨enters_of Tryz.func57 (by kernel_rfl) rfl, fun W hb => by
 have hX := hx.below hb
 have hN := hn.below hb
 have k0 := hX.n.cell 0
 change _ = some (Value.pointer (some ⟨g, 0, none⟩)) at k0
 have k1 := hX.s.cell 4
 change _ = some (Value.slice v.A4 v.g.send.length v.c4) at k1
 have con := lineError_ hN v.A4 v.g.send.length v.c4 v.g.send ((ht.below hT hb).bs (Nat.le_trans hT hb.size)) hl hc
 generalize lineE b v.g.send = E at *
 generalize v.g.send.length = m at *
 clear hX hN hx hn hb ht hT
 go_enter Tryz.func57, Tryz.ntmps57
 go_wp2_with fail
 refine con.mono ?_
 clear con
 rintro e w1 ⟨rfl, hb1⟩
 have HB1 := Lib.hid hb1
 clear hb1
 go_wp2_with fail
 go_ret
 exact ⟨rfl, HB1.out⟩⟩
theorem ansS9 (hx : BxS w q g i v) (hn : Nn w g b.steps (varsOf b)) (hl : v.g.els.length ≤ 100000) : Ans w ⟨59, #[pa q, pa (q + 1 + 1)]⟩ (bE (!(tgtF b.steps v.g.els).2) 9) := ⟨enters_of Tryz.func59 (by kernel_rfl) rfl, fun W hb => by
 have hX := hx.below hb
 have hN := hn.below hb
 have k0 := hX.n.cell 0
 change _ = some (Value.pointer (some ⟨g, 0, none⟩)) at k0
 have k1 := hX.s.cell 8
 change _ = some (Value.string (str v.g.els)) at k1
 have con := isTarget_ hN v.g.els hl
 generalize (tgtF b.steps v.g.els).2 = T at *
 generalize str v.g.els = s at *
 clear hX hN hx hn hb
 go_enter Tryz.func59, Tryz.ntmps59
 go_wp2_with fail
 refine con.mono ?_
 clear con
 rintro e w1 ⟨rfl, rfl⟩
 go_wp2_with fail
 refine (errorIf_ _ _ _).mono ?_
 rintro e w1 ⟨rfl, rfl⟩
 go_wp2_with fail
 go_ret
 exact ⟨rfl, Below.refl _ _⟩⟩
theorem ansA1 (hx : BxA w q g i a) : Ans w ⟨61, #[pa (q + 1)]⟩ (bE (decide (6 ≤ i)) 3) := ⟨enters_of Tryz.func61 (by kernel_rfl) rfl, fun W hb => by
 have hX := hx.below hb
 have k0 := hX.j.cell 0
 change _ = some (Value.int .i64 (i : Int)) at k0
 have hd : decide (6 ≤ i) = decide ((6 : Int) ≤ (i : Int)) := by rw [decide_eq_decide]; omega
 rw [hd]
 clear hX hx hb
 go_enter Tryz.func61, Tryz.ntmps61
 go_wp2_with fail
 refine (errorIf_ _ _ _).mono ?_
 rintro e w1 ⟨rfl, rfl⟩
 go_wp2_with fail
 go_ret
 exact ⟨rfl, Below.refl _ _⟩⟩
theorem ansA2 (hx : BxA w q g i a) {T : Nat} (ht : Tx w T a.A a.g.pat) (hT : T ≤ w.heap.size) : Ans w ⟨62, #[pa (q + 1 + 1)]⟩ (patE a.g.pat) := ⟨enters_of Tryz.func62 (by kernel_rfl) rfl, fun W hb => by
 have hX := hx.below hb
 have k0 := hX.a.cell 1
 change _ = some (Value.slice a.A a.g.pat.length a.c) at k0
 have con := patternError_ W a.A a.g.pat.length a.c a.g.pat ((ht.below hT hb).bs (Nat.le_trans hT hb.size))
 generalize patE a.g.pat = E at *
 generalize a.g.pat.length = m at *
 clear hX hx hb ht hT
 go_enter Tryz.func62, Tryz.ntmps62
 go_wp2_with fail
 refine con.mono ?_
 clear con
 rintro e w1 ⟨rfl, hb1⟩
 have HB1 := Lib.hid hb1
 clear hb1
 go_wp2_with fail
 go_ret
 exact ⟨rfl, HB1.out⟩⟩
theorem ansA3 (hx : BxA w q g i a) (hn : Nn w g b.steps (varsOf b)) (hl : a.g.as_.length ≤ 100000) : Ans w ⟨64, #[pa q, pa (q + 1 + 1)]⟩ (bE (decide (8 ≤ varF (varsOf b) a.g.as_)) 3) := ⟨enters_of Tryz.func64 (by kernel_rfl) rfl, fun W hb => by
 have hX := hx.below hb
 have hN := hn.below hb
 have k0 := hX.n.cell 0
 change _ = some (Value.pointer (some ⟨g, 0, none⟩)) at k0
 have k1 := hX.a.cell 2
 change _ = some (Value.string (str a.g.as_)) at k1
 have con := variable_ hN a.g.as_ hl
 generalize varF (varsOf b) a.g.as_ = z at *
 generalize str a.g.as_ = s at *
 clear hX hN hx hn hb
 go_enter Tryz.func64, Tryz.ntmps64
 go_wp2_with fail
 refine con.mono ?_
 clear con
 rintro e w1 ⟨rfl, rfl⟩
 go_wp2_with fail
 refine (errorIf_ _ _ _).mono ?_
 rintro e w1 ⟨rfl, rfl⟩
 go_wp2_with fail
 go_ret
 exact ⟨rfl, Below.refl _ _⟩⟩
theorem ansA4 (hx : BxA w q g i a) (hn : Nn w g b.steps (varsOf b)) (hl : a.g.go.length ≤ 100000) : Ans w ⟨66, #[pa q, pa (q + 1 + 1)]⟩ (bE (!(tgtF b.steps a.g.go).2) 9) := ⟨enters_of Tryz.func66 (by kernel_rfl) rfl, fun W hb => by
 have hX := hx.below hb
 have hN := hn.below hb
 have k0 := hX.n.cell 0
 change _ = some (Value.pointer (some ⟨g, 0, none⟩)) at k0
 have k1 := hX.a.cell 3
 change _ = some (Value.string (str a.g.go)) at k1
 have con := isTarget_ hN a.g.go hl
 generalize (tgtF b.steps a.g.go).2 = T at *
 generalize str a.g.go = s at *
 clear hX hN hx hn hb
 go_enter Tryz.func66, Tryz.ntmps66
 go_wp2_with fail
 refine con.mono ?_
 clear con
 rintro e w1 ⟨rfl, rfl⟩
 go_wp2_with fail
 refine (errorIf_ _ _ _).mono ?_
 rintro e w1 ⟨rfl, rfl⟩
 go_wp2_with fail
 go_ret
 exact ⟨rfl, Below.refl _ _⟩⟩
theorem ansB1 {m : Int} {A : Option Addr} {n c : Nat} (hx : Cel w q 24 [.int .i64 m, .slice A n c]) : Ans w ⟨44, #[pa q]⟩ (bE (decide (n = 0)) 4) := ⟨enters_of Tryz.func44 (by kernel_rfl) rfl, fun W hb => by
 have k0 := (Cel.below hx hb hx.lt).cell 1
 change _ = some (Value.slice A n c) at k0
 have hd : decide (n = 0) = decide ((n : Int) = 0) := by rw [decide_eq_decide]; omega
 rw [hd]
 clear hx hb
 go_enter Tryz.func44, Tryz.ntmps44
 go_wp2_with fail
 refine (errorIf_ _ _ _).mono ?_
 rintro e w1 ⟨rfl, rfl⟩
 go_wp2_with fail
 go_ret
 exact ⟨rfl, Below.refl _ _⟩⟩
theorem ansB2 {m : Int} {A : Option Addr} {n c : Nat} (hx : Cel w q 24 [.int .i64 m, .slice A n c]) : Ans w ⟨46, #[pa q]⟩ (bE (!(decide (1 ≤ m) && decide (m ≤ 1000))) 1) := ⟨enters_of Tryz.func46 (by kernel_rfl) rfl, fun W hb => by
 have k0 := (Cel.below hx hb hx.lt).cell 0
 change _ = some (Value.int .i64 m) at k0
 have con := isWithin_ W m 1 1000
 generalize (decide (1 ≤ m) && decide (m ≤ 1000)) = d at *
 clear hx hb
 go_enter Tryz.func46, Tryz.ntmps46
 go_wp2_with fail
 refine con.mono ?_
 clear con
 rintro e w1 ⟨rfl, rfl⟩
 go_wp2_with fail
 refine (errorIf_ _ _ _).mono ?_
 rintro e w1 ⟨rfl, rfl⟩
 go_wp2_with fail
 go_ret
 exact ⟨rfl, Below.refl _ _⟩⟩
end
end Go.Proofs.YteohlpmojfjjdaaGreat.Chk
end
