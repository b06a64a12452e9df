/-
Texts: LexByte LexStep LexPcut LexKnows
-/
import Derived.Test.YteohlpmojfjjdaaGreatC0
import Derived.Test.YteohlpmojfjjdaaGreatC2
import Derived.Test.YteohlpmojfjjdaaGreatC3
import Derived.Test.YteohlpmojfjjdaaGreatC7
import Derived.Test.YteohlpmojfjjdaaGreatC8
import Derived.Test.YteohlpmojfjjdaaGreatC20
import Derived.Test.YteohlpmojfjjdaaGreatC21
import Derived.Shelf.Abstract
import Derived.Lib.SlBytesConst
set_option linter.unusedVariables false
set_option linter.unusedSimpArgs false
set_option maxRecDepth 100000
set_option maxHeartbeats 4000000
section
namespace Go.Proofs.YteohlpmojfjjdaaGreat.Lex
open Go.RowKit
def Sv (w : World) (D P : Nat) : St → Value → Prop
 | .btw, v => v = fv 34
 | .com, v => v = fv 76
 | .word _ t, v => Wv w v ∧ t.length ≤ 20
 | .num q d n, v => Nv w D d v ∧ 0 ≤ n ∧ n ≤ 9999 ∧ q + d = P
 | .txt _ t, v => v = fv 85 ∧ t.length ≤ 2 * P
 | .esc _ t, v => v = fv 121 ∧ t.length ≤ 2 * P
def Cf (w : World) (D g : Nat) (E : Value) (P : Nat) (p z : Int) (st : St) (us : List Tok) (v : Value) : Prop :=
 ∃ K vs xs, vs.map (·.t) = us ∧ xs.map (·.t) = st.cur ∧ Mc w D K g E p z vs xs ∧ Sv w D P st v ∧ vs.length + xs.length ≤ P
def StSays (w : World) (D g : Nat) (E : Value) (P : Nat) (r : Except Nat (St × List Tok)) (e : Ending) (w' : World) : Prop :=
 (∃ v, e = .returned v) ∧ Chl D w w' ∧ match r with
 | .ok (st', us') => ∃ v z', e = .returned v ∧ Cf w' D g E (P + 1) (P : Int) z' st' us' v
 | .error q => e = .returned .nilFunc ∧ ∃ K vs xs, Mc w' D K g E (P : Int) (q : Int) vs xs
section
variable {w w' : World} {D K g P : Nat} {E : Value} {z : Int} {vs : List Tv} {x : Tv}
theorem StSays.from_ {w0 : World} {r : Except Nat (St × List Tok)} {e : Ending} (h : StSays w D g E P r e w') (hc : Chl D w0 w) : StSays w0 D g E P r e w' := ⟨h.1, hc.trans h.2.1, h.2.2⟩
theorem StSays.ok {st' : St} {us' : List Tok} {r : Except Nat (St × List Tok)} {v : Value} {z' : Int} (hr : r = .ok (st', us')) (hc : Chl D w w') (h : Cf w' D g E (P + 1) (P : Int) z' st' us' v) : StSays w D g E P r (.returned v) w' := by
 subst hr; exact ⟨⟨v, rfl⟩, hc, v, z', rfl, h⟩
theorem StSays.bad {q : Nat} {r : Except Nat (St × List Tok)} {us xs : List Tv} (hr : r = .error q) (hc : Chl D w w') (h : Mc w' D K g E (P : Int) (q : Int) us xs) : StSays w D g E P r (.returned .nilFunc) w' := by
 subst hr; exact ⟨⟨_, rfl⟩, hc, rfl, K, us, xs, h⟩
theorem enterf : ∀ (k : Nat), k = 113 ∨ k = 115 ∨ k = 119 ∨ k = 145 ∨ k = 118 ∨ k = 120 ∨ k = 74 ∨ k = 75 ∨ k = 78 ∨ k = 82 ∨ k = 84 ∨ k = 34 ∨ k = 76 ∨ k = 85 ∨ k = 121 ∨ k = 146 → ∀ args W, (callFunc k args).run Tryz.prog W = .ok (.enter k args) W := by
 rintro k (rfl | rfl | rfl | rfl | rfl | rfl | rfl | rfl | rfl | rfl | rfl | rfl | rfl | rfl | rfl | rfl)
 ·exact enters_of Tryz.func113 (by kernel_rfl) rfl
 ·exact enters_of Tryz.func115 (by kernel_rfl) rfl
 ·exact enters_of Tryz.func119 (by kernel_rfl) rfl
 ·exact enters_of Tryz.func145 (by kernel_rfl) rfl
 ·exact enters_of Tryz.func118 (by kernel_rfl) rfl
 ·exact enters_of Tryz.func120 (by kernel_rfl) rfl
 ·exact enters_of Tryz.func74 (by kernel_rfl) rfl
 ·exact enters_of Tryz.func75 (by kernel_rfl) rfl
 ·exact enters_of Tryz.func78 (by kernel_rfl) rfl
 ·exact enters_of Tryz.func82 (by kernel_rfl) rfl
 ·exact enters_of Tryz.func84 (by kernel_rfl) rfl
 ·exact enters_of Tryz.func34 (by kernel_rfl) rfl
 ·exact enters_of Tryz.func76 (by kernel_rfl) rfl
 ·exact enters_of Tryz.func85 (by kernel_rfl) rfl
 ·exact enters_of Tryz.func121 (by kernel_rfl) rfl
 ·exact enters_of Tryz.func146 (by kernel_rfl) rfl
theorem word_byte {q : Nat} {t : List B} {v : Value} (h : Mc w D K g E (P : Int) z vs [x]) (hx : x.t = ⟨⟨1, 0, t⟩, q⟩) (hv : Wv w v) (b : B) (hb : within b = true) (ht : t.length ≤ 20) (hn : vs.length ≤ P) (hP : P ≤ 3000) :
  ∃ p2 p3 p4, v = f3 146 p2 p3 p4 ∧ Calls Tryz.prog 146 #[.pointer (some ⟨g, 0, none⟩), v8 b, .pointer (some ⟨p2, 0, none⟩), .pointer (some ⟨p3, 0, none⟩), .pointer (some ⟨p4, 0, none⟩)] w
   (StSays w D g E P (if t.length + 1 ≤ 20 then .ok (.word q (t ++ [b]), vs.map (·.t)) else .error q)) := by
 have hv0 := hv
 obtain ⟨p2, p3, p4, tv, ta, sa, e, h2, h3, h4, h5, h6, h7⟩ := hv
 refine ⟨p2, p3, p4, e, ?_⟩
 obtain ⟨r, hl⟩ := h.last
 have htx : x.t.t.text = t := by rw [hx]
 refine (run_fit (cf := #[.pointer (some ⟨tv, 0, none⟩)]) (cg := #[]) hl b (by omega) (decide (t.length + 1 ≤ 20)) h2 h3 h4 (enterf _ (by simp)) (by rw [← hb]; exact peither h5 h6 h7 b) (enterf _ (by simp)) (R := fun y _ => ∃ A c, y = more x b A c) (fun W hW => ?_)).mono ?_
 ·refine (word_more (hl.below hW) b (by omega) _ (by rw [htx]) (by rw [htx]; omega)).mono ?_
  rintro e w1 ⟨rfl, A, c, hm, hc⟩
  exact ⟨rfl, ⟨more x b A c, ⟨rfl, A, c, rfl⟩, hm⟩, hc⟩
 ·intro e' w1 hs
  unfold RuSaysF at hs
  by_cases h20 : t.length + 1 ≤ 20
  ·rw [if_pos (by simpa using h20)] at hs
   obtain ⟨rfl, ⟨y, ⟨A, c, rfl⟩, hm⟩, hc⟩ := hs
   refine StSays.ok (st' := .word q (t ++ [b])) (us' := vs.map (·.t)) (by rw [if_pos h20]) hc ⟨K, vs, _, rfl, ?_, hm.mc, ⟨hv0.chl hc, by simpa using h20⟩, by simp; omega⟩
   simp [more, hx, St.cur]
  ·rw [if_neg (by simpa using h20)] at hs
   obtain ⟨rfl, ⟨y, hm⟩, hc⟩ := hs
   exact StSays.bad (by rw [if_neg h20]) hc (by rw [hx] at hm; exact hm)
theorem num_byte {q d : Nat} {n : Int} {v : Value} (h : Mc w D K g E (P : Int) z vs [x]) (hx : x.t = ⟨⟨2, n, []⟩, q⟩) (hv : Nv w D d v) (b : B) (hb : digit b = true) (hn0 : 0 ≤ n) (hn1 : n ≤ 9999) (hq : q + d = P) (hn : vs.length ≤ P) (hP : P ≤ 3000) :
  ∃ p2 p3 p4, v = f3 146 p2 p3 p4 ∧ Calls Tryz.prog 146 #[.pointer (some ⟨g, 0, none⟩), v8 b, .pointer (some ⟨p2, 0, none⟩), .pointer (some ⟨p3, 0, none⟩), .pointer (some ⟨p4, 0, none⟩)] w
   (StSays w D g E P (if (decide (0 < d) && decide (n = 0)) = false ∧ 10 * n + ((b.toNat : Int) - 48) ≤ 9999 then .ok (.num q (d + 1) (10 * n + ((b.toNat : Int) - 48)), vs.map (·.t)) else .error q)) := by
 obtain ⟨p2, p3, p4, dg, e, h2, h3, h4, hD, h5⟩ := hv
 refine ⟨p2, p3, p4, e, ?_⟩
 obtain ⟨r, hl⟩ := h.last
 have hxn : x.t.t.n = n := by rw [hx]
 obtain ⟨hb1, hb2⟩ := digit_iff.1 hb
 refine (run_fit (cf := #[]) (cg := #[.pointer (some ⟨dg, 0, none⟩)]) hl b (by omega) (!(decide (0 < d) && decide (n = 0)) && decide (10 * n + ((b.toNat : Int) - 48) ≤ 9999)) h2 h3 h4 (enterf _ (by simp)) (by rw [← hb]; exact pdigit w b) (enterf _ (by simp)) (R := fun y w' => y = withN x (10 * n + ((b.toNat : Int) - 48)) ∧ Cel w' dg 3 [.int .i64 ((d + 1 : Nat) : Int)]) (fun W hW => ?_)).mono ?_
 ·have := num_more (hl.below hW) b hb hD (Cel.below h5 hW (Cel.lt h5)) (by omega) (by omega) (by rw [hxn]; exact hn0) (by rw [hxn]; exact hn1) _ rfl
  rw [hxn] at this
  refine this.mono ?_
  rintro e w1 ⟨rfl, hm, hd, hc⟩
  exact ⟨rfl, ⟨withN x (10 * n + ((b.toNat : Int) - 48)), ⟨rfl, rfl, hd⟩, hm⟩, hc⟩
 ·intro e' w1 hs
  unfold RuSaysF at hs
  by_cases hok : (decide (0 < d) && decide (n = 0)) = false ∧ 10 * n + ((b.toNat : Int) - 48) ≤ 9999
  ·rw [if_pos (by rw [hok.1, decide_eq_true hok.2]; rfl)] at hs
   obtain ⟨rfl, ⟨y, ⟨rfl, hd⟩, hm⟩, hc⟩ := hs
   refine StSays.ok (st' := .num q (d + 1) (10 * n + ((b.toNat : Int) - 48))) (us' := vs.map (·.t)) (by rw [if_pos hok]) hc ⟨K, vs, _, rfl, ?_, hm.mc, ⟨⟨p2, p3, p4, dg, e, Cel.chl h2 hc (by simp [Lob]), Cel.chl h3 hc (by simp [Lob]), Cel.chl h4 hc (by simp [Lob]), hD, hd⟩, by omega, hok.2, by omega⟩, by simp; omega⟩
   simp [withN, hx, St.cur]
  ·rw [if_neg (by
    intro hh
    apply hok
    rw [Bool.and_eq_true] at hh
    exact ⟨by have h1 := hh.1; revert h1; cases (decide (0 < d) && decide (n = 0)) <;> simp, by simpa using hh.2⟩)] at hs
   obtain ⟨rfl, ⟨y, hm⟩, hc⟩ := hs
   exact StSays.bad (by rw [if_neg hok]) hc (by rw [hx] at hm; exact hm)
end
end Go.Proofs.YteohlpmojfjjdaaGreat.Lex
end
section
namespace Go.Proofs.YteohlpmojfjjdaaGreat.Lex
open Go.RowKit
section
variable {w w' : World} {D K g P : Nat} {E : Value} {z : Int} {vs xs : List Tv} {x : Tv}
theorem ent1 (w : World) (g : Nat) (b : B) : Calls Tryz.prog 74 #[.pointer (some ⟨g, 0, none⟩), v8 b] w fun e w' => e = .returned (fv 34) ∧ w' = w := by
 go_enter Tryz.func74, Tryz.ntmps74
 go_wp2_with fail
 go_ret
 exact ⟨rfl, rfl⟩
theorem ent2 (w : World) (g : Nat) (b : B) : Calls Tryz.prog 75 #[.pointer (some ⟨g, 0, none⟩), v8 b] w fun e w' => e = .returned (fv 76) ∧ w' = w := by
 go_enter Tryz.func75, Tryz.ntmps75
 go_wp2_with fail
 go_ret
 exact ⟨rfl, rfl⟩
theorem ent3 (h : Mc w D K g E (P : Int) z vs []) (b : B) (hb : letter b = true) (hn : vs.length ≤ P) (hP : P ≤ 3000) :
  Calls Tryz.prog 78 #[.pointer (some ⟨g, 0, none⟩), v8 b] w (StSays w D g E P (.ok (.word P [b], vs.map (·.t)))) := by
 have con := begin_ h 1 (by omega)
 have HB := Lib.hid hb
 have HN := Lib.hid hn
 clear h hb hn
 go_enter Tryz.func78, Tryz.ntmps78
 go_wp2_with fail
 refine con.mono ?_
 clear con
 rintro e w1 ⟨rfl, hm, hc⟩
 have con := word_ w1
 have HM := Lib.hid hm
 have HC := Lib.hid hc
 clear hm hc
 go_wp2_with fail
 refine con.mono ?_
 clear con
 rintro e w2 ⟨v, rfl, hv, hb2⟩
 have HC2 := Lib.hid (HC.out.trans (Chl.of_below hb2))
 obtain ⟨p2, p3, p4, rfl, con⟩ := word_byte (q := P) (t := []) (HM.out.below hb2) rfl hv b (letter_within HB.out) (by simp) HN.out hP
 rw [if_pos (by simp), List.nil_append] at con
 clear hv hb2 HM HC
 go_wp2_with fail
 refine con.mono ?_
 clear con
 rintro e w3 hs
 obtain ⟨v, rfl⟩ := hs.1
 have HS := Lib.hid (hs.from_ HC2.out)
 clear hs
 go_wp2_with fail
 go_ret
 exact HS.out
theorem ent4 (h : Mc w D K g E (P : Int) z vs []) (b : B) (hb : digit b = true) (hn : vs.length ≤ P) (hP : P ≤ 3000) :
  Calls Tryz.prog 82 #[.pointer (some ⟨g, 0, none⟩), v8 b] w (StSays w D g E P (.ok (.num P 1 ((b.toNat : Int) - 48), vs.map (·.t)))) := by
 have con := begin_ h 2 (by omega)
 have HB := Lib.hid hb
 have HN := Lib.hid hn
 have HD := Lib.hid (Nat.le_trans h.low h.top)
 clear h hb hn
 go_enter Tryz.func82, Tryz.ntmps82
 go_wp2_with fail
 refine con.mono ?_
 clear con
 rintro e w1 ⟨rfl, hm, hc⟩
 have con := number_ w1 D (Nat.le_trans HD.out hc.size)
 have HM := Lib.hid hm
 have HC := Lib.hid hc
 clear hm hc
 go_wp2_with fail
 refine con.mono ?_
 clear con
 rintro e w2 ⟨v, rfl, hv, hb2⟩
 have HC2 := Lib.hid (HC.out.trans (Chl.of_below hb2))
 obtain ⟨p2, p3, p4, rfl, con⟩ := num_byte (q := P) (d := 0) (n := 0) (HM.out.below hb2) rfl hv b HB.out (by omega) (by omega) (by omega) HN.out hP
 obtain ⟨hb3, hb4⟩ := digit_iff.1 HB.out
 rw [if_pos ⟨by simp, by omega⟩, show (10 * 0 + ((b.toNat : Int) - 48)) = (b.toNat : Int) - 48 by omega] at con
 clear hv hb2 HM HC hb3 hb4
 go_wp2_with fail
 refine con.mono ?_
 clear con
 rintro e w3 hs
 obtain ⟨v, rfl⟩ := hs.1
 have HS := Lib.hid (hs.from_ HC2.out)
 clear hs
 go_wp2_with fail
 go_ret
 exact HS.out
theorem ent5 (h : Mc w D K g E (P : Int) z vs []) (b : B) (hn : vs.length ≤ P) (hP : P ≤ 3000) :
  Calls Tryz.prog 84 #[.pointer (some ⟨g, 0, none⟩), v8 b] w (StSays w D g E P (.ok (.txt P [], vs.map (·.t)))) := by
 have con := begin_ h 3 (by omega)
 have HN := Lib.hid hn
 clear h hn
 go_enter Tryz.func84, Tryz.ntmps84
 go_wp2_with fail
 refine con.mono ?_
 clear con
 rintro e w1 ⟨rfl, hm, hc⟩
 have HM := Lib.hid hm
 have HC := Lib.hid hc
 clear hm hc
 go_wp2_with fail
 go_ret
 exact StSays.ok (st' := .txt P []) (us' := vs.map (·.t)) rfl HC.out ⟨K, vs, _, rfl, rfl, HM.out, ⟨rfl, by simp⟩, by have := HN.out; simp; omega⟩
def kfs : Nat → Nat := fun i => [113, 113, 115, 119, 113].getD i 0
def kes : Nat → Nat := fun i => [74, 75, 78, 82, 84].getD i 0
def cfs (a0 a1 a2 : Nat) : Nat → Array Value := fun i => [#[.pointer (some ⟨a0, 0, none⟩)], #[.pointer (some ⟨a1, 0, none⟩)], #[], #[], #[.pointer (some ⟨a2, 0, none⟩)]].getD i #[]
def tst (b : B) (i : Nat) : Bool := [blank b, decide (b = 35#8), letter b, digit b, decide (b = 34#8)].getD i false
theorem five {i : Nat} (h : i < 5) : i = 0 ∨ i = 1 ∨ i = 2 ∨ i = 3 ∨ i = 4 := by omega
theorem bst_at {k : Nat} (b : B) (hE : En w E) (h : Mc w D K g E (P : Int) z vs []) (hk : k ≤ 5) (hT : ∀ i, i < 5 → i ≤ k → tst b i = decide (i = k)) {r : Except Nat (St × List Tok)}
  (conE : k < 5 → ∀ W, Below w.heap.size w W → Mc W D K g E (P : Int) z vs [] → Calls Tryz.prog (kes k) #[.pointer (some ⟨g, 0, none⟩), v8 b] W (StSays W D g E P r)) (h5 : k = 5 → r = .error P) :
  Calls Tryz.prog 34 #[.pointer (some ⟨g, 0, none⟩), v8 b] w (StSays w D g E P r) := by
 obtain ⟨eb, a0, a1, a2, rfl, e0, e1, e2, e3⟩ := hE
 obtain ⟨A, c, hc, ho⟩ := h.mem
 refine between_at (k := k) (kf := kfs) (ke := kes) (cf := cfs a0 a1 a2) b hk hc ?_ ?_ ?_ ?_ ?_ ?_
 ·intro i hi
  rcases five hi with rfl | rfl | rfl | rfl | rfl
  ·exact ⟨Cel.cell e3 0, Cel.cell e3 1⟩
  ·exact ⟨Cel.cell e3 2, Cel.cell e3 3⟩
  ·exact ⟨Cel.cell e3 4, Cel.cell e3 5⟩
  ·exact ⟨Cel.cell e3 6, Cel.cell e3 7⟩
  ·exact ⟨Cel.cell e3 8, Cel.cell e3 9⟩
 ·intro i hi
  rcases five hi with rfl | rfl | rfl | rfl | rfl <;> exact enterf _ (by simp [kfs])
 ·intro i hi
  rcases five hi with rfl | rfl | rfl | rfl | rfl <;> exact enterf _ (by simp [kes])
 ·intro i hi hik W hW
  rw [← hT i hi hik]
  rcases five hi with rfl | rfl | rfl | rfl | rfl
  ·have := pamong W a0 _ b (Cel.cell (Cel.below e0 hW (Cel.lt e0)) 0)
   rw [among_blank] at this
   exact this
  ·have := pamong W a1 _ b (Cel.cell (Cel.below e1 hW (Cel.lt e1)) 0)
   rw [among_hash] at this
   exact this
  ·exact pletter W b
  ·exact pdigit W b
  ·have := pamong W a2 _ b (Cel.cell (Cel.below e2 hW (Cel.lt e2)) 0)
   rw [among_quote] at this
   exact this
 ·intro hk5 W hW
  exact (conE hk5 W hW (h.below hW)).mono fun e w' hs => ⟨hs.1, hs.from_ (Chl.of_below hW)⟩
 ·intro hk5 W hW
  refine (fail_ (h.below hW) (P : Int)).mono ?_
  rintro e w' ⟨rfl, hm, hcl⟩
  exact ⟨⟨_, rfl⟩, StSays.bad (h5 hk5) ((Chl.of_below hW).trans hcl) hm⟩
theorem bst_ (b : B) (hE : En w E) (h : Mc w D K g E (P : Int) z vs []) (hn : vs.length ≤ P) (hP : P ≤ 3000) :
  Calls Tryz.prog 34 #[.pointer (some ⟨g, 0, none⟩), v8 b] w (StSays w D g E P (bst (vs.map (·.t)) P b)) := by
 have ex : ∀ (k : Nat), k ≤ 5 → (∀ i, i < k → tst b i = false) → (k < 5 → tst b k = true) → ∀ i, i < 5 → i ≤ k → tst b i = decide (i = k) := by
  intro k hk h1 h2 i hi hik
  rcases Nat.lt_or_ge i k with hl | hl
  ·rw [h1 i hl, decide_eq_false (by omega)]
  ·obtain rfl : i = k := by omega
   rw [h2 hi]; simp
 unfold bst
 by_cases c0 : blank b = true
 ·rw [if_pos c0]
  refine bst_at (k := 0) b hE h (by omega) (ex 0 (by omega) (by omega) fun _ => c0) (fun _ W hW hm => ?_) (by omega)
  refine (ent1 W g b).mono ?_
  rintro e w' ⟨rfl, rfl⟩
  exact StSays.ok rfl (Chl.refl _ _) ⟨K, vs, [], rfl, rfl, hm, rfl, by simp; omega⟩
 rw [if_neg c0]
 have c0 : blank b = false := by simpa using c0
 by_cases c1 : b = 35#8
 ·rw [if_pos c1]
  refine bst_at (k := 1) b hE h (by omega) (ex 1 (by omega) (fun i hi => by
   obtain rfl : i = 0 := by omega
   exact c0) fun _ => by simp [tst, c1]) (fun _ W hW hm => ?_) (by omega)
  refine (ent2 W g b).mono ?_
  rintro e w' ⟨rfl, rfl⟩
  exact StSays.ok rfl (Chl.refl _ _) ⟨K, vs, [], rfl, rfl, hm, rfl, by simp; omega⟩
 rw [if_neg c1]
 have t1 : tst b 1 = false := by simp [tst, c1]
 by_cases c2 : letter b = true
 ·rw [if_pos c2]
  refine bst_at (k := 2) b hE h (by omega) (ex 2 (by omega) (fun i hi => by
   rcases (show i = 0 ∨ i = 1 by omega) with rfl | rfl
   ·exact c0
   ·exact t1) fun _ => c2) (fun _ W hW hm => ent3 hm b c2 hn hP) (by omega)
 rw [if_neg c2]
 have c2 : letter b = false := by simpa using c2
 by_cases c3 : digit b = true
 ·rw [if_pos c3]
  refine bst_at (k := 3) b hE h (by omega) (ex 3 (by omega) (fun i hi => by
   rcases (show i = 0 ∨ i = 1 ∨ i = 2 by omega) with rfl | rfl | rfl
   ·exact c0
   ·exact t1
   ·exact c2) fun _ => c3) (fun _ W hW hm => ent4 hm b c3 hn hP) (by omega)
 rw [if_neg c3]
 have c3 : digit b = false := by simpa using c3
 by_cases c4 : b = 34#8
 ·rw [if_pos c4]
  refine bst_at (k := 4) b hE h (by omega) (ex 4 (by omega) (fun i hi => by
   rcases (show i = 0 ∨ i = 1 ∨ i = 2 ∨ i = 3 by omega) with rfl | rfl | rfl | rfl
   ·exact c0
   ·exact t1
   ·exact c2
   ·exact c3) fun _ => by simp [tst, c4]) (fun _ W hW hm => ent5 hm b hn hP) (by omega)
 rw [if_neg c4]
 refine bst_at (k := 5) b hE h (by omega) (ex 5 (by omega) (fun i hi => by
   rcases five hi with rfl | rfl | rfl | rfl | rfl
   ·exact c0
   ·exact t1
   ·exact c2
   ·exact c3
   ·simp [tst, c4]) (by omega)) (by omega) (fun _ => rfl)
theorem comment_ (w : World) (g : Nat) (b : B) : Calls Tryz.prog 76 #[.pointer (some ⟨g, 0, none⟩), v8 b] w fun e w' => e = .returned (if b = 10#8 then fv 34 else fv 76) ∧ w' = w := by
 by_cases h : b = 10#8
 ·subst h
  go_enter Tryz.func76, Tryz.ntmps76
  go_wp2_with fail
  go_ret
  exact ⟨rfl, rfl⟩
 ·have e1 : ((b.toNat : Int) == 10) = false := b_ne (k := 10) (by decide) h
  go_enter Tryz.func76, Tryz.ntmps76
  go_wp2_with fail
  go_ret
  exact ⟨rfl, rfl⟩
theorem txt_ {q : Nat} {t : List B} (h : Mc w D K g E (P : Int) z vs [x]) (hx : x.t = ⟨⟨3, 0, t⟩, q⟩) (b : B) (ht : t.length ≤ 2 * P) (hn : vs.length + 1 ≤ P) (hP : P ≤ 3000) :
  Calls Tryz.prog 85 #[.pointer (some ⟨g, 0, none⟩), v8 b] w (StSays w D g E P (step (.txt q t) (vs.map (·.t)) P b)) := by
 have htx : x.t.t.text = t := by rw [hx]
 by_cases hlow : b.toNat < 32
 ·have hr : step (.txt q t) (vs.map (·.t)) P b = .error P := if_pos hlow
  rw [hr]
  have con := fail_ h (P : Int)
  obtain ⟨A, c, hc, ho⟩ := h.mem
  have k2 := Cel.cell hc 2
  clear h hc ho hr hx htx
  go_enter Tryz.func85, Tryz.ntmps85
  go_wp2_with fail
  refine con.mono ?_
  clear con
  rintro e w1 ⟨rfl, hm, hc⟩
  have HS := Lib.hid (show StSays w D g E P (.error P) (.returned .nilFunc) w1 from StSays.bad rfl hc hm)
  clear hm hc
  go_wp2_with fail
  go_ret
  exact HS.out
 ·by_cases h34 : b = 34#8
  ·have HS := Lib.hid (show StSays w D g E P (step (.txt q t) (vs.map (·.t)) P b) (.returned (fv 34)) w from StSays.ok (st' := .btw) (us' := vs.map (·.t) ++ [⟨⟨3, 0, t⟩, q⟩]) (by subst h34; rfl) (Chl.refl _ _) ⟨w.heap.size, vs ++ [x], [], by simp [hx], rfl, h.done, rfl, by simp; omega⟩)
   subst h34
   clear h hx htx
   go_enter Tryz.func85, Tryz.ntmps85
   go_wp2_with fail
   go_ret
   exact HS.out
  ·have e1 : ((b.toNat : Int) == 34) = false := b_ne (k := 34) (by decide) h34
   by_cases h92 : b = 92#8
   ·have HS := Lib.hid (show StSays w D g E P (step (.txt q t) (vs.map (·.t)) P b) (.returned (fv 121)) w from StSays.ok (st' := .esc q t) (us' := vs.map (·.t)) (by subst h92; rfl) (Chl.refl _ _) ⟨K, vs, [x], rfl, by simp [hx, St.cur], h, ⟨rfl, by omega⟩, by simp; omega⟩)
    subst h92
    clear h hx htx
    go_enter Tryz.func85, Tryz.ntmps85
    go_wp2_with fail
    go_ret
    exact HS.out
   ·have e2 : ((b.toNat : Int) == 92) = false := b_ne (k := 92) (by decide) h92
    have hr : step (.txt q t) (vs.map (·.t)) P b = .ok (.txt q (t ++ [b]), vs.map (·.t)) := by show (if b.toNat < 32 then _ else _) = _; rw [if_neg hlow, if_neg h34, if_neg h92]
    rw [hr]
    obtain ⟨r, hl⟩ := h.last
    have con := add_ hl b (by omega) (by rw [htx]; omega)
    have HX := Lib.hid hx
    clear h hl hr hx htx h34 h92
    go_enter Tryz.func85, Tryz.ntmps85
    go_wp2_with fail
    refine con.mono ?_
    clear con
    rintro e w1 ⟨rfl, A, c, hm, hc⟩
    have HS := Lib.hid (show StSays w D g E P (.ok (.txt q (t ++ [b]), vs.map (·.t))) (.returned (fv 85)) w1 from StSays.ok (st' := .txt q (t ++ [b])) (us' := vs.map (·.t)) rfl hc ⟨K, vs, [more x b A c], rfl, by simp [more, HX.out, St.cur], hm.mc, ⟨rfl, by simp; omega⟩, by simp; omega⟩)
    clear hm hc
    go_wp2_with fail
    go_ret
    exact HS.out
theorem esc_ {q : Nat} {t : List B} (h : Mc w D K g E (P : Int) z vs [x]) (hx : x.t = ⟨⟨3, 0, t⟩, q⟩) (b : B) (ht : t.length ≤ 2 * P) (hn : vs.length + 1 ≤ P) (hP : P ≤ 3000) :
  Calls Tryz.prog 121 #[.pointer (some ⟨g, 0, none⟩), v8 b] w (StSays w D g E P (step (.esc q t) (vs.map (·.t)) P b)) := by
 have htx : x.t.t.text = t := by rw [hx]
 by_cases hlow : b.toNat < 32
 ·have hr : step (.esc q t) (vs.map (·.t)) P b = .error P := if_pos hlow
  rw [hr]
  have con := fail_ h (P : Int)
  obtain ⟨A, c, hc, ho⟩ := h.mem
  have k2 := Cel.cell hc 2
  clear h hc ho hr hx htx
  go_enter Tryz.func121, Tryz.ntmps121
  go_wp2_with fail
  refine con.mono ?_
  clear con
  rintro e w1 ⟨rfl, hm, hc⟩
  have HS := Lib.hid (show StSays w D g E P (.error P) (.returned .nilFunc) w1 from StSays.bad rfl hc hm)
  clear hm hc
  go_wp2_with fail
  go_ret
  exact HS.out
 ·have hr : step (.esc q t) (vs.map (·.t)) P b = .ok (.txt q (t ++ if b = 34#8 then [b] else [92#8, b]), vs.map (·.t)) := if_neg hlow
  rw [hr]
  obtain ⟨r, hl⟩ := h.last
  have HX := Lib.hid hx
  by_cases h34 : b = 34#8
  ·have con := add_ hl b (by omega) (by rw [htx]; omega)
   rw [if_pos h34]
   subst h34
   clear h hl hr hx htx
   go_enter Tryz.func121, Tryz.ntmps121
   go_wp2_with fail
   refine con.mono ?_
   clear con
   rintro e w1 ⟨rfl, A, c, hm, hc⟩
   have HS := Lib.hid (show StSays w D g E P (.ok (.txt q (t ++ [34#8]), vs.map (·.t))) (.returned (fv 85)) w1 from StSays.ok (st' := .txt q (t ++ [34#8])) (us' := vs.map (·.t)) rfl hc ⟨K, vs, [more x 34#8 A c], rfl, by simp [more, HX.out, St.cur], hm.mc, ⟨rfl, by simp; omega⟩, by simp; omega⟩)
   clear hm hc
   go_wp2_with fail
   go_ret
   exact HS.out
  ·rw [if_neg h34]
   have e1 : ((b.toNat : Int) == 34) = false := b_ne (k := 34) (by decide) h34
   have con := add_ hl 92#8 (by omega) (by rw [htx]; omega)
   have HTX := Lib.hid htx
   clear h hl hr hx htx h34
   go_enter Tryz.func121, Tryz.ntmps121
   go_wp2_with fail
   refine con.mono ?_
   clear con
   rintro e w1 ⟨rfl, A, c, hm, hc⟩
   have con := add_ hm b (by omega) (by simp [more, HTX.out]; omega)
   have HC := Lib.hid hc
   clear hm hc
   go_wp2_with fail
   refine con.mono ?_
   clear con
   rintro e w2 ⟨rfl, A2, c2, hm, hc⟩
   have HS := Lib.hid (show StSays w D g E P (.ok (.txt q (t ++ [92#8, b]), vs.map (·.t))) (.returned (fv 85)) w2 from StSays.ok (st' := .txt q (t ++ [92#8, b])) (us' := vs.map (·.t)) rfl (HC.out.trans hc) ⟨K, vs, [more (more x 92#8 A c) b A2 c2], rfl, by simp [more, HX.out, St.cur], hm.mc, ⟨rfl, by simp; omega⟩, by simp; omega⟩)
   clear hm hc
   go_wp2_with fail
   go_ret
   exact HS.out
theorem one_of {xs : List Tv} {t : Tok} (h : xs.map (·.t) = [t]) : ∃ x, xs = [x] ∧ x.t = t := by
 match xs, h with
 | [x], h => exact ⟨x, rfl, by simpa using h⟩
theorem step_ {p z : Int} {st : St} {us : List Tok} {v : Value} (h : Cf w D g E P p z st us v) (hp : p = (P : Int)) (hE : En w E) (b : B) (hP : P ≤ 3000) :
  ∃ k cap, v = .func (.func k) #[] cap ∧ (∀ args W, (callFunc k args).run Tryz.prog W = .ok (.enter k args) W) ∧ Calls Tryz.prog k (#[.pointer (some ⟨g, 0, none⟩), v8 b] ++ cap) w (StSays w D g E P (step st us P b)) := by
 subst hp
 obtain ⟨K, vs, xs, rfl, hxs, hm, hs, hn⟩ := h
 cases st with
 | btw =>
  obtain rfl : xs = [] := by simpa [St.cur] using hxs
  exact ⟨_, #[], hs, enterf _ (by simp), bst_ b hE hm (by simpa using hn) hP⟩
 | com =>
  obtain rfl : xs = [] := by simpa [St.cur] using hxs
  refine ⟨_, #[], hs, enterf _ (by simp), (comment_ w g b).mono ?_⟩
  rintro e w' ⟨rfl, rfl⟩
  by_cases h10 : b = 10#8
  ·rw [if_pos h10]
   exact StSays.ok (st' := .btw) (us' := vs.map (·.t)) (show step .com (vs.map (·.t)) P b = .ok (.btw, vs.map (·.t)) from if_pos h10) (Chl.refl _ _) ⟨K, vs, [], rfl, rfl, hm, rfl, by omega⟩
  ·rw [if_neg h10]
   exact StSays.ok (st' := .com) (us' := vs.map (·.t)) (show step .com (vs.map (·.t)) P b = .ok (.com, vs.map (·.t)) from if_neg h10) (Chl.refl _ _) ⟨K, vs, [], rfl, rfl, hm, rfl, by omega⟩
 | word q t =>
  obtain ⟨x, rfl, hx⟩ := one_of hxs
  obtain ⟨hv, ht⟩ := hs
  have hn1 : vs.length ≤ P := by simp at hn; omega
  cases hw : within b
  ·have hv0 := hv
   obtain ⟨p2, p3, p4, tv, ta, sa, e, h2, h3, h4, h5, h6, h7⟩ := hv
   refine ⟨_, _, e, enterf _ (by simp), ?_⟩
   have hr : step (.word q t) (vs.map (·.t)) P b = bst (vs.map (·.t) ++ [⟨⟨1, 0, t⟩, q⟩]) P b := if_neg (by rw [hw]; decide)
   rw [hr]
   have con := bst_ b hE hm.done (by simp at hn ⊢; omega) hP
   rw [List.map_append, show [x].map (·.t) = [⟨⟨1, 0, t⟩, q⟩] by simp [hx]] at con
   exact run_not (cf := #[.pointer (some ⟨tv, 0, none⟩)]) b h2 (enterf _ (by simp)) (by rw [← hw]; exact peither h5 h6 h7 b) (con.mono fun e w' hs => ⟨hs.1, hs⟩)
  ·obtain ⟨p2, p3, p4, e, con⟩ := word_byte hm hx hv b hw ht hn1 hP
   refine ⟨_, _, e, enterf _ (by simp), ?_⟩
   have hr : step (.word q t) (vs.map (·.t)) P b = if t.length + 1 ≤ 20 then .ok (.word q (t ++ [b]), vs.map (·.t)) else .error q := if_pos hw
   rw [hr]
   exact con
 | num q d n =>
  obtain ⟨x, rfl, hx⟩ := one_of hxs
  obtain ⟨hv, hn0, hn9, hq⟩ := hs
  have hn1 : vs.length ≤ P := by simp at hn; omega
  cases hw : digit b
  ·have hv0 := hv
   obtain ⟨p2, p3, p4, dg, e, h2, h3, h4, h5, h6⟩ := hv
   refine ⟨_, _, e, enterf _ (by simp), ?_⟩
   have hr : step (.num q d n) (vs.map (·.t)) P b = bst (vs.map (·.t) ++ [⟨⟨2, n, []⟩, q⟩]) P b := if_neg (by rw [hw]; decide)
   rw [hr]
   have con := bst_ b hE hm.done (by simp at hn ⊢; omega) hP
   rw [List.map_append, show [x].map (·.t) = [⟨⟨2, n, []⟩, q⟩] by simp [hx]] at con
   exact run_not (cf := #[]) b h2 (enterf _ (by simp)) (by rw [← hw]; exact pdigit w b) (con.mono fun e w' hs => ⟨hs.1, hs⟩)
  ·obtain ⟨p2, p3, p4, e, con⟩ := num_byte hm hx hv b hw hn0 hn9 hq hn1 hP
   refine ⟨_, _, e, enterf _ (by simp), ?_⟩
   have hr : step (.num q d n) (vs.map (·.t)) P b = if (decide (0 < d) && decide (n = 0)) = false ∧ 10 * n + ((b.toNat : Int) - 48) ≤ 9999 then .ok (.num q (d + 1) (10 * n + ((b.toNat : Int) - 48)), vs.map (·.t)) else .error q := if_pos hw
   rw [hr]
   exact con
 | txt q t =>
  obtain ⟨x, rfl, hx⟩ := one_of hxs
  exact ⟨_, #[], hs.1, enterf _ (by simp), txt_ hm hx b hs.2 (by simpa using hn) hP⟩
 | esc q t =>
  obtain ⟨x, rfl, hx⟩ := one_of hxs
  exact ⟨_, #[], hs.1, enterf _ (by simp), esc_ hm hx b hs.2 (by simpa using hn) hP⟩
end
end Go.Proofs.YteohlpmojfjjdaaGreat.Lex
end
section
namespace Go.Proofs.YteohlpmojfjjdaaGreat.Lex
open Go.RowKit
theorem own_cap {w : World} {base n c e size : Nat} {A : Option Addr} {us : List Value} (h : w.ownsRow base e size (.slice A n c) n us) : n ≤ c ∧ c ≤ maxLen := by
 rcases h.2 with ⟨hv, rfl⟩ | ⟨g, cap, cur, hv, _, _, h1, h2, _⟩
 ·simp only [Value.slice.injEq] at hv
  obtain ⟨_, _, rfl⟩ := hv
  exact ⟨Nat.le_refl _, by unfold maxLen; omega⟩
 ·simp only [Value.slice.injEq] at hv
  obtain ⟨_, _, rfl⟩ := hv
  exact ⟨h1, h2⟩
theorem byte_at (w : World) (B : Nat) (A : Option Addr) (n c : Nat) (s : List (BitVec 8)) (hs : Bs w B A n s) (i : Nat) (hi : i ≤ n) (hn : n ≤ 100000) (b : BitVec 8) (hb : (s ++ [10#8])[i]? = some b) :
  Calls Tryz.prog 35 #[.slice A n c, .int .i64 (i : Int)] w fun e w' => e = .returned (v8 b) ∧ w' = w := by
 have hl := hs.len
 rcases Nat.lt_or_ge i n with h | h
 ·obtain ⟨ad, rfl, _, k0⟩ := hs.at_ h
  rw [List.getElem?_append_left (by omega)] at hb
  rw [List.getD_eq_getElem?_getD, hb] at k0
  change _ = some (v8 b) at k0
  have e1 : ((i : Int) == (n : Int)) = false := by simp; omega
  clear hb hs hl
  go_enter Tryz.func35, Tryz.ntmps35
  go_wp2_with fail
  go_ret
  exact ⟨rfl, rfl⟩
 ·obtain rfl : i = n := by omega
  rw [List.getElem?_append_right (by omega), show i - s.length = 0 by omega] at hb
  obtain rfl : b = 10#8 := by simpa using hb.symm
  clear hb hs hl
  go_enter Tryz.func35, Tryz.ntmps35
  go_wp2_with fail
  go_ret
  exact ⟨rfl, rfl⟩
theorem mc_ptk {w : World} {D K g : Nat} {E : Value} {p z : Int} {us xs : List Tv} (h : Mc w D K g E p z us xs) {A : Option Addr} {c : Nat} (ho : w.ownsRow D 103 4 (.slice A (us.length + xs.length) c) (us.length + xs.length) (tflat (us ++ xs))) (B : Nat) : Ptk w B A (us ++ xs) :=
 ⟨cr_ry (Ry.of_own ho (by decide)), fun v hv => by
  rcases List.mem_append.1 hv with hv | hv
  ·exact .inr (h.old v hv).by_
  ·exact .inr (By.of_own (h.new v hv))⟩
theorem mc_caps {w : World} {D K g : Nat} {E : Value} {p z : Int} {us xs : List Tv} (h : Mc w D K g E p z us xs) : Caps (us ++ xs) := fun v hv => by
 rcases List.mem_append.1 hv with hv | hv
 ·exact (h.old v hv).1
 ·exact own_room (h.new v hv)
theorem Cf.fn {w : World} {D g P : Nat} {E : Value} {p z : Int} {st : St} {us : List Tok} {v : Value} (h : Cf w D g E P p z st us v) : ∃ k cap, v = .func (.func k) #[] cap := by
 obtain ⟨K, vs, xs, _, _, _, hs, _⟩ := h
 cases st with
 | btw => exact ⟨_, _, hs⟩
 | com => exact ⟨_, _, hs⟩
 | word q t => obtain ⟨⟨_, _, _, _, _, _, e, _⟩, _⟩ := hs; exact ⟨_, _, e⟩
 | num q d n => obtain ⟨⟨_, _, _, _, e, _⟩, _⟩ := hs; exact ⟨_, _, e⟩
 | txt q t => exact ⟨_, _, hs.1⟩
 | esc q t => exact ⟨_, _, hs.1⟩
theorem Sv.cut {w : World} {D P g i : Nat} {cs : List Value} {st : St} {v : Value} (h : Sv w D P st v) (hc : Cel w g 97 cs) (u : Value) (hch : Chl D w (w.setCell ⟨g, i, none⟩ u)) : Sv (w.setCell ⟨g, i, none⟩ u) D P st v := by
 cases st with
 | btw => exact h
 | com => exact h
 | word q t => exact ⟨h.1.chl hch, h.2⟩
 | num q d n =>
  obtain ⟨⟨p2, p3, p4, dg, e, h2, h3, h4, h5, h6⟩, h7⟩ := h
  exact ⟨⟨p2, p3, p4, dg, e, Cel.chl h2 hch (by simp [Lob]), Cel.chl h3 hch (by simp [Lob]), Cel.chl h4 hch (by simp [Lob]), h5, Cel.far h6 (Cel.ne h6 hc (by decide)) _⟩, h7⟩
 | txt q t => exact h
 | esc q t => exact h
theorem Cf.go_on {w : World} {D g P : Nat} {E : Value} {p z : Int} {st : St} {us : List Tok} {v : Value} (h : Cf w D g E (P + 1) p z st us v) :
  (w.cell? ⟨g, 2, none⟩ = some (.int .i64 p) ∧ w.frozen? ⟨g, 2, none⟩ = false) ∧ Cf (w.setCell ⟨g, 2, none⟩ (.int .i64 ((P : Int) + 1))) D g E (P + 1) ((P : Int) + 1) z st us v ∧ Chl D w (w.setCell ⟨g, 2, none⟩ (.int .i64 ((P : Int) + 1))) ∧ (w.setCell ⟨g, 2, none⟩ (.int .i64 ((P : Int) + 1))).cell? ⟨g, 2, none⟩ = some (.int .i64 ((P : Int) + 1)) := by
 obtain ⟨K, vs, xs, h1, h2, hm, hs, hn⟩ := h
 obtain ⟨A, c, hc, ho⟩ := hm.mem
 obtain ⟨hm2, hch⟩ := hm.go_on ((P : Int) + 1)
 obtain ⟨A2, c2, hc2, _⟩ := hm2.mem
 exact ⟨⟨Cel.cell hc 2, Cel.free hc 2⟩, ⟨K, vs, xs, h1, h2, hm2, hs.cut hc _ hch, hn⟩, hch, Cel.cell hc2 2⟩
def PcSays (w : World) (r : Except (Nat × Nat) (List Tok)) (e : Ending) (w' : World) : Prop := Below w.heap.size w w' ∧ match r with
 | .error (p, bad) => bad ≠ 0 ∧ e = .returned (.tuple #[.slice none 0 0, .int .i64 (p : Int), .int .i64 (bad : Int)])
 | .ok ts => ∃ A' c' vs, e = .returned (.tuple #[.slice A' ts.length c', .int .i64 0, .int .i64 0]) ∧ (∀ B, Ptk w' B A' vs) ∧ vs.map (·.t) = ts ∧ ts.length ≤ min 3000 c' ∧ Caps vs
theorem pcut (w : World) (B : Nat) (A : Option Addr) (n c : Nat) (s : List (BitVec 8)) (hs : Bs w B A n s) (hB : B ≤ w.heap.size) (hn : n ≤ 100000) :
  Calls Tryz.prog 21 #[.slice A n c] w (PcSays w (cut s)) := by
 have hsl := hs.len
 by_cases h2 : 2000 < n
 ·have HT := Lib.hid (cut_long (s := s) (by omega))
  clear hs hsl
  go_enter Tryz.func21, Tryz.ntmps21
  go_wp2_with fail
  go_ret3
  rw [HT.out]
  exact ⟨Below.refl _ _, by decide, rfl⟩
 have HS := Lib.hid hs
 have HSL := Lib.hid hsl
 have HT := Lib.hid (cut_run s (by omega))
 have con := entrances_ w
 clear hs hsl
 go_enter Tryz.func21, Tryz.ntmps21
 go_wp2_with fail
 refine con.mono ?_
 clear con
 rintro e w1 ⟨E, rfl, hE, hb⟩
 obtain ⟨eb, a0, a1, a2, rfl, e0, e1, e2, e3⟩ := hE
 have hc := Cel.new w1 97 [.slice (some ⟨eb, 0, none⟩) 5 5, .slice none 0 0, .int .i64 0, .int .i64 0]
 have hb1 : Below w1.heap.size w1 (w1.alloc (.cells #[.slice (some ⟨eb, 0, none⟩) 5 5, .slice none 0 0, .int .i64 0, .int .i64 0] 97)) := (Below.refl _ _).alloc (Nat.le_refl _) _
 have HE := Lib.hid (show En (w1.alloc (.cells #[.slice (some ⟨eb, 0, none⟩) 5 5, .slice none 0 0, .int .i64 0, .int .i64 0] 97)) (.slice (some ⟨eb, 0, none⟩) 5 5) from ⟨eb, a0, a1, a2, rfl, Cel.alloc e0 _, Cel.alloc e1 _, Cel.alloc e2 _, Cel.alloc e3 _⟩)
 have HC := Lib.hid (show Cf (w1.alloc (.cells #[.slice (some ⟨eb, 0, none⟩) 5 5, .slice none 0 0, .int .i64 0, .int .i64 0] 97)) w.heap.size w1.heap.size (.slice (some ⟨eb, 0, none⟩) 5 5) 0 0 0 .btw [] (fv 34) from ⟨w.heap.size, [], [], rfl, rfl, ⟨Nat.le_refl _, Nat.le_trans hb.size hb1.size, hb.size, ⟨none, 0, hc, World.ownsRow_nil _ _ _ _⟩, by simp, by simp⟩, rfl, by simp⟩)
 have HB := Lib.hid (hb.trans (hb1.mono hb.size))
 clear e0 e1 e2 e3 hc hb1 hb
 go_wp2_with fail
 generalize w1.heap.size = g at HC ⊢
 have eq1 := fun (W : World) (fn : Fn) (a b : Array Value) => run_eql_fn_nil (P := Tryz.prog) W Tryz.underlying99 fn a b
 have eq2 := fun (W : World) => run_eql_nil_nil_fn (P := Tryz.prog) W Tryz.underlying99
 go_loopw [6] (fun v6 wr => ∃ (q : Nat) (st : St) (us : List Tok) (z : Int), q ≤ n + 1 ∧ Cf wr w.heap.size g (.slice (some ⟨eb, 0, none⟩) 5 5) q (q : Int) z st us v6 ∧ En wr (.slice (some ⟨eb, 0, none⟩) 5 5) ∧ Below w.heap.size w wr ∧ Hid (run .btw [] 0 (s ++ [10#8]) = run st us q ((s ++ [10#8]).drop q))) (fun _ wr => n + 2 - (intOf ((wr.cell? ⟨g, 2, none⟩).getD undef)).toNat)
 case atStart => exact ⟨0, .btw, [], 0, Nat.zero_le _, HC.out, HE.out, HB.out, Lib.hid (by rw [List.drop_zero])⟩
 case round =>
  clear HC HE HB
  obtain ⟨q, st, us, z, hq, hcf, hE, hb, HK⟩ := hrel
  obtain ⟨W0, rfl⟩ : ∃ W0, W0 = wr := ⟨_, rfl⟩
  have HB := Lib.hid hb
  have HE := Lib.hid hE
  have HCF := Lib.hid hcf
  obtain ⟨K, vs, xs, hvs, hxs, hm, hsv, hn⟩ := hcf
  obtain ⟨Ar, cr, hc, ho⟩ := hm.mem
  have k1 := Cel.cell hc 1
  have k2 := Cel.cell hc 2
  clear hb hE hsv
  rcases Nat.lt_or_ge n q with hlt | hge
  ·obtain rfl : q = n + 1 := by omega
   have hlt : decide ((n : Int) + 1 ≤ (n : Int)) = false := by simp; omega
   have HEND := Lib.hid (show PcSays w (cut s) (.returned (.tuple #[.slice Ar (vs.length + xs.length) cr, .int .i64 0, .int .i64 0])) W0 from ⟨HB.out, by
    rw [HT.out, HK.out, List.drop_eq_nil_of_le (by rw [List.length_append, HSL.out]; exact Nat.le_refl _)]
    have hts : (vs ++ xs).map (·.t) = us ++ st.cur := by rw [List.map_append, hvs, hxs]
    have hlen : (us ++ st.cur).length = vs.length + xs.length := by rw [← hts]; simp
    have hcap := own_cap ho
    exact ⟨Ar, cr, vs ++ xs, by rw [hlen], mc_ptk hm ho, hts, by omega, mc_caps hm⟩⟩)
   clear hvs hxs hm ho hn
   go_wp2_with fail
   go_ret3
   exact HEND.out
  ·obtain ⟨b, hb⟩ : ∃ b, (s ++ [10#8])[q]? = some b := ⟨_, List.getElem?_eq_getElem (by rw [List.length_append, HSL.out]; simp; omega)⟩
   have con := byte_at W0 B A n c s (HS.out.below (HB.out.mono hB)) q hge (by omega) b hb
   obtain ⟨k, cap, rfl, hent, hstep⟩ := step_ HCF.out rfl HE.out b (by omega)
   have hle : decide ((q : Int) ≤ (n : Int)) = true := by simp; omega
   have HQ := Lib.hid hb
   clear hb
   go_wp2_with fail
   refine con.mono ?_
   clear con
   rintro e w2 ⟨rfl, rfl⟩
   go_wp2_with fail
   refine hstep.mono ?_
   have HK0 := Lib.hid k2
   clear hstep k1 k2
   rintro e w3 ⟨⟨v, rfl⟩, hch, hst⟩
   cases hr : step st us q b with
   | error e =>
    rw [hr] at hst
    obtain ⟨hv, K', vs', xs', hm'⟩ := hst
    cases hv
    obtain ⟨A', c', hc', _⟩ := hm'.mem
    have k3 := Cel.cell hc' 3
    have HEND := Lib.hid (fun nq : Nat => (show PcSays w (cut s) (.returned (.tuple #[.slice none 0 0, .int .i64 (e : Int), .int .i64 2])) (w3.drewN nq) from ⟨lbelow_drewN (HB.out.trans (hch.below HB.out.size)) nq, by
     rw [HT.out, HK.out, drop_at HQ.out, run_bad hr]
     exact ⟨by decide, rfl⟩⟩))
    clear hm' hc' hch hr
    go_wp2_with fail
    go_quiet (fail)
    go_wp2_with fail
    go_ret3
    exact HEND.out nq
   | ok r =>
    obtain ⟨st', us'⟩ := r
    rw [hr] at hst
    obtain ⟨v', z', hv, hcf'⟩ := hst
    cases hv
    obtain ⟨k', cap', rfl⟩ := hcf'.fn
    have HK2 := Lib.hid (HK.out.trans (by rw [drop_at HQ.out, run_ok hr]))
    have HE2 := HE.out.chl hch
    have HB2 := HB.out.trans (hch.below HB.out.size)
    obtain ⟨⟨k4, f4⟩, hcf2, hch2, k5⟩ := hcf'.go_on
    have HE3 := Lib.hid (HE2.chl hch2)
    have HB3 := Lib.hid (HB2.trans (hch2.below HB2.size))
    have HCF3 := Lib.hid hcf2
    have HK5 := Lib.hid k5
    clear hcf' hcf2 hch hch2 hr HK HE2 HB2 k5
    go_wp2_with fail
    exact ⟨⟨q + 1, st', us', z', by omega, by rw [show ((q + 1 : Nat) : Int) = (q : Int) + 1 by omega]; exact HCF3.out, HE3.out, HB3.out, HK2⟩, by rw [HK5.out, HK0.out]; simp [intOf]; omega⟩
end Go.Proofs.YteohlpmojfjjdaaGreat.Lex
end
section
namespace Go.Proofs.YteohlpmojfjjdaaGreat.Lex
open Go.RowKit
def k4 : List (BitVec 8) := [115#8, 116#8, 101#8, 112#8, 32#8, 97#8, 49#8, 32#8, 34#8, 120#8, 92#8, 34#8, 121#8, 34#8, 32#8, 50#8, 48#8]
end Go.Proofs.YteohlpmojfjjdaaGreat.Lex
end
