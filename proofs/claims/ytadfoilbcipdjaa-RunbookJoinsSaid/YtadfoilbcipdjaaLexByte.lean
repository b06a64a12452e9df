/-
  The program's cutter (layer 11): a byte of a word, of a number; the entrances; between tokens.
-/
import Derived.Test.YtadfoilbcipdjaaLexEither
import Derived.Test.YtadfoilbcipdjaaLexBetween
import Derived.Shelf.Abstract
namespace Go.Proofs.Ytadfoilbcipdjaa.Lex
open Go.RowKit
set_option linter.unusedVariables false
set_option linter.unusedSimpArgs false

/-- The function value v is the state st; P: where the byte lies that it takes. -/
def Sv (w : World) (D P : Nat) : St → Value → Prop
  | .btw, v => v = fv 10
  | .com, v => v = fv 18
  | .word _ t, v => Wv w v ∧ t.length ≤ 20
  | .num q d n, v => Nv w D d v ∧ 0 ≤ n ∧ n ≤ 9999 ∧ q + d = P
  | .txt _ t, v => v = fv 27 ∧ t.length ≤ 2 * P
  | .esc _ t, v => v = fv 49 ∧ t.length ≤ 2 * P
/-- The cutter and its state, ahead of the byte at P. -/
def Cf (w : World) (D g : Nat) (E : Value) (P : Nat) (p z : Int) (st : St) (us : List Tok) (v : Value) : Prop :=
  ∃ K vs xs, vs.map (·.t) = us ∧ xs.map (·.t) = st.cur ∧ Mc w D K g E p z vs xs ∧ Sv w D P st v ∧ vs.length + xs.length ≤ P
/-- What a state does with the byte at P. -/
def StSays (w : World) (D g : Nat) (E : Value) (P : Nat) (r : Except Nat (St × List Tok)) (e : Ending) (w' : World) : Prop :=
  (∃ v, e = .returned v) ∧ Chl D w w' ∧ match r with
  | .ok (st', us') => ∃ v z', e = .returned v ∧ Cf w' D g E (P + 1) (P : Int) z' st' us' v
  | .error q => e = .returned .nilFunc ∧ ∃ K vs xs, Mc w' D K g E (P : Int) (q : Int) vs xs
section
variable {w w' : World} {D K g P : Nat} {E : Value} {z : Int} {vs : List Tv} {x : Tv}
theorem StSays.from_ {w0 : World} {r : Except Nat (St × List Tok)} {e : Ending} (h : StSays w D g E P r e w') (hc : Chl D w0 w) : StSays w0 D g E P r e w' := ⟨h.1, hc.trans h.2.1, h.2.2⟩
theorem StSays.ok {st' : St} {us' : List Tok} {r : Except Nat (St × List Tok)} {v : Value} {z' : Int} (hr : r = .ok (st', us')) (hc : Chl D w w') (h : Cf w' D g E (P + 1) (P : Int) z' st' us' v) : StSays w D g E P r (.returned v) w' := by
  subst hr; exact ⟨⟨v, rfl⟩, hc, v, z', rfl, h⟩
theorem StSays.bad {q : Nat} {r : Except Nat (St × List Tok)} {us xs : List Tv} (hr : r = .error q) (hc : Chl D w w') (h : Mc w' D K g E (P : Int) (q : Int) us xs) : StSays w D g E P r (.returned .nilFunc) w' := by
  subst hr; exact ⟨⟨_, rfl⟩, hc, rfl, K, us, xs, h⟩
theorem enterf : ∀ (k : Nat), k = 41 ∨ k = 43 ∨ k = 47 ∨ k = 62 ∨ k = 46 ∨ k = 48 ∨ k = 16 ∨ k = 17 ∨ k = 20 ∨ k = 24 ∨ k = 26 ∨ k = 10 ∨ k = 18 ∨ k = 27 ∨ k = 49 ∨ k = 63 → ∀ args W, (callFunc k args).run Try.prog W = .ok (.enter k args) W := by
  rintro k (rfl | rfl | rfl | rfl | rfl | rfl | rfl | rfl | rfl | rfl | rfl | rfl | rfl | rfl | rfl | rfl)
  · exact enters_of Try.func41 (by kernel_rfl) rfl
  · exact enters_of Try.func43 (by kernel_rfl) rfl
  · exact enters_of Try.func47 (by kernel_rfl) rfl
  · exact enters_of Try.func62 (by kernel_rfl) rfl
  · exact enters_of Try.func46 (by kernel_rfl) rfl
  · exact enters_of Try.func48 (by kernel_rfl) rfl
  · exact enters_of Try.func16 (by kernel_rfl) rfl
  · exact enters_of Try.func17 (by kernel_rfl) rfl
  · exact enters_of Try.func20 (by kernel_rfl) rfl
  · exact enters_of Try.func24 (by kernel_rfl) rfl
  · exact enters_of Try.func26 (by kernel_rfl) rfl
  · exact enters_of Try.func10 (by kernel_rfl) rfl
  · exact enters_of Try.func18 (by kernel_rfl) rfl
  · exact enters_of Try.func27 (by kernel_rfl) rfl
  · exact enters_of Try.func49 (by kernel_rfl) rfl
  · exact enters_of Try.func63 (by kernel_rfl) rfl
/-- A byte of a word. -/
theorem word_byte {q : Nat} {t : List B} {v : Value} (h : Mc w D K g E (P : Int) z vs [x]) (hx : x.t = ⟨⟨1, 0, t⟩, q⟩) (hv : Wv w v) (b : B) (hb : within b = true) (ht : t.length ≤ 20) (hn : vs.length ≤ P) (hP : P ≤ 3000) :
    ∃ p2 p3 p4, v = f3 63 p2 p3 p4 ∧ Calls Try.prog 63 #[.pointer (some ⟨g, 0, none⟩), v8 b, .pointer (some ⟨p2, 0, none⟩), .pointer (some ⟨p3, 0, none⟩), .pointer (some ⟨p4, 0, none⟩)] w
      (StSays w D g E P (if t.length + 1 ≤ 20 then .ok (.word q (t ++ [b]), vs.map (·.t)) else .error q)) := by
  have hv0 := hv
  obtain ⟨p2, p3, p4, tv, ta, sa, e, h2, h3, h4, h5, h6, h7⟩ := hv
  refine ⟨p2, p3, p4, e, ?_⟩
  obtain ⟨r, hl⟩ := h.last
  have htx : x.t.t.text = t := by rw [hx]
  refine (run_fit (cf := #[.pointer (some ⟨tv, 0, none⟩)]) (cg := #[]) hl b (by omega) (decide (t.length + 1 ≤ 20)) h2 h3 h4 (enterf _ (by simp)) (by rw [← hb]; exact peither h5 h6 h7 b) (enterf _ (by simp)) (R := fun y _ => ∃ A c, y = more x b A c) (fun W hW => ?_)).mono ?_
  · refine (word_more (hl.below hW) b (by omega) _ (by rw [htx]) (by rw [htx]; omega)).mono ?_
    rintro e w1 ⟨rfl, A, c, hm, hc⟩
    exact ⟨rfl, ⟨more x b A c, ⟨rfl, A, c, rfl⟩, hm⟩, hc⟩
  · intro e' w1 hs
    unfold RuSaysF at hs
    by_cases h20 : t.length + 1 ≤ 20
    · rw [if_pos (by simpa using h20)] at hs
      obtain ⟨rfl, ⟨y, ⟨A, c, rfl⟩, hm⟩, hc⟩ := hs
      refine StSays.ok (st' := .word q (t ++ [b])) (us' := vs.map (·.t)) (by rw [if_pos h20]) hc ⟨K, vs, _, rfl, ?_, hm.mc, ⟨hv0.chl hc, by simpa using h20⟩, by simp; omega⟩
      simp [more, hx, St.cur]
    · rw [if_neg (by simpa using h20)] at hs
      obtain ⟨rfl, ⟨y, hm⟩, hc⟩ := hs
      exact StSays.bad (by rw [if_neg h20]) hc (by rw [hx] at hm; exact hm)
/-- A digit of a number. -/
theorem num_byte {q d : Nat} {n : Int} {v : Value} (h : Mc w D K g E (P : Int) z vs [x]) (hx : x.t = ⟨⟨2, n, []⟩, q⟩) (hv : Nv w D d v) (b : B) (hb : digit b = true) (hn0 : 0 ≤ n) (hn1 : n ≤ 9999) (hq : q + d = P) (hn : vs.length ≤ P) (hP : P ≤ 3000) :
    ∃ p2 p3 p4, v = f3 63 p2 p3 p4 ∧ Calls Try.prog 63 #[.pointer (some ⟨g, 0, none⟩), v8 b, .pointer (some ⟨p2, 0, none⟩), .pointer (some ⟨p3, 0, none⟩), .pointer (some ⟨p4, 0, none⟩)] w
      (StSays w D g E P (if (decide (0 < d) && decide (n = 0)) = false ∧ 10 * n + ((b.toNat : Int) - 48) ≤ 9999 then .ok (.num q (d + 1) (10 * n + ((b.toNat : Int) - 48)), vs.map (·.t)) else .error q)) := by
  obtain ⟨p2, p3, p4, dg, e, h2, h3, h4, hD, h5⟩ := hv
  refine ⟨p2, p3, p4, e, ?_⟩
  obtain ⟨r, hl⟩ := h.last
  have hxn : x.t.t.n = n := by rw [hx]
  obtain ⟨hb1, hb2⟩ := digit_iff.1 hb
  refine (run_fit (cf := #[]) (cg := #[.pointer (some ⟨dg, 0, none⟩)]) hl b (by omega) (!(decide (0 < d) && decide (n = 0)) && decide (10 * n + ((b.toNat : Int) - 48) ≤ 9999)) h2 h3 h4 (enterf _ (by simp)) (by rw [← hb]; exact pdigit w b) (enterf _ (by simp)) (R := fun y w' => y = withN x (10 * n + ((b.toNat : Int) - 48)) ∧ Cel w' dg 3 [.int .i64 ((d + 1 : Nat) : Int)]) (fun W hW => ?_)).mono ?_
  · have := num_more (hl.below hW) b hb hD (Cel.below h5 hW (Cel.lt h5)) (by omega) (by omega) (by rw [hxn]; exact hn0) (by rw [hxn]; exact hn1) _ rfl
    rw [hxn] at this
    refine this.mono ?_
    rintro e w1 ⟨rfl, hm, hd, hc⟩
    exact ⟨rfl, ⟨withN x (10 * n + ((b.toNat : Int) - 48)), ⟨rfl, rfl, hd⟩, hm⟩, hc⟩
  · intro e' w1 hs
    unfold RuSaysF at hs
    by_cases hok : (decide (0 < d) && decide (n = 0)) = false ∧ 10 * n + ((b.toNat : Int) - 48) ≤ 9999
    · rw [if_pos (by rw [hok.1, decide_eq_true hok.2]; rfl)] at hs
      obtain ⟨rfl, ⟨y, ⟨rfl, hd⟩, hm⟩, hc⟩ := hs
      refine StSays.ok (st' := .num q (d + 1) (10 * n + ((b.toNat : Int) - 48))) (us' := vs.map (·.t)) (by rw [if_pos hok]) hc ⟨K, vs, _, rfl, ?_, hm.mc, ⟨⟨p2, p3, p4, dg, e, Cel.chl h2 hc (by simp [Lob]), Cel.chl h3 hc (by simp [Lob]), Cel.chl h4 hc (by simp [Lob]), hD, hd⟩, by omega, hok.2, by omega⟩, by simp; omega⟩
      simp [withN, hx, St.cur]
    · rw [if_neg (by
        intro hh
        apply hok
        rw [Bool.and_eq_true] at hh
        exact ⟨by have h1 := hh.1; revert h1; cases (decide (0 < d) && decide (n = 0)) <;> simp, by simpa using hh.2⟩)] at hs
      obtain ⟨rfl, ⟨y, hm⟩, hc⟩ := hs
      exact StSays.bad (by rw [if_neg hok]) hc (by rw [hx] at hm; exact hm)
end
end Go.Proofs.Ytadfoilbcipdjaa.Lex
