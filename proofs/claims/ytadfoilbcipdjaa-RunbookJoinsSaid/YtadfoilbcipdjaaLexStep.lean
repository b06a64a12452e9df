/-
  The program's cutter (layer 11): the entrances, between tokens, each state.
-/
import Derived.Test.YtadfoilbcipdjaaLexByte
namespace Go.Proofs.Ytadfoilbcipdjaa.Lex
open Go.RowKit
set_option linter.unusedVariables false
set_option linter.unusedSimpArgs false

section
variable {w w' : World} {D K g P : Nat} {E : Value} {z : Int} {vs xs : List Tv} {x : Tv}
theorem ent1 (w : World) (g : Nat) (b : B) : Calls Try.prog 16 #[.pointer (some ⟨g, 0, none⟩), v8 b] w fun e w' => e = .returned (fv 10) ∧ w' = w := by
  go_enter Try.func16, Try.ntmps16
  go_wp2_with fail
  go_ret
  exact ⟨rfl, rfl⟩
theorem ent2 (w : World) (g : Nat) (b : B) : Calls Try.prog 17 #[.pointer (some ⟨g, 0, none⟩), v8 b] w fun e w' => e = .returned (fv 18) ∧ w' = w := by
  go_enter Try.func17, Try.ntmps17
  go_wp2_with fail
  go_ret
  exact ⟨rfl, rfl⟩
/-- A word begins. -/
theorem ent3 (h : Mc w D K g E (P : Int) z vs []) (b : B) (hb : letter b = true) (hn : vs.length ≤ P) (hP : P ≤ 3000) :
    Calls Try.prog 20 #[.pointer (some ⟨g, 0, none⟩), v8 b] w (StSays w D g E P (.ok (.word P [b], vs.map (·.t)))) := by
  have con := begin_ h 1 (by omega)
  have HB := Lib.hid hb
  have HN := Lib.hid hn
  clear h hb hn
  go_enter Try.func20, Try.ntmps20
  go_wp2_with fail
  refine con.mono ?_
  clear con
  rintro e w1 ⟨rfl, hm, hc⟩
  have con := word_ w1
  have HM := Lib.hid hm
  have HC := Lib.hid hc
  clear hm hc
  go_wp2_with fail
  refine con.mono ?_
  clear con
  rintro e w2 ⟨v, rfl, hv, hb2⟩
  have HC2 := Lib.hid (HC.out.trans (Chl.of_below hb2))
  obtain ⟨p2, p3, p4, rfl, con⟩ := word_byte (q := P) (t := []) (HM.out.below hb2) rfl hv b (letter_within HB.out) (by simp) HN.out hP
  rw [if_pos (by simp), List.nil_append] at con
  clear hv hb2 HM HC
  go_wp2_with fail
  refine con.mono ?_
  clear con
  rintro e w3 hs
  obtain ⟨v, rfl⟩ := hs.1
  have HS := Lib.hid (hs.from_ HC2.out)
  clear hs
  go_wp2_with fail
  go_ret
  exact HS.out
/-- A number begins. -/
theorem ent4 (h : Mc w D K g E (P : Int) z vs []) (b : B) (hb : digit b = true) (hn : vs.length ≤ P) (hP : P ≤ 3000) :
    Calls Try.prog 24 #[.pointer (some ⟨g, 0, none⟩), v8 b] w (StSays w D g E P (.ok (.num P 1 ((b.toNat : Int) - 48), vs.map (·.t)))) := by
  have con := begin_ h 2 (by omega)
  have HB := Lib.hid hb
  have HN := Lib.hid hn
  have HD := Lib.hid (Nat.le_trans h.low h.top)
  clear h hb hn
  go_enter Try.func24, Try.ntmps24
  go_wp2_with fail
  refine con.mono ?_
  clear con
  rintro e w1 ⟨rfl, hm, hc⟩
  have con := number_ w1 D (Nat.le_trans HD.out hc.size)
  have HM := Lib.hid hm
  have HC := Lib.hid hc
  clear hm hc
  go_wp2_with fail
  refine con.mono ?_
  clear con
  rintro e w2 ⟨v, rfl, hv, hb2⟩
  have HC2 := Lib.hid (HC.out.trans (Chl.of_below hb2))
  obtain ⟨p2, p3, p4, rfl, con⟩ := num_byte (q := P) (d := 0) (n := 0) (HM.out.below hb2) rfl hv b HB.out (by omega) (by omega) (by omega) HN.out hP
  obtain ⟨hb3, hb4⟩ := digit_iff.1 HB.out
  rw [if_pos ⟨by simp, by omega⟩, show (10 * 0 + ((b.toNat : Int) - 48)) = (b.toNat : Int) - 48 by omega] at con
  clear hv hb2 HM HC hb3 hb4
  go_wp2_with fail
  refine con.mono ?_
  clear con
  rintro e w3 hs
  obtain ⟨v, rfl⟩ := hs.1
  have HS := Lib.hid (hs.from_ HC2.out)
  clear hs
  go_wp2_with fail
  go_ret
  exact HS.out
/-- A text begins. -/
theorem ent5 (h : Mc w D K g E (P : Int) z vs []) (b : B) (hn : vs.length ≤ P) (hP : P ≤ 3000) :
    Calls Try.prog 26 #[.pointer (some ⟨g, 0, none⟩), v8 b] w (StSays w D g E P (.ok (.txt P [], vs.map (·.t)))) := by
  have con := begin_ h 3 (by omega)
  have HN := Lib.hid hn
  clear h hn
  go_enter Try.func26, Try.ntmps26
  go_wp2_with fail
  refine con.mono ?_
  clear con
  rintro e w1 ⟨rfl, hm, hc⟩
  have HM := Lib.hid hm
  have HC := Lib.hid hc
  clear hm hc
  go_wp2_with fail
  go_ret
  exact StSays.ok (st' := .txt P []) (us' := vs.map (·.t)) rfl HC.out ⟨K, vs, _, rfl, rfl, HM.out, ⟨rfl, by simp⟩, by have := HN.out; simp; omega⟩
def kfs : Nat → Nat := fun i => [41, 41, 43, 47, 41].getD i 0
def kes : Nat → Nat := fun i => [16, 17, 20, 24, 26].getD i 0
def cfs (a0 a1 a2 : Nat) : Nat → Array Value := fun i => [#[.pointer (some ⟨a0, 0, none⟩)], #[.pointer (some ⟨a1, 0, none⟩)], #[], #[], #[.pointer (some ⟨a2, 0, none⟩)]].getD i #[]
def tst (b : B) (i : Nat) : Bool := [blank b, decide (b = 35#8), letter b, digit b, decide (b = 34#8)].getD i false
theorem five {i : Nat} (h : i < 5) : i = 0 ∨ i = 1 ∨ i = 2 ∨ i = 3 ∨ i = 4 := by omega
/-- Between tokens, the k-th entrance the first that fits (5: none). -/
theorem bst_at {k : Nat} (b : B) (hE : En w E) (h : Mc w D K g E (P : Int) z vs []) (hk : k ≤ 5) (hT : ∀ i, i < 5 → i ≤ k → tst b i = decide (i = k)) {r : Except Nat (St × List Tok)}
    (conE : k < 5 → ∀ W, Below w.heap.size w W → Mc W D K g E (P : Int) z vs [] → Calls Try.prog (kes k) #[.pointer (some ⟨g, 0, none⟩), v8 b] W (StSays W D g E P r)) (h5 : k = 5 → r = .error P) :
    Calls Try.prog 10 #[.pointer (some ⟨g, 0, none⟩), v8 b] w (StSays w D g E P r) := by
  obtain ⟨eb, a0, a1, a2, rfl, e0, e1, e2, e3⟩ := hE
  obtain ⟨A, c, hc, ho⟩ := h.mem
  refine between_at (k := k) (kf := kfs) (ke := kes) (cf := cfs a0 a1 a2) b hk hc ?_ ?_ ?_ ?_ ?_ ?_
  · intro i hi
    rcases five hi with rfl | rfl | rfl | rfl | rfl
    · exact ⟨Cel.cell e3 0, Cel.cell e3 1⟩
    · exact ⟨Cel.cell e3 2, Cel.cell e3 3⟩
    · exact ⟨Cel.cell e3 4, Cel.cell e3 5⟩
    · exact ⟨Cel.cell e3 6, Cel.cell e3 7⟩
    · exact ⟨Cel.cell e3 8, Cel.cell e3 9⟩
  · intro i hi
    rcases five hi with rfl | rfl | rfl | rfl | rfl <;> exact enterf _ (by simp [kfs])
  · intro i hi
    rcases five hi with rfl | rfl | rfl | rfl | rfl <;> exact enterf _ (by simp [kes])
  · intro i hi hik W hW
    rw [← hT i hi hik]
    rcases five hi with rfl | rfl | rfl | rfl | rfl
    · have := pamong W a0 _ b (Cel.cell (Cel.below e0 hW (Cel.lt e0)) 0)
      rw [among_blank] at this
      exact this
    · have := pamong W a1 _ b (Cel.cell (Cel.below e1 hW (Cel.lt e1)) 0)
      rw [among_hash] at this
      exact this
    · exact pletter W b
    · exact pdigit W b
    · have := pamong W a2 _ b (Cel.cell (Cel.below e2 hW (Cel.lt e2)) 0)
      rw [among_quote] at this
      exact this
  · intro hk5 W hW
    exact (conE hk5 W hW (h.below hW)).mono fun e w' hs => ⟨hs.1, hs.from_ (Chl.of_below hW)⟩
  · intro hk5 W hW
    refine (fail_ (h.below hW) (P : Int)).mono ?_
    rintro e w' ⟨rfl, hm, hcl⟩
    exact ⟨⟨_, rfl⟩, StSays.bad (h5 hk5) ((Chl.of_below hW).trans hcl) hm⟩
/-- A byte between tokens. -/
theorem bst_ (b : B) (hE : En w E) (h : Mc w D K g E (P : Int) z vs []) (hn : vs.length ≤ P) (hP : P ≤ 3000) :
    Calls Try.prog 10 #[.pointer (some ⟨g, 0, none⟩), v8 b] w (StSays w D g E P (bst (vs.map (·.t)) P b)) := by
  have ex : ∀ (k : Nat), k ≤ 5 → (∀ i, i < k → tst b i = false) → (k < 5 → tst b k = true) → ∀ i, i < 5 → i ≤ k → tst b i = decide (i = k) := by
    intro k hk h1 h2 i hi hik
    rcases Nat.lt_or_ge i k with hl | hl
    · rw [h1 i hl, decide_eq_false (by omega)]
    · obtain rfl : i = k := by omega
      rw [h2 hi]; simp
  unfold bst
  by_cases c0 : blank b = true
  · rw [if_pos c0]
    refine bst_at (k := 0) b hE h (by omega) (ex 0 (by omega) (by omega) fun _ => c0) (fun _ W hW hm => ?_) (by omega)
    refine (ent1 W g b).mono ?_
    rintro e w' ⟨rfl, rfl⟩
    exact StSays.ok rfl (Chl.refl _ _) ⟨K, vs, [], rfl, rfl, hm, rfl, by simp; omega⟩
  rw [if_neg c0]
  have c0 : blank b = false := by simpa using c0
  by_cases c1 : b = 35#8
  · rw [if_pos c1]
    refine bst_at (k := 1) b hE h (by omega) (ex 1 (by omega) (fun i hi => by
      obtain rfl : i = 0 := by omega
      exact c0) fun _ => by simp [tst, c1]) (fun _ W hW hm => ?_) (by omega)
    refine (ent2 W g b).mono ?_
    rintro e w' ⟨rfl, rfl⟩
    exact StSays.ok rfl (Chl.refl _ _) ⟨K, vs, [], rfl, rfl, hm, rfl, by simp; omega⟩
  rw [if_neg c1]
  have t1 : tst b 1 = false := by simp [tst, c1]
  by_cases c2 : letter b = true
  · rw [if_pos c2]
    refine bst_at (k := 2) b hE h (by omega) (ex 2 (by omega) (fun i hi => by
      rcases (show i = 0 ∨ i = 1 by omega) with rfl | rfl
      · exact c0
      · exact t1) fun _ => c2) (fun _ W hW hm => ent3 hm b c2 hn hP) (by omega)
  rw [if_neg c2]
  have c2 : letter b = false := by simpa using c2
  by_cases c3 : digit b = true
  · rw [if_pos c3]
    refine bst_at (k := 3) b hE h (by omega) (ex 3 (by omega) (fun i hi => by
      rcases (show i = 0 ∨ i = 1 ∨ i = 2 by omega) with rfl | rfl | rfl
      · exact c0
      · exact t1
      · exact c2) fun _ => c3) (fun _ W hW hm => ent4 hm b c3 hn hP) (by omega)
  rw [if_neg c3]
  have c3 : digit b = false := by simpa using c3
  by_cases c4 : b = 34#8
  · rw [if_pos c4]
    refine bst_at (k := 4) b hE h (by omega) (ex 4 (by omega) (fun i hi => by
      rcases (show i = 0 ∨ i = 1 ∨ i = 2 ∨ i = 3 by omega) with rfl | rfl | rfl | rfl
      · exact c0
      · exact t1
      · exact c2
      · exact c3) fun _ => by simp [tst, c4]) (fun _ W hW hm => ent5 hm b hn hP) (by omega)
  rw [if_neg c4]
  refine bst_at (k := 5) b hE h (by omega) (ex 5 (by omega) (fun i hi => by
      rcases five hi with rfl | rfl | rfl | rfl | rfl
      · exact c0
      · exact t1
      · exact c2
      · exact c3
      · simp [tst, c4]) (by omega)) (by omega) (fun _ => rfl)
theorem comment_ (w : World) (g : Nat) (b : B) : Calls Try.prog 18 #[.pointer (some ⟨g, 0, none⟩), v8 b] w fun e w' => e = .returned (if b = 10#8 then fv 10 else fv 18) ∧ w' = w := by
  by_cases h : b = 10#8
  · subst h
    go_enter Try.func18, Try.ntmps18
    go_wp2_with fail
    go_ret
    exact ⟨rfl, rfl⟩
  · have e1 : ((b.toNat : Int) == 10) = false := b_ne (k := 10) (by decide) h
    go_enter Try.func18, Try.ntmps18
    go_wp2_with fail
    go_ret
    exact ⟨rfl, rfl⟩
/-- A byte of a text. -/
theorem txt_ {q : Nat} {t : List B} (h : Mc w D K g E (P : Int) z vs [x]) (hx : x.t = ⟨⟨3, 0, t⟩, q⟩) (b : B) (ht : t.length ≤ 2 * P) (hn : vs.length + 1 ≤ P) (hP : P ≤ 3000) :
    Calls Try.prog 27 #[.pointer (some ⟨g, 0, none⟩), v8 b] w (StSays w D g E P (step (.txt q t) (vs.map (·.t)) P b)) := by
  have htx : x.t.t.text = t := by rw [hx]
  by_cases hlow : b.toNat < 32
  · have hr : step (.txt q t) (vs.map (·.t)) P b = .error P := if_pos hlow
    rw [hr]
    have con := fail_ h (P : Int)
    obtain ⟨A, c, hc, ho⟩ := h.mem
    have k2 := Cel.cell hc 2
    clear h hc ho hr hx htx
    go_enter Try.func27, Try.ntmps27
    go_wp2_with fail
    refine con.mono ?_
    clear con
    rintro e w1 ⟨rfl, hm, hc⟩
    have HS := Lib.hid (show StSays w D g E P (.error P) (.returned .nilFunc) w1 from StSays.bad rfl hc hm)
    clear hm hc
    go_wp2_with fail
    go_ret
    exact HS.out
  · by_cases h34 : b = 34#8
    · have HS := Lib.hid (show StSays w D g E P (step (.txt q t) (vs.map (·.t)) P b) (.returned (fv 10)) w from StSays.ok (st' := .btw) (us' := vs.map (·.t) ++ [⟨⟨3, 0, t⟩, q⟩]) (by subst h34; rfl) (Chl.refl _ _) ⟨w.heap.size, vs ++ [x], [], by simp [hx], rfl, h.done, rfl, by simp; omega⟩)
      subst h34
      clear h hx htx
      go_enter Try.func27, Try.ntmps27
      go_wp2_with fail
      go_ret
      exact HS.out
    · have e1 : ((b.toNat : Int) == 34) = false := b_ne (k := 34) (by decide) h34
      by_cases h92 : b = 92#8
      · have HS := Lib.hid (show StSays w D g E P (step (.txt q t) (vs.map (·.t)) P b) (.returned (fv 49)) w from StSays.ok (st' := .esc q t) (us' := vs.map (·.t)) (by subst h92; rfl) (Chl.refl _ _) ⟨K, vs, [x], rfl, by simp [hx, St.cur], h, ⟨rfl, by omega⟩, by simp; omega⟩)
        subst h92
        clear h hx htx
        go_enter Try.func27, Try.ntmps27
        go_wp2_with fail
        go_ret
        exact HS.out
      · have e2 : ((b.toNat : Int) == 92) = false := b_ne (k := 92) (by decide) h92
        have hr : step (.txt q t) (vs.map (·.t)) P b = .ok (.txt q (t ++ [b]), vs.map (·.t)) := by show (if b.toNat < 32 then _ else _) = _; rw [if_neg hlow, if_neg h34, if_neg h92]
        rw [hr]
        obtain ⟨r, hl⟩ := h.last
        have con := add_ hl b (by omega) (by rw [htx]; omega)
        have HX := Lib.hid hx
        clear h hl hr hx htx h34 h92
        go_enter Try.func27, Try.ntmps27
        go_wp2_with fail
        refine con.mono ?_
        clear con
        rintro e w1 ⟨rfl, A, c, hm, hc⟩
        have HS := Lib.hid (show StSays w D g E P (.ok (.txt q (t ++ [b]), vs.map (·.t))) (.returned (fv 27)) w1 from StSays.ok (st' := .txt q (t ++ [b])) (us' := vs.map (·.t)) rfl hc ⟨K, vs, [more x b A c], rfl, by simp [more, HX.out, St.cur], hm.mc, ⟨rfl, by simp; omega⟩, by simp; omega⟩)
        clear hm hc
        go_wp2_with fail
        go_ret
        exact HS.out
/-- .. and one behind a \. -/
theorem esc_ {q : Nat} {t : List B} (h : Mc w D K g E (P : Int) z vs [x]) (hx : x.t = ⟨⟨3, 0, t⟩, q⟩) (b : B) (ht : t.length ≤ 2 * P) (hn : vs.length + 1 ≤ P) (hP : P ≤ 3000) :
    Calls Try.prog 49 #[.pointer (some ⟨g, 0, none⟩), v8 b] w (StSays w D g E P (step (.esc q t) (vs.map (·.t)) P b)) := by
  have htx : x.t.t.text = t := by rw [hx]
  by_cases hlow : b.toNat < 32
  · have hr : step (.esc q t) (vs.map (·.t)) P b = .error P := if_pos hlow
    rw [hr]
    have con := fail_ h (P : Int)
    obtain ⟨A, c, hc, ho⟩ := h.mem
    have k2 := Cel.cell hc 2
    clear h hc ho hr hx htx
    go_enter Try.func49, Try.ntmps49
    go_wp2_with fail
    refine con.mono ?_
    clear con
    rintro e w1 ⟨rfl, hm, hc⟩
    have HS := Lib.hid (show StSays w D g E P (.error P) (.returned .nilFunc) w1 from StSays.bad rfl hc hm)
    clear hm hc
    go_wp2_with fail
    go_ret
    exact HS.out
  · have hr : step (.esc q t) (vs.map (·.t)) P b = .ok (.txt q (t ++ if b = 34#8 then [b] else [92#8, b]), vs.map (·.t)) := if_neg hlow
    rw [hr]
    obtain ⟨r, hl⟩ := h.last
    have HX := Lib.hid hx
    by_cases h34 : b = 34#8
    · have con := add_ hl b (by omega) (by rw [htx]; omega)
      rw [if_pos h34]
      subst h34
      clear h hl hr hx htx
      go_enter Try.func49, Try.ntmps49
      go_wp2_with fail
      refine con.mono ?_
      clear con
      rintro e w1 ⟨rfl, A, c, hm, hc⟩
      have HS := Lib.hid (show StSays w D g E P (.ok (.txt q (t ++ [34#8]), vs.map (·.t))) (.returned (fv 27)) w1 from StSays.ok (st' := .txt q (t ++ [34#8])) (us' := vs.map (·.t)) rfl hc ⟨K, vs, [more x 34#8 A c], rfl, by simp [more, HX.out, St.cur], hm.mc, ⟨rfl, by simp; omega⟩, by simp; omega⟩)
      clear hm hc
      go_wp2_with fail
      go_ret
      exact HS.out
    · rw [if_neg h34]
      have e1 : ((b.toNat : Int) == 34) = false := b_ne (k := 34) (by decide) h34
      have con := add_ hl 92#8 (by omega) (by rw [htx]; omega)
      have HTX := Lib.hid htx
      clear h hl hr hx htx h34
      go_enter Try.func49, Try.ntmps49
      go_wp2_with fail
      refine con.mono ?_
      clear con
      rintro e w1 ⟨rfl, A, c, hm, hc⟩
      have con := add_ hm b (by omega) (by simp [more, HTX.out]; omega)
      have HC := Lib.hid hc
      clear hm hc
      go_wp2_with fail
      refine con.mono ?_
      clear con
      rintro e w2 ⟨rfl, A2, c2, hm, hc⟩
      have HS := Lib.hid (show StSays w D g E P (.ok (.txt q (t ++ [92#8, b]), vs.map (·.t))) (.returned (fv 27)) w2 from StSays.ok (st' := .txt q (t ++ [92#8, b])) (us' := vs.map (·.t)) rfl (HC.out.trans hc) ⟨K, vs, [more (more x 92#8 A c) b A2 c2], rfl, by simp [more, HX.out, St.cur], hm.mc, ⟨rfl, by simp; omega⟩, by simp; omega⟩)
      clear hm hc
      go_wp2_with fail
      go_ret
      exact HS.out
theorem one_of {xs : List Tv} {t : Tok} (h : xs.map (·.t) = [t]) : ∃ x, xs = [x] ∧ x.t = t := by
  match xs, h with
  | [x], h => exact ⟨x, rfl, by simpa using h⟩
/-- Each state, at the byte at P. -/
theorem step_ {p z : Int} {st : St} {us : List Tok} {v : Value} (h : Cf w D g E P p z st us v) (hp : p = (P : Int)) (hE : En w E) (b : B) (hP : P ≤ 3000) :
    ∃ k cap, v = .func (.func k) #[] cap ∧ (∀ args W, (callFunc k args).run Try.prog W = .ok (.enter k args) W) ∧ Calls Try.prog k (#[.pointer (some ⟨g, 0, none⟩), v8 b] ++ cap) w (StSays w D g E P (step st us P b)) := by
  subst hp
  obtain ⟨K, vs, xs, rfl, hxs, hm, hs, hn⟩ := h
  cases st with
  | btw =>
    obtain rfl : xs = [] := by simpa [St.cur] using hxs
    exact ⟨_, #[], hs, enterf _ (by simp), bst_ b hE hm (by simpa using hn) hP⟩
  | com =>
    obtain rfl : xs = [] := by simpa [St.cur] using hxs
    refine ⟨_, #[], hs, enterf _ (by simp), (comment_ w g b).mono ?_⟩
    rintro e w' ⟨rfl, rfl⟩
    by_cases h10 : b = 10#8
    · rw [if_pos h10]
      exact StSays.ok (st' := .btw) (us' := vs.map (·.t)) (show step .com (vs.map (·.t)) P b = .ok (.btw, vs.map (·.t)) from if_pos h10) (Chl.refl _ _) ⟨K, vs, [], rfl, rfl, hm, rfl, by omega⟩
    · rw [if_neg h10]
      exact StSays.ok (st' := .com) (us' := vs.map (·.t)) (show step .com (vs.map (·.t)) P b = .ok (.com, vs.map (·.t)) from if_neg h10) (Chl.refl _ _) ⟨K, vs, [], rfl, rfl, hm, rfl, by omega⟩
  | word q t =>
    obtain ⟨x, rfl, hx⟩ := one_of hxs
    obtain ⟨hv, ht⟩ := hs
    have hn1 : vs.length ≤ P := by simp at hn; omega
    cases hw : within b
    · have hv0 := hv
      obtain ⟨p2, p3, p4, tv, ta, sa, e, h2, h3, h4, h5, h6, h7⟩ := hv
      refine ⟨_, _, e, enterf _ (by simp), ?_⟩
      have hr : step (.word q t) (vs.map (·.t)) P b = bst (vs.map (·.t) ++ [⟨⟨1, 0, t⟩, q⟩]) P b := if_neg (by rw [hw]; decide)
      rw [hr]
      have con := bst_ b hE hm.done (by simp at hn ⊢; omega) hP
      rw [List.map_append, show [x].map (·.t) = [⟨⟨1, 0, t⟩, q⟩] by simp [hx]] at con
      exact run_not (cf := #[.pointer (some ⟨tv, 0, none⟩)]) b h2 (enterf _ (by simp)) (by rw [← hw]; exact peither h5 h6 h7 b) (con.mono fun e w' hs => ⟨hs.1, hs⟩)
    · obtain ⟨p2, p3, p4, e, con⟩ := word_byte hm hx hv b hw ht hn1 hP
      refine ⟨_, _, e, enterf _ (by simp), ?_⟩
      have hr : step (.word q t) (vs.map (·.t)) P b = if t.length + 1 ≤ 20 then .ok (.word q (t ++ [b]), vs.map (·.t)) else .error q := if_pos hw
      rw [hr]
      exact con
  | num q d n =>
    obtain ⟨x, rfl, hx⟩ := one_of hxs
    obtain ⟨hv, hn0, hn9, hq⟩ := hs
    have hn1 : vs.length ≤ P := by simp at hn; omega
    cases hw : digit b
    · have hv0 := hv
      obtain ⟨p2, p3, p4, dg, e, h2, h3, h4, h5, h6⟩ := hv
      refine ⟨_, _, e, enterf _ (by simp), ?_⟩
      have hr : step (.num q d n) (vs.map (·.t)) P b = bst (vs.map (·.t) ++ [⟨⟨2, n, []⟩, q⟩]) P b := if_neg (by rw [hw]; decide)
      rw [hr]
      have con := bst_ b hE hm.done (by simp at hn ⊢; omega) hP
      rw [List.map_append, show [x].map (·.t) = [⟨⟨2, n, []⟩, q⟩] by simp [hx]] at con
      exact run_not (cf := #[]) b h2 (enterf _ (by simp)) (by rw [← hw]; exact pdigit w b) (con.mono fun e w' hs => ⟨hs.1, hs⟩)
    · obtain ⟨p2, p3, p4, e, con⟩ := num_byte hm hx hv b hw hn0 hn9 hq hn1 hP
      refine ⟨_, _, e, enterf _ (by simp), ?_⟩
      have hr : step (.num q d n) (vs.map (·.t)) P b = if (decide (0 < d) && decide (n = 0)) = false ∧ 10 * n + ((b.toNat : Int) - 48) ≤ 9999 then .ok (.num q (d + 1) (10 * n + ((b.toNat : Int) - 48)), vs.map (·.t)) else .error q := if_pos hw
      rw [hr]
      exact con
  | txt q t =>
    obtain ⟨x, rfl, hx⟩ := one_of hxs
    exact ⟨_, #[], hs.1, enterf _ (by simp), txt_ hm hx b hs.2 (by simpa using hn) hP⟩
  | esc q t =>
    obtain ⟨x, rfl, hx⟩ := one_of hxs
    exact ⟨_, #[], hs.1, enterf _ (by simp), esc_ hm hx b hs.2 (by simpa using hn) hP⟩
end
end Go.Proofs.Ytadfoilbcipdjaa.Lex
