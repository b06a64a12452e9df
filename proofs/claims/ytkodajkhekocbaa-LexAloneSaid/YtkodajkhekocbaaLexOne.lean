/-
  The document's cutter (layer 11): one token.
-/
import Derived.Test.YtkodajkhekocbaaLexText
namespace Go.Proofs.Ytkodajkhekocbaa.Lex
open Go.RowKit
set_option linter.unusedVariables false
set_option linter.unusedSimpArgs false

theorem take_while {α : Type} (p : α → Bool) (l : List α) : l.takeWhile p = l.take (l.takeWhile p).length := List.prefix_iff_eq_take.1 (List.takeWhile_prefix p)
/-- How far one goes on from a place. -/
def far (p : B → Bool) (s : List B) (q : Nat) : Nat := ((s.drop q).takeWhile p).length
theorem far_go {p : B → Bool} {s : List B} {q : Nat} {x : B} (hx : s[q]? = some x) (hp : p x = true) : far p s q = 1 + far p s (q + 1) := by
  unfold far; rw [drop_at hx, List.takeWhile_cons, if_pos hp, List.length_cons, Nat.add_comm]
theorem far_no {p : B → Bool} {s : List B} {q : Nat} {x : B} (hx : s[q]? = some x) (hp : p x = false) : far p s q = 0 := by
  unfold far; rw [drop_at hx, List.takeWhile_cons, if_neg (by simp [hp])]; rfl
theorem far_end {p : B → Bool} {s : List B} {q : Nat} (h : s.length ≤ q) : far p s q = 0 := by unfold far; rw [List.drop_eq_nil_of_le h]; rfl
set_option maxRecDepth 100000 in
set_option maxHeartbeats 400000 in
theorem within_ (w : World) (x : BitVec 8) :
    Calls Try.prog 31 #[v8 x] w fun e w' => e = .returned (.bool (within x)) ∧ w = w' := by
  obtain ⟨r, hr⟩ : ∃ r, r = within x := ⟨_, rfl⟩
  rw [← hr]
  by_cases h5 : x = 95#8
  · subst h5
    rw [show within 95#8 = true by decide] at hr
    subst hr
    go_enter Try.func31, Try.ntmps31
    go_wp2_with fail
    go_ret
    exact ⟨rfl, rfl⟩
  have e5 : ((x.toNat : Int) == 95) = false := b_ne (k := 95) (by decide) h5
  have hv : within x = (letter x || digit x) := by simp [within, h5]
  rw [hv] at hr
  unfold letter digit at hr
  have HR := Lib.hid hr
  clear hr h5 hv
  by_cases h1 : 97 ≤ x.toNat
  · by_cases h2 : x.toNat ≤ 122
    · have hr := HR.out
      rw [decide_eq_true h1, decide_eq_true h2] at hr
      simp only [Bool.and_self, Bool.true_or] at hr
      subst hr
      go_enter Try.func31, Try.ntmps31
      go_wp2_with fail
      go_ret
      exact ⟨rfl, rfl⟩
    · have h3 : 48 ≤ x.toNat := by omega
      have h4 : ¬ x.toNat ≤ 57 := by omega
      have hr := HR.out
      rw [decide_eq_true h1, decide_eq_false h2, decide_eq_true h3, decide_eq_false h4] at hr
      simp only [Bool.and_false, Bool.or_self] at hr
      subst hr
      have z2 : decide ((x.toNat : Int) ≤ 122) = false := by simp; omega
      have z4 : decide ((x.toNat : Int) ≤ 57) = false := by simp; omega
      go_enter Try.func31, Try.ntmps31
      go_wp2_with fail
      go_ret
      exact ⟨rfl, rfl⟩
  · by_cases h3 : 48 ≤ x.toNat
    · by_cases h4 : x.toNat ≤ 57
      · have hr := HR.out
        rw [decide_eq_false h1, decide_eq_true h3, decide_eq_true h4] at hr
        simp only [Bool.and_self, Bool.false_and, Bool.false_or] at hr
        subst hr
        go_enter Try.func31, Try.ntmps31
        go_wp2_with fail
        go_ret
        exact ⟨rfl, rfl⟩
      · have hr := HR.out
        rw [decide_eq_false h1, decide_eq_true h3, decide_eq_false h4] at hr
        simp only [Bool.and_false, Bool.false_and, Bool.or_self] at hr
        subst hr
        have z4 : decide ((x.toNat : Int) ≤ 57) = false := by simp; omega
        go_enter Try.func31, Try.ntmps31
        go_wp2_with fail
        go_ret
        exact ⟨rfl, rfl⟩
    · have hr := HR.out
      rw [decide_eq_false h1, decide_eq_false h3] at hr
      simp only [Bool.false_and, Bool.or_self] at hr
      subst hr
      go_enter Try.func31, Try.ntmps31
      go_wp2_with fail
      go_ret
      exact ⟨rfl, rfl⟩
/-- Bytes that can be read: below block B, or in a block of bytes. -/
def Tx (w : World) (B : Nat) (A : Option Addr) (t : List (BitVec 8)) : Prop := Bs w B A t.length t ∨ By w A t.length t
theorem Tx.below {w w' : World} {B : Nat} {A : Option Addr} {t : List (BitVec 8)} (h : Tx w B A t) (hB : B ≤ w.heap.size) (hb : Below w.heap.size w w') : Tx w' B A t := by
  rcases h with h | h
  · exact .inl (h.below (hb.mono hB))
  · exact .inr (h.below hb)
/-- What One returns. -/
def OnSays (w : World) (B p : Nat) (r : Except Nat (Tk × Nat)) (e : Ending) (w' : World) : Prop := Below w.heap.size w w' ∧ match r with
  | .error k => ∃ v, e = .returned v ∧ ∃ (y0 y1 y2 z : Int) (A' : Option Addr) (l' c' : Nat), v = .tuple #[.agg #[.int .i64 y0, .int .i64 y1, .int .i64 y2, .slice A' l' c'], .int .i64 z, .int .i64 ((p + k : Nat) : Int)]
  | .ok (x, k) => ∃ A' c', e = .returned (.tuple #[.agg #[.int .i64 x.kind, .int .i64 (p : Int), .int .i64 x.n, .slice A' x.text.length c'], .int .i64 ((p + k : Nat) : Int), .int .i64 (-1)]) ∧ Tx w' B A' x.text
theorem results_at3 {P : Program} {fn : Func} {tmps : Array Value} {w : World} (a : Tmp) (t : TypeId) (b c : Tmp) (hr : fn.results = #[.cell a t, .tmp b, .tmp c]) (ad : Addr) (ha : tmps.getD a undef = .pointer (some ad)) (v u x : Value) (hu : tmps.getD b undef = u) (hx : tmps.getD c undef = x) (hl : (loadVar t ad).run P w = .ok v w) :
    (results fn tmps).run P w = .ok (.tuple #[v, u, x]) w := by
  unfold results
  rw [hr]
  simp only [List.mapM_toArray, List.mapM_cons, List.mapM_nil, ha, hu, hx, asAddr]
  simp [hl]
theorem load_tok {w : World} {g : Nat} {x0 x1 x2 x3 : Value} (h : Cel w g 46 [x0, x1, x2, x3]) : (loadVar 46 ⟨g, 0, none⟩).run Try.prog w = .ok (.agg #[x0, x1, x2, x3]) w :=
  run_loadVar_mid (P := Try.prog) w g 0 46 [x0, x1, x2, x3] _ (fun j v hv => by rw [Nat.zero_add, h.cell j, hv]) Try.underlying46 rfl (by kernel_rfl)
/-- A struct of four cells is stored. -/
def fw4 (w : World) (g : Nat) (a b c d : Value) : World := (((w.setCell ⟨g, 0, none⟩ a).setCell ⟨g, 1, none⟩ b).setCell ⟨g, 2, none⟩ c).setCell ⟨g, 3, none⟩ d
theorem fw4_cel {w : World} {g : Nat} {t : TypeId} {x y z u a b c d : Value} (h : Cel w g t [x, y, z, u]) : Cel (fw4 w g a b c d) g t [a, b, c, d] := (((h.set 0 a).set 1 b).set 2 c).set 3 d
theorem fw4_frm (w : World) (g : Nat) (a b c d : Value) : Frm [g] w (fw4 w g a b c d) := ((((Frm.refl [g] w).set (p := ⟨g, 0, none⟩) (by simp) a).set (p := ⟨g, 1, none⟩) (by simp) b).set (p := ⟨g, 2, none⟩) (by simp) c).set (p := ⟨g, 3, none⟩) (by simp) d
set_option maxRecDepth 100000 in
set_option maxHeartbeats 1000000 in
theorem one_text (w : World) (B : Nat) (A : Option Addr) (n c : Nat) (s : List (BitVec 8)) (hs : Bs w B A n s) (hB : B ≤ w.heap.size) (hn : n ≤ 100000) (p : Nat) (hp : p < n) (hx : s[p]? = some 34#8) :
    Calls Try.prog 14 #[.slice A n c, .int .i64 (p : Int)] w (OnSays w B p (oneR 34#8 (s.drop (p + 1)))) := by
  obtain ⟨bd, rfl, hbk, b0⟩ := hs.at_ hp
  rw [List.getD_eq_getElem?_getD, hx] at b0
  change _ = some (v8 34#8) at b0
  obtain ⟨w1, hw1⟩ : ∃ w1, w1 = w.alloc (.cells #[.int .i64 0, .int .i64 0, .int .i64 0, .slice none 0 0] 46) := ⟨_, rfl⟩
  have hb1 : Below w.heap.size w w1 := by rw [hw1]; exact (Below.refl _ _).alloc (Nat.le_refl _) _
  have hc1 : Cel w1 w.heap.size 46 [.int .i64 0, .int .i64 0, .int .i64 0, .slice none 0 0] := by rw [hw1]; exact Cel.new w _ _
  have con := text_ w1 B (some bd) n c s (hs.below (hb1.mono hB)) (Nat.le_trans hB hb1.size) hn (p + 1) (by omega)
  rw [show ((p + 1 : Nat) : Int) = (p : Int) + 1 by omega] at con
  have b1 := (hb1.cell (cell_lt b0)).trans b0
  have HB1 := Lib.hid hb1
  have HC1 := Lib.hid hc1
  have HONE := Lib.hid (show oneR 34#8 (s.drop (p + 1)) = match textR (s.drop (p + 1)) with
    | .error k => .error (1 + k)
    | .ok (t, k) => .ok (⟨3, 0, t⟩, 1 + k) by unfold oneR; rw [if_pos rfl]; cases textR (s.drop (p + 1)) <;> rfl)
  rw [hw1] at b1 con
  clear hb1 hc1 hs hx
  go_enter Try.func14, Try.ntmps14
  go_wp2_with fail
  rw [← hw1] at con
  rw [← hw1]
  refine con.mono ?_
  clear con b1
  rintro e w2 ⟨hb2, htx⟩
  have HB2 := Lib.hid (HB1.out.trans (hb2.mono HB1.out.size))
  have hc2 := HC1.out.below hb2 HC1.out.lt
  cases hr : textR (s.drop (p + 1)) with
  | error k =>
    rw [hr] at htx
    subst htx
    have HO2 := Lib.hid (show oneR 34#8 (s.drop (p + 1)) = .error (1 + k) by rw [HONE.out, hr])
    obtain ⟨z, hz⟩ : ∃ z : Int, z = ((p + 1 + k : Nat) : Int) := ⟨_, rfl⟩
    have HZ := Lib.hid hz
    rw [← hz]
    have hc3 := fw4_cel (a := .int .i64 3) (b := .int .i64 (p : Int)) (c := .int .i64 0) (d := .slice none 0 0) hc2
    have HB3 := Lib.hid (HB2.out.trans ((fw4_frm w2 w.heap.size (.int .i64 3) (.int .i64 (p : Int)) (.int .i64 0) (.slice none 0 0)).below HB2.out.size (by intro q hq; simp at hq; omega)))
    have k0 := hc2.cell 0
    have k1 := hc2.cell 1
    have k2 := hc2.cell 2
    have k3 := hc2.cell 3
    have l0 := hc2.free 0
    have l1 := hc2.free 1
    have l2 := hc2.free 2
    have l3 := hc2.free 3
    have HC3 := Lib.hid hc3
    clear hc2 hc3 hr hb2 hz
    unfold fw4 at HC3 HB3
    go_wp2_with fail
    refine bodyPost_ret (v := .tuple #[.agg #[.int .i64 3, .int .i64 (p : Int), .int .i64 0, .slice none 0 0], .int .i64 z, .int .i64 z]) (results_at3 4 46 5 6 Try.results14 ⟨w.heap.size, 0, none⟩ rfl _ _ _ rfl rfl (load_tok HC3.out)) rfl ?_
    refine ⟨HB3.out, ?_⟩
    rw [HO2.out]
    exact ⟨_, rfl, 3, p, 0, z, none, 0, 0, by rw [HZ.out, show p + (1 + k) = p + 1 + k by omega]⟩
  | ok q =>
    obtain ⟨t, k⟩ := q
    rw [hr] at htx
    obtain ⟨A', c', rfl, ho⟩ := htx
    have HO2 := Lib.hid (show oneR 34#8 (s.drop (p + 1)) = .ok (⟨3, 0, t⟩, 1 + k) by rw [HONE.out, hr])
    obtain ⟨z, hz⟩ : ∃ z : Int, z = ((p + 1 + k : Nat) : Int) := ⟨_, rfl⟩
    have HZ := Lib.hid hz
    rw [← hz]
    obtain ⟨m, hm⟩ : ∃ m, m = t.length := ⟨_, rfl⟩
    have HM := Lib.hid hm
    rw [← hm]
    have hc3 := fw4_cel (a := .int .i64 3) (b := .int .i64 (p : Int)) (c := .int .i64 0) (d := .slice A' m c') hc2
    have hf3 := fw4_frm w2 w.heap.size (.int .i64 3) (.int .i64 (p : Int)) (.int .i64 0) (.slice A' m c')
    have HB3 := Lib.hid (HB2.out.trans (hf3.below HB2.out.size (by intro q hq; simp at hq; omega)))
    have HBY := Lib.hid (show By (fw4 w2 w.heap.size (.int .i64 3) (.int .i64 (p : Int)) (.int .i64 0) (.slice A' m c')) A' t.length t from (By.of_own ho).keep (fun g cs fz hg => hf3.block g (Array.getElem?_eq_some_iff.1 hg).1 (by simp; rintro rfl; exact hc2.not_ty (by decide) _ _ hg)))
    have k0 := hc2.cell 0
    have k1 := hc2.cell 1
    have k2 := hc2.cell 2
    have k3 := hc2.cell 3
    have l0 := hc2.free 0
    have l1 := hc2.free 1
    have l2 := hc2.free 2
    have l3 := hc2.free 3
    have HC3 := Lib.hid hc3
    clear hc2 hc3 hr hb2 hz hf3 ho hm
    unfold fw4 at HC3 HB3 HBY
    go_wp2_with fail
    refine bodyPost_ret (v := .tuple #[.agg #[.int .i64 3, .int .i64 (p : Int), .int .i64 0, .slice A' m c'], .int .i64 z, .int .i64 (-1)]) (results_at3 4 46 5 6 Try.results14 ⟨w.heap.size, 0, none⟩ rfl _ _ _ rfl rfl (load_tok HC3.out)) rfl ?_
    refine ⟨HB3.out, ?_⟩
    rw [HO2.out]
    exact ⟨A', c', by rw [HZ.out, HM.out, show p + (1 + k) = p + 1 + k by omega], .inr HBY.out⟩
theorem run_cutMid {P : Program} (w : World) {t e : TypeId} {size : Nat} (ht : P.underlying t = some (.slice e)) (hs : (P.info? e).map (·.size) = some size) (A : Option Addr) (n c l h : Nat) (q q' : IntKind) (hl : l ≤ h) (hh : h ≤ c) :
    (Instr.sliceAt t (.slice A n c) (some (.int q l)) (some (.int q' h)) none).run P w = .ok (.slice (if c = l then A else A.map (·.add (l * size))) (h - l) (c - l)) w := by
  have he : P.elem t = e := by unfold Program.elem; rw [ht]
  have ht' : P.underlying t = some (.slice (P.elem t)) := by rw [he]; exact ht
  rw [run_sliceAt_slice w t _ _ _ _ ht', run_slice_lh w t A n c ht' q q' l h (by omega) (by omega) (by omega)]
  have hso : (sizeOf (P.elem t)).run P w = .ok size w := by
    rw [he]
    cases hq : P.info? e with
    | none => rw [hq] at hs; cases hs
    | some i => rw [hq] at hs; simp at hs; simp [sizeOf, typeInfo, hq, hs]
  rw [hso]
  simp only [Result.andThen, sliced, Int.toNat_natCast]
theorem bs_cut {w : World} {B m c f t : Nat} {A : Option Addr} {bs : List (BitVec 8)} (h : Bs w B A m bs) (hf : f ≤ t) (ht : t ≤ m) (hc : m ≤ c) : Bs w B (if c = f then A else A.map (·.add (f * 1))) (t - f) ((bs.take t).drop f) := by
  have := ((Bs.bp h).take ht).cut (cap := c) hf (by omega)
  rw [Nat.mul_one]
  exact this
set_option maxRecDepth 100000 in
set_option maxHeartbeats 2000000 in
theorem one_word (w : World) (B : Nat) (A : Option Addr) (n c : Nat) (s : List (BitVec 8)) (hs : Bs w B A n s) (hB : B ≤ w.heap.size) (hn : n ≤ 100000) (hcap : n ≤ c) (p : Nat) (hp : p < n) (x : BitVec 8) (hx : s[p]? = some x) (h34 : x ≠ 34#8) (hlt : letter x = true) :
    Calls Try.prog 14 #[.slice A n c, .int .i64 (p : Int)] w (OnSays w B p (oneR x (s.drop (p + 1)))) := by
  have hd := drop_at hx
  have HONE := Lib.hid (show oneR x (s.drop (p + 1)) = if 20 < far within s p then .error 0 else .ok (⟨1, 0, (s.drop p).take (far within s p)⟩, far within s p) by
    unfold oneR far
    rw [if_neg h34, if_pos hlt, ← hd, ← take_while])
  have HS := Lib.hid hs
  have HSL := Lib.hid hs.len
  have e34 : ((x.toNat : Int) == 34) = false := b_ne (k := 34) (by decide) h34
  have hl : 97 ≤ x.toNat ∧ x.toNat ≤ 122 := by unfold letter at hlt; simpa using hlt
  obtain ⟨hl1, hl2⟩ := hl
  have z122 : decide ((x.toNat : Int) ≤ 122) = true := by simp; omega
  have z97 : decide ((97 : Int) ≤ (x.toNat : Int)) = true := by simp; omega
  obtain ⟨bd, rfl, hbk, b0⟩ := hs.at_ hp
  rw [List.getD_eq_getElem?_getD, hx] at b0
  change _ = some (v8 x) at b0
  obtain ⟨w1, hw1⟩ : ∃ w1, w1 = w.alloc (.cells #[.int .i64 0, .int .i64 0, .int .i64 0, .slice none 0 0] 46) := ⟨_, rfl⟩
  have hb1 : Below w.heap.size w w1 := by rw [hw1]; exact (Below.refl _ _).alloc (Nat.le_refl _) _
  have hc1 : Cel w1 w.heap.size 46 [.int .i64 0, .int .i64 0, .int .i64 0, .slice none 0 0] := by rw [hw1]; exact Cel.new w _ _
  have b1 := (hb1.cell (cell_lt b0)).trans b0
  have HB1 := Lib.hid hb1
  have HC1 := Lib.hid hc1
  rw [hw1] at b1
  clear hb1 hc1 hs hx h34 hlt hd b0
  go_enter Try.func14, Try.ntmps14
  go_wp2_with fail
  rw [← hw1] at b1 ⊢
  clear hw1
  go_loopw [11] (fun v11 wr => ∃ (q : Nat), p ≤ q ∧ q ≤ n ∧ v11 = .int .i64 (q : Int) ∧ w1 = wr ∧ Hid (far within s p = (q - p) + far within s q)) (fun v11 _ => n - (intOf v11).toNat)
  case atStart => exact ⟨p, Nat.le_refl _, by omega, rfl, rfl, Lib.hid (by rw [Nat.sub_self, Nat.zero_add])⟩
  case round =>
    obtain ⟨q, hpq, hqn, rfl, rfl, HK⟩ := hrel
    rcases Nat.lt_or_ge q n with hlt | hge
    · obtain ⟨y, hy⟩ : ∃ y, s[q]? = some y := ⟨_, List.getElem?_eq_getElem (by rw [HSL.out]; exact hlt)⟩
      obtain ⟨bd2, hbd, _, b2⟩ := (HS.out.below (HB1.out.mono hB)).at_ hlt
      cases hbd
      rw [List.getD_eq_getElem?_getD, hy] at b2
      change _ = some (v8 y) at b2
      have con := within_ w1 y
      cases hw : within y
      · have HFIN := Lib.hid (show far within s p = q - p by rw [HK.out, far_no hy hw, Nat.add_zero])
        rw [hw] at con
        clear hy hw HK
        by_cases h20 : 20 < q - p
        · have HE := Lib.hid (show oneR x (s.drop (p + 1)) = .error 0 by rw [HONE.out, HFIN.out, if_pos h20])
          have hc3 := fw4_cel (a := .int .i64 0) (b := .int .i64 0) (c := .int .i64 0) (d := .slice none 0 0) HC1.out
          have hf3 := fw4_frm w1 w.heap.size (.int .i64 0) (.int .i64 0) (.int .i64 0) (.slice none 0 0)
          have HB3 := Lib.hid (HB1.out.trans (hf3.below HB1.out.size (by intro q hq; simp at hq; omega)))
          have k0 := HC1.out.cell 0
          have k1 := HC1.out.cell 1
          have k2 := HC1.out.cell 2
          have k3 := HC1.out.cell 3
          have l0 := HC1.out.free 0
          have l1 := HC1.out.free 1
          have l2 := HC1.out.free 2
          have l3 := HC1.out.free 3
          have HC3 := Lib.hid hc3
          have HF3 := Lib.hid hf3
          clear hc3 hf3
          unfold fw4 at HC3 HB3 HF3
          go_wp2_with fail
          refine con.mono ?_
          rintro e w' ⟨rfl, rfl⟩
          go_wp2_with fail
          refine bodyPost_ret (v := .tuple #[.agg #[.int .i64 0, .int .i64 0, .int .i64 0, .slice none 0 0], .int .i64 (q : Int), .int .i64 (p : Int)]) (results_at3 4 46 5 6 Try.results14 ⟨w.heap.size, 0, none⟩ rfl _ _ _ rfl rfl (load_tok HC3.out)) rfl ?_
          refine ⟨HB3.out, ?_⟩
          rw [HE.out]
          exact ⟨_, rfl, 0, 0, 0, (q : Int), none, 0, 0, rfl⟩
        · have HE := Lib.hid (show oneR x (s.drop (p + 1)) = .ok (⟨1, 0, (s.drop p).take (q - p)⟩, q - p) by rw [HONE.out, HFIN.out, if_neg h20])
          obtain ⟨Bc, d, dc, hcut⟩ : ∃ (Bc : Option Addr) (d dc : Nat), (∀ V, (Instr.sliceAt 22 (.slice (some bd) n c) (some (.int .i64 (p : Int))) (some (.int .i64 (q : Int))) none).run Try.prog V = .ok (.slice Bc d dc) V) ∧ (∀ V : World, Bs V B (some bd) n s → Bs V B Bc d ((s.drop p).take (q - p))) ∧ d = q - p :=
            ⟨_, _, _, fun V => run_cutMid (size := 1) V Try.underlying22 (by kernel_rfl) (some bd) n c p q .i64 .i64 hpq (by omega), fun V hV => by rw [← List.drop_take]; exact bs_cut hV hpq hqn hcap, rfl⟩
          have HCUT := Lib.hid hcut
          clear hcut
          have hc3 := fw4_cel (a := .int .i64 1) (b := .int .i64 (p : Int)) (c := .int .i64 0) (d := .slice Bc d dc) HC1.out
          have hf3 := fw4_frm w1 w.heap.size (.int .i64 1) (.int .i64 (p : Int)) (.int .i64 0) (.slice Bc d dc)
          have HB3 := Lib.hid (HB1.out.trans (hf3.below HB1.out.size (by intro q hq; simp at hq; omega)))
          have k0 := HC1.out.cell 0
          have k1 := HC1.out.cell 1
          have k2 := HC1.out.cell 2
          have k3 := HC1.out.cell 3
          have l0 := HC1.out.free 0
          have l1 := HC1.out.free 1
          have l2 := HC1.out.free 2
          have l3 := HC1.out.free 3
          have HC3 := Lib.hid hc3
          have HF3 := Lib.hid hf3
          clear hc3 hf3
          unfold fw4 at HC3 HB3 HF3
          go_wp2_with fail
          refine con.mono ?_
          rintro e w' ⟨rfl, rfl⟩
          go_wp2_with ((refine wpList_slice rfl 22 (.tmp 60) (some (.tmp 61)) (some (.tmp 62)) none rfl (.slice Bc d dc) ?_ ?_; exact HCUT.out.1 _))
          refine bodyPost_ret (v := .tuple #[.agg #[.int .i64 1, .int .i64 (p : Int), .int .i64 0, .slice Bc d dc], .int .i64 (q : Int), .int .i64 (-1)]) (results_at3 4 46 5 6 Try.results14 ⟨w.heap.size, 0, none⟩ rfl _ _ _ rfl rfl (load_tok HC3.out)) rfl ?_
          refine ⟨HB3.out, ?_⟩
          rw [HE.out]
          have hbs := HCUT.out.2.1 _ (HS.out.below (HB3.out.mono hB))
          have hd : d = ((s.drop p).take (q - p)).length := hbs.len.symm
          refine ⟨Bc, dc, ?_, .inl (hd ▸ hbs)⟩
          rw [← hd, show ((p + (q - p) : Nat) : Int) = (q : Int) by omega]
      · have HN := Lib.hid (show far within s p = (q + 1 - p) + far within s (q + 1) by rw [HK.out, far_go hy hw]; omega)
        rw [hw] at con
        clear hy hw HK
        go_wp2_with fail
        refine con.mono ?_
        rintro e w' ⟨rfl, rfl⟩
        go_wp2_with fail
        exact ⟨⟨q + 1, by omega, by omega, by rw [show ((q + 1 : Nat) : Int) = (q : Int) + 1 by omega], by trivial, HN⟩, by simp [intOf]; omega⟩
    · have HFIN := Lib.hid (show far within s p = q - p by rw [HK.out, far_end (by rw [HSL.out]; exact hge), Nat.add_zero])
      clear HK
      by_cases h20 : 20 < q - p
      · have HE := Lib.hid (show oneR x (s.drop (p + 1)) = .error 0 by rw [HONE.out, HFIN.out, if_pos h20])
        have hc3 := fw4_cel (a := .int .i64 0) (b := .int .i64 0) (c := .int .i64 0) (d := .slice none 0 0) HC1.out
        have hf3 := fw4_frm w1 w.heap.size (.int .i64 0) (.int .i64 0) (.int .i64 0) (.slice none 0 0)
        have HB3 := Lib.hid (HB1.out.trans (hf3.below HB1.out.size (by intro q hq; simp at hq; omega)))
        have k0 := HC1.out.cell 0
        have k1 := HC1.out.cell 1
        have k2 := HC1.out.cell 2
        have k3 := HC1.out.cell 3
        have l0 := HC1.out.free 0
        have l1 := HC1.out.free 1
        have l2 := HC1.out.free 2
        have l3 := HC1.out.free 3
        have HC3 := Lib.hid hc3
        have HF3 := Lib.hid hf3
        clear hc3 hf3
        unfold fw4 at HC3 HB3 HF3
        go_wp2_with fail
        refine bodyPost_ret (v := .tuple #[.agg #[.int .i64 0, .int .i64 0, .int .i64 0, .slice none 0 0], .int .i64 (q : Int), .int .i64 (p : Int)]) (results_at3 4 46 5 6 Try.results14 ⟨w.heap.size, 0, none⟩ rfl _ _ _ rfl rfl (load_tok HC3.out)) rfl ?_
        refine ⟨HB3.out, ?_⟩
        rw [HE.out]
        exact ⟨_, rfl, 0, 0, 0, (q : Int), none, 0, 0, rfl⟩
      · have HE := Lib.hid (show oneR x (s.drop (p + 1)) = .ok (⟨1, 0, (s.drop p).take (q - p)⟩, q - p) by rw [HONE.out, HFIN.out, if_neg h20])
        obtain ⟨Bc, d, dc, hcut⟩ : ∃ (Bc : Option Addr) (d dc : Nat), (∀ V, (Instr.sliceAt 22 (.slice (some bd) n c) (some (.int .i64 (p : Int))) (some (.int .i64 (q : Int))) none).run Try.prog V = .ok (.slice Bc d dc) V) ∧ (∀ V : World, Bs V B (some bd) n s → Bs V B Bc d ((s.drop p).take (q - p))) ∧ d = q - p :=
          ⟨_, _, _, fun V => run_cutMid (size := 1) V Try.underlying22 (by kernel_rfl) (some bd) n c p q .i64 .i64 hpq (by omega), fun V hV => by rw [← List.drop_take]; exact bs_cut hV hpq hqn hcap, rfl⟩
        have HCUT := Lib.hid hcut
        clear hcut
        have hc3 := fw4_cel (a := .int .i64 1) (b := .int .i64 (p : Int)) (c := .int .i64 0) (d := .slice Bc d dc) HC1.out
        have hf3 := fw4_frm w1 w.heap.size (.int .i64 1) (.int .i64 (p : Int)) (.int .i64 0) (.slice Bc d dc)
        have HB3 := Lib.hid (HB1.out.trans (hf3.below HB1.out.size (by intro q hq; simp at hq; omega)))
        have k0 := HC1.out.cell 0
        have k1 := HC1.out.cell 1
        have k2 := HC1.out.cell 2
        have k3 := HC1.out.cell 3
        have l0 := HC1.out.free 0
        have l1 := HC1.out.free 1
        have l2 := HC1.out.free 2
        have l3 := HC1.out.free 3
        have HC3 := Lib.hid hc3
        have HF3 := Lib.hid hf3
        clear hc3 hf3
        unfold fw4 at HC3 HB3 HF3
        go_wp2_with ((refine wpList_slice rfl 22 (.tmp 60) (some (.tmp 61)) (some (.tmp 62)) none rfl (.slice Bc d dc) ?_ ?_; exact HCUT.out.1 _))
        refine bodyPost_ret (v := .tuple #[.agg #[.int .i64 1, .int .i64 (p : Int), .int .i64 0, .slice Bc d dc], .int .i64 (q : Int), .int .i64 (-1)]) (results_at3 4 46 5 6 Try.results14 ⟨w.heap.size, 0, none⟩ rfl _ _ _ rfl rfl (load_tok HC3.out)) rfl ?_
        refine ⟨HB3.out, ?_⟩
        rw [HE.out]
        have hbs := HCUT.out.2.1 _ (HS.out.below (HB3.out.mono hB))
        have hd : d = ((s.drop p).take (q - p)).length := hbs.len.symm
        refine ⟨Bc, dc, ?_, .inl (hd ▸ hbs)⟩
        rw [← hd, show ((p + (q - p) : Nat) : Int) = (q : Int) by omega]
end Go.Proofs.Ytkodajkhekocbaa.Lex
