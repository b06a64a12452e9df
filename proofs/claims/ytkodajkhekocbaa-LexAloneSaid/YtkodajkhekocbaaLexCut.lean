/-
  The document's cutter (layer 11): all tokens.
-/
import Derived.Test.YtkodajkhekocbaaLexNum
namespace Go.Proofs.Ytkodajkhekocbaa.Lex
open Go.RowKit
set_option linter.unusedVariables false
set_option linter.unusedSimpArgs false

theorem one_ (w : World) (B : Nat) (A : Option Addr) (n c : Nat) (s : List (BitVec 8)) (hs : Bs w B A n s) (hB : B ≤ w.heap.size) (hn : n ≤ 100000) (hcap : n ≤ c) (p : Nat) (hp : p < n) (x : BitVec 8) (hx : s[p]? = some x) :
    Calls Try.prog 14 #[.slice A n c, .int .i64 (p : Int)] w (OnSays w B p (oneR x (s.drop (p + 1)))) := by
  by_cases h34 : x = 34#8
  · subst h34; exact one_text w B A n c s hs hB hn p hp hx
  · cases hl : letter x
    · exact one_num w B A n c s hs hB hn p hp x hx h34 hl
    · exact one_word w B A n c s hs hB hn hcap p hp x hx h34 hl
/-- A token, and where its text lies. -/
structure Tv where
  t : Tok
  A : Option Addr
  c : Nat
def Tv.cells (v : Tv) : List Value := [.int .i64 v.t.t.kind, .int .i64 (v.t.at_ : Int), .int .i64 v.t.t.n, .slice v.A v.t.t.text.length v.c]
def tflat (vs : List Tv) : List Value := vs.flatMap Tv.cells
theorem tflat_app (us vs : List Tv) : tflat (us ++ vs) = tflat us ++ tflat vs := by simp [tflat]
theorem tflat_len (us : List Tv) : (tflat us).length = us.length * 4 := by
  induction us with
  | nil => rfl
  | cons x l ih => rw [tflat, List.flatMap_cons, List.length_append, show (l.flatMap Tv.cells) = tflat l from rfl, ih]; show 4 + l.length * 4 = (l.length + 1) * 4; omega
theorem Tv.one (v : Tv) : ∀ u ∈ v.cells, u.oneCell' = true := by
  intro u hu
  simp [Tv.cells] at hu
  rcases hu with rfl | rfl | rfl | rfl <;> rfl
theorem infoTok : (Try.prog.info? 46).map (fun i => (i.zero, i.size, i.bytes)) = some (some (.agg #[.int .i64 0, .int .i64 0, .int .i64 0, .slice none 0 0]), 4, 48) := by kernel_rfl
theorem rowTok : ElemRow Try.prog 28 46 4 48 := ElemRow.mk' Try.underlying28 infoTok rfl (by decide)
/-- The document's tokens, in an own row. -/
structure Rtk (w : World) (D B : Nat) (A : Option Addr) (n c : Nat) (vs : List Tv) : Prop where
  own : w.ownsRow D 46 4 (.slice A n c) n (tflat vs)
  len : vs.length = n
  tx : ∀ v ∈ vs, Tx w B v.A v.t.t.text
theorem Rtk.nil_ (w : World) (D B : Nat) : Rtk w D B none 0 0 [] := ⟨World.ownsRow_nil _ _ _ _, rfl, by simp⟩
theorem Rtk.below {w w' : World} {D B n c : Nat} {A : Option Addr} {vs : List Tv} (h : Rtk w D B A n c vs) (hB : B ≤ w.heap.size) (hb : Below w.heap.size w w') : Rtk w' D B A n c vs := ⟨own_frm (l := []) h.own (Frm.of_below hb) (by simp), h.len, fun v hv => (h.tx v hv).below hB hb⟩
theorem Tx.grown {w w' : World} {D B n c : Nat} {A A' : Option Addr} {cs : List Value} {t : List (BitVec 8)} (h : Tx w B A' t) (ho : w.ownsRow D 46 4 (.slice A n c) n cs) (hB : B ≤ w.heap.size) (hD : B ≤ D) (hg : w.grownBy w' (Value.slice A n c).ownBlock) : Tx w' B A' t := by
  rcases h with h | h
  · exact .inl (h.grown hg hB (fun g e => Nat.le_trans hD (own_ge ho g e)))
  · exact .inr (h.grown hg (not_bytes ho (by decide)))
theorem Rtk.pushed {w w' : World} {D B n c c' : Nat} {A A' : Option Addr} {vs : List Tv} {v : Tv} (h : Rtk w D B A n c vs) (hB : B ≤ w.heap.size) (hD : B ≤ D) (hv : Tx w B v.A v.t.t.text) (hg : w.grownBy w' (Value.slice A n c).ownBlock) (ho : w'.ownsRow D 46 4 (.slice A' (n + 1) c') (n + 1) (tflat (vs ++ [v]))) : Rtk w' D B A' (n + 1) c' (vs ++ [v]) := by
  refine ⟨ho, by rw [List.length_append, h.len]; rfl, fun u hu => ?_⟩
  rcases List.mem_append.1 hu with hu | hu
  · exact (h.tx u hu).grown h.own hB hD hg
  · rw [List.mem_singleton.1 hu]; exact hv.grown h.own hB hD hg
theorem Rtk.grew {w w' : World} {D B n c : Nat} {A : Option Addr} {vs : List Tv} (h : Rtk w D B A n c vs) (hg : w.grownBy w' (Value.slice A n c).ownBlock) (hD : D ≤ w.heap.size) : Below D w w' :=
  ⟨hg.os, hg.tape, hg.output, hg.size, fun k hk => hg.block k (by omega) fun e => by have := own_ge h.own k e.symm; omega⟩
/-- What Cut returns. -/
def CtSays (w : World) (B : Nat) (r : Except (Nat × Nat) (List Tok)) (e : Ending) (w' : World) : Prop := Below w.heap.size w w' ∧ match r with
  | .error (p, bad) => bad ≠ 0 ∧ e = .returned (.tuple #[.slice none 0 0, .int .i64 (p : Int), .int .i64 (bad : Int)])
  | .ok ts => ∃ A' n' c' vs, e = .returned (.tuple #[.slice A' n' c', .int .i64 0, .int .i64 0]) ∧ Rtk w' w.heap.size B A' n' c' vs ∧ vs.map (·.t) = ts
set_option maxRecDepth 100000 in
set_option maxHeartbeats 2000000 in
theorem cut_ (w : World) (B : Nat) (A : Option Addr) (n c : Nat) (s : List (BitVec 8)) (hs : Bs w B A n s) (hB : B ≤ w.heap.size) (hn : n ≤ 100000) (hcap : n ≤ c) :
    Calls Try.prog 7 #[.slice A n c] w (CtSays w B (cut s)) := by
  have hsl := hs.len
  by_cases h2 : 2000 < n
  · have HT := Lib.hid (show cut s = .error (0, 3) by unfold cut; rw [if_pos (by omega)])
    clear hs hsl
    go_enter Try.func7, Try.ntmps7
    go_wp2_with fail
    go_ret3
    rw [HT.out]
    exact ⟨Below.refl _ _, by decide, rfl⟩
  have HS := Lib.hid hs
  have HSL := Lib.hid hsl
  obtain ⟨k0, hk0⟩ : ∃ k0, k0 = skipR false s := ⟨_, rfl⟩
  obtain ⟨T, hT⟩ : ∃ T, T = cutR (n + 1) k0 (s.drop k0) := ⟨_, rfl⟩
  have HT := Lib.hid (show cut s = cutE T by unfold cut; rw [if_neg (by omega), hT, hk0, hsl])
  have hk0n : k0 ≤ n := by rw [hk0, ← hsl]; exact skipR_le s false
  have HFU := Lib.hid (show ∀ f, n - k0 < f → T = cadd [] (cutR f k0 (s.drop k0)) from fun f hf => by rw [cadd_nil, hT]; exact cutR_fuel _ _ _ _ (by rw [List.length_drop]; omega) (by rw [List.length_drop]; omega))
  have con := skip_ w B A n c s hs hn 0 (Nat.zero_le _)
  rw [List.drop_zero, ← hk0, Nat.zero_add] at con
  clear hs hsl hk0 hT
  go_enter Try.func7, Try.ntmps7
  go_wp2_with fail
  refine con.mono ?_
  clear con
  rintro e w' ⟨rfl, rfl⟩
  go_wp2_with fail
  go_loopw [5, 6] (fun v5 v6 wr => ∃ (q m c5 : Nat) (A5 : Option Addr) (vs : List Tv), q ≤ n ∧ m ≤ q ∧ v6 = .int .i64 (q : Int) ∧ v5 = .slice A5 m c5 ∧ Rtk wr w.heap.size B A5 m c5 vs ∧ Below w.heap.size w wr ∧ Hid (∀ f, n - q < f → T = cadd (vs.map (·.t)) (cutR f q (s.drop q)))) (fun _ v6 _ => n - (intOf v6).toNat)
  case atStart => exact ⟨k0, 0, 0, none, [], hk0n, Nat.zero_le _, rfl, rfl, Rtk.nil_ _ _ _, Below.refl _ _, HFU⟩
  case round =>
    clear HFU hk0n
    obtain ⟨q, m, c5, A5, vs, hq, hmq, rfl, rfl, hr, hb, HK⟩ := hrel
    obtain ⟨W0, rfl⟩ : ∃ W0, W0 = wr := ⟨_, rfl⟩
    have HR := Lib.hid hr
    have HBW := Lib.hid hb
    have hws := hb.size
    clear hr hb
    rcases Nat.lt_or_ge q n with hlt | hge
    · obtain ⟨x, hx⟩ : ∃ x, s[q]? = some x := ⟨_, List.getElem?_eq_getElem (by rw [HSL.out]; exact hlt)⟩
      have con := one_ W0 B A n c s (HS.out.below (HBW.out.mono hB)) (Nat.le_trans hB hws) hn hcap q hlt x hx
      have HD := Lib.hid (drop_at hx)
      clear hx
      go_wp2_with fail
      refine con.mono ?_
      clear con
      rintro e w2 ⟨hb2, hone⟩
      have HB2 := Lib.hid (HBW.out.trans (hb2.mono hws))
      have HR2 := Lib.hid (HR.out.below (Nat.le_trans hB hws) hb2)
      cases ho : oneR x (s.drop (q + 1)) with
      | error k =>
        rw [ho] at hone
        obtain ⟨v, rfl, y0, y1, y2, z, A', l', c', rfl⟩ := hone
        have HBAD := Lib.hid (show cut s = .error (q + k, 2) by
          have := HK.out (n - q + 1) (by omega)
          rw [HD.out, cutR_bad ho] at this
          rw [HT.out, this]; rfl)
        have HB3 := Lib.hid (HB2.out.trans (((Below.refl w2.heap.size w2).alloc (Nat.le_refl _) (.cells #[.int .i64 y0, .int .i64 y1, .int .i64 y2, .slice A' l' c'] 46)).mono HB2.out.size))
        clear ho hb2 HK
        go_wp2_with fail
        go_ret3
        rw [HBAD.out]
        exact ⟨HB3.out, by decide, rfl⟩
      | ok xk =>
        obtain ⟨t, k⟩ := xk
        rw [ho] at hone
        obtain ⟨A', c', rfl, htx⟩ := hone
        obtain ⟨hk1, hk2, _⟩ := oneR_le ho
        have hsl : s.length = n := HSL.out
        have hqk : q + k ≤ n := by rw [List.length_drop] at hk2; omega
        obtain ⟨j, hj⟩ : ∃ j, j = skipR false (s.drop (q + k)) := ⟨_, rfl⟩
        have hjn : q + k + j ≤ n := by have := skipR_le (s.drop (q + k)) false; rw [← hj, List.length_drop] at this; omega
        have HN := Lib.hid (show ∀ f, n - (q + k + j) < f → T = cadd ((vs ++ [(⟨⟨t, q⟩, A', c'⟩ : Tv)]).map (·.t)) (cutR f (q + k + j) (s.drop (q + k + j))) from fun f hf => by
          have := HK.out (f + (n - q) + 1) (by omega)
          rw [HD.out, cutR_go ho, ← HD.out, List.drop_drop, ← hj, List.drop_drop, cadd_cadd] at this
          rw [this, List.map_append]
          rw [cutR_fuel (f + (n - q)) f _ _ (by rw [List.length_drop]; omega) (by rw [List.length_drop]; omega)]
          rfl)
        have HJ := Lib.hid hj
        have hb3 : Below w2.heap.size w2 ((w2.alloc (.cells #[.int .i64 t.kind, .int .i64 (q : Int), .int .i64 t.n, .slice A' t.text.length c'] 46)).alloc (.cells #[.int .i64 t.kind, .int .i64 (q : Int), .int .i64 t.n, .slice A' t.text.length c'] 46)) := ((Below.refl _ _).alloc (Nat.le_refl _) _).alloc (by simp) _
        have HR3 := Lib.hid (HR2.out.below (Nat.le_trans hB HB2.out.size) hb3)
        have HB3 := Lib.hid (HB2.out.trans (hb3.mono HB2.out.size))
        have HTX := Lib.hid (htx.below (Nat.le_trans hB HB2.out.size) hb3)
        have hc3 := Cel.new (w2.alloc (.cells #[.int .i64 t.kind, .int .i64 (q : Int), .int .i64 t.n, .slice A' t.text.length c'] 46)) 46 [.int .i64 t.kind, .int .i64 (q : Int), .int .i64 t.n, .slice A' t.text.length c']
        rw [show (w2.alloc (.cells #[.int .i64 t.kind, .int .i64 (q : Int), .int .i64 t.n, .slice A' t.text.length c'] 46)).heap.size = w2.heap.size + 1 by simp] at hc3
        have HSRC := Lib.hid (Ry.src (m := 1) (Ry.of_cel hc3) (by simp))
        have HSK := Lib.hid (fun (W : World) (hW : Below w.heap.size w W) => (show Calls Try.prog 13 #[.slice A n c, .int .i64 ((q : Int) + (k : Int))] W fun e w' => e = .returned (.int .i64 ((q + k + j : Nat) : Int)) ∧ W = w' by rw [HJ.out]; have := skip_ W B A n c s (HS.out.below (hW.mono hB)) hn (q + k) hqk; rwa [show ((q + k : Nat) : Int) = (q : Int) + (k : Int) by omega] at this))
        have hkz : ((q + k : Nat) : Int) ≥ 0 := by omega
        have hw3 : w.heap.size ≤ w2.heap.size + 1 + 1 := by have := HB2.out.size; omega
        generalize hml : t.text.length = ml at *
        have HML := Lib.hid hml
        clear ho hb2 HK hj hb3 hc3 htx hml hk2 HJ
        go_wp2_with ((at_builtin; refine wpList_append_any _ rfl _ _ 28 rfl w.heap.size 46 rowTok (.slice A5 m c5) m (tflat vs) rfl HR3.out.own (some ⟨w2.heap.size + 1, 0, none⟩) 1 1 [.int .i64 t.kind, .int .i64 (q : Int), .int .i64 t.n, .slice A' ml c'] rfl rfl HSRC.out (by intro u hu; simp at hu; rcases hu with rfl | rfl | rfl | rfl <;> rfl) (m + 1) _ rfl rfl (by unfold maxLen; omega) (by omega) (by simp; omega) ?_; intro A8 c8 w8 ho8 hg8 _; have HR8 := Lib.hid (HR3.out.pushed (v := ⟨⟨t, q⟩, A', c'⟩) (Nat.le_trans hB HB3.out.size) hB HTX.out hg8 (by rw [tflat_app]; show w8.ownsRow _ _ _ _ _ (tflat vs ++ [.int .i64 t.kind, .int .i64 (q : Int), .int .i64 t.n, .slice A' t.text.length c']); rw [HML.out]; exact ho8)); have HB8 := Lib.hid (HB3.out.trans (HR3.out.grew hg8 HB3.out.size)); clear ho8 hg8))
        refine (HSK.out w8 HB8.out).mono ?_
        clear HSK
        rintro e w9 ⟨rfl, rfl⟩
        go_wp2_with fail
        exact ⟨⟨q + k + j, m + 1, c8, A8, _, hjn, by omega, rfl, rfl, HR8.out, HB8.out, HN⟩, by simp [intOf]; omega⟩
    · obtain rfl : q = n := by omega
      have HALL := Lib.hid (show cut s = .ok (vs.map (·.t)) by
        have := HK.out 1 (by omega)
        rw [List.drop_eq_nil_of_le (by rw [HSL.out]; exact Nat.le_refl _), cutR_nil] at this
        rw [HT.out, this]; simp [cadd, cutE])
      clear HK
      go_wp2_with fail
      go_ret3
      rw [HALL.out]
      exact ⟨HBW.out, A5, m, c5, vs, rfl, HR.out, rfl⟩
end Go.Proofs.Ytkodajkhekocbaa.Lex
