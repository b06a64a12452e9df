/-
  The program's cutter (layer 11): Cut.
-/
import Derived.Test.YtadfoilbcipdjaaLexStep
import Derived.Test.YtadfoilbcipdjaaLexAs
namespace Go.Proofs.Ytadfoilbcipdjaa.Lex
open Go.RowKit
set_option linter.unusedVariables false
set_option linter.unusedSimpArgs false

theorem own_cap {w : World} {base n c e size : Nat} {A : Option Addr} {us : List Value} (h : w.ownsRow base e size (.slice A n c) n us) : n ≤ c ∧ c ≤ maxLen := by
  rcases h.2 with ⟨hv, rfl⟩ | ⟨g, cap, cur, hv, _, _, h1, h2, _⟩
  · simp only [Value.slice.injEq] at hv
    obtain ⟨_, _, rfl⟩ := hv
    exact ⟨Nat.le_refl _, by unfold maxLen; omega⟩
  · simp only [Value.slice.injEq] at hv
    obtain ⟨_, _, rfl⟩ := hv
    exact ⟨h1, h2⟩
theorem byte_at (w : World) (B : Nat) (A : Option Addr) (n c : Nat) (s : List (BitVec 8)) (hs : Bs w B A n s) (i : Nat) (hi : i ≤ n) (hn : n ≤ 100000) (b : BitVec 8) (hb : (s ++ [10#8])[i]? = some b) :
    Calls Try.prog 11 #[.slice A n c, .int .i64 (i : Int)] w fun e w' => e = .returned (v8 b) ∧ w' = w := by
  have hl := hs.len
  rcases Nat.lt_or_ge i n with h | h
  · obtain ⟨ad, rfl, _, k0⟩ := hs.at_ h
    rw [List.getElem?_append_left (by omega)] at hb
    rw [List.getD_eq_getElem?_getD, hb] at k0
    change _ = some (v8 b) at k0
    have e1 : ((i : Int) == (n : Int)) = false := by simp; omega
    clear hb hs hl
    go_enter Try.func11, Try.ntmps11
    go_wp2_with fail
    go_ret
    exact ⟨rfl, rfl⟩
  · obtain rfl : i = n := by omega
    rw [List.getElem?_append_right (by omega), show i - s.length = 0 by omega] at hb
    obtain rfl : b = 10#8 := by simpa using hb.symm
    clear hb hs hl
    go_enter Try.func11, Try.ntmps11
    go_wp2_with fail
    go_ret
    exact ⟨rfl, rfl⟩
theorem mc_ptk {w : World} {D K g : Nat} {E : Value} {p z : Int} {us xs : List Tv} (h : Mc w D K g E p z us xs) {A : Option Addr} {c : Nat} (ho : w.ownsRow D 53 4 (.slice A (us.length + xs.length) c) (us.length + xs.length) (tflat (us ++ xs))) (B : Nat) : Ptk w B A (us ++ xs) :=
  ⟨cr_ry (Ry.of_own ho (by decide)), fun v hv => by
    rcases List.mem_append.1 hv with hv | hv
    · exact .inr (h.old v hv).by_
    · exact .inr (By.of_own (h.new v hv))⟩
theorem Cf.fn {w : World} {D g P : Nat} {E : Value} {p z : Int} {st : St} {us : List Tok} {v : Value} (h : Cf w D g E P p z st us v) : ∃ k cap, v = .func (.func k) #[] cap := by
  obtain ⟨K, vs, xs, _, _, _, hs, _⟩ := h
  cases st with
  | btw => exact ⟨_, _, hs⟩
  | com => exact ⟨_, _, hs⟩
  | word q t => obtain ⟨⟨_, _, _, _, _, _, e, _⟩, _⟩ := hs; exact ⟨_, _, e⟩
  | num q d n => obtain ⟨⟨_, _, _, _, e, _⟩, _⟩ := hs; exact ⟨_, _, e⟩
  | txt q t => exact ⟨_, _, hs.1⟩
  | esc q t => exact ⟨_, _, hs.1⟩
theorem Wv.fn {w : World} {v : Value} (h : Wv w v) : ∃ a b c, v = f3 63 a b c := by
  obtain ⟨_, _, _, _, _, _, e, _⟩ := h; exact ⟨_, _, _, e⟩
/-- A write to the cutter leaves the state. -/
theorem Sv.cut {w : World} {D P g i : Nat} {cs : List Value} {st : St} {v : Value} (h : Sv w D P st v) (hc : Cel w g 47 cs) (u : Value) (hch : Chl D w (w.setCell ⟨g, i, none⟩ u)) : Sv (w.setCell ⟨g, i, none⟩ u) D P st v := by
  cases st with
  | btw => exact h
  | com => exact h
  | word q t => exact ⟨h.1.chl hch, h.2⟩
  | num q d n =>
    obtain ⟨⟨p2, p3, p4, dg, e, h2, h3, h4, h5, h6⟩, h7⟩ := h
    exact ⟨⟨p2, p3, p4, dg, e, Cel.chl h2 hch (by simp [Lob]), Cel.chl h3 hch (by simp [Lob]), Cel.chl h4 hch (by simp [Lob]), h5, Cel.far h6 (Cel.ne h6 hc (by decide)) _⟩, h7⟩
  | txt q t => exact h
  | esc q t => exact h
theorem Cf.go_on {w : World} {D g P : Nat} {E : Value} {p z : Int} {st : St} {us : List Tok} {v : Value} (h : Cf w D g E (P + 1) p z st us v) :
    (w.cell? ⟨g, 2, none⟩ = some (.int .i64 p) ∧ w.frozen? ⟨g, 2, none⟩ = false) ∧ Cf (w.setCell ⟨g, 2, none⟩ (.int .i64 ((P : Int) + 1))) D g E (P + 1) ((P : Int) + 1) z st us v ∧ Chl D w (w.setCell ⟨g, 2, none⟩ (.int .i64 ((P : Int) + 1))) ∧ (w.setCell ⟨g, 2, none⟩ (.int .i64 ((P : Int) + 1))).cell? ⟨g, 2, none⟩ = some (.int .i64 ((P : Int) + 1)) := by
  obtain ⟨K, vs, xs, h1, h2, hm, hs, hn⟩ := h
  obtain ⟨A, c, hc, ho⟩ := hm.mem
  obtain ⟨hm2, hch⟩ := hm.go_on ((P : Int) + 1)
  obtain ⟨A2, c2, hc2, _⟩ := hm2.mem
  exact ⟨⟨Cel.cell hc 2, Cel.free hc 2⟩, ⟨K, vs, xs, h1, h2, hm2, hs.cut hc _ hch, hn⟩, hch, Cel.cell hc2 2⟩
/-- What Cut returns. -/
def PcSays (w : World) (r : Except (Nat × Nat) (List Tok)) (e : Ending) (w' : World) : Prop := Below w.heap.size w w' ∧ match r with
  | .error (p, bad) => bad ≠ 0 ∧ e = .returned (.tuple #[.slice none 0 0, .int .i64 (p : Int), .int .i64 (bad : Int)])
  | .ok ts => ∃ A' c' vs, e = .returned (.tuple #[.slice A' ts.length c', .int .i64 0, .int .i64 0]) ∧ (∀ B, Ptk w' B A' vs) ∧ vs.map (·.t) = ts ∧ ts.length ≤ min 3000 c'
set_option maxRecDepth 100000 in
set_option maxHeartbeats 4000000 in
theorem pcut (w : World) (B : Nat) (A : Option Addr) (n c : Nat) (s : List (BitVec 8)) (hs : Bs w B A n s) (hB : B ≤ w.heap.size) (hn : n ≤ 100000) :
    Calls Try.prog 6 #[.slice A n c] w (PcSays w (cut s)) := by
  have hsl := hs.len
  by_cases h2 : 2000 < n
  · have HT := Lib.hid (cut_long (s := s) (by omega))
    clear hs hsl
    go_enter Try.func6, Try.ntmps6
    go_wp2_with fail
    go_ret3
    rw [HT.out]
    exact ⟨Below.refl _ _, by decide, rfl⟩
  have HS := Lib.hid hs
  have HSL := Lib.hid hsl
  have HT := Lib.hid (cut_run s (by omega))
  have con := entrances_ w
  clear hs hsl
  go_enter Try.func6, Try.ntmps6
  go_wp2_with fail
  refine con.mono ?_
  clear con
  rintro e w1 ⟨E, rfl, hE, hb⟩
  obtain ⟨eb, a0, a1, a2, rfl, e0, e1, e2, e3⟩ := hE
  have hc := Cel.new w1 47 [.slice (some ⟨eb, 0, none⟩) 5 5, .slice none 0 0, .int .i64 0, .int .i64 0]
  have hb1 : Below w1.heap.size w1 (w1.alloc (.cells #[.slice (some ⟨eb, 0, none⟩) 5 5, .slice none 0 0, .int .i64 0, .int .i64 0] 47)) := (Below.refl _ _).alloc (Nat.le_refl _) _
  have HE := Lib.hid (show En (w1.alloc (.cells #[.slice (some ⟨eb, 0, none⟩) 5 5, .slice none 0 0, .int .i64 0, .int .i64 0] 47)) (.slice (some ⟨eb, 0, none⟩) 5 5) from ⟨eb, a0, a1, a2, rfl, Cel.alloc e0 _, Cel.alloc e1 _, Cel.alloc e2 _, Cel.alloc e3 _⟩)
  have HC := Lib.hid (show Cf (w1.alloc (.cells #[.slice (some ⟨eb, 0, none⟩) 5 5, .slice none 0 0, .int .i64 0, .int .i64 0] 47)) w.heap.size w1.heap.size (.slice (some ⟨eb, 0, none⟩) 5 5) 0 0 0 .btw [] (fv 10) from ⟨w.heap.size, [], [], rfl, rfl, ⟨Nat.le_refl _, Nat.le_trans hb.size hb1.size, hb.size, ⟨none, 0, hc, World.ownsRow_nil _ _ _ _⟩, by simp, by simp⟩, rfl, by simp⟩)
  have HB := Lib.hid (hb.trans (hb1.mono hb.size))
  clear e0 e1 e2 e3 hc hb1 hb
  go_wp2_with fail
  generalize w1.heap.size = g at HC ⊢
  have eq1 := fun (W : World) (fn : Fn) (a b : Array Value) => run_eql_fn_nil (P := Try.prog) W Try.underlying49 fn a b
  have eq2 := fun (W : World) => run_eql_nil_nil_fn (P := Try.prog) W Try.underlying49
  go_loopw [6] (fun v6 wr => ∃ (q : Nat) (st : St) (us : List Tok) (z : Int), q ≤ n + 1 ∧ Cf wr w.heap.size g (.slice (some ⟨eb, 0, none⟩) 5 5) q (q : Int) z st us v6 ∧ En wr (.slice (some ⟨eb, 0, none⟩) 5 5) ∧ Below w.heap.size w wr ∧ Hid (run .btw [] 0 (s ++ [10#8]) = run st us q ((s ++ [10#8]).drop q))) (fun _ wr => n + 2 - (intOf ((wr.cell? ⟨g, 2, none⟩).getD undef)).toNat)
  case atStart => exact ⟨0, .btw, [], 0, Nat.zero_le _, HC.out, HE.out, HB.out, Lib.hid (by rw [List.drop_zero])⟩
  case round =>
    clear HC HE HB
    obtain ⟨q, st, us, z, hq, hcf, hE, hb, HK⟩ := hrel
    obtain ⟨W0, rfl⟩ : ∃ W0, W0 = wr := ⟨_, rfl⟩
    have HB := Lib.hid hb
    have HE := Lib.hid hE
    have HCF := Lib.hid hcf
    obtain ⟨K, vs, xs, hvs, hxs, hm, hsv, hn⟩ := hcf
    obtain ⟨Ar, cr, hc, ho⟩ := hm.mem
    have k1 := Cel.cell hc 1
    have k2 := Cel.cell hc 2
    clear hb hE hsv
    rcases Nat.lt_or_ge n q with hlt | hge
    · obtain rfl : q = n + 1 := by omega
      have hlt : decide ((n : Int) + 1 ≤ (n : Int)) = false := by simp; omega
      have HEND := Lib.hid (show PcSays w (cut s) (.returned (.tuple #[.slice Ar (vs.length + xs.length) cr, .int .i64 0, .int .i64 0])) W0 from ⟨HB.out, by
        rw [HT.out, HK.out, List.drop_eq_nil_of_le (by rw [List.length_append, HSL.out]; exact Nat.le_refl _)]
        have hts : (vs ++ xs).map (·.t) = us ++ st.cur := by rw [List.map_append, hvs, hxs]
        have hlen : (us ++ st.cur).length = vs.length + xs.length := by rw [← hts]; simp
        have hcap := own_cap ho
        exact ⟨Ar, cr, vs ++ xs, by rw [hlen], mc_ptk hm ho, hts, by omega⟩⟩)
      clear hvs hxs hm ho hn
      go_wp2_with fail
      go_ret3
      exact HEND.out
    · obtain ⟨b, hb⟩ : ∃ b, (s ++ [10#8])[q]? = some b := ⟨_, List.getElem?_eq_getElem (by rw [List.length_append, HSL.out]; simp; omega)⟩
      have con := byte_at W0 B A n c s (HS.out.below (HB.out.mono hB)) q hge (by omega) b hb
      obtain ⟨k, cap, rfl, hent, hstep⟩ := step_ HCF.out rfl HE.out b (by omega)
      have hle : decide ((q : Int) ≤ (n : Int)) = true := by simp; omega
      have HQ := Lib.hid hb
      clear hb
      go_wp2_with fail
      refine con.mono ?_
      clear con
      rintro e w2 ⟨rfl, rfl⟩
      go_wp2_with fail
      refine hstep.mono ?_
      have HK0 := Lib.hid k2
      clear hstep k1 k2
      rintro e w3 ⟨⟨v, rfl⟩, hch, hst⟩
      cases hr : step st us q b with
      | error e =>
        rw [hr] at hst
        obtain ⟨hv, K', vs', xs', hm'⟩ := hst
        cases hv
        obtain ⟨A', c', hc', _⟩ := hm'.mem
        have k3 := Cel.cell hc' 3
        have HEND := Lib.hid (fun nq : Nat => (show PcSays w (cut s) (.returned (.tuple #[.slice none 0 0, .int .i64 (e : Int), .int .i64 2])) (w3.drewN nq) from ⟨lbelow_drewN (HB.out.trans (hch.below HB.out.size)) nq, by
          rw [HT.out, HK.out, drop_at HQ.out, run_bad hr]
          exact ⟨by decide, rfl⟩⟩))
        clear hm' hc' hch hr
        go_wp2_with fail
        go_quiet (fail)
        go_wp2_with fail
        go_ret3
        exact HEND.out nq
      | ok r =>
        obtain ⟨st', us'⟩ := r
        rw [hr] at hst
        obtain ⟨v', z', hv, hcf'⟩ := hst
        cases hv
        obtain ⟨k', cap', rfl⟩ := hcf'.fn
        have HK2 := Lib.hid (HK.out.trans (by rw [drop_at HQ.out, run_ok hr]))
        have HE2 := HE.out.chl hch
        have HB2 := HB.out.trans (hch.below HB.out.size)
        obtain ⟨⟨k4, f4⟩, hcf2, hch2, k5⟩ := hcf'.go_on

        have HE3 := Lib.hid (HE2.chl hch2)
        have HB3 := Lib.hid (HB2.trans (hch2.below HB2.size))
        have HCF3 := Lib.hid hcf2
        have HK5 := Lib.hid k5
        clear hcf' hcf2 hch hch2 hr HK HE2 HB2 k5
        go_wp2_with fail
        exact ⟨⟨q + 1, st', us', z', by omega, by rw [show ((q + 1 : Nat) : Int) = (q : Int) + 1 by omega]; exact HCF3.out, HE3.out, HB3.out, HK2⟩, by rw [HK5.out, HK0.out]; simp [intOf]; omega⟩
end Go.Proofs.Ytadfoilbcipdjaa.Lex
