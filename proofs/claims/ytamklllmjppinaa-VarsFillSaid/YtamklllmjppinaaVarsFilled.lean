/-
  The document's lines (layer 13): a filled text.
-/
import Derived.Test.YtamklllmjppinaaVarsFill
namespace Go.Proofs.Ytamklllmjppinaa.Vars
open Go.RowKit
open Go.Proofs.Ytamklllmjppinaa.Lex (letter digit within b_ne drop_at Owb lit_one rowB run_cutMid bs_cut add_pos')
set_option linter.unusedVariables false
set_option linter.unusedSimpArgs false

/-- A filled text, from a place on (fuel f). -/
def fillR (ns : List ByteArray) (vs : List (List B)) : Nat → List B → List B
  | 0, _ => []
  | _ + 1, [] => []
  | f + 1, c :: l =>
    if c ≠ 36#8 then filt [c] ++ fillR ns vs f l
    else if nameR l = 0 then 36#8 :: fillR ns vs f (l.drop 1)
    else filt ((valR ns vs (str (l.take (nameR l)))).getD []) ++ fillR ns vs f (l.drop (nameR l))
section
variable {ns : List ByteArray} {vs : List (List B)}
theorem fillR_nil (f : Nat) : fillR ns vs f [] = [] := by cases f <;> rfl
theorem fillR_plain {f : Nat} {c : B} {l : List B} (h : c ≠ 36#8) : fillR ns vs (f + 1) (c :: l) = filt [c] ++ fillR ns vs f l := by
  conv => lhs; unfold fillR
  rw [if_pos h]
theorem fillR_two {f : Nat} {l : List B} (h : nameR l = 0) : fillR ns vs (f + 1) (36#8 :: l) = 36#8 :: fillR ns vs f (l.drop 1) := by
  conv => lhs; unfold fillR
  rw [if_neg (by simp), if_pos h]
theorem fillR_go {f : Nat} {l : List B} (h : nameR l ≠ 0) : fillR ns vs (f + 1) (36#8 :: l) = filt ((valR ns vs (str (l.take (nameR l)))).getD []) ++ fillR ns vs f (l.drop (nameR l)) := by
  conv => lhs; unfold fillR
  rw [if_neg (by simp), if_neg h]
theorem fillR_fuel : ∀ (f g : Nat) (l : List B), l.length < f → l.length < g → fillR ns vs f l = fillR ns vs g l
  | 0, _, _, h, _ => absurd h (Nat.not_lt_zero _)
  | _, 0, _, _, h => absurd h (Nat.not_lt_zero _)
  | f + 1, g + 1, [], _, _ => rfl
  | f + 1, g + 1, c :: l, h1, h2 => by
    simp only [List.length_cons] at h1 h2
    by_cases hc : c ≠ 36#8
    · rw [fillR_plain hc, fillR_plain hc, fillR_fuel f g _ (by omega) (by omega)]
    · obtain rfl : c = 36#8 := by simpa using hc
      by_cases h0 : nameR l = 0
      · rw [fillR_two h0, fillR_two h0, fillR_fuel f g _ (by rw [List.length_drop]; omega) (by rw [List.length_drop]; omega)]
      · rw [fillR_go h0, fillR_go h0, fillR_fuel f g _ (by rw [List.length_drop]; omega) (by rw [List.length_drop]; omega)]
end
/-- P13.2: the filled text, or an error's number. -/
def fill (s : List B) (ns : List ByteArray) (vs : List (List B)) : Except Nat (List B) := match names s with
  | .error _ => .error 2
  | .ok l => if l.any (fun n => (valR ns vs (str n)).isNone) then .error 9 else if 200 < (fillR ns vs (s.length + 1) s).length then .error 3 else .ok (fillR ns vs (s.length + 1) s)
theorem fill_bad {s : List B} {ns : List ByteArray} {vs : List (List B)} {p : Nat} (h : names s = .error p) : fill s ns vs = .error 2 := by unfold fill; rw [h]
theorem fill_ok {s : List B} {ns : List ByteArray} {vs : List (List B)} {l : List (List B)} (h : names s = .ok l) : fill s ns vs = if l.any (fun n => (valR ns vs (str n)).isNone) then .error 9 else if 200 < (fillR ns vs (s.length + 1) s).length then .error 3 else .ok (fillR ns vs (s.length + 1) s) := by unfold fill; rw [h]
/-- What Fill returns. -/
def FlSays (w : World) (r : Except Nat (List (BitVec 8))) (e : Ending) (w' : World) : Prop := Below w.heap.size w w' ∧ match r with
  | .error bad => e = .returned (.tuple #[.slice none 0 0, .int .i64 (bad : Int)])
  | .ok b => ∃ A' c', e = .returned (.tuple #[.slice A' b.length c', .int .i64 0]) ∧ Owb w' w.heap.size A' b.length c' b
theorem fl_bad {w w' : World} {r : Except Nat (List (BitVec 8))} {k : Nat} (hb : Below w.heap.size w w') (hr : r = .error k) : FlSays w r (.returned (.tuple #[.slice none 0 0, .int .i64 (k : Int)])) w' := by subst hr; exact ⟨hb, rfl⟩
theorem fl_ok {w w' : World} {r : Except Nat (List (BitVec 8))} {m c : Nat} {A : Option Addr} {b : List (BitVec 8)} (hb : Below w.heap.size w w') (hr : r = .ok b) (ho : Owb w' w.heap.size A m c b) : FlSays w r (.returned (.tuple #[.slice A m c, .int .i64 0])) w' := by
  have := ho.len
  subst hr; subst this; exact ⟨hb, A, c, rfl, ho⟩
theorem val_le {ns : List ByteArray} {vs : List (List B)} {n : ByteArray} (h : ∀ v ∈ vs, v.length ≤ 1000) : ((valR ns vs n).getD []).length ≤ 1000 := by
  unfold valR
  cases findV ns n 0 with
  | none => simp
  | some i =>
    show (vs.getD i []).length ≤ 1000
    rw [List.getD_eq_getElem?_getD]
    cases hv : vs[i]? with
    | none => simp
    | some v => exact h v (List.mem_of_getElem? hv)
theorem namesR_len : ∀ (f p : Nat) (l : List B) (ns : List (List B)), l.length < f → namesR f p l = .ok ns → ns.length ≤ l.length
  | 0, _, _, _, h, _ => absurd h (Nat.not_lt_zero _)
  | f + 1, p, [], ns, _, h => by rw [namesR_nil] at h; injection h with h; subst h; simp
  | f + 1, p, c :: l, ns, h1, h => by
    simp only [List.length_cons] at h1 ⊢
    by_cases hc : c ≠ 36#8
    · rw [namesR_plain hc] at h
      have := namesR_len f _ _ _ (by omega) h
      omega
    · obtain rfl : c = 36#8 := by simpa using hc
      by_cases h0 : nameR l = 0
      · cases l with
        | nil => rw [namesR_none h0] at h; cases h
        | cons d m =>
          by_cases hd : d = 36#8
          · subst hd
            rw [namesR_two] at h
            simp only [List.length_cons] at h1 ⊢
            have := namesR_len f _ _ _ (by omega) h
            omega
          · rw [namesR_bad h0 hd] at h; cases h
      · by_cases h20 : 20 < nameR l
        · rw [namesR_long h0 h20] at h; cases h
        · rw [namesR_go h0 h20] at h
          cases e : namesR f (p + 1 + nameR l) (l.drop (nameR l)) with
          | error q => rw [e] at h; cases h
          | ok ms =>
            rw [e] at h
            simp only [nadd] at h
            injection h with h
            subst h
            have := namesR_len f _ _ _ (by rw [List.length_drop]; omega) e
            rw [List.length_drop] at this
            simp
            omega
/-- Bytes below the row's base are none of the row's. -/
theorem bp_low {w : World} {B D m c n : Nat} {A A' : Option Addr} {o b : List (BitVec 8)} (h : Bs w B A' n b) (ho : Owb w D A m c o) (hB : B ≤ D) (hD : D ≤ w.heap.size) : Bp w (fun k => k < w.heap.size ∧ (Value.slice A m c).ownBlock ≠ some k) A' n b :=
  (Bs.bp h).mono fun k hk hl => ⟨hl, fun e => by have := own_ge ho k e; omega⟩
/-- A byte laid out anew is none of the row's. -/
theorem bp_lit {w : World} {D m c : Nat} {A : Option Addr} {o : List (BitVec 8)} (ho : Owb w D A m c o) (x : BitVec 8) : Bp (w.alloc (.cells #[v8 x] 5)) (fun k => k < (w.alloc (.cells #[v8 x] 5)).heap.size ∧ (Value.slice A m c).ownBlock ≠ some k) (some ⟨w.heap.size, 0, none⟩) 1 [x] := by
  refine ⟨rfl, fun _ => ?_⟩
  obtain ⟨ad, e, _, hc⟩ := (lit_one w x).2 (by decide)
  cases e
  exact ⟨_, rfl, ⟨by simp, fun e => by have := own_lt ho _ e; simp at this⟩, hc⟩
theorem vl_get {w w' : World} {D : Nat} {r : Option (List (BitVec 8))} {e : Ending} (h : VlSays w D r e w') : w = w' ∧ ∃ (A9 : Option Addr) (l9 c9 : Nat) (ok : Bool), e = .returned (.tuple #[.slice A9 l9 c9, .bool ok]) ∧ Bs w D A9 l9 (r.getD []) := by
  obtain ⟨rfl, h⟩ := h
  refine ⟨rfl, ?_⟩
  cases r with
  | none => exact ⟨none, 0, 0, false, h, Bs.nil_⟩
  | some b => obtain ⟨A', c', rfl, hb⟩ := h; exact ⟨A', b.length, c', true, rfl, hb⟩
set_option maxRecDepth 100000 in
set_option maxHeartbeats 4000000 in
theorem fill_ (w : World) (B : Nat) (A : Option Addr) (n c : Nat) (s : List (BitVec 8)) (hs : Bs w B A n s) (hB : B ≤ w.heap.size) (hn : n ≤ 1000) (hcap : n ≤ c) (A1 : Option Addr) (n1 c1 : Nat) (ns : List ByteArray) (hns : Cv w A1 (ns.map Value.string)) (hnl : ns.length = n1) (hn1 : n1 ≤ 100000) (A2 : Option Addr) (n2 c2 : Nat) (vs : List V1) (hvs : Vals w B A2 vs) (hvl : vs.length = n2) (hn2 : n2 ≤ 100000) (hsm : ∀ v ∈ vs.map V1.s, v.length ≤ 1000) :
    Calls Try.prog 10 #[.slice A n c, .slice A1 n1 c1, .slice A2 n2 c2] w (FlSays w (fill s ns (vs.map V1.s))) := by
  have con := names_ w B A n c s hs hB (by omega) hcap
  have HVA := Lib.hid (fun (W : World) (hb : Below w.heap.size w W) (x : ByteArray) => value_ W B A1 n1 c1 ns (hns.below hb) hnl hn1 A2 n2 c2 vs (hvs.below hB hb) hvl hn2 x)
  have HS := Lib.hid hs
  have HSL := Lib.hid hs.len
  have HSM := Lib.hid (fun x => val_le (ns := ns) (n := x) hsm)
  generalize hvss : vs.map V1.s = vv at *
  clear hs hns hnl hvs hvl hsm hvss
  go_enter Try.func10, Try.ntmps10
  go_wp2_with fail
  refine con.mono ?_
  clear con
  rintro e w1 ⟨hb1, hnm⟩
  have HB1 := Lib.hid hb1
  cases hnr : names s with
  | error p =>
    rw [hnr] at hnm
    subst hnm
    have HE := Lib.hid (fill_bad (ns := ns) (vs := vv) hnr)
    clear hb1 hnr
    go_wp2_with fail
    go_ret2
    exact fl_bad HB1.out HE.out
  | ok l =>
    rw [hnr] at hnm
    obtain ⟨A', m', c', rfl, hol⟩ := hnm
    have HOL := Lib.hid hol
    have hml := hol.len
    have HML := Lib.hid hml
    have HFO := Lib.hid (fill_ok (ns := ns) (vs := vv) hnr)
    have hm' : m' ≤ 1000 := by have := namesR_len _ _ _ _ (by omega) hnr; have := HSL.out; omega
    clear hb1 hnr hol hml
    go_wp2_with fail
    go_loopw [10] (fun v10 wr => ∃ (i : Nat), i ≤ m' ∧ v10 = .int .i64 (i : Int) ∧ w1 = wr ∧ Hid (∀ x ∈ l.take i, (valR ns vv (str x)).isNone = false)) (fun v10 _ => m' - (intOf v10).toNat)
    case atStart => exact ⟨0, Nat.zero_le _, rfl, rfl, Lib.hid (by simp)⟩
    case round =>
      obtain ⟨i, hi, rfl, rfl, HK⟩ := hrel
      rcases Nat.lt_or_ge i m' with hlt | hge
      · obtain ⟨nm, hn⟩ : ∃ nm, l[i]? = some nm := ⟨_, List.getElem?_eq_getElem (by rw [HML.out]; exact hlt)⟩
        have hcz : Cv w1 A' (l.map scell) := fun hne => by
          obtain ⟨ad, e, _, hc⟩ := Ry.of_own HOL.out (by decide) hne
          exact ⟨ad, e, hc⟩
        obtain ⟨ad, rfl, a0⟩ := hcz.at_ (show (l.map scell)[i]? = some (.string (str nm)) by rw [List.getElem?_map, hn]; rfl)
        have con := HVA.out w1 HB1.out (str nm)
        have hmem := List.mem_of_getElem? hn
        have htk : l.take (i + 1) = l.take i ++ [nm] := by rw [List.take_add_one, hn]; rfl
        clear hcz hn
        cases hv : valR ns vv (str nm) with
        | none =>
          have HE := Lib.hid (show fill s ns vv = .error 9 by rw [HFO.out, if_pos (List.any_eq_true.2 ⟨nm, hmem, by rw [hv]; rfl⟩)])
          rw [hv] at con
          clear hv htk hmem HK
          generalize str nm = st at *
          go_wp2_with fail
          refine con.mono ?_
          rintro e w' ⟨rfl, rfl⟩
          go_wp2_with fail
          go_ret2
          exact fl_bad HB1.out HE.out
        | some b =>
          have HN := Lib.hid (show ∀ x ∈ l.take (i + 1), (valR ns vv (str x)).isNone = false from fun x hx => by
            rw [htk, List.mem_append] at hx
            rcases hx with hx | hx
            · exact HK.out x hx
            · rw [List.mem_singleton.1 hx, hv]; rfl)
          rw [hv] at con
          clear hv htk hmem HK
          generalize str nm = st at *
          go_wp2_with fail
          refine con.mono ?_
          rintro e w' ⟨rfl, A9, c9, rfl, _⟩
          go_wp2_with fail
          exact ⟨⟨i + 1, by omega, by rw [show ((i + 1 : Nat) : Int) = (i : Int) + 1 by omega], by trivial, HN⟩, by simp [intOf]; omega⟩
      · obtain rfl : i = m' := by omega
        have HFO2 := Lib.hid (show fill s ns vv = if 200 < (fillR ns vv (s.length + 1) s).length then .error 3 else .ok (fillR ns vv (s.length + 1) s) by
          rw [HFO.out, if_neg]
          intro h
          obtain ⟨x, hx, hxv⟩ := List.any_eq_true.1 h
          have := HK.out x (by rw [List.take_of_length_le (by rw [HML.out]; exact Nat.le_refl _)]; exact hx)
          rw [this] at hxv; cases hxv)
        obtain ⟨T, hT⟩ : ∃ T, T = fillR ns vv (s.length + 1) s := ⟨_, rfl⟩
        rw [← hT] at HFO2
        have HK0 := Lib.hid (show ∀ f, n - 0 < f → T = [] ++ fillR ns vv f (s.drop 0) from fun f hf => by rw [List.nil_append, List.drop_zero, hT]; exact fillR_fuel _ _ _ (by omega) (by have := HSL.out; omega))
        clear HFO HK hT HOL HML
        go_wp2_with fail
        go_loopw [13, 14] (fun v13 v14 wr => ∃ (q m c3 : Nat) (A3 : Option Addr) (o : List (BitVec 8)), q ≤ n + 1 ∧ m ≤ 1000 * q ∧ v14 = .int .i64 (q : Int) ∧ v13 = .slice A3 m c3 ∧ Owb wr w.heap.size A3 m c3 o ∧ Below w.heap.size w wr ∧ Hid (∀ f, n - q < f → T = o ++ fillR ns vv f (s.drop q))) (fun _ v14 _ => n + 1 - (intOf v14).toNat)
        case atStart => exact ⟨0, 0, 0, none, [], Nat.zero_le _, Nat.zero_le _, rfl, rfl, Lex.Owb.nil_ _ _, HB1.out, HK0⟩
        case round =>
          clear HK0
          obtain ⟨q, m, c3, A3, o, hq, hmq, rfl, rfl, ho, hb, HK⟩ := hrel
          obtain ⟨W0, rfl⟩ : ∃ W0, W0 = wr := ⟨_, rfl⟩
          have HO := Lib.hid ho
          have HBW := Lib.hid hb
          have hws := hb.size
          clear ho hb
          rcases Nat.lt_or_ge q n with hlt | hge
          · obtain ⟨x, hx⟩ : ∃ x, s[q]? = some x := ⟨_, List.getElem?_eq_getElem (by rw [HSL.out]; exact hlt)⟩
            have HSW := Lib.hid (HS.out.below (HBW.out.mono hB))
            obtain ⟨bd, rfl, _, b0⟩ := HSW.out.at_ hlt
            rw [List.getD_eq_getElem?_getD, hx] at b0
            change _ = some (v8 x) at b0
            have HX := Lib.hid hx
            clear hx
            by_cases h36 : x = 36#8
            · have con := name_ W0 B (some bd) n c s HSW.out (by omega) (q + 1) (by omega)
              rw [show ((q + 1 : Nat) : Int) = (q : Int) + 1 by omega] at con
              have hlen : (s.drop (q + 1)).length = n - (q + 1) := by rw [List.length_drop, HSL.out]
              have hnl := nameR_le (s.drop (q + 1))
              rw [hlen] at hnl
              have HD := Lib.hid (show s.drop q = 36#8 :: s.drop (q + 1) by rw [← h36]; exact drop_at HX.out)
              obtain ⟨k, hk⟩ : ∃ k, k = nameR (s.drop (q + 1)) := ⟨_, rfl⟩
              have HKK := Lib.hid hk
              rw [← hk] at con hnl
              subst h36
              clear hk hlen
              by_cases hk0 : k = 0
              · subst hk0
                have HN := Lib.hid (show ∀ f, n - (q + 2) < f → T = (o ++ [36#8]) ++ fillR ns vv f (s.drop (q + 2)) from fun f hf => by
                  have := HK.out (f + (n - q) + 1) (by omega)
                  rw [HD.out, fillR_two HKK.out.symm, List.drop_drop] at this
                  rw [this, fillR_fuel (f + (n - q)) f _ (by rw [List.length_drop, HSL.out]; omega) (by rw [List.length_drop, HSL.out]; omega)]
                  simp)
                have hbA : Below W0.heap.size W0 (W0.alloc (.cells #[v8 36#8] 5)) := (Below.refl _ _).alloc (Nat.le_refl _) _
                have HOA := Lib.hid (HO.out.below hbA)
                have HBA := Lib.hid (HBW.out.trans (hbA.mono hws))
                have HSA := Lib.hid (lit_one W0 36#8)
                have hBA := HBA.out.size
                clear hbA HK HKK
                go_wp2_with fail
                refine con.mono ?_
                rintro e w' ⟨rfl, rfl⟩
                go_wp2_with ((at_builtin; refine wpList_append_bs _ rfl _ _ 22 rfl w.heap.size 5 rowB (.slice A3 m c3) m o rfl HOA.out (W0.heap.size + 1) (some ⟨W0.heap.size, 0, none⟩) 1 1 [36#8] rfl HSA.out (m + 1) (o ++ [36#8]) rfl rfl (by omega) hBA ?_; intro A4 c4 w4 o4 g4 _; have HO4 := Lib.hid (show Owb w4 w.heap.size A4 (m + 1) c4 (o ++ [36#8]) from o4); have HB4 := Lib.hid (HBA.out.trans (HOA.out.grew g4 hBA)); clear o4 g4))
                exact ⟨⟨q + 2, m + 1, c4, A4, _, by omega, by omega, by rw [show ((q + 2 : Nat) : Int) = (q : Int) + 1 + 1 by omega], rfl, HO4.out, HB4.out, HN⟩, by simp [intOf]; omega⟩
              · have ek0 : ((k : Int) == 0) = false := by simp; omega
                obtain ⟨nm, hnm⟩ : ∃ nm, nm = (s.drop (q + 1)).take k := ⟨_, rfl⟩
                obtain ⟨st, hst⟩ : ∃ st, st = str nm := ⟨_, rfl⟩
                have HN := Lib.hid (show ∀ f, n - (q + 1 + k) < f → T = (o ++ filt ((valR ns vv st).getD [])) ++ fillR ns vv f (s.drop (q + 1 + k)) from fun f hf => by
                  have := HK.out (f + (n - q) + 1) (by omega)
                  rw [HD.out, fillR_go (by rw [← HKK.out]; exact hk0), ← HKK.out, List.drop_drop, ← hnm, ← hst] at this
                  rw [this, fillR_fuel (f + (n - q)) f _ (by rw [List.length_drop, HSL.out]; omega) (by rw [List.length_drop, HSL.out]; omega), List.append_assoc])
                obtain ⟨Bc, d, dc, hcut⟩ : ∃ (Bc : Option Addr) (d dc : Nat), (∀ V, (Instr.sliceAt 22 (.slice (some bd) n c) (some (.int .i64 ((q : Int) + 1))) (some (.int .i64 ((q : Int) + 1 + (k : Int)))) none).run Try.prog V = .ok (.slice Bc d dc) V) ∧ (∀ V : World, Bs V B (some bd) n s → (convert 22 9 (.slice Bc d dc)).run Try.prog V = .ok (.string st) V) :=
                  ⟨_, _, _, fun V => by rw [show (q : Int) + 1 + (k : Int) = ((q + 1 + k : Nat) : Int) by omega, show (q : Int) + 1 = ((q + 1 : Nat) : Int) by omega]; exact run_cutMid (size := 1) V Try.underlying22 (by kernel_rfl) (some bd) n c (q + 1) (q + 1 + k) .i64 .i64 (by omega) (by omega), fun V hV => by
                    have hb := bs_cut hV (show q + 1 ≤ q + 1 + k by omega) (by omega) hcap
                    rw [List.drop_take, show q + 1 + k - (q + 1) = k by omega, ← hnm] at hb
                    have := (Bs.bp hb).string (c - (q + 1)) (P := Try.prog) (src := 22) (dst := 9) Try.underlying22 Try.underlying5 Try.underlying9
                    rw [show q + 1 + k - (q + 1) = k by omega, hst]
                    exact this⟩
                have HCUT := Lib.hid hcut
                have hcv := hcut.2 W0 HSW.out
                have hvl := HSM.out st
                have hval := HVA.out W0 HBW.out st
                have HLEN := Lib.hid hvl
                clear hcut hnm HK HKK hst hvl
                go_wp2_with fail
                refine con.mono ?_
                clear con
                rintro e w' ⟨rfl, rfl⟩
                go_wp2_with ((refine wpList_slice rfl 22 (.tmp 73) (some (.tmp 74)) (some (.tmp 77)) none rfl (.slice Bc d dc) ?_ ?_; exact HCUT.out.1 _))
                refine hval.mono ?_
                clear hval
                intro e w' hv
                obtain ⟨rfl, A9, l9, c9, ok, rfl, hbs⟩ := vl_get hv
                have hl9 := hbs.1
                obtain ⟨b, hbb⟩ : ∃ b, b = (valR ns vv st).getD [] := ⟨_, rfl⟩
                rw [← hbb] at hbs HN HLEN hl9
                have hl1 := HLEN.out
                have con := add_ W0 w.heap.size A3 m c3 o HO.out hws (by omega) A9 l9 c9 b (bp_low hbs HO.out hB hws) (by omega)
                have hfl := filt_le b
                have hol := HO.out.len
                clear hv hbs hbb hcv
                go_wp2_with fail
                refine con.mono ?_
                clear con
                rintro e w4 ⟨A4, c4, rfl, ho4, hb4⟩
                have HO4 := Lib.hid ho4
                have HB4 := Lib.hid (HBW.out.trans hb4)
                have hl4 : (o ++ filt b).length ≤ 1000 * (q + 1 + k) := by rw [List.length_append]; omega
                clear ho4 hb4
                generalize (o ++ filt b).length = m4 at *
                go_wp2_with fail
                exact ⟨⟨q + 1 + k, m4, c4, A4, _, by omega, hl4, by rw [show ((q + 1 + k : Nat) : Int) = (q : Int) + 1 + (k : Int) by omega], rfl, HO4.out, HB4.out, HN⟩, by simp [intOf]; omega⟩
            · have HN := Lib.hid (show ∀ f, n - (q + 1) < f → T = (o ++ filt [x]) ++ fillR ns vv f (s.drop (q + 1)) from fun f hf => by
                have := HK.out (f + (n - q) + 1) (by omega)
                rw [drop_at HX.out, fillR_plain h36] at this
                rw [this, fillR_fuel (f + (n - q)) f _ (by rw [List.length_drop, HSL.out]; omega) (by rw [List.length_drop, HSL.out]; omega), List.append_assoc])
              have e36 : ((x.toNat : Int) == 36) = false := b_ne (k := 36) (by decide) h36
              have n36 : ((x.toNat : Int) != 36) = true := by unfold bne; rw [e36]; rfl
              have hbA : Below W0.heap.size W0 (W0.alloc (.cells #[v8 x] 5)) := (Below.refl _ _).alloc (Nat.le_refl _) _
              have HOA := Lib.hid (HO.out.below hbA)
              have HBA := Lib.hid (HBW.out.trans (hbA.mono hws))
              have con := add_ (W0.alloc (.cells #[v8 x] 5)) w.heap.size A3 m c3 o HOA.out HBA.out.size (by omega) (some ⟨W0.heap.size, 0, none⟩) 1 1 [x] (bp_lit HO.out x) (by decide)
              have hfl := filt_le [x]
              have hol := HO.out.len
              clear hbA HK h36
              go_wp2_with fail
              refine con.mono ?_
              clear con
              rintro e w4 ⟨A4, c4, rfl, ho4, hb4⟩
              have HO4 := Lib.hid ho4
              have HB4 := Lib.hid (HBA.out.trans hb4)
              have hl4 : (o ++ filt [x]).length ≤ 1000 * (q + 1) := by rw [List.length_append]; simp at hfl; omega
              clear ho4 hb4
              generalize (o ++ filt [x]).length = m4 at *
              go_wp2_with fail
              exact ⟨⟨q + 1, m4, c4, A4, _, by omega, hl4, by rw [show ((q + 1 : Nat) : Int) = (q : Int) + 1 by omega], rfl, HO4.out, HB4.out, HN⟩, by simp [intOf]; omega⟩
          · have hTo := Lib.hid (show T = o by
              have := HK.out 1 (by omega)
              rw [List.drop_eq_nil_of_le (by rw [HSL.out]; exact hge), fillR_nil, List.append_nil] at this
              exact this)
            have hol := HO.out.len
            by_cases h200 : 200 < m
            · have HE := Lib.hid (show fill s ns vv = .error 3 by rw [HFO2.out, hTo.out, if_pos (by omega)])
              go_wp2_with fail
              go_ret2
              exact fl_bad HBW.out HE.out
            · have HE := Lib.hid (show fill s ns vv = .ok o by rw [HFO2.out, hTo.out, if_neg (by omega)])
              go_wp2_with fail
              go_ret2
              exact fl_ok HBW.out HE.out HO.out
end Go.Proofs.Ytamklllmjppinaa.Vars
