/-
  The program's Has (layer 9): does an instruction take a byte?
-/
import Derived.Test.YtjpbndpfbdfhjaaMNfaAs
namespace Go.Proofs.Ytjpbndpfbdfhjaa.Nfa
open Go.RowKit Go.Proofs.Ytjpbndpfbdfhjaa.Ord
open Go.Proofs.Ytjpbndpfbdfhjaa.Reg (Sp sflat sflat_length)
set_option linter.unusedVariables false
set_option linter.unusedSimpArgs false

set_option maxRecDepth 100000 in
set_option maxHeartbeats 1000000 in
theorem isin_call (w : World) (l : List Sp) (A : Option Addr) (cap : Nat) (c : BitVec 8) (h : Cz w A (sflat l)) (hn : l.length ≤ 100000) :
    Calls Try.prog 51 #[.slice A l.length cap, v8 c] w fun e w' => e = .returned (.bool (l.any (inSp c))) ∧ Below w.heap.size w w' := by
  have H := Lib.hid h
  obtain ⟨n, hll⟩ : ∃ n, n = l.length := ⟨_, rfl⟩
  rw [← hll] at hn ⊢
  have HL := Lib.hid hll
  clear h hll
  go_enter Try.func51, Try.ntmps51
  go_wp2_with fail
  go_loopw [9] (fun v9 wr => ∃ (i : Nat), i ≤ n ∧ v9 = .int .i64 (i : Int) ∧ (l.take i).any (inSp c) = false ∧ Below w.heap.size w wr) (fun v9 _ => n - (intOf v9).toNat)
  case atStart => exact ⟨0, Nat.zero_le _, rfl, by simp, Below.refl _ _⟩
  case round =>
    obtain ⟨i, hi, rfl, hr, hb⟩ := hrel
    obtain ⟨W0, rfl⟩ : ∃ W0, W0 = wr := ⟨_, rfl⟩
    have HR := Lib.hid hr
    have HB := Lib.hid hb
    have hbs := hb.size
    clear hr hb
    rcases Nat.lt_or_ge i n with hlt | hge
    · obtain ⟨s, hs⟩ : ∃ s, l[i]? = some s := ⟨_, List.getElem?_eq_getElem (by rw [← HL.out]; exact hlt)⟩
      obtain ⟨ad, rfl, k0, k1⟩ := cz_two (H.out.below HB.out) hs
      have HN := Lib.hid (show (l.take (i + 1)).any (inSp c) = (decide (s.a.toNat ≤ c.toNat) && decide (c.toNat ≤ s.b.toNat)) by rw [any_take hs, HR.out]; rfl)
      have HALL := Lib.hid (show inSp c s = true → l.any (inSp c) = true from fun e => List.any_eq_true.2 ⟨s, List.mem_of_getElem? hs, e⟩)
      clear hs
      have hc1 : Cel (W0.alloc (.cells #[v8 s.a, v8 s.b] 71)) W0.heap.size 71 [v8 s.a, v8 s.b] := Cel.new W0 _ _
      have x0 := hc1.cell 0
      have x1 := hc1.cell 1
      have HB2 := Lib.hid (show Below w.heap.size w (W0.alloc (.cells #[v8 s.a, v8 s.b] 71)) from HB.out.alloc hbs _)
      clear hc1
      by_cases h1 : s.a.toNat ≤ c.toNat
      · by_cases h2 : c.toNat ≤ s.b.toNat
        · have HT := Lib.hid (HALL.out (by unfold inSp; rw [decide_eq_true h1, decide_eq_true h2]; rfl))
          go_wp2_with fail
          go_ret
          rw [HT.out]
          exact ⟨rfl, HB2.out⟩
        · have HN2 := Lib.hid (show (l.take (i + 1)).any (inSp c) = false by rw [HN.out, decide_eq_true h1, decide_eq_false h2]; rfl)
          go_wp2_with fail
          exact ⟨⟨i + 1, by omega, by rw [show ((i + 1 : Nat) : Int) = (i : Int) + 1 by omega], HN2.out, HB2.out⟩, by simp [intOf]; omega⟩
      · have HN2 := Lib.hid (show (l.take (i + 1)).any (inSp c) = false by rw [HN.out, decide_eq_false h1]; rfl)
        go_wp2_with fail
        exact ⟨⟨i + 1, by omega, by rw [show ((i + 1 : Nat) : Int) = (i : Int) + 1 by omega], HN2.out, HB2.out⟩, by simp [intOf]; omega⟩
    · obtain rfl : i = n := by omega
      have HR2 := Lib.hid (show l.any (inSp c) = false by have := HR.out; rwa [List.take_of_length_le (by rw [← HL.out]; exact Nat.le_refl _)] at this)
      clear hge
      go_wp2_with fail
      go_ret
      rw [HR2.out]
      exact ⟨rfl, HB.out⟩

/-- What Has' region reads. -/
def SH (b : Nat) (ng : Bool) (v : Value) (V : World) : Prop := V.cell? ⟨b, 3, none⟩ = some (.bool ng) ∧ V.cell? ⟨b, 4, none⟩ = some v
theorem SH.below {b : Nat} {ng : Bool} {v : Value} {V V' : World} (h : SH b ng v V) (hb : Below V.heap.size V V') : SH b ng v V' := ⟨(hb.cell (cell_lt h.1)).trans h.1, (hb.cell (cell_lt h.2)).trans h.2⟩
set_option maxRecDepth 100000 in
set_option maxHeartbeats 1000000 in
theorem phas (w : World) (x : In) (A : Option Addr) (cap : Nat) (c : BitVec 8) (h : Cz w A (sflat x.sp)) (hn : x.sp.length ≤ 100000) :
    Calls Try.prog 43 #[.agg #[.int .i64 x.kind, .int .i64 x.x, .int .i64 x.y, .bool x.neg, .slice A x.sp.length cap], v8 c] w fun e w' => e = .returned (.bool (has x c)) ∧ Below w.heap.size w w' := by
  generalize hW : w.alloc (.cells #[.int .i64 x.kind, .int .i64 x.x, .int .i64 x.y, .bool x.neg, .slice A x.sp.length cap] 39) = W
  have hc : Cel W w.heap.size 39 [.int .i64 x.kind, .int .i64 x.x, .int .i64 x.y, .bool x.neg, .slice A x.sp.length cap] := by rw [← hW]; exact Cel.new w _ _
  have hb : Below w.heap.size w W := by rw [← hW]; exact (Below.refl _ _).alloc (Nat.le_refl _) _
  have con := isin_call W.drew x.sp A cap c (h.below hb.drew) hn
  have HX := Lib.hid (show has x c = ((x.sp.any (inSp c)) != x.neg) from rfl)
  have HC := Lib.hid hc
  have HB := Lib.hid hb
  have c3 := hc.cell 3
  have c4 := hc.cell 4
  generalize x.sp.any (inSp c) = r at *
  generalize x.neg = ng at *
  have hH : SH w.heap.size ng (.slice A x.sp.length cap) W.drew := ⟨c3, c4⟩
  clear h hc hb hn c3 c4
  go_enter Try.func43, Try.ntmps43
  go_wp2_with fail
  clear hW
  refine wp_region_N [7] (SH w.heap.size ng (.slice A x.sp.length cap)) (by kernel_rfl) ?_
  refine wpAnyN_take (i := 0) (v := .pointer (some ⟨w.heap.size, 4, none⟩)) [7] (by kernel_rfl) rfl (by kernel_rfl) (by kernel_rfl) (by kernel_rfl) (fun _ _ _ h => h) (Or.inl ⟨by rfl, ?_⟩) hH ?_
  · intro V hV; go_simp
  try simp only [Act.put, List.setIfInBounds_toArray, List.set_cons_zero, List.set_cons_succ, List.getElem_toArray, List.getElem_cons_succ, List.getElem_cons_zero]
  refine wpAnyN_take (i := 1) (v := .slice A x.sp.length cap) [7] (by kernel_rfl) rfl (by kernel_rfl) (by kernel_rfl) (by kernel_rfl) (fun _ _ _ h => h) (Or.inl ⟨by rfl, ?_⟩) hH ?_
  · intro V hV; obtain ⟨k3, k4⟩ := hV; go_simp
  try simp only [Act.put, List.setIfInBounds_toArray, List.set_cons_zero, List.set_cons_succ, List.getElem_toArray, List.getElem_cons_succ, List.getElem_cons_zero]
  refine wpAnyN_take (i := 2) (v := v8 c) [7] (by kernel_rfl) rfl (by kernel_rfl) (by kernel_rfl) (by kernel_rfl) (fun _ _ _ h => h) (Or.inl ⟨by rfl, ?_⟩) hH ?_
  · intro V hV; go_simp
  try simp only [Act.put, List.setIfInBounds_toArray, List.set_cons_zero, List.set_cons_succ, List.getElem_toArray, List.getElem_cons_succ, List.getElem_cons_zero]
  refine wpAnyN_take (i := 4) (v := .pointer (some ⟨w.heap.size, 3, none⟩)) [7] (by kernel_rfl) rfl (by kernel_rfl) (by kernel_rfl) (by kernel_rfl) (fun _ _ _ h => h) (Or.inl ⟨by rfl, ?_⟩) hH ?_
  · intro V hV; go_simp
  try simp only [Act.put, List.setIfInBounds_toArray, List.set_cons_zero, List.set_cons_succ, List.getElem_toArray, List.getElem_cons_succ, List.getElem_cons_zero]
  refine wpAnyN_take (i := 5) (v := .bool ng) [7] (by kernel_rfl) rfl (by kernel_rfl) (by kernel_rfl) (by kernel_rfl) (fun _ _ _ h => h) (Or.inl ⟨by rfl, ?_⟩) hH ?_
  · intro V hV; obtain ⟨k3, k4⟩ := hV; go_simp
  try simp only [Act.put, List.setIfInBounds_toArray, List.set_cons_zero, List.set_cons_succ, List.getElem_toArray, List.getElem_cons_succ, List.getElem_cons_zero]
  refine wpAnyN_one (i := 3) (by kernel_rfl) rfl (fun K hK => ?_)
  go_simp
  refine con.mono ?_
  rintro e w2 ⟨rfl, hb2⟩
  go_wp2_with fail
  have hH2 : SH w.heap.size ng (.slice A x.sp.length cap) w2 := hH.below hb2
  have HB2 := Lib.hid (HB.out.trans ((Below.refl _ _).drew.trans hb2 |>.mono HB.out.size))
  refine hK.out _ _ (.inr hH2) ?_
  clear hK K hb2
  try simp only [Act.put, List.setIfInBounds_toArray, List.set_cons_zero, List.set_cons_succ, List.getElem_toArray, List.getElem_cons_succ, List.getElem_cons_zero]
  refine wpAnyN_one (i := 6) (by kernel_rfl) rfl (fun K hK => ?_)
  go_simp
  refine hK.out _ _ (.inr hH2) ?_
  clear hK K
  try simp only [Act.put, List.setIfInBounds_toArray, List.set_cons_zero, List.set_cons_succ, List.getElem_toArray, List.getElem_cons_succ, List.getElem_cons_zero]
  refine wpAnyN_one (i := 7) (by kernel_rfl) rfl (fun K hK => ?_)
  go_simp
  refine hK.out _ _ (.inl (by decide)) ?_
  clear hK K
  try simp only [Act.put, List.setIfInBounds_toArray, List.set_cons_zero, List.set_cons_succ, List.getElem_toArray, List.getElem_cons_succ, List.getElem_cons_zero]
  refine wpAnyN_done (by kernel_rfl) ?_ _
  go_wp2_with fail
  go_ret
  rw [HX.out]
  exact ⟨rfl, HB2.out⟩
end Go.Proofs.Ytjpbndpfbdfhjaa.Nfa
