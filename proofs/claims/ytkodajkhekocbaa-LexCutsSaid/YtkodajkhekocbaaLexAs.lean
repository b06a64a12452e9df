/-
  The program's tokens as the document's (layer 11): davitlaw11.As.
-/
import Derived.Test.YtkodajkhekocbaaLexSame
import Derived.Test.YtkodajkhekocbaaOrders
namespace Go.Proofs.Ytkodajkhekocbaa.Lex
open Go.RowKit Go.Proofs.Ytkodajkhekocbaa.Ord
set_option linter.unusedVariables false
set_option linter.unusedSimpArgs false

/-- The cells cs can be read from A on (in a block of whatever type). -/
def Cr (w : World) (A : Option Addr) (cs : List Value) : Prop := cs ≠ [] → ∃ ad, A = some ad ∧ ∀ j u, cs[j]? = some u → w.cell? (ad.add j) = some u
theorem cr_ry {t : TypeId} {w : World} {A : Option Addr} {cs : List Value} (h : Ry t w A cs) : Cr w A cs := fun hn => by
  obtain ⟨ad, e, _, hc⟩ := h hn
  exact ⟨ad, e, hc⟩
theorem Cr.below {w w' : World} {A : Option Addr} {cs : List Value} (h : Cr w A cs) (hb : Below w.heap.size w w') : Cr w' A cs := fun hn => by
  obtain ⟨ad, e, hc⟩ := h hn
  exact ⟨ad, e, fun j u hj => (hb.cell (cell_lt (hc j u hj))).trans (hc j u hj)⟩
/-- The program's tokens, that can be read. -/
structure Ptk (w : World) (B : Nat) (A : Option Addr) (vs : List Tv) : Prop where
  ry : Cr w A (tflat vs)
  tx : ∀ v ∈ vs, Tx w B v.A v.t.t.text
theorem Ptk.below {w w' : World} {B : Nat} {A : Option Addr} {vs : List Tv} (h : Ptk w B A vs) (hB : B ≤ w.heap.size) (hb : Below w.heap.size w w') : Ptk w' B A vs := ⟨h.ry.below hb, fun v hv => (h.tx v hv).below hB hb⟩
theorem Ptk.at_ {w : World} {B : Nat} {A : Option Addr} {vs : List Tv} (h : Ptk w B A vs) {i : Nat} {v : Tv} (hi : vs[i]? = some v) : ∃ ad, A = some ad ∧ w.cell? (ad.add (i * 4)) = some (.int .i64 v.t.t.kind) ∧
    w.cell? ⟨(ad.add (i * 4)).block, (ad.add (i * 4)).off + 1, none⟩ = some (.int .i64 (v.t.at_ : Int)) ∧ w.cell? ⟨(ad.add (i * 4)).block, (ad.add (i * 4)).off + 2, none⟩ = some (.int .i64 v.t.t.n) ∧ w.cell? ⟨(ad.add (i * 4)).block, (ad.add (i * 4)).off + 3, none⟩ = some (.slice v.A v.t.t.text.length v.c) := by
  have e : ∀ k, k < 4 → (tflat vs)[i * 4 + k]? = v.cells[k]? := fun k hk => flat4 vs i k v hi hk
  obtain ⟨ad, rfl, hc⟩ := h.ry (fun q => by have := e 0 (by decide); rw [q] at this; simp [Tv.cells] at this)
  exact ⟨ad, rfl, hc _ _ (e 0 (by decide)), by rw [add_at4 _ _ 1 (by decide)]; exact hc _ _ (e 1 (by decide)), by rw [add_at4 _ _ 2 (by decide)]; exact hc _ _ (e 2 (by decide)), by rw [add_at4 _ _ 3 (by decide)]; exact hc _ _ (e 3 (by decide))⟩
theorem take_snocT (l : List Tv) (k : Nat) (x : Tv) (h : l[k]? = some x) : l.take (k + 1) = l.take k ++ [x] := by rw [List.take_add_one, h]; rfl
/-- What As returns. -/
def As11Says (w : World) (B n : Nat) (us : List Tv) (e : Ending) (w' : World) : Prop := ∃ A' c' vs, e = .returned (.slice A' n c') ∧ Rtk w' w.heap.size B A' n c' vs ∧ vs.map (·.t) = us.map (·.t) ∧ Below w.heap.size w w'
set_option maxRecDepth 100000 in
set_option maxHeartbeats 4000000 in
theorem as11 (w : World) (B : Nat) (A : Option Addr) (n c : Nat) (us : List Tv) (h : Ptk w B A us) (hB : B ≤ w.heap.size) (hl : us.length = n) (hn : n ≤ 100000) :
    Calls Try.prog 9 #[.slice A n c] w (As11Says w B n us) := by
  have H := Lib.hid h
  have HL := Lib.hid hl
  clear h hl
  go_enter Try.func9, Try.ntmps9
  go_wp2_with fail
  go_loopw [3, 4] (fun v3 v4 wr => ∃ (i c3 : Nat) (A3 : Option Addr) (ys : List Tv), i ≤ n ∧ v4 = .int .i64 (i : Int) ∧ v3 = .slice A3 i c3 ∧ Rtk wr w.heap.size B A3 i c3 ys ∧ ys.map (·.t) = (us.take i).map (·.t) ∧ Below w.heap.size w wr) (fun _ v4 _ => n - (intOf v4).toNat)
  case atStart => exact ⟨0, 0, none, [], Nat.zero_le _, rfl, rfl, Rtk.nil_ _ _ _, by simp, Below.refl _ _⟩
  case round =>
    obtain ⟨i, c3, A3, ys, hi, rfl, rfl, hra, hys, hb⟩ := hrel
    obtain ⟨W0, rfl⟩ : ∃ W0, W0 = wr := ⟨_, rfl⟩
    have HR := Lib.hid hra
    have HYS := Lib.hid hys
    have HB := Lib.hid hb
    clear hra hys hb
    rcases Nat.lt_or_ge i n with hlt | hge
    · obtain ⟨v, hv⟩ : ∃ v, us[i]? = some v := ⟨_, List.getElem?_eq_getElem (by rw [HL.out]; exact hlt)⟩
      have hP := H.out.below hB HB.out
      obtain ⟨ad, rfl, k0, k1, k2, k3⟩ := hP.at_ hv
      have HTXV := Lib.hid (hP.tx v (List.mem_of_getElem? hv))
      have HU := Lib.hid hv
      clear hv hP
      obtain ⟨⟨⟨vk, vn, vt⟩, va⟩, vA, vc⟩ := v
      dsimp only at *
      generalize hml : vt.length = ml at *
      have HML := Lib.hid hml
      clear hml
      go_wp2_with fail
      have hH : Below W0.heap.size W0 W0.drew := (Below.refl _ _).drew
      refine Ord.wp_region_N [23, 24] (Below W0.heap.size W0) (by kernel_rfl) ?_
      refine wpAnyN_take (i := 0) (v := .slice A3 i c3) [23, 24] (by kernel_rfl) rfl (by kernel_rfl) (by kernel_rfl) (by kernel_rfl) (fun _ _ _ h => h) (Or.inl ⟨by rfl, ?_⟩) hH ?_
      · intro V hV; go_simp
      try simp only [Act.put, List.setIfInBounds_toArray, List.set_cons_zero, List.set_cons_succ, List.getElem_toArray, List.getElem_cons_succ, List.getElem_cons_zero]
      refine wpAnyN_take (i := 1) (v := .slice (some ad) n c) [3, 4, 5, 21, 22, 23, 24] (by kernel_rfl) rfl (by kernel_rfl) (by kernel_rfl) (by kernel_rfl) (fun _ _ _ h => h) (Or.inl ⟨by rfl, ?_⟩) hH ?_
      · intro V hV; go_simp
      try simp only [Act.put, List.setIfInBounds_toArray, List.set_cons_zero, List.set_cons_succ, List.getElem_toArray, List.getElem_cons_succ, List.getElem_cons_zero]
      refine wpAnyN_take (i := 2) (v := .int .i64 (i : Int)) [3, 4, 5, 21, 22, 23, 24] (by kernel_rfl) rfl (by kernel_rfl) (by kernel_rfl) (by kernel_rfl) (fun _ _ _ h => h) (Or.inl ⟨by rfl, ?_⟩) hH ?_
      · intro V hV; go_simp
      try simp only [Act.put, List.setIfInBounds_toArray, List.set_cons_zero, List.set_cons_succ, List.getElem_toArray, List.getElem_cons_succ, List.getElem_cons_zero]
      refine wpAnyN_take (i := 3) (v := .pointer (some (ad.add (i * 4)))) [4, 5, 21, 22, 23, 24] (by kernel_rfl) rfl (by kernel_rfl) (by kernel_rfl) (by kernel_rfl) (fun _ _ _ h => h) (Or.inl ⟨by rfl, ?_⟩) hH ?_
      · intro V hV; go_simp
      try simp only [Act.put, List.setIfInBounds_toArray, List.set_cons_zero, List.set_cons_succ, List.getElem_toArray, List.getElem_cons_succ, List.getElem_cons_zero]
      refine wpAnyN_take (i := 4) (v := .pointer (some (ad.add (i * 4)))) [5, 21, 22, 23, 24] (by kernel_rfl) rfl (by kernel_rfl) (by kernel_rfl) (by kernel_rfl) (fun _ _ _ h => h) (Or.inl ⟨by rfl, ?_⟩) hH ?_
      · intro V hV; go_simp
      try simp only [Act.put, List.setIfInBounds_toArray, List.set_cons_zero, List.set_cons_succ, List.getElem_toArray, List.getElem_cons_succ, List.getElem_cons_zero]
      refine wpAnyN_take (i := 5) (v := .int .i64 vk) [21, 22, 23, 24] (by kernel_rfl) rfl (by kernel_rfl) (by kernel_rfl) (by kernel_rfl) (fun _ _ _ h => h) (Or.inl ⟨by rfl, ?_⟩) hH ?_
      · intro V hV; have z0 := (hV.cell (cell_lt k0)).trans k0; go_simp
      try simp only [Act.put, List.setIfInBounds_toArray, List.set_cons_zero, List.set_cons_succ, List.getElem_toArray, List.getElem_cons_succ, List.getElem_cons_zero]
      refine wpAnyN_take (i := 6) (v := .slice (some ad) n c) [8, 9, 10, 21, 22, 23, 24] (by kernel_rfl) rfl (by kernel_rfl) (by kernel_rfl) (by kernel_rfl) (fun _ _ _ h => h) (Or.inl ⟨by rfl, ?_⟩) hH ?_
      · intro V hV; go_simp
      try simp only [Act.put, List.setIfInBounds_toArray, List.set_cons_zero, List.set_cons_succ, List.getElem_toArray, List.getElem_cons_succ, List.getElem_cons_zero]
      refine wpAnyN_take (i := 7) (v := .int .i64 (i : Int)) [8, 9, 10, 21, 22, 23, 24] (by kernel_rfl) rfl (by kernel_rfl) (by kernel_rfl) (by kernel_rfl) (fun _ _ _ h => h) (Or.inl ⟨by rfl, ?_⟩) hH ?_
      · intro V hV; go_simp
      try simp only [Act.put, List.setIfInBounds_toArray, List.set_cons_zero, List.set_cons_succ, List.getElem_toArray, List.getElem_cons_succ, List.getElem_cons_zero]
      refine wpAnyN_take (i := 8) (v := .pointer (some (ad.add (i * 4)))) [9, 10, 21, 22, 23, 24] (by kernel_rfl) rfl (by kernel_rfl) (by kernel_rfl) (by kernel_rfl) (fun _ _ _ h => h) (Or.inl ⟨by rfl, ?_⟩) hH ?_
      · intro V hV; go_simp
      try simp only [Act.put, List.setIfInBounds_toArray, List.set_cons_zero, List.set_cons_succ, List.getElem_toArray, List.getElem_cons_succ, List.getElem_cons_zero]
      refine wpAnyN_take (i := 9) (v := .pointer (some ⟨(ad.add (i * 4)).block, (ad.add (i * 4)).off + 1, none⟩)) [10, 21, 22, 23, 24] (by kernel_rfl) rfl (by kernel_rfl) (by kernel_rfl) (by kernel_rfl) (fun _ _ _ h => h) (Or.inl ⟨by rfl, ?_⟩) hH ?_
      · intro V hV; go_simp
      try simp only [Act.put, List.setIfInBounds_toArray, List.set_cons_zero, List.set_cons_succ, List.getElem_toArray, List.getElem_cons_succ, List.getElem_cons_zero]
      refine wpAnyN_take (i := 10) (v := .int .i64 (va : Int)) [21, 22, 23, 24] (by kernel_rfl) rfl (by kernel_rfl) (by kernel_rfl) (by kernel_rfl) (fun _ _ _ h => h) (Or.inl ⟨by rfl, ?_⟩) hH ?_
      · intro V hV; have z0 := (hV.cell (cell_lt k1)).trans k1; go_simp
      try simp only [Act.put, List.setIfInBounds_toArray, List.set_cons_zero, List.set_cons_succ, List.getElem_toArray, List.getElem_cons_succ, List.getElem_cons_zero]
      refine wpAnyN_take (i := 11) (v := .slice (some ad) n c) [13, 14, 15, 21, 22, 23, 24] (by kernel_rfl) rfl (by kernel_rfl) (by kernel_rfl) (by kernel_rfl) (fun _ _ _ h => h) (Or.inl ⟨by rfl, ?_⟩) hH ?_
      · intro V hV; go_simp
      try simp only [Act.put, List.setIfInBounds_toArray, List.set_cons_zero, List.set_cons_succ, List.getElem_toArray, List.getElem_cons_succ, List.getElem_cons_zero]
      refine wpAnyN_take (i := 12) (v := .int .i64 (i : Int)) [13, 14, 15, 21, 22, 23, 24] (by kernel_rfl) rfl (by kernel_rfl) (by kernel_rfl) (by kernel_rfl) (fun _ _ _ h => h) (Or.inl ⟨by rfl, ?_⟩) hH ?_
      · intro V hV; go_simp
      try simp only [Act.put, List.setIfInBounds_toArray, List.set_cons_zero, List.set_cons_succ, List.getElem_toArray, List.getElem_cons_succ, List.getElem_cons_zero]
      refine wpAnyN_take (i := 13) (v := .pointer (some (ad.add (i * 4)))) [14, 15, 21, 22, 23, 24] (by kernel_rfl) rfl (by kernel_rfl) (by kernel_rfl) (by kernel_rfl) (fun _ _ _ h => h) (Or.inl ⟨by rfl, ?_⟩) hH ?_
      · intro V hV; go_simp
      try simp only [Act.put, List.setIfInBounds_toArray, List.set_cons_zero, List.set_cons_succ, List.getElem_toArray, List.getElem_cons_succ, List.getElem_cons_zero]
      refine wpAnyN_take (i := 14) (v := .pointer (some ⟨(ad.add (i * 4)).block, (ad.add (i * 4)).off + 2, none⟩)) [15, 21, 22, 23, 24] (by kernel_rfl) rfl (by kernel_rfl) (by kernel_rfl) (by kernel_rfl) (fun _ _ _ h => h) (Or.inl ⟨by rfl, ?_⟩) hH ?_
      · intro V hV; go_simp
      try simp only [Act.put, List.setIfInBounds_toArray, List.set_cons_zero, List.set_cons_succ, List.getElem_toArray, List.getElem_cons_succ, List.getElem_cons_zero]
      refine wpAnyN_take (i := 15) (v := .int .i64 vn) [21, 22, 23, 24] (by kernel_rfl) rfl (by kernel_rfl) (by kernel_rfl) (by kernel_rfl) (fun _ _ _ h => h) (Or.inl ⟨by rfl, ?_⟩) hH ?_
      · intro V hV; have z0 := (hV.cell (cell_lt k2)).trans k2; go_simp
      try simp only [Act.put, List.setIfInBounds_toArray, List.set_cons_zero, List.set_cons_succ, List.getElem_toArray, List.getElem_cons_succ, List.getElem_cons_zero]
      refine wpAnyN_take (i := 16) (v := .slice (some ad) n c) [18, 19, 20, 21, 22, 23, 24] (by kernel_rfl) rfl (by kernel_rfl) (by kernel_rfl) (by kernel_rfl) (fun _ _ _ h => h) (Or.inl ⟨by rfl, ?_⟩) hH ?_
      · intro V hV; go_simp
      try simp only [Act.put, List.setIfInBounds_toArray, List.set_cons_zero, List.set_cons_succ, List.getElem_toArray, List.getElem_cons_succ, List.getElem_cons_zero]
      refine wpAnyN_take (i := 17) (v := .int .i64 (i : Int)) [18, 19, 20, 21, 22, 23, 24] (by kernel_rfl) rfl (by kernel_rfl) (by kernel_rfl) (by kernel_rfl) (fun _ _ _ h => h) (Or.inl ⟨by rfl, ?_⟩) hH ?_
      · intro V hV; go_simp
      try simp only [Act.put, List.setIfInBounds_toArray, List.set_cons_zero, List.set_cons_succ, List.getElem_toArray, List.getElem_cons_succ, List.getElem_cons_zero]
      refine wpAnyN_take (i := 18) (v := .pointer (some (ad.add (i * 4)))) [19, 20, 21, 22, 23, 24] (by kernel_rfl) rfl (by kernel_rfl) (by kernel_rfl) (by kernel_rfl) (fun _ _ _ h => h) (Or.inl ⟨by rfl, ?_⟩) hH ?_
      · intro V hV; go_simp
      try simp only [Act.put, List.setIfInBounds_toArray, List.set_cons_zero, List.set_cons_succ, List.getElem_toArray, List.getElem_cons_succ, List.getElem_cons_zero]
      refine wpAnyN_take (i := 19) (v := .pointer (some ⟨(ad.add (i * 4)).block, (ad.add (i * 4)).off + 3, none⟩)) [20, 21, 22, 23, 24] (by kernel_rfl) rfl (by kernel_rfl) (by kernel_rfl) (by kernel_rfl) (fun _ _ _ h => h) (Or.inl ⟨by rfl, ?_⟩) hH ?_
      · intro V hV; go_simp
      try simp only [Act.put, List.setIfInBounds_toArray, List.set_cons_zero, List.set_cons_succ, List.getElem_toArray, List.getElem_cons_succ, List.getElem_cons_zero]
      refine wpAnyN_take (i := 20) (v := .slice vA ml vc) [21, 22, 23, 24] (by kernel_rfl) rfl (by kernel_rfl) (by kernel_rfl) (by kernel_rfl) (fun _ _ _ h => h) (Or.inl ⟨by rfl, ?_⟩) hH ?_
      · intro V hV; have z0 := (hV.cell (cell_lt k3)).trans k3; go_simp
      try simp only [Act.put, List.setIfInBounds_toArray, List.set_cons_zero, List.set_cons_succ, List.getElem_toArray, List.getElem_cons_succ, List.getElem_cons_zero]
      refine wpAnyN_take (i := 21) (v := .agg #[.int .i64 vk, .int .i64 (va : Int), .int .i64 vn, .slice vA ml vc]) [22, 23, 24] (by kernel_rfl) rfl (by kernel_rfl) (by kernel_rfl) (by kernel_rfl) (fun _ _ _ h => h) (Or.inl ⟨by rfl, ?_⟩) hH ?_
      · intro V hV; go_simp
      try simp only [Act.put, List.setIfInBounds_toArray, List.set_cons_zero, List.set_cons_succ, List.getElem_toArray, List.getElem_cons_succ, List.getElem_cons_zero]
      refine wpAnyN_one (i := 22) (by kernel_rfl) rfl (fun K hK => ?_)
      go_simp
      have hS5 : Below W0.heap.size W0 (W0.drew.alloc (.cells #[.int .i64 vk, .int .i64 (va : Int), .int .i64 vn, .slice vA ml vc] 46)) := hH.alloc (by exact Nat.le_refl _) _
      refine hK.out _ _ (.inr hS5) ?_
      clear hK K
      try simp only [Act.put, List.setIfInBounds_toArray, List.set_cons_zero, List.set_cons_succ, List.getElem_toArray, List.getElem_cons_succ, List.getElem_cons_zero]
      have hw5 : w.heap.size ≤ W0.heap.size + 1 := by have := HB.out.size; omega
      have HR5 := Lib.hid (HR.out.below (Nat.le_trans hB HB.out.size) hS5)
      have HB5 := Lib.hid (HB.out.trans (hS5.mono HB.out.size))
      have HTX := Lib.hid (HTXV.out.below (Nat.le_trans hB HB.out.size) hS5)
      have hc5 := Cel.new W0.drew 46 [.int .i64 vk, .int .i64 (va : Int), .int .i64 vn, .slice vA ml vc]
      have HSRC := Lib.hid (Ry.src (m := 1) (Ry.of_cel hc5) (by simp))
      clear hc5
      refine wpAnyN_one (i := 23) (by kernel_rfl) rfl (fun K hK => ?_)
      rw [if_pos (by rfl)]
      refine wp_append_any _ _ _ 28 rfl w.heap.size 46 rowTok (.slice A3 i c3) i (tflat ys) rfl HR5.out.own (some ⟨W0.heap.size, 0, none⟩) 1 1 [.int .i64 vk, .int .i64 (va : Int), .int .i64 vn, .slice vA ml vc] rfl rfl HSRC.out (by intro u hu; simp at hu; rcases hu with rfl | rfl | rfl | rfl <;> rfl) (i + 1) _ rfl rfl (by unfold maxLen; omega) (by omega) (by first | exact hw5 | (simp; done) | (simp; exact hw5)) ?_
      intro A8 c8 w8 ho8 hg8 _
      have HR8 := Lib.hid (HR5.out.pushed (v := ⟨⟨⟨vk, vn, vt⟩, va⟩, vA, vc⟩) (Nat.le_trans hB HB5.out.size) hB HTX.out hg8 (by rw [tflat_app]; show w8.ownsRow _ _ _ _ _ (tflat ys ++ [.int .i64 vk, .int .i64 (va : Int), .int .i64 vn, .slice vA vt.length vc]); rw [HML.out]; exact ho8))
      have HB8 := Lib.hid (HB5.out.trans (HR5.out.grew hg8 HB5.out.size))
      clear ho8 hg8
      refine hK.out _ _ (.inl (by decide)) ?_
      clear hK K
      try simp only [Act.put, List.setIfInBounds_toArray, List.set_cons_zero, List.set_cons_succ, List.getElem_toArray, List.getElem_cons_succ, List.getElem_cons_zero]
      refine wpAnyN_one (i := 24) (by kernel_rfl) rfl (fun K hK => ?_)
      go_simp
      refine hK.out _ _ (.inl (by decide)) ?_
      clear hK K
      try simp only [Act.put, List.setIfInBounds_toArray, List.set_cons_zero, List.set_cons_succ, List.getElem_toArray, List.getElem_cons_succ, List.getElem_cons_zero]
      refine wpAnyN_done (by kernel_rfl) ?_ _
      go_wp2_with fail
      exact ⟨⟨i + 1, c8, A8, _, by omega, by rw [show ((i + 1 : Nat) : Int) = (i : Int) + 1 by omega], rfl, HR8.out, by rw [take_snocT us i _ HU.out, List.map_append, List.map_append, HYS.out], HB8.out⟩, by simp [intOf]; omega⟩
    · obtain rfl : i = n := by omega
      have HYE := Lib.hid (show ys.map (·.t) = us.map (·.t) by have := HYS.out; rwa [List.take_of_length_le (by rw [HL.out]; exact Nat.le_refl _)] at this)
      go_wp2_with fail
      go_ret
      exact ⟨A3, c3, ys, rfl, HR.out, HYE.out, HB.out⟩
end Go.Proofs.Ytkodajkhekocbaa.Lex
