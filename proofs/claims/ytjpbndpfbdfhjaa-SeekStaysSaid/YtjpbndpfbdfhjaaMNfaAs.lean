/-
  The program's instructions as the document's (layer 9): davitlaw09.As.
-/
import Derived.Test.YtjpbndpfbdfhjaaMNfaHas
import Derived.Test.YtjpbndpfbdfhjaaMOrd
namespace Go.Proofs.Ytjpbndpfbdfhjaa.Nfa
open Go.RowKit Go.Proofs.Ytjpbndpfbdfhjaa.Ord
open Go.Proofs.Ytjpbndpfbdfhjaa.Reg (Sp RSpn Spn sflat sflat_length sflat_snoc rrowSpan)
set_option linter.unusedVariables false
set_option linter.unusedSimpArgs false

/-- The cells cs can be read from A on (in a block of whatever type). -/
def Cz (w : World) (A : Option Addr) (cs : List Value) : Prop := cs ≠ [] → ∃ ad, A = some ad ∧ ∀ j u, cs[j]? = some u → w.cell? (ad.add j) = some u
theorem cz_ry {t : TypeId} {w : World} {A : Option Addr} {cs : List Value} (h : Ry t w A cs) : Cz w A cs := fun hn => by
  obtain ⟨ad, e, _, hc⟩ := h hn
  exact ⟨ad, e, hc⟩
theorem Cz.below {w w' : World} {A : Option Addr} {cs : List Value} (h : Cz w A cs) (hb : Below w.heap.size w w') : Cz w' A cs := fun hn => by
  obtain ⟨ad, e, hc⟩ := h hn
  exact ⟨ad, e, fun j u hj => (hb.cell (cell_lt (hc j u hj))).trans (hc j u hj)⟩
theorem cz_two {w : World} {A : Option Addr} {l : List Sp} (h : Cz w A (sflat l)) {i : Nat} {x : Sp} (hi : l[i]? = some x) : ∃ ad, A = some ad ∧ w.cell? (ad.add (i * 2)) = some (v8 x.a) ∧ w.cell? ⟨(ad.add (i * 2)).block, (ad.add (i * 2)).off + 1, none⟩ = some (v8 x.b) := by
  have e0 := sflat_at hi (k := 0) (by decide)
  have e1 := sflat_at hi (k := 1) (by decide)
  obtain ⟨ad, rfl, hc⟩ := h (fun q => by rw [q] at e0; simp at e0)
  exact ⟨ad, rfl, hc _ _ e0, by rw [add_at _ _ 1 (by decide)]; exact hc _ _ e1⟩
theorem cz_five {w : World} {A : Option Addr} {us : List Iv} (h : Cz w A (iflat us)) {i : Nat} {u : Iv} (hi : us[i]? = some u) : ∃ ad, A = some ad ∧ w.cell? (ad.add (i * 5)) = some (.int .i64 u.i.kind) ∧
    w.cell? ⟨(ad.add (i * 5)).block, (ad.add (i * 5)).off + 1, none⟩ = some (.int .i64 u.i.x) ∧ w.cell? ⟨(ad.add (i * 5)).block, (ad.add (i * 5)).off + 2, none⟩ = some (.int .i64 u.i.y) ∧ w.cell? ⟨(ad.add (i * 5)).block, (ad.add (i * 5)).off + 3, none⟩ = some (.bool u.i.neg) ∧
    w.cell? ⟨(ad.add (i * 5)).block, (ad.add (i * 5)).off + 4, none⟩ = some (.slice u.A u.i.sp.length u.c) := by
  have e : ∀ k, k < 5 → (iflat us)[i * 5 + k]? = u.cells[k]? := fun k hk => Nfa.flat_at Iv.cells 5 (fun _ => rfl) us i k u hi hk
  obtain ⟨ad, rfl, hc⟩ := h (fun q => by have := e 0 (by decide); rw [q] at this; simp [Iv.cells] at this)
  exact ⟨ad, rfl, hc _ _ (e 0 (by decide)), by rw [add_at _ _ 1 (by decide)]; exact hc _ _ (e 1 (by decide)), by rw [add_at _ _ 2 (by decide)]; exact hc _ _ (e 2 (by decide)), by rw [add_at _ _ 3 (by decide)]; exact hc _ _ (e 3 (by decide)), by rw [add_at _ _ 4 (by decide)]; exact hc _ _ (e 4 (by decide))⟩
/-- The program's instructions, that can be read. -/
structure Pr9 (w : World) (A : Option Addr) (us : List Iv) : Prop where
  ry : Cz w A (iflat us)
  sp : ∀ u ∈ us, Cz w u.A (sflat u.i.sp)
/-- What a region reads: it stays. -/
def S4 (a0 a1 a2 a3 : Addr) (v0 v1 v2 v3 : Value) (V : World) : Prop := V.cell? a0 = some v0 ∧ V.cell? a1 = some v1 ∧ V.cell? a2 = some v2 ∧ V.cell? a3 = some v3
theorem S4.below {a0 a1 a2 a3 : Addr} {v0 v1 v2 v3 : Value} {V V' : World} (h : S4 a0 a1 a2 a3 v0 v1 v2 v3 V) (hb : Below V.heap.size V V') : S4 a0 a1 a2 a3 v0 v1 v2 v3 V' :=
  ⟨(hb.cell (cell_lt h.1)).trans h.1, (hb.cell (cell_lt h.2.1)).trans h.2.1, (hb.cell (cell_lt h.2.2.1)).trans h.2.2.1, (hb.cell (cell_lt h.2.2.2)).trans h.2.2.2⟩
theorem S4.at_ {a0 a1 a2 a3 : Addr} {v0 v1 v2 v3 : Value} {V V' : World} {B : Nat} (h : S4 a0 a1 a2 a3 v0 v1 v2 v3 V) (hb : Below B V V') (h0 : a0.block < B) (h1 : a1.block < B) (h2 : a2.block < B) (h3 : a3.block < B) : S4 a0 a1 a2 a3 v0 v1 v2 v3 V' :=
  ⟨(hb.cell h0).trans h.1, (hb.cell h1).trans h.2.1, (hb.cell h2).trans h.2.2.1, (hb.cell h3).trans h.2.2.2⟩
theorem take_snocS (l : List Sp) (k : Nat) (x : Sp) (h : l[k]? = some x) : l.take (k + 1) = l.take k ++ [x] := by rw [List.take_add_one, h]; rfl
theorem take_snocI (l : List Iv) (k : Nat) (x : Iv) (h : l[k]? = some x) : l.take (k + 1) = l.take k ++ [x] := by rw [List.take_add_one, h]; rfl

/-- What As returns. -/
def As9Says (w : World) (n : Nat) (us : List Iv) (e : Ending) (w' : World) : Prop := ∃ A' c' vs, e = .returned (.slice A' n c') ∧ Ri w' w.heap.size A' n c' vs ∧ vs.map (·.i) = us.map (·.i) ∧ Below w.heap.size w w'
set_option maxRecDepth 100000 in
set_option maxHeartbeats 4000000 in
theorem as9 (w : World) (A : Option Addr) (n c : Nat) (us : List Iv) (h : Pr9 w A us) (hl : us.length = n) (hn : n ≤ 1000) (hsp : ∀ u ∈ us, u.i.sp.length ≤ 1000) :
    Calls Try.prog 14 #[.slice A n c] w (As9Says w n us) := by
  have H := Lib.hid h
  have HL := Lib.hid hl
  have HSP := Lib.hid hsp
  clear h hl hsp
  go_enter Try.func14, Try.ntmps14
  go_wp2_with fail
  go_loopw [3, 4] (fun v3 v4 wr => ∃ (i c3 : Nat) (A3 : Option Addr) (vs : List Iv), i ≤ n ∧ v4 = .int .i64 (i : Int) ∧ v3 = .slice A3 i c3 ∧ Ri wr w.heap.size A3 i c3 vs ∧ vs.map (·.i) = (us.take i).map (·.i) ∧ Below w.heap.size w wr) (fun _ v4 _ => n - (intOf v4).toNat)
  case atStart => exact ⟨0, 0, none, [], Nat.zero_le _, rfl, rfl, Ri.nil_ _ _, by simp, Below.refl _ _⟩
  case round =>
    obtain ⟨i, c3, A3, vs, hi, rfl, rfl, hri, hvs, hb⟩ := hrel
    obtain ⟨W0, rfl⟩ : ∃ W0, W0 = wr := ⟨_, rfl⟩
    have HRI := Lib.hid hri
    have HVS := Lib.hid hvs
    have HB := Lib.hid hb
    have hws := hb.size
    clear hri hvs hb
    rcases Nat.lt_or_ge i n with hlt | hge
    · obtain ⟨u, hu⟩ : ∃ u, us[i]? = some u := ⟨_, List.getElem?_eq_getElem (by rw [HL.out]; exact hlt)⟩
      obtain ⟨ad, rfl, k0, k1, k2, k3, k4⟩ := cz_five (H.out.ry.below HB.out) hu
      have HU := Lib.hid hu
      have HSU := Lib.hid (Cz.below (H.out.sp u (List.mem_of_getElem? hu)) HB.out)
      have hsu := HSP.out u (List.mem_of_getElem? hu)
      clear hu
      obtain ⟨⟨kd, px, py, ng, l⟩, uA, uc⟩ := u
      dsimp only at *
      generalize hll : l.length = m at *
      have HLL := Lib.hid hll
      have hH : S4 (ad.add (i * 5)) ⟨(ad.add (i * 5)).block, (ad.add (i * 5)).off + 1, none⟩ ⟨(ad.add (i * 5)).block, (ad.add (i * 5)).off + 2, none⟩ ⟨(ad.add (i * 5)).block, (ad.add (i * 5)).off + 3, none⟩ (.int .i64 kd) (.int .i64 px) (.int .i64 py) (.bool ng) W0.drew := ⟨k0, k1, k2, k3⟩
      have k4s := cell_lt k4
      clear hll k0 k1 k2 k3
      go_wp2_with fail
      refine wp_region_N [] (S4 (ad.add (i * 5)) ⟨(ad.add (i * 5)).block, (ad.add (i * 5)).off + 1, none⟩ ⟨(ad.add (i * 5)).block, (ad.add (i * 5)).off + 2, none⟩ ⟨(ad.add (i * 5)).block, (ad.add (i * 5)).off + 3, none⟩ (.int .i64 kd) (.int .i64 px) (.int .i64 py) (.bool ng)) (by kernel_rfl) ?_
      refine wpAnyN_take (i := 0) (v := .slice (some ad) n c) [] (by kernel_rfl) rfl (by kernel_rfl) (by kernel_rfl) (by kernel_rfl) (fun _ _ _ h => h) (Or.inl ⟨by rfl, ?_⟩) hH ?_
      · intro V hV; go_simp
      try simp only [Act.put, List.setIfInBounds_toArray, List.set_cons_zero, List.set_cons_succ, List.getElem_toArray, List.getElem_cons_succ, List.getElem_cons_zero]
      refine wpAnyN_take (i := 1) (v := .int .i64 (i : Int)) [] (by kernel_rfl) rfl (by kernel_rfl) (by kernel_rfl) (by kernel_rfl) (fun _ _ _ h => h) (Or.inl ⟨by rfl, ?_⟩) hH ?_
      · intro V hV; go_simp
      try simp only [Act.put, List.setIfInBounds_toArray, List.set_cons_zero, List.set_cons_succ, List.getElem_toArray, List.getElem_cons_succ, List.getElem_cons_zero]
      refine wpAnyN_take (i := 2) (v := .pointer (some (ad.add (i * 5)))) [] (by kernel_rfl) rfl (by kernel_rfl) (by kernel_rfl) (by kernel_rfl) (fun _ _ _ h => h) (Or.inl ⟨by rfl, ?_⟩) hH ?_
      · intro V hV; go_simp
      try simp only [Act.put, List.setIfInBounds_toArray, List.set_cons_zero, List.set_cons_succ, List.getElem_toArray, List.getElem_cons_succ, List.getElem_cons_zero]
      refine wpAnyN_take (i := 3) (v := .pointer (some (ad.add (i * 5)))) [] (by kernel_rfl) rfl (by kernel_rfl) (by kernel_rfl) (by kernel_rfl) (fun _ _ _ h => h) (Or.inl ⟨by rfl, ?_⟩) hH ?_
      · intro V hV; go_simp
      try simp only [Act.put, List.setIfInBounds_toArray, List.set_cons_zero, List.set_cons_succ, List.getElem_toArray, List.getElem_cons_succ, List.getElem_cons_zero]
      refine wpAnyN_take (i := 4) (v := .int .i64 kd) [] (by kernel_rfl) rfl (by kernel_rfl) (by kernel_rfl) (by kernel_rfl) (fun _ _ _ h => h) (Or.inl ⟨by rfl, ?_⟩) hH ?_
      · intro V hV; obtain ⟨k0, k1, k2, k3⟩ := hV; go_simp
      try simp only [Act.put, List.setIfInBounds_toArray, List.set_cons_zero, List.set_cons_succ, List.getElem_toArray, List.getElem_cons_succ, List.getElem_cons_zero]
      refine wpAnyN_take (i := 5) (v := .slice (some ad) n c) [] (by kernel_rfl) rfl (by kernel_rfl) (by kernel_rfl) (by kernel_rfl) (fun _ _ _ h => h) (Or.inl ⟨by rfl, ?_⟩) hH ?_
      · intro V hV; go_simp
      try simp only [Act.put, List.setIfInBounds_toArray, List.set_cons_zero, List.set_cons_succ, List.getElem_toArray, List.getElem_cons_succ, List.getElem_cons_zero]
      refine wpAnyN_take (i := 6) (v := .int .i64 (i : Int)) [] (by kernel_rfl) rfl (by kernel_rfl) (by kernel_rfl) (by kernel_rfl) (fun _ _ _ h => h) (Or.inl ⟨by rfl, ?_⟩) hH ?_
      · intro V hV; go_simp
      try simp only [Act.put, List.setIfInBounds_toArray, List.set_cons_zero, List.set_cons_succ, List.getElem_toArray, List.getElem_cons_succ, List.getElem_cons_zero]
      refine wpAnyN_take (i := 7) (v := .pointer (some (ad.add (i * 5)))) [] (by kernel_rfl) rfl (by kernel_rfl) (by kernel_rfl) (by kernel_rfl) (fun _ _ _ h => h) (Or.inl ⟨by rfl, ?_⟩) hH ?_
      · intro V hV; go_simp
      try simp only [Act.put, List.setIfInBounds_toArray, List.set_cons_zero, List.set_cons_succ, List.getElem_toArray, List.getElem_cons_succ, List.getElem_cons_zero]
      refine wpAnyN_take (i := 8) (v := .pointer (some ⟨(ad.add (i * 5)).block, (ad.add (i * 5)).off + 1, none⟩)) [] (by kernel_rfl) rfl (by kernel_rfl) (by kernel_rfl) (by kernel_rfl) (fun _ _ _ h => h) (Or.inl ⟨by rfl, ?_⟩) hH ?_
      · intro V hV; go_simp
      try simp only [Act.put, List.setIfInBounds_toArray, List.set_cons_zero, List.set_cons_succ, List.getElem_toArray, List.getElem_cons_succ, List.getElem_cons_zero]
      refine wpAnyN_take (i := 9) (v := .int .i64 px) [] (by kernel_rfl) rfl (by kernel_rfl) (by kernel_rfl) (by kernel_rfl) (fun _ _ _ h => h) (Or.inl ⟨by rfl, ?_⟩) hH ?_
      · intro V hV; obtain ⟨k0, k1, k2, k3⟩ := hV; go_simp
      try simp only [Act.put, List.setIfInBounds_toArray, List.set_cons_zero, List.set_cons_succ, List.getElem_toArray, List.getElem_cons_succ, List.getElem_cons_zero]
      refine wpAnyN_take (i := 10) (v := .slice (some ad) n c) [] (by kernel_rfl) rfl (by kernel_rfl) (by kernel_rfl) (by kernel_rfl) (fun _ _ _ h => h) (Or.inl ⟨by rfl, ?_⟩) hH ?_
      · intro V hV; go_simp
      try simp only [Act.put, List.setIfInBounds_toArray, List.set_cons_zero, List.set_cons_succ, List.getElem_toArray, List.getElem_cons_succ, List.getElem_cons_zero]
      refine wpAnyN_take (i := 11) (v := .int .i64 (i : Int)) [] (by kernel_rfl) rfl (by kernel_rfl) (by kernel_rfl) (by kernel_rfl) (fun _ _ _ h => h) (Or.inl ⟨by rfl, ?_⟩) hH ?_
      · intro V hV; go_simp
      try simp only [Act.put, List.setIfInBounds_toArray, List.set_cons_zero, List.set_cons_succ, List.getElem_toArray, List.getElem_cons_succ, List.getElem_cons_zero]
      refine wpAnyN_take (i := 12) (v := .pointer (some (ad.add (i * 5)))) [] (by kernel_rfl) rfl (by kernel_rfl) (by kernel_rfl) (by kernel_rfl) (fun _ _ _ h => h) (Or.inl ⟨by rfl, ?_⟩) hH ?_
      · intro V hV; go_simp
      try simp only [Act.put, List.setIfInBounds_toArray, List.set_cons_zero, List.set_cons_succ, List.getElem_toArray, List.getElem_cons_succ, List.getElem_cons_zero]
      refine wpAnyN_take (i := 13) (v := .pointer (some ⟨(ad.add (i * 5)).block, (ad.add (i * 5)).off + 2, none⟩)) [] (by kernel_rfl) rfl (by kernel_rfl) (by kernel_rfl) (by kernel_rfl) (fun _ _ _ h => h) (Or.inl ⟨by rfl, ?_⟩) hH ?_
      · intro V hV; go_simp
      try simp only [Act.put, List.setIfInBounds_toArray, List.set_cons_zero, List.set_cons_succ, List.getElem_toArray, List.getElem_cons_succ, List.getElem_cons_zero]
      refine wpAnyN_take (i := 14) (v := .int .i64 py) [] (by kernel_rfl) rfl (by kernel_rfl) (by kernel_rfl) (by kernel_rfl) (fun _ _ _ h => h) (Or.inl ⟨by rfl, ?_⟩) hH ?_
      · intro V hV; obtain ⟨k0, k1, k2, k3⟩ := hV; go_simp
      try simp only [Act.put, List.setIfInBounds_toArray, List.set_cons_zero, List.set_cons_succ, List.getElem_toArray, List.getElem_cons_succ, List.getElem_cons_zero]
      refine wpAnyN_take (i := 15) (v := .slice (some ad) n c) [] (by kernel_rfl) rfl (by kernel_rfl) (by kernel_rfl) (by kernel_rfl) (fun _ _ _ h => h) (Or.inl ⟨by rfl, ?_⟩) hH ?_
      · intro V hV; go_simp
      try simp only [Act.put, List.setIfInBounds_toArray, List.set_cons_zero, List.set_cons_succ, List.getElem_toArray, List.getElem_cons_succ, List.getElem_cons_zero]
      refine wpAnyN_take (i := 16) (v := .int .i64 (i : Int)) [] (by kernel_rfl) rfl (by kernel_rfl) (by kernel_rfl) (by kernel_rfl) (fun _ _ _ h => h) (Or.inl ⟨by rfl, ?_⟩) hH ?_
      · intro V hV; go_simp
      try simp only [Act.put, List.setIfInBounds_toArray, List.set_cons_zero, List.set_cons_succ, List.getElem_toArray, List.getElem_cons_succ, List.getElem_cons_zero]
      refine wpAnyN_take (i := 17) (v := .pointer (some (ad.add (i * 5)))) [] (by kernel_rfl) rfl (by kernel_rfl) (by kernel_rfl) (by kernel_rfl) (fun _ _ _ h => h) (Or.inl ⟨by rfl, ?_⟩) hH ?_
      · intro V hV; go_simp
      try simp only [Act.put, List.setIfInBounds_toArray, List.set_cons_zero, List.set_cons_succ, List.getElem_toArray, List.getElem_cons_succ, List.getElem_cons_zero]
      refine wpAnyN_take (i := 18) (v := .pointer (some ⟨(ad.add (i * 5)).block, (ad.add (i * 5)).off + 3, none⟩)) [] (by kernel_rfl) rfl (by kernel_rfl) (by kernel_rfl) (by kernel_rfl) (fun _ _ _ h => h) (Or.inl ⟨by rfl, ?_⟩) hH ?_
      · intro V hV; go_simp
      try simp only [Act.put, List.setIfInBounds_toArray, List.set_cons_zero, List.set_cons_succ, List.getElem_toArray, List.getElem_cons_succ, List.getElem_cons_zero]
      refine wpAnyN_take (i := 19) (v := .bool ng) [] (by kernel_rfl) rfl (by kernel_rfl) (by kernel_rfl) (by kernel_rfl) (fun _ _ _ h => h) (Or.inl ⟨by rfl, ?_⟩) hH ?_
      · intro V hV; obtain ⟨k0, k1, k2, k3⟩ := hV; go_simp
      try simp only [Act.put, List.setIfInBounds_toArray, List.set_cons_zero, List.set_cons_succ, List.getElem_toArray, List.getElem_cons_succ, List.getElem_cons_zero]
      refine wpAnyN_take (i := 20) (v := .agg #[.int .i64 kd, .int .i64 px, .int .i64 py, .bool ng, .slice none 0 0]) [] (by kernel_rfl) rfl (by kernel_rfl) (by kernel_rfl) (by kernel_rfl) (fun _ _ _ h => h) (Or.inl ⟨by rfl, ?_⟩) hH ?_
      · intro V hV; go_simp
      try simp only [Act.put, List.setIfInBounds_toArray, List.set_cons_zero, List.set_cons_succ, List.getElem_toArray, List.getElem_cons_succ, List.getElem_cons_zero]
      refine wpAnyN_one (i := 21) (by kernel_rfl) rfl (fun K hK => ?_)
      go_simp
      refine hK.out _ _ (.inr (hH.below ((Below.refl _ _).alloc (Nat.le_refl _) _))) ?_
      clear hK K
      try simp only [Act.put, List.setIfInBounds_toArray, List.set_cons_zero, List.set_cons_succ, List.getElem_toArray, List.getElem_cons_succ, List.getElem_cons_zero]
      refine wpAnyN_one (i := 22) (by kernel_rfl) rfl (fun K hK => ?_)
      go_simp
      have hb1 : Below W0.heap.size W0 (W0.alloc (.cells #[.int .i64 kd, .int .i64 px, .int .i64 py, .bool ng, .slice none 0 0] 59)).drew := ((Below.refl _ _).alloc (Nat.le_refl _) _).drew
      have hcx : Cel (W0.alloc (.cells #[.int .i64 kd, .int .i64 px, .int .i64 py, .bool ng, .slice none 0 0] 59)).drew W0.heap.size 59 [.int .i64 kd, .int .i64 px, .int .i64 py, .bool ng, .slice none 0 0] := Cel.new W0 _ _
      generalize hW1 : (W0.alloc (.cells #[.int .i64 kd, .int .i64 px, .int .i64 py, .bool ng, .slice none 0 0] 59)).drew = W1 at *
      refine hK.out _ _ (.inr (S4.below (V := W0) hH hb1)) ?_
      have HB1 := Lib.hid hb1
      have HCX := Lib.hid hcx
      clear hK K hH hW1 hb1 hcx
      try simp only [Act.put, List.setIfInBounds_toArray, List.set_cons_zero, List.set_cons_succ, List.getElem_toArray, List.getElem_cons_succ, List.getElem_cons_zero]
      refine wpAnyN_done (by kernel_rfl) ?_ _
      go_wp2_with fail
      obtain ⟨W2, rfl⟩ : ∃ W2, W2 = W1 := ⟨_, rfl⟩
      go_loopw [6] (fun v6 wi => ∃ (k c2 : Nat) (A2 : Option Addr), k ≤ m ∧ v6 = .int .i64 (k : Int) ∧ Cel wi W0.heap.size 59 [.int .i64 kd, .int .i64 px, .int .i64 py, .bool ng, .slice A2 k c2] ∧ wi.ownsRow (W0.heap.size + 1) 61 2 (.slice A2 k c2) k (sflat (l.take k)) ∧ Below W0.heap.size W0 wi) (fun v6 _ => m - (intOf v6).toNat)
      case atStart => exact ⟨0, 0, none, Nat.zero_le _, rfl, HCX.out, World.ownsRow_nil _ _ _ _, HB1.out⟩
      case round =>
        clear HCX HB1
        obtain ⟨k, c2, A2, hk, rfl, hcx, hor, hbi⟩ := hrel
        have q1 := (hbi.cell (p := ⟨(ad.add (i * 5)).block, (ad.add (i * 5)).off + 4, none⟩) k4s).trans k4
        have HCX := Lib.hid hcx
        have HOR := Lib.hid hor
        have HBI := Lib.hid hbi
        have hsi := hcx.lt
        clear hor
        rcases Nat.lt_or_ge k m with hkm | hkm
        · obtain ⟨s0, hs0⟩ : ∃ s0, l[k]? = some s0 := ⟨_, List.getElem?_eq_getElem (by rw [HLL.out]; exact hkm)⟩
          obtain ⟨sa, rfl, sc0, sc1⟩ := cz_two HSU.out hs0
          have z0 := cell_lt sc0
          have z1 := cell_lt sc1
          have hH : S4 ⟨W0.heap.size, 4, none⟩ ⟨(ad.add (i * 5)).block, (ad.add (i * 5)).off + 4, none⟩ (sa.add (k * 2)) ⟨(sa.add (k * 2)).block, (sa.add (k * 2)).off + 1, none⟩ (.slice A2 k c2) (.slice (some sa) m uc) (v8 s0.a) (v8 s0.b) wr.drew := ⟨hcx.cell 4, q1, (hbi.cell z0).trans sc0, (hbi.cell z1).trans sc1⟩
          have HS0 := Lib.hid hs0
          have hb5 : Below wr.heap.size wr (wr.alloc (.cells #[v8 s0.a, v8 s0.b] 61)).drew := ((Below.refl _ _).alloc (Nat.le_refl _) _).drew
          have HB5 := Lib.hid hb5
          have HC5 := Lib.hid (hcx.below hb5 hcx.lt)
          have HO5 := Lib.hid (own_frm (l := []) HOR.out (Frm.of_below hb5) (by simp))
          have hsrc := Lib.hid (Ry.src (m := 1) (Ry.of_cel (show Cel (wr.alloc (.cells #[v8 s0.a, v8 s0.b] 61)).drew wr.heap.size 61 [v8 s0.a, v8 s0.b] from Cel.new wr _ _)) (by simp))
          have HS5 := Lib.hid (S4.below (V := wr) hH hb5)
          clear hcx hbi hs0 hb5 sc0 sc1
          go_wp2_with fail
          refine wp_region_N [24] (S4 ⟨W0.heap.size, 4, none⟩ ⟨(ad.add (i * 5)).block, (ad.add (i * 5)).off + 4, none⟩ (sa.add (k * 2)) ⟨(sa.add (k * 2)).block, (sa.add (k * 2)).off + 1, none⟩ (.slice A2 k c2) (.slice (some sa) m uc) (v8 s0.a) (v8 s0.b)) (by kernel_rfl) ?_
          refine wpAnyN_take (i := 0) (v := .pointer (some ⟨W0.heap.size, 4, none⟩)) [24] (by kernel_rfl) rfl (by kernel_rfl) (by kernel_rfl) (by kernel_rfl) (fun _ _ _ h => h) (Or.inl ⟨by rfl, ?_⟩) hH ?_
          · intro V hV; go_simp
          try simp only [Act.put, List.setIfInBounds_toArray, List.set_cons_zero, List.set_cons_succ, List.getElem_toArray, List.getElem_cons_succ, List.getElem_cons_zero]
          refine wpAnyN_take (i := 1) (v := .slice A2 k c2) [24] (by kernel_rfl) rfl (by kernel_rfl) (by kernel_rfl) (by kernel_rfl) (fun _ _ _ h => h) (Or.inl ⟨by rfl, ?_⟩) hH ?_
          · intro V hV; obtain ⟨q0, q1, q2, q3⟩ := hV; go_simp
          try simp only [Act.put, List.setIfInBounds_toArray, List.set_cons_zero, List.set_cons_succ, List.getElem_toArray, List.getElem_cons_succ, List.getElem_cons_zero]
          refine wpAnyN_take (i := 2) (v := .slice (some ad) n c) [24] (by kernel_rfl) rfl (by kernel_rfl) (by kernel_rfl) (by kernel_rfl) (fun _ _ _ h => h) (Or.inl ⟨by rfl, ?_⟩) hH ?_
          · intro V hV; go_simp
          try simp only [Act.put, List.setIfInBounds_toArray, List.set_cons_zero, List.set_cons_succ, List.getElem_toArray, List.getElem_cons_succ, List.getElem_cons_zero]
          refine wpAnyN_take (i := 3) (v := .int .i64 (i : Int)) [24] (by kernel_rfl) rfl (by kernel_rfl) (by kernel_rfl) (by kernel_rfl) (fun _ _ _ h => h) (Or.inl ⟨by rfl, ?_⟩) hH ?_
          · intro V hV; go_simp
          try simp only [Act.put, List.setIfInBounds_toArray, List.set_cons_zero, List.set_cons_succ, List.getElem_toArray, List.getElem_cons_succ, List.getElem_cons_zero]
          refine wpAnyN_take (i := 4) (v := .pointer (some (ad.add (i * 5)))) [24] (by kernel_rfl) rfl (by kernel_rfl) (by kernel_rfl) (by kernel_rfl) (fun _ _ _ h => h) (Or.inl ⟨by rfl, ?_⟩) hH ?_
          · intro V hV; go_simp
          try simp only [Act.put, List.setIfInBounds_toArray, List.set_cons_zero, List.set_cons_succ, List.getElem_toArray, List.getElem_cons_succ, List.getElem_cons_zero]
          refine wpAnyN_take (i := 5) (v := .pointer (some ⟨(ad.add (i * 5)).block, (ad.add (i * 5)).off + 4, none⟩)) [24] (by kernel_rfl) rfl (by kernel_rfl) (by kernel_rfl) (by kernel_rfl) (fun _ _ _ h => h) (Or.inl ⟨by rfl, ?_⟩) hH ?_
          · intro V hV; go_simp
          try simp only [Act.put, List.setIfInBounds_toArray, List.set_cons_zero, List.set_cons_succ, List.getElem_toArray, List.getElem_cons_succ, List.getElem_cons_zero]
          refine wpAnyN_take (i := 6) (v := .slice (some sa) m uc) [24] (by kernel_rfl) rfl (by kernel_rfl) (by kernel_rfl) (by kernel_rfl) (fun _ _ _ h => h) (Or.inl ⟨by rfl, ?_⟩) hH ?_
          · intro V hV; obtain ⟨q0, q1, q2, q3⟩ := hV; go_simp
          try simp only [Act.put, List.setIfInBounds_toArray, List.set_cons_zero, List.set_cons_succ, List.getElem_toArray, List.getElem_cons_succ, List.getElem_cons_zero]
          refine wpAnyN_take (i := 7) (v := .int .i64 (k : Int)) [24] (by kernel_rfl) rfl (by kernel_rfl) (by kernel_rfl) (by kernel_rfl) (fun _ _ _ h => h) (Or.inl ⟨by rfl, ?_⟩) hH ?_
          · intro V hV; go_simp
          try simp only [Act.put, List.setIfInBounds_toArray, List.set_cons_zero, List.set_cons_succ, List.getElem_toArray, List.getElem_cons_succ, List.getElem_cons_zero]
          refine wpAnyN_take (i := 8) (v := .pointer (some (sa.add (k * 2)))) [24] (by kernel_rfl) rfl (by kernel_rfl) (by kernel_rfl) (by kernel_rfl) (fun _ _ _ h => h) (Or.inl ⟨by rfl, ?_⟩) hH ?_
          · intro V hV; go_simp
          try simp only [Act.put, List.setIfInBounds_toArray, List.set_cons_zero, List.set_cons_succ, List.getElem_toArray, List.getElem_cons_succ, List.getElem_cons_zero]
          refine wpAnyN_take (i := 9) (v := .pointer (some (sa.add (k * 2)))) [24] (by kernel_rfl) rfl (by kernel_rfl) (by kernel_rfl) (by kernel_rfl) (fun _ _ _ h => h) (Or.inl ⟨by rfl, ?_⟩) hH ?_
          · intro V hV; go_simp
          try simp only [Act.put, List.setIfInBounds_toArray, List.set_cons_zero, List.set_cons_succ, List.getElem_toArray, List.getElem_cons_succ, List.getElem_cons_zero]
          refine wpAnyN_take (i := 10) (v := v8 s0.a) [24] (by kernel_rfl) rfl (by kernel_rfl) (by kernel_rfl) (by kernel_rfl) (fun _ _ _ h => h) (Or.inl ⟨by rfl, ?_⟩) hH ?_
          · intro V hV; obtain ⟨q0, q1, q2, q3⟩ := hV; go_simp
          try simp only [Act.put, List.setIfInBounds_toArray, List.set_cons_zero, List.set_cons_succ, List.getElem_toArray, List.getElem_cons_succ, List.getElem_cons_zero]
          refine wpAnyN_take (i := 11) (v := .slice (some ad) n c) [24] (by kernel_rfl) rfl (by kernel_rfl) (by kernel_rfl) (by kernel_rfl) (fun _ _ _ h => h) (Or.inl ⟨by rfl, ?_⟩) hH ?_
          · intro V hV; go_simp
          try simp only [Act.put, List.setIfInBounds_toArray, List.set_cons_zero, List.set_cons_succ, List.getElem_toArray, List.getElem_cons_succ, List.getElem_cons_zero]
          refine wpAnyN_take (i := 12) (v := .int .i64 (i : Int)) [24] (by kernel_rfl) rfl (by kernel_rfl) (by kernel_rfl) (by kernel_rfl) (fun _ _ _ h => h) (Or.inl ⟨by rfl, ?_⟩) hH ?_
          · intro V hV; go_simp
          try simp only [Act.put, List.setIfInBounds_toArray, List.set_cons_zero, List.set_cons_succ, List.getElem_toArray, List.getElem_cons_succ, List.getElem_cons_zero]
          refine wpAnyN_take (i := 13) (v := .pointer (some (ad.add (i * 5)))) [24] (by kernel_rfl) rfl (by kernel_rfl) (by kernel_rfl) (by kernel_rfl) (fun _ _ _ h => h) (Or.inl ⟨by rfl, ?_⟩) hH ?_
          · intro V hV; go_simp
          try simp only [Act.put, List.setIfInBounds_toArray, List.set_cons_zero, List.set_cons_succ, List.getElem_toArray, List.getElem_cons_succ, List.getElem_cons_zero]
          refine wpAnyN_take (i := 14) (v := .pointer (some ⟨(ad.add (i * 5)).block, (ad.add (i * 5)).off + 4, none⟩)) [24] (by kernel_rfl) rfl (by kernel_rfl) (by kernel_rfl) (by kernel_rfl) (fun _ _ _ h => h) (Or.inl ⟨by rfl, ?_⟩) hH ?_
          · intro V hV; go_simp
          try simp only [Act.put, List.setIfInBounds_toArray, List.set_cons_zero, List.set_cons_succ, List.getElem_toArray, List.getElem_cons_succ, List.getElem_cons_zero]
          refine wpAnyN_take (i := 15) (v := .slice (some sa) m uc) [24] (by kernel_rfl) rfl (by kernel_rfl) (by kernel_rfl) (by kernel_rfl) (fun _ _ _ h => h) (Or.inl ⟨by rfl, ?_⟩) hH ?_
          · intro V hV; obtain ⟨q0, q1, q2, q3⟩ := hV; go_simp
          try simp only [Act.put, List.setIfInBounds_toArray, List.set_cons_zero, List.set_cons_succ, List.getElem_toArray, List.getElem_cons_succ, List.getElem_cons_zero]
          refine wpAnyN_take (i := 16) (v := .int .i64 (k : Int)) [24] (by kernel_rfl) rfl (by kernel_rfl) (by kernel_rfl) (by kernel_rfl) (fun _ _ _ h => h) (Or.inl ⟨by rfl, ?_⟩) hH ?_
          · intro V hV; go_simp
          try simp only [Act.put, List.setIfInBounds_toArray, List.set_cons_zero, List.set_cons_succ, List.getElem_toArray, List.getElem_cons_succ, List.getElem_cons_zero]
          refine wpAnyN_take (i := 17) (v := .pointer (some (sa.add (k * 2)))) [24] (by kernel_rfl) rfl (by kernel_rfl) (by kernel_rfl) (by kernel_rfl) (fun _ _ _ h => h) (Or.inl ⟨by rfl, ?_⟩) hH ?_
          · intro V hV; go_simp
          try simp only [Act.put, List.setIfInBounds_toArray, List.set_cons_zero, List.set_cons_succ, List.getElem_toArray, List.getElem_cons_succ, List.getElem_cons_zero]
          refine wpAnyN_take (i := 18) (v := .pointer (some ⟨(sa.add (k * 2)).block, (sa.add (k * 2)).off + 1, none⟩)) [24] (by kernel_rfl) rfl (by kernel_rfl) (by kernel_rfl) (by kernel_rfl) (fun _ _ _ h => h) (Or.inl ⟨by rfl, ?_⟩) hH ?_
          · intro V hV; go_simp
          try simp only [Act.put, List.setIfInBounds_toArray, List.set_cons_zero, List.set_cons_succ, List.getElem_toArray, List.getElem_cons_succ, List.getElem_cons_zero]
          refine wpAnyN_take (i := 19) (v := v8 s0.b) [24] (by kernel_rfl) rfl (by kernel_rfl) (by kernel_rfl) (by kernel_rfl) (fun _ _ _ h => h) (Or.inl ⟨by rfl, ?_⟩) hH ?_
          · intro V hV; obtain ⟨q0, q1, q2, q3⟩ := hV; go_simp
          try simp only [Act.put, List.setIfInBounds_toArray, List.set_cons_zero, List.set_cons_succ, List.getElem_toArray, List.getElem_cons_succ, List.getElem_cons_zero]
          refine wpAnyN_take (i := 20) (v := .agg #[v8 s0.a, v8 s0.b]) [24] (by kernel_rfl) rfl (by kernel_rfl) (by kernel_rfl) (by kernel_rfl) (fun _ _ _ h => h) (Or.inl ⟨by rfl, ?_⟩) hH ?_
          · intro V hV; go_simp
          try simp only [Act.put, List.setIfInBounds_toArray, List.set_cons_zero, List.set_cons_succ, List.getElem_toArray, List.getElem_cons_succ, List.getElem_cons_zero]
          refine wpAnyN_one (i := 21) (by kernel_rfl) rfl (fun K hK => ?_)
          go_simp
          refine hK.out _ _ (.inr HS5.out) ?_
          clear hK K
          try simp only [Act.put, List.setIfInBounds_toArray, List.set_cons_zero, List.set_cons_succ, List.getElem_toArray, List.getElem_cons_succ, List.getElem_cons_zero]
          refine wpAnyN_one (i := 22) (by kernel_rfl) rfl (fun K hK => ?_)
          rw [if_pos (by rfl)]
          refine wp_append_any _ _ _ 57 rfl (W0.heap.size + 1) 61 Reg.rrowSpan (.slice A2 k c2) k (sflat (l.take k)) rfl HO5.out (some ⟨wr.heap.size, 0, none⟩) 1 1 [v8 s0.a, v8 s0.b] rfl rfl hsrc.out (by intro u hu; simp at hu; rcases hu with rfl | rfl <;> rfl) (k + 1) _ rfl rfl (by unfold maxLen; omega) (by omega) (by simp; omega) ?_
          intro A8 c8 w8 ho8 hg8 _
          have hb8 : Below (W0.heap.size + 1) (wr.alloc (.cells #[v8 s0.a, v8 s0.b] 61)).drew w8 := ⟨hg8.os, hg8.tape, hg8.output, hg8.size, fun q hq => hg8.block q (by have := HB5.out.size; omega) fun e => by have := own_ge HO5.out q e.symm; omega⟩
          have hS8 := S4.at_ HS5.out hb8 (by simp) (by show (ad.add (i * 5)).block < _; omega) (by omega) (by show (sa.add (k * 2)).block < _; omega)
          have hc8 := HC5.out.below hb8 (Nat.lt_succ_self _)
          have y4 := hc8.cell 4
          have g4 := hc8.free 4
          have HC8 := Lib.hid hc8
          have HO8 := Lib.hid ho8
          have HB8 := Lib.hid (HBI.out.trans ((HB5.out.mono HBI.out.size).trans (hb8.mono (Nat.le_succ _))))
          refine hK.out _ _ (.inr hS8) ?_
          clear hK K hc8 ho8 hg8 hb8
          try simp only [Act.put, List.setIfInBounds_toArray, List.set_cons_zero, List.set_cons_succ, List.getElem_toArray, List.getElem_cons_succ, List.getElem_cons_zero]
          refine wpAnyN_one (i := 23) (by kernel_rfl) rfl (fun K hK => ?_)
          go_simp
          refine hK.out _ _ (.inr hS8) ?_
          clear hK K
          try simp only [Act.put, List.setIfInBounds_toArray, List.set_cons_zero, List.set_cons_succ, List.getElem_toArray, List.getElem_cons_succ, List.getElem_cons_zero]
          refine wpAnyN_one (i := 24) (by kernel_rfl) rfl (fun K hK => ?_)
          go_simp
          refine hK.out _ _ (.inl (by decide)) ?_
          clear hK K
          try simp only [Act.put, List.setIfInBounds_toArray, List.set_cons_zero, List.set_cons_succ, List.getElem_toArray, List.getElem_cons_succ, List.getElem_cons_zero]
          refine wpAnyN_done (by kernel_rfl) ?_ _
          go_wp2_with fail
          have hf9 : Frm [W0.heap.size] w8 (w8.setCell ⟨W0.heap.size, 4, none⟩ (.slice A8 (k + 1) c8)) := (Frm.refl [W0.heap.size] w8).set (by simp) _
          refine ⟨⟨k + 1, c8, A8, by omega, by rw [show ((k + 1 : Nat) : Int) = (k : Int) + 1 by omega], HC8.out.set 4 _, ?_, HB8.out.trans (hf9.below (by have := HB8.out.size; omega) (by simp))⟩, by simp [intOf]; omega⟩
          rw [take_snocS l k s0 HS0.out, sflat_snoc]
          exact own_frm HO8.out hf9 (by intro q hq; simp at hq; subst hq; exact own_ne HO8.out (Nat.lt_succ_self _))
        · obtain rfl : k = m := by omega
          have hltk : l.take k = l := List.take_of_length_le (by rw [HLL.out]; exact Nat.le_refl _)
          have hor := HOR.out
          rw [hltk] at hor
          have x0 := HCX.out.cell 0
          have x1 := HCX.out.cell 1
          have x2 := HCX.out.cell 2
          have x3 := HCX.out.cell 3
          have x4 := HCX.out.cell 4
          have HP := Lib.hid ((HRI.out.below HBI.out).below ((Below.refl wr.heap.size wr).alloc (Nat.le_refl _) (.cells #[.int .i64 kd, .int .i64 px, .int .i64 py, .bool ng, .slice A2 k c2] 59)))
          have HQ := Lib.hid ((HB.out.trans (HBI.out.mono HB.out.size)).alloc (by have := HBI.out.size; omega) (.cells #[.int .i64 kd, .int .i64 px, .int .i64 py, .bool ng, .slice A2 k c2] 59))
          have HS := Lib.hid (Ry.src (m := 1) (Ry.of_cel (Cel.new wr 59 [.int .i64 kd, .int .i64 px, .int .i64 py, .bool ng, .slice A2 k c2])) (by simp))
          have HSP2 := Lib.hid (Ry.alloc (Ry.of_own hor (by decide)) (.cells #[.int .i64 kd, .int .i64 px, .int .i64 py, .bool ng, .slice A2 k c2] 59))
          have HC9 := Lib.hid (show iflat [⟨⟨kd, px, py, ng, l⟩, A2, c2⟩] = [.int .i64 kd, .int .i64 px, .int .i64 py, .bool ng, .slice A2 k c2] by simp [iflat, Iv.cells, HLL.out])
          clear hor hltk hcx hbi hkm
          go_wp2_with ((at_builtin; refine wpList_append_any _ rfl _ _ 34 rfl w.heap.size 59 rrowIn (.slice A3 i c3) i (iflat vs) rfl HP.out.own (some ⟨wr.heap.size, 0, none⟩) 1 1 [.int .i64 kd, .int .i64 px, .int .i64 py, .bool ng, .slice A2 k c2] rfl rfl HS.out (by intro u hu; simp at hu; rcases hu with rfl | rfl | rfl | rfl | rfl <;> rfl) (i + 1) (iflat vs ++ [.int .i64 kd, .int .i64 px, .int .i64 py, .bool ng, .slice A2 k c2]) rfl rfl (by unfold maxLen; omega) (by omega) HQ.out.size ?_; intro A8 c8 w8 ho8 hg8 _; have HO8 := Lib.hid ho8; have HG8 := Lib.hid hg8; clear ho8 hg8))
          have hpu := HP.out.pushed (vs := [⟨⟨kd, px, py, ng, l⟩, A2, c2⟩]) (by intro u hu; rw [List.mem_singleton.1 hu]; exact HSP2.out) rfl (by rw [HC9.out]) HG8.out HO8.out
          exact ⟨⟨i + 1, c8, A8, _, by omega, by rw [show ((i + 1 : Nat) : Int) = (i : Int) + 1 by omega], rfl, hpu, by rw [List.map_append, HVS.out, take_snocI us i _ HU.out, List.map_append]; rfl, HQ.out.trans (HP.out.grew HG8.out HQ.out.size)⟩, by simp [intOf]; omega⟩
    · obtain rfl : i = n := by omega
      clear hge
      go_wp2_with fail
      go_ret
      exact ⟨A3, c3, vs, rfl, HRI.out, by rw [HVS.out, List.take_of_length_le (by rw [HL.out]; exact Nat.le_refl _)], HB.out⟩
end Go.Proofs.Ytjpbndpfbdfhjaa.Nfa
