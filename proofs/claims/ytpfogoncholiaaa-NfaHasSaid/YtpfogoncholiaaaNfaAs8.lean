/-
  The program's ops as the document's (layer 8): davitlaw08.As.
-/
import Derived.Test.YtpfogoncholiaaaNfaAs
namespace Go.Proofs.Ytpfogoncholiaaa.Nfa
open Go.RowKit Go.Proofs.Ytpfogoncholiaaa.Ord
open Go.Proofs.Ytpfogoncholiaaa.Reg (Ov oflat Sp RSpn Spn sflat sflat_length sflat_snoc rrowSpan oflat_length)
set_option linter.unusedVariables false
set_option linter.unusedSimpArgs false

/-- The program's ops, that can be read. -/
structure Pr8 (w : World) (A : Option Addr) (us : List Ov) : Prop where
  ry : Cz w A (oflat us)
  sp : ∀ u ∈ us, Cz w u.A (sflat u.o.sp)
/-- The cells of an op in a row. -/
theorem cz_three {w : World} {A : Option Addr} {us : List Ov} (h : Cz w A (oflat us)) {i : Nat} {u : Ov} (hi : us[i]? = some u) : ∃ ad, A = some ad ∧ w.cell? (ad.add (i * 3)) = some (.int .i64 u.o.kind) ∧
    w.cell? ⟨(ad.add (i * 3)).block, (ad.add (i * 3)).off + 1, none⟩ = some (.bool u.o.neg) ∧ w.cell? ⟨(ad.add (i * 3)).block, (ad.add (i * 3)).off + 2, none⟩ = some (.slice u.A u.o.sp.length u.c) := by
  have e : ∀ k, k < 3 → (oflat us)[i * 3 + k]? = u.cells[k]? := fun k hk => Nfa.flat_at Ov.cells 3 (fun _ => rfl) us i k u hi hk
  obtain ⟨ad, rfl, hc⟩ := h (fun q => by have := e 0 (by decide); rw [q] at this; simp [Ov.cells] at this)
  exact ⟨ad, rfl, hc _ _ (e 0 (by decide)), by rw [add_at _ _ 1 (by decide)]; exact hc _ _ (e 1 (by decide)), by rw [add_at _ _ 2 (by decide)]; exact hc _ _ (e 2 (by decide))⟩
theorem rinfoOp9 : (Try.prog.info? 60).map (fun i => (i.zero, i.size, i.bytes)) = some (some (.agg #[.int .i64 0, .bool false, .slice none 0 0]), 3, 40) := by kernel_rfl
theorem rrowOp9 : ElemRow Try.prog 32 60 3 40 := ElemRow.mk' Try.underlying32 rinfoOp9 rfl (by decide)
/-- The document's ops, in an own row. -/
structure Ro (w : World) (B : Nat) (A : Option Addr) (n c : Nat) (us : List Ov) : Prop where
  own : w.ownsRow B 60 3 (.slice A n c) n (oflat us)
  len : us.length = n
  sp : ∀ u ∈ us, RSpn w u.A u.o.sp
section
variable {w w' : World} {B B' n c : Nat} {A : Option Addr} {us : List Ov}
theorem Ro.rl (h : Ro w B A n c us) : Rl w A us := ⟨Ry.of_own h.own (by decide), h.sp⟩
theorem Ro.below (h : Ro w B A n c us) (hb : Below w.heap.size w w') : Ro w' B A n c us := ⟨own_frm (l := []) h.own (Frm.of_below hb) (by simp), h.len, fun u hu => Ry.below (h.sp u hu) hb⟩
theorem Ro.nil_ (w : World) (B : Nat) : Ro w B none 0 0 [] := ⟨World.ownsRow_nil _ _ _ _, rfl, by simp⟩
theorem Ro.pushed {c' n' : Nat} {A' : Option Addr} {vs : List Ov} {cs : List Value} (h : Ro w B A n c us) (hv : ∀ u ∈ vs, RSpn w u.A u.o.sp) (hn : n' = n + vs.length) (hcs : cs = oflat us ++ oflat vs) (hg : w.grownBy w' (Value.slice A n c).ownBlock) (ho : w'.ownsRow B 60 3 (.slice A' n' c') n' cs) : Ro w' B A' n' c' (us ++ vs) := by
  subst hcs
  refine ⟨by rw [show oflat (us ++ vs) = oflat us ++ oflat vs by simp [oflat]]; exact ho, by rw [List.length_append, h.len, hn], fun u hu => ?_⟩
  rcases List.mem_append.1 hu with q | q
  · exact Ry.grown (h.sp u q) hg (own_not_ty h.own (by decide))
  · exact Ry.grown (hv u q) hg (own_not_ty h.own (by decide))
theorem Ro.grew (h : Ro w B A n c us) (hg : w.grownBy w' (Value.slice A n c).ownBlock) (hB : B ≤ w.heap.size) : Below B w w' :=
  ⟨hg.os, hg.tape, hg.output, hg.size, fun k hk => hg.block k (by omega) fun e => by have := own_ge h.own k e.symm; omega⟩
end
theorem take_snocO (l : List Ov) (k : Nat) (x : Ov) (h : l[k]? = some x) : l.take (k + 1) = l.take k ++ [x] := by rw [List.take_add_one, h]; rfl

/-- What As returns. -/
def As8Says (w : World) (n : Nat) (us : List Ov) (e : Ending) (w' : World) : Prop := ∃ A' c' vs, e = .returned (.slice A' n c') ∧ Ro w' w.heap.size A' n c' vs ∧ vs.map (·.o) = us.map (·.o) ∧ Below w.heap.size w w'
set_option maxRecDepth 100000 in
set_option maxHeartbeats 4000000 in
theorem as8 (w : World) (A : Option Addr) (n c : Nat) (us : List Ov) (h : Pr8 w A us) (hl : us.length = n) (hn : n ≤ 1000) (hsp : ∀ u ∈ us, u.o.sp.length ≤ 1000) :
    Calls Try.prog 10 #[.slice A n c] w (As8Says w n us) := by
  have H := Lib.hid h
  have HL := Lib.hid hl
  have HSP := Lib.hid hsp
  clear h hl hsp
  go_enter Try.func10, Try.ntmps10
  go_wp2_with fail
  go_loopw [3, 4] (fun v3 v4 wr => ∃ (i c3 : Nat) (A3 : Option Addr) (vs : List Ov), i ≤ n ∧ v4 = .int .i64 (i : Int) ∧ v3 = .slice A3 i c3 ∧ Ro wr w.heap.size A3 i c3 vs ∧ vs.map (·.o) = (us.take i).map (·.o) ∧ Below w.heap.size w wr) (fun _ v4 _ => n - (intOf v4).toNat)
  case atStart => exact ⟨0, 0, none, [], Nat.zero_le _, rfl, rfl, Ro.nil_ _ _, by simp, Below.refl _ _⟩
  case round =>
    obtain ⟨i, c3, A3, vs, hi, rfl, rfl, hri, hvs, hb⟩ := hrel
    obtain ⟨W0, rfl⟩ : ∃ W0, W0 = wr := ⟨_, rfl⟩
    have HRI := Lib.hid hri
    have HVS := Lib.hid hvs
    have HB := Lib.hid hb
    have hws := hb.size
    clear hri hvs hb
    rcases Nat.lt_or_ge i n with hlt | hge
    · obtain ⟨u, hu⟩ : ∃ u, us[i]? = some u := ⟨_, List.getElem?_eq_getElem (by rw [HL.out]; exact hlt)⟩
      obtain ⟨ad, rfl, k0, k1, k4⟩ := cz_three (H.out.ry.below HB.out) hu
      have HU := Lib.hid hu
      have HSU := Lib.hid (Cz.below (H.out.sp u (List.mem_of_getElem? hu)) HB.out)
      have hsu := HSP.out u (List.mem_of_getElem? hu)
      clear hu
      obtain ⟨⟨kd, ng, l⟩, uA, uc⟩ := u
      dsimp only at *
      generalize hll : l.length = m at *
      have HLL := Lib.hid hll
      have hH : S4 (ad.add (i * 3)) ⟨(ad.add (i * 3)).block, (ad.add (i * 3)).off + 1, none⟩ (ad.add (i * 3)) ⟨(ad.add (i * 3)).block, (ad.add (i * 3)).off + 1, none⟩ (.int .i64 kd) (.bool ng) (.int .i64 kd) (.bool ng) W0.drew := ⟨k0, k1, k0, k1⟩
      have k4s := cell_lt k4
      clear hll k0 k1
      go_wp2_with fail
      refine wp_region_N [] (S4 (ad.add (i * 3)) ⟨(ad.add (i * 3)).block, (ad.add (i * 3)).off + 1, none⟩ (ad.add (i * 3)) ⟨(ad.add (i * 3)).block, (ad.add (i * 3)).off + 1, none⟩ (.int .i64 kd) (.bool ng) (.int .i64 kd) (.bool ng)) (by kernel_rfl) ?_
      refine wpAnyN_take (i := 0) (v := .slice (some ad) n c) [] (by kernel_rfl) rfl (by kernel_rfl) (by kernel_rfl) (by kernel_rfl) (fun _ _ _ h => h) (Or.inl ⟨by rfl, ?_⟩) hH ?_
      · intro V hV; go_simp
      try simp only [Act.put, List.setIfInBounds_toArray, List.set_cons_zero, List.set_cons_succ, List.getElem_toArray, List.getElem_cons_succ, List.getElem_cons_zero]
      refine wpAnyN_take (i := 1) (v := .int .i64 (i : Int)) [] (by kernel_rfl) rfl (by kernel_rfl) (by kernel_rfl) (by kernel_rfl) (fun _ _ _ h => h) (Or.inl ⟨by rfl, ?_⟩) hH ?_
      · intro V hV; go_simp
      try simp only [Act.put, List.setIfInBounds_toArray, List.set_cons_zero, List.set_cons_succ, List.getElem_toArray, List.getElem_cons_succ, List.getElem_cons_zero]
      refine wpAnyN_take (i := 2) (v := .pointer (some (ad.add (i * 3)))) [] (by kernel_rfl) rfl (by kernel_rfl) (by kernel_rfl) (by kernel_rfl) (fun _ _ _ h => h) (Or.inl ⟨by rfl, ?_⟩) hH ?_
      · intro V hV; go_simp
      try simp only [Act.put, List.setIfInBounds_toArray, List.set_cons_zero, List.set_cons_succ, List.getElem_toArray, List.getElem_cons_succ, List.getElem_cons_zero]
      refine wpAnyN_take (i := 3) (v := .pointer (some (ad.add (i * 3)))) [] (by kernel_rfl) rfl (by kernel_rfl) (by kernel_rfl) (by kernel_rfl) (fun _ _ _ h => h) (Or.inl ⟨by rfl, ?_⟩) hH ?_
      · intro V hV; go_simp
      try simp only [Act.put, List.setIfInBounds_toArray, List.set_cons_zero, List.set_cons_succ, List.getElem_toArray, List.getElem_cons_succ, List.getElem_cons_zero]
      refine wpAnyN_take (i := 4) (v := .int .i64 kd) [] (by kernel_rfl) rfl (by kernel_rfl) (by kernel_rfl) (by kernel_rfl) (fun _ _ _ h => h) (Or.inl ⟨by rfl, ?_⟩) hH ?_
      · intro V hV; obtain ⟨k0, k1, k2, k3⟩ := hV; go_simp
      try simp only [Act.put, List.setIfInBounds_toArray, List.set_cons_zero, List.set_cons_succ, List.getElem_toArray, List.getElem_cons_succ, List.getElem_cons_zero]
      refine wpAnyN_take (i := 5) (v := .slice (some ad) n c) [] (by kernel_rfl) rfl (by kernel_rfl) (by kernel_rfl) (by kernel_rfl) (fun _ _ _ h => h) (Or.inl ⟨by rfl, ?_⟩) hH ?_
      · intro V hV; go_simp
      try simp only [Act.put, List.setIfInBounds_toArray, List.set_cons_zero, List.set_cons_succ, List.getElem_toArray, List.getElem_cons_succ, List.getElem_cons_zero]
      refine wpAnyN_take (i := 6) (v := .int .i64 (i : Int)) [] (by kernel_rfl) rfl (by kernel_rfl) (by kernel_rfl) (by kernel_rfl) (fun _ _ _ h => h) (Or.inl ⟨by rfl, ?_⟩) hH ?_
      · intro V hV; go_simp
      try simp only [Act.put, List.setIfInBounds_toArray, List.set_cons_zero, List.set_cons_succ, List.getElem_toArray, List.getElem_cons_succ, List.getElem_cons_zero]
      refine wpAnyN_take (i := 7) (v := .pointer (some (ad.add (i * 3)))) [] (by kernel_rfl) rfl (by kernel_rfl) (by kernel_rfl) (by kernel_rfl) (fun _ _ _ h => h) (Or.inl ⟨by rfl, ?_⟩) hH ?_
      · intro V hV; go_simp
      try simp only [Act.put, List.setIfInBounds_toArray, List.set_cons_zero, List.set_cons_succ, List.getElem_toArray, List.getElem_cons_succ, List.getElem_cons_zero]
      refine wpAnyN_take (i := 8) (v := .pointer (some ⟨(ad.add (i * 3)).block, (ad.add (i * 3)).off + 1, none⟩)) [] (by kernel_rfl) rfl (by kernel_rfl) (by kernel_rfl) (by kernel_rfl) (fun _ _ _ h => h) (Or.inl ⟨by rfl, ?_⟩) hH ?_
      · intro V hV; go_simp
      try simp only [Act.put, List.setIfInBounds_toArray, List.set_cons_zero, List.set_cons_succ, List.getElem_toArray, List.getElem_cons_succ, List.getElem_cons_zero]
      refine wpAnyN_take (i := 9) (v := .bool ng) [] (by kernel_rfl) rfl (by kernel_rfl) (by kernel_rfl) (by kernel_rfl) (fun _ _ _ h => h) (Or.inl ⟨by rfl, ?_⟩) hH ?_
      · intro V hV; obtain ⟨k0, k1, k2, k3⟩ := hV; go_simp
      try simp only [Act.put, List.setIfInBounds_toArray, List.set_cons_zero, List.set_cons_succ, List.getElem_toArray, List.getElem_cons_succ, List.getElem_cons_zero]
      refine wpAnyN_take (i := 10) (v := .agg #[.int .i64 kd, .bool ng, .slice none 0 0]) [] (by kernel_rfl) rfl (by kernel_rfl) (by kernel_rfl) (by kernel_rfl) (fun _ _ _ h => h) (Or.inl ⟨by rfl, ?_⟩) hH ?_
      · intro V hV; go_simp
      try simp only [Act.put, List.setIfInBounds_toArray, List.set_cons_zero, List.set_cons_succ, List.getElem_toArray, List.getElem_cons_succ, List.getElem_cons_zero]
      refine wpAnyN_one (i := 11) (by kernel_rfl) rfl (fun K hK => ?_)
      go_simp
      refine hK.out _ _ (.inr (hH.below ((Below.refl _ _).alloc (Nat.le_refl _) _))) ?_
      clear hK K
      try simp only [Act.put, List.setIfInBounds_toArray, List.set_cons_zero, List.set_cons_succ, List.getElem_toArray, List.getElem_cons_succ, List.getElem_cons_zero]
      refine wpAnyN_one (i := 12) (by kernel_rfl) rfl (fun K hK => ?_)
      go_simp
      have hb1 : Below W0.heap.size W0 (W0.alloc (.cells #[.int .i64 kd, .bool ng, .slice none 0 0] 60)).drew := ((Below.refl _ _).alloc (Nat.le_refl _) _).drew
      have hcx : Cel (W0.alloc (.cells #[.int .i64 kd, .bool ng, .slice none 0 0] 60)).drew W0.heap.size 60 [.int .i64 kd, .bool ng, .slice none 0 0] := Cel.new W0 _ _
      generalize hW1 : (W0.alloc (.cells #[.int .i64 kd, .bool ng, .slice none 0 0] 60)).drew = W1 at *
      refine hK.out _ _ (.inr (S4.below (V := W0) hH hb1)) ?_
      have HB1 := Lib.hid hb1
      have HCX := Lib.hid hcx
      clear hK K hH hW1 hb1 hcx
      try simp only [Act.put, List.setIfInBounds_toArray, List.set_cons_zero, List.set_cons_succ, List.getElem_toArray, List.getElem_cons_succ, List.getElem_cons_zero]
      refine wpAnyN_done (by kernel_rfl) ?_ _
      go_wp2_with fail
      obtain ⟨W2, rfl⟩ : ∃ W2, W2 = W1 := ⟨_, rfl⟩
      go_loopw [6] (fun v6 wi => ∃ (k c2 : Nat) (A2 : Option Addr), k ≤ m ∧ v6 = .int .i64 (k : Int) ∧ Cel wi W0.heap.size 60 [.int .i64 kd, .bool ng, .slice A2 k c2] ∧ wi.ownsRow (W0.heap.size + 1) 63 2 (.slice A2 k c2) k (sflat (l.take k)) ∧ Below W0.heap.size W0 wi) (fun v6 _ => m - (intOf v6).toNat)
      case atStart => exact ⟨0, 0, none, Nat.zero_le _, rfl, HCX.out, World.ownsRow_nil _ _ _ _, HB1.out⟩
      case round =>
        clear HCX HB1
        obtain ⟨k, c2, A2, hk, rfl, hcx, hor, hbi⟩ := hrel
        have q1 := (hbi.cell (p := ⟨(ad.add (i * 3)).block, (ad.add (i * 3)).off + 2, none⟩) k4s).trans k4
        have HCX := Lib.hid hcx
        have HOR := Lib.hid hor
        have HBI := Lib.hid hbi
        have hsi := hcx.lt
        clear hor
        rcases Nat.lt_or_ge k m with hkm | hkm
        · obtain ⟨s0, hs0⟩ : ∃ s0, l[k]? = some s0 := ⟨_, List.getElem?_eq_getElem (by rw [HLL.out]; exact hkm)⟩
          obtain ⟨sa, rfl, sc0, sc1⟩ := cz_two HSU.out hs0
          have z0 := cell_lt sc0
          have z1 := cell_lt sc1
          have hH : S4 ⟨W0.heap.size, 2, none⟩ ⟨(ad.add (i * 3)).block, (ad.add (i * 3)).off + 2, none⟩ (sa.add (k * 2)) ⟨(sa.add (k * 2)).block, (sa.add (k * 2)).off + 1, none⟩ (.slice A2 k c2) (.slice (some sa) m uc) (v8 s0.a) (v8 s0.b) wr.drew := ⟨hcx.cell 2, q1, (hbi.cell z0).trans sc0, (hbi.cell z1).trans sc1⟩
          have HS0 := Lib.hid hs0
          have hb5 : Below wr.heap.size wr (wr.alloc (.cells #[v8 s0.a, v8 s0.b] 63)).drew := ((Below.refl _ _).alloc (Nat.le_refl _) _).drew
          have HB5 := Lib.hid hb5
          have HC5 := Lib.hid (hcx.below hb5 hcx.lt)
          have HO5 := Lib.hid (own_frm (l := []) HOR.out (Frm.of_below hb5) (by simp))
          have hsrc := Lib.hid (Ry.src (m := 1) (Ry.of_cel (show Cel (wr.alloc (.cells #[v8 s0.a, v8 s0.b] 63)).drew wr.heap.size 63 [v8 s0.a, v8 s0.b] from Cel.new wr _ _)) (by simp))
          have HS5 := Lib.hid (S4.below (V := wr) hH hb5)
          clear hcx hbi hs0 hb5 sc0 sc1
          go_wp2_with fail
          refine wp_region_N [24] (S4 ⟨W0.heap.size, 2, none⟩ ⟨(ad.add (i * 3)).block, (ad.add (i * 3)).off + 2, none⟩ (sa.add (k * 2)) ⟨(sa.add (k * 2)).block, (sa.add (k * 2)).off + 1, none⟩ (.slice A2 k c2) (.slice (some sa) m uc) (v8 s0.a) (v8 s0.b)) (by kernel_rfl) ?_
          refine wpAnyN_take (i := 0) (v := .pointer (some ⟨W0.heap.size, 2, none⟩)) [24] (by kernel_rfl) rfl (by kernel_rfl) (by kernel_rfl) (by kernel_rfl) (fun _ _ _ h => h) (Or.inl ⟨by rfl, ?_⟩) hH ?_
          · intro V hV; go_simp
          try simp only [Act.put, List.setIfInBounds_toArray, List.set_cons_zero, List.set_cons_succ, List.getElem_toArray, List.getElem_cons_succ, List.getElem_cons_zero]
          refine wpAnyN_take (i := 1) (v := .slice A2 k c2) [24] (by kernel_rfl) rfl (by kernel_rfl) (by kernel_rfl) (by kernel_rfl) (fun _ _ _ h => h) (Or.inl ⟨by rfl, ?_⟩) hH ?_
          · intro V hV; obtain ⟨q0, q1, q2, q3⟩ := hV; go_simp
          try simp only [Act.put, List.setIfInBounds_toArray, List.set_cons_zero, List.set_cons_succ, List.getElem_toArray, List.getElem_cons_succ, List.getElem_cons_zero]
          refine wpAnyN_take (i := 2) (v := .slice (some ad) n c) [24] (by kernel_rfl) rfl (by kernel_rfl) (by kernel_rfl) (by kernel_rfl) (fun _ _ _ h => h) (Or.inl ⟨by rfl, ?_⟩) hH ?_
          · intro V hV; go_simp
          try simp only [Act.put, List.setIfInBounds_toArray, List.set_cons_zero, List.set_cons_succ, List.getElem_toArray, List.getElem_cons_succ, List.getElem_cons_zero]
          refine wpAnyN_take (i := 3) (v := .int .i64 (i : Int)) [24] (by kernel_rfl) rfl (by kernel_rfl) (by kernel_rfl) (by kernel_rfl) (fun _ _ _ h => h) (Or.inl ⟨by rfl, ?_⟩) hH ?_
          · intro V hV; go_simp
          try simp only [Act.put, List.setIfInBounds_toArray, List.set_cons_zero, List.set_cons_succ, List.getElem_toArray, List.getElem_cons_succ, List.getElem_cons_zero]
          refine wpAnyN_take (i := 4) (v := .pointer (some (ad.add (i * 3)))) [24] (by kernel_rfl) rfl (by kernel_rfl) (by kernel_rfl) (by kernel_rfl) (fun _ _ _ h => h) (Or.inl ⟨by rfl, ?_⟩) hH ?_
          · intro V hV; go_simp
          try simp only [Act.put, List.setIfInBounds_toArray, List.set_cons_zero, List.set_cons_succ, List.getElem_toArray, List.getElem_cons_succ, List.getElem_cons_zero]
          refine wpAnyN_take (i := 5) (v := .pointer (some ⟨(ad.add (i * 3)).block, (ad.add (i * 3)).off + 2, none⟩)) [24] (by kernel_rfl) rfl (by kernel_rfl) (by kernel_rfl) (by kernel_rfl) (fun _ _ _ h => h) (Or.inl ⟨by rfl, ?_⟩) hH ?_
          · intro V hV; go_simp
          try simp only [Act.put, List.setIfInBounds_toArray, List.set_cons_zero, List.set_cons_succ, List.getElem_toArray, List.getElem_cons_succ, List.getElem_cons_zero]
          refine wpAnyN_take (i := 6) (v := .slice (some sa) m uc) [24] (by kernel_rfl) rfl (by kernel_rfl) (by kernel_rfl) (by kernel_rfl) (fun _ _ _ h => h) (Or.inl ⟨by rfl, ?_⟩) hH ?_
          · intro V hV; obtain ⟨q0, q1, q2, q3⟩ := hV; go_simp
          try simp only [Act.put, List.setIfInBounds_toArray, List.set_cons_zero, List.set_cons_succ, List.getElem_toArray, List.getElem_cons_succ, List.getElem_cons_zero]
          refine wpAnyN_take (i := 7) (v := .int .i64 (k : Int)) [24] (by kernel_rfl) rfl (by kernel_rfl) (by kernel_rfl) (by kernel_rfl) (fun _ _ _ h => h) (Or.inl ⟨by rfl, ?_⟩) hH ?_
          · intro V hV; go_simp
          try simp only [Act.put, List.setIfInBounds_toArray, List.set_cons_zero, List.set_cons_succ, List.getElem_toArray, List.getElem_cons_succ, List.getElem_cons_zero]
          refine wpAnyN_take (i := 8) (v := .pointer (some (sa.add (k * 2)))) [24] (by kernel_rfl) rfl (by kernel_rfl) (by kernel_rfl) (by kernel_rfl) (fun _ _ _ h => h) (Or.inl ⟨by rfl, ?_⟩) hH ?_
          · intro V hV; go_simp
          try simp only [Act.put, List.setIfInBounds_toArray, List.set_cons_zero, List.set_cons_succ, List.getElem_toArray, List.getElem_cons_succ, List.getElem_cons_zero]
          refine wpAnyN_take (i := 9) (v := .pointer (some (sa.add (k * 2)))) [24] (by kernel_rfl) rfl (by kernel_rfl) (by kernel_rfl) (by kernel_rfl) (fun _ _ _ h => h) (Or.inl ⟨by rfl, ?_⟩) hH ?_
          · intro V hV; go_simp
          try simp only [Act.put, List.setIfInBounds_toArray, List.set_cons_zero, List.set_cons_succ, List.getElem_toArray, List.getElem_cons_succ, List.getElem_cons_zero]
          refine wpAnyN_take (i := 10) (v := v8 s0.a) [24] (by kernel_rfl) rfl (by kernel_rfl) (by kernel_rfl) (by kernel_rfl) (fun _ _ _ h => h) (Or.inl ⟨by rfl, ?_⟩) hH ?_
          · intro V hV; obtain ⟨q0, q1, q2, q3⟩ := hV; go_simp
          try simp only [Act.put, List.setIfInBounds_toArray, List.set_cons_zero, List.set_cons_succ, List.getElem_toArray, List.getElem_cons_succ, List.getElem_cons_zero]
          refine wpAnyN_take (i := 11) (v := .slice (some ad) n c) [24] (by kernel_rfl) rfl (by kernel_rfl) (by kernel_rfl) (by kernel_rfl) (fun _ _ _ h => h) (Or.inl ⟨by rfl, ?_⟩) hH ?_
          · intro V hV; go_simp
          try simp only [Act.put, List.setIfInBounds_toArray, List.set_cons_zero, List.set_cons_succ, List.getElem_toArray, List.getElem_cons_succ, List.getElem_cons_zero]
          refine wpAnyN_take (i := 12) (v := .int .i64 (i : Int)) [24] (by kernel_rfl) rfl (by kernel_rfl) (by kernel_rfl) (by kernel_rfl) (fun _ _ _ h => h) (Or.inl ⟨by rfl, ?_⟩) hH ?_
          · intro V hV; go_simp
          try simp only [Act.put, List.setIfInBounds_toArray, List.set_cons_zero, List.set_cons_succ, List.getElem_toArray, List.getElem_cons_succ, List.getElem_cons_zero]
          refine wpAnyN_take (i := 13) (v := .pointer (some (ad.add (i * 3)))) [24] (by kernel_rfl) rfl (by kernel_rfl) (by kernel_rfl) (by kernel_rfl) (fun _ _ _ h => h) (Or.inl ⟨by rfl, ?_⟩) hH ?_
          · intro V hV; go_simp
          try simp only [Act.put, List.setIfInBounds_toArray, List.set_cons_zero, List.set_cons_succ, List.getElem_toArray, List.getElem_cons_succ, List.getElem_cons_zero]
          refine wpAnyN_take (i := 14) (v := .pointer (some ⟨(ad.add (i * 3)).block, (ad.add (i * 3)).off + 2, none⟩)) [24] (by kernel_rfl) rfl (by kernel_rfl) (by kernel_rfl) (by kernel_rfl) (fun _ _ _ h => h) (Or.inl ⟨by rfl, ?_⟩) hH ?_
          · intro V hV; go_simp
          try simp only [Act.put, List.setIfInBounds_toArray, List.set_cons_zero, List.set_cons_succ, List.getElem_toArray, List.getElem_cons_succ, List.getElem_cons_zero]
          refine wpAnyN_take (i := 15) (v := .slice (some sa) m uc) [24] (by kernel_rfl) rfl (by kernel_rfl) (by kernel_rfl) (by kernel_rfl) (fun _ _ _ h => h) (Or.inl ⟨by rfl, ?_⟩) hH ?_
          · intro V hV; obtain ⟨q0, q1, q2, q3⟩ := hV; go_simp
          try simp only [Act.put, List.setIfInBounds_toArray, List.set_cons_zero, List.set_cons_succ, List.getElem_toArray, List.getElem_cons_succ, List.getElem_cons_zero]
          refine wpAnyN_take (i := 16) (v := .int .i64 (k : Int)) [24] (by kernel_rfl) rfl (by kernel_rfl) (by kernel_rfl) (by kernel_rfl) (fun _ _ _ h => h) (Or.inl ⟨by rfl, ?_⟩) hH ?_
          · intro V hV; go_simp
          try simp only [Act.put, List.setIfInBounds_toArray, List.set_cons_zero, List.set_cons_succ, List.getElem_toArray, List.getElem_cons_succ, List.getElem_cons_zero]
          refine wpAnyN_take (i := 17) (v := .pointer (some (sa.add (k * 2)))) [24] (by kernel_rfl) rfl (by kernel_rfl) (by kernel_rfl) (by kernel_rfl) (fun _ _ _ h => h) (Or.inl ⟨by rfl, ?_⟩) hH ?_
          · intro V hV; go_simp
          try simp only [Act.put, List.setIfInBounds_toArray, List.set_cons_zero, List.set_cons_succ, List.getElem_toArray, List.getElem_cons_succ, List.getElem_cons_zero]
          refine wpAnyN_take (i := 18) (v := .pointer (some ⟨(sa.add (k * 2)).block, (sa.add (k * 2)).off + 1, none⟩)) [24] (by kernel_rfl) rfl (by kernel_rfl) (by kernel_rfl) (by kernel_rfl) (fun _ _ _ h => h) (Or.inl ⟨by rfl, ?_⟩) hH ?_
          · intro V hV; go_simp
          try simp only [Act.put, List.setIfInBounds_toArray, List.set_cons_zero, List.set_cons_succ, List.getElem_toArray, List.getElem_cons_succ, List.getElem_cons_zero]
          refine wpAnyN_take (i := 19) (v := v8 s0.b) [24] (by kernel_rfl) rfl (by kernel_rfl) (by kernel_rfl) (by kernel_rfl) (fun _ _ _ h => h) (Or.inl ⟨by rfl, ?_⟩) hH ?_
          · intro V hV; obtain ⟨q0, q1, q2, q3⟩ := hV; go_simp
          try simp only [Act.put, List.setIfInBounds_toArray, List.set_cons_zero, List.set_cons_succ, List.getElem_toArray, List.getElem_cons_succ, List.getElem_cons_zero]
          refine wpAnyN_take (i := 20) (v := .agg #[v8 s0.a, v8 s0.b]) [24] (by kernel_rfl) rfl (by kernel_rfl) (by kernel_rfl) (by kernel_rfl) (fun _ _ _ h => h) (Or.inl ⟨by rfl, ?_⟩) hH ?_
          · intro V hV; go_simp
          try simp only [Act.put, List.setIfInBounds_toArray, List.set_cons_zero, List.set_cons_succ, List.getElem_toArray, List.getElem_cons_succ, List.getElem_cons_zero]
          refine wpAnyN_one (i := 21) (by kernel_rfl) rfl (fun K hK => ?_)
          go_simp
          refine hK.out _ _ (.inr HS5.out) ?_
          clear hK K
          try simp only [Act.put, List.setIfInBounds_toArray, List.set_cons_zero, List.set_cons_succ, List.getElem_toArray, List.getElem_cons_succ, List.getElem_cons_zero]
          refine wpAnyN_one (i := 22) (by kernel_rfl) rfl (fun K hK => ?_)
          rw [if_pos (by rfl)]
          refine wp_append_any _ _ _ 41 rfl (W0.heap.size + 1) 63 Reg.rrowSpan (.slice A2 k c2) k (sflat (l.take k)) rfl HO5.out (some ⟨wr.heap.size, 0, none⟩) 1 1 [v8 s0.a, v8 s0.b] rfl rfl hsrc.out (by intro u hu; simp at hu; rcases hu with rfl | rfl <;> rfl) (k + 1) _ rfl rfl (by unfold maxLen; omega) (by omega) (by simp; omega) ?_
          intro A8 c8 w8 ho8 hg8 _
          have hb8 : Below (W0.heap.size + 1) (wr.alloc (.cells #[v8 s0.a, v8 s0.b] 63)).drew w8 := ⟨hg8.os, hg8.tape, hg8.output, hg8.size, fun q hq => hg8.block q (by have := HB5.out.size; omega) fun e => by have := own_ge HO5.out q e.symm; omega⟩
          have hS8 := S4.at_ HS5.out hb8 (by simp) (by show (ad.add (i * 3)).block < _; omega) (by omega) (by show (sa.add (k * 2)).block < _; omega)
          have hc8 := HC5.out.below hb8 (Nat.lt_succ_self _)
          have y4 := hc8.cell 2
          have g4 := hc8.free 2
          have HC8 := Lib.hid hc8
          have HO8 := Lib.hid ho8
          have HB8 := Lib.hid (HBI.out.trans ((HB5.out.mono HBI.out.size).trans (hb8.mono (Nat.le_succ _))))
          refine hK.out _ _ (.inr hS8) ?_
          clear hK K hc8 ho8 hg8 hb8
          try simp only [Act.put, List.setIfInBounds_toArray, List.set_cons_zero, List.set_cons_succ, List.getElem_toArray, List.getElem_cons_succ, List.getElem_cons_zero]
          refine wpAnyN_one (i := 23) (by kernel_rfl) rfl (fun K hK => ?_)
          go_simp
          refine hK.out _ _ (.inr hS8) ?_
          clear hK K
          try simp only [Act.put, List.setIfInBounds_toArray, List.set_cons_zero, List.set_cons_succ, List.getElem_toArray, List.getElem_cons_succ, List.getElem_cons_zero]
          refine wpAnyN_one (i := 24) (by kernel_rfl) rfl (fun K hK => ?_)
          go_simp
          refine hK.out _ _ (.inl (by decide)) ?_
          clear hK K
          try simp only [Act.put, List.setIfInBounds_toArray, List.set_cons_zero, List.set_cons_succ, List.getElem_toArray, List.getElem_cons_succ, List.getElem_cons_zero]
          refine wpAnyN_done (by kernel_rfl) ?_ _
          go_wp2_with fail
          have hf9 : Frm [W0.heap.size] w8 (w8.setCell ⟨W0.heap.size, 2, none⟩ (.slice A8 (k + 1) c8)) := (Frm.refl [W0.heap.size] w8).set (by simp) _
          refine ⟨⟨k + 1, c8, A8, by omega, by rw [show ((k + 1 : Nat) : Int) = (k : Int) + 1 by omega], HC8.out.set 2 _, ?_, HB8.out.trans (hf9.below (by have := HB8.out.size; omega) (by simp))⟩, by simp [intOf]; omega⟩
          rw [take_snocS l k s0 HS0.out, sflat_snoc]
          exact own_frm HO8.out hf9 (by intro q hq; simp at hq; subst hq; exact own_ne HO8.out (Nat.lt_succ_self _))
        · obtain rfl : k = m := by omega
          have hltk : l.take k = l := List.take_of_length_le (by rw [HLL.out]; exact Nat.le_refl _)
          have hor := HOR.out
          rw [hltk] at hor
          have x0 := HCX.out.cell 0
          have x1 := HCX.out.cell 1
          have x2 := HCX.out.cell 2
          have HP := Lib.hid ((HRI.out.below HBI.out).below ((Below.refl wr.heap.size wr).alloc (Nat.le_refl _) (.cells #[.int .i64 kd, .bool ng, .slice A2 k c2] 60)))
          have HQ := Lib.hid ((HB.out.trans (HBI.out.mono HB.out.size)).alloc (by have := HBI.out.size; omega) (.cells #[.int .i64 kd, .bool ng, .slice A2 k c2] 60))
          have HS := Lib.hid (Ry.src (m := 1) (Ry.of_cel (Cel.new wr 60 [.int .i64 kd, .bool ng, .slice A2 k c2])) (by simp))
          have HSP2 := Lib.hid (Ry.alloc (Ry.of_own hor (by decide)) (.cells #[.int .i64 kd, .bool ng, .slice A2 k c2] 60))
          have HC9 := Lib.hid (show oflat [⟨⟨kd, ng, l⟩, A2, c2⟩] = [.int .i64 kd, .bool ng, .slice A2 k c2] by simp [oflat, Ov.cells, HLL.out])
          clear hor hltk hcx hbi hkm
          go_wp2_with ((at_builtin; refine wpList_append_any _ rfl _ _ 32 rfl w.heap.size 60 rrowOp9 (.slice A3 i c3) i (oflat vs) rfl HP.out.own (some ⟨wr.heap.size, 0, none⟩) 1 1 [.int .i64 kd, .bool ng, .slice A2 k c2] rfl rfl HS.out (by intro u hu; simp at hu; rcases hu with rfl | rfl | rfl <;> rfl) (i + 1) (oflat vs ++ [.int .i64 kd, .bool ng, .slice A2 k c2]) rfl rfl (by unfold maxLen; omega) (by omega) HQ.out.size ?_; intro A8 c8 w8 ho8 hg8 _; have HO8 := Lib.hid ho8; have HG8 := Lib.hid hg8; clear ho8 hg8))
          have hpu := HP.out.pushed (vs := [⟨⟨kd, ng, l⟩, A2, c2⟩]) (by intro u hu; rw [List.mem_singleton.1 hu]; exact HSP2.out) rfl (by rw [HC9.out]) HG8.out HO8.out
          exact ⟨⟨i + 1, c8, A8, _, by omega, by rw [show ((i + 1 : Nat) : Int) = (i : Int) + 1 by omega], rfl, hpu, by rw [List.map_append, HVS.out, take_snocO us i _ HU.out, List.map_append]; rfl, HQ.out.trans (HP.out.grew HG8.out HQ.out.size)⟩, by simp [intOf]; omega⟩
    · obtain rfl : i = n := by omega
      clear hge
      go_wp2_with fail
      go_ret
      exact ⟨A3, c3, vs, rfl, HRI.out, by rw [HVS.out, List.take_of_length_le (by rw [HL.out]; exact Nat.le_refl _)], HB.out⟩
end Go.Proofs.Ytpfogoncholiaaa.Nfa
