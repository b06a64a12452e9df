/-
  The document's runner (layer 10): coming to a place.
  The document's runner (layer 10): did one come to Done?
  The document's runner (layer 10): a byte comes.
  The document's runner (layer 10): do instructions match bytes?
  The document's runner (layer 10): at which ends instructions match.
-/
import Derived.Test.YtjpbndpfbdfhjaaMSeekPure
section
namespace Go.Proofs.Ytjpbndpfbdfhjaa.Seek
open Go.RowKit Go.Proofs.Ytjpbndpfbdfhjaa.Nfa
open Go.Proofs.Ytjpbndpfbdfhjaa.Reg (Sp RSpn sflat)
set_option linter.unusedVariables false
set_option linter.unusedSimpArgs false

/-- A runner in memory: in block g; its marks in block q. -/
structure Rn (w : World) (g q : Nat) (A : Option Addr) (us : List Iv) (n pc mc : Nat) (M : List Bool) : Prop where
  run : Cel w g 68 [.slice A n pc, .slice (some ⟨q, 0, none⟩) n mc]
  met : Cel w q 4 (M.map Value.bool)
  rr : Rr w A us
  len : us.length = n
  mlen : M.length = n
theorem Rr.keep {w w' : World} {A : Option Addr} {us : List Iv} {l : List Nat} (h : Rr w A us) (hf : Frm l w w') (h1 : ∀ k ∈ l, ∀ o fz, w.heap[k]? ≠ some (Obj.cells o 59 fz)) (h2 : ∀ k ∈ l, ∀ o fz, w.heap[k]? ≠ some (Obj.cells o 61 fz)) : Rr w' A us :=
  ⟨Ry.frm h.ry hf h1, fun u hu => Ry.frm (h.sp u hu) hf h2⟩
/-- Only the marks were written. -/
theorem Rn.after {w w' : World} {g q n pc mc : Nat} {A : Option Addr} {us : List Iv} {M M' : List Bool} (h : Rn w g q A us n pc mc M) (hf : Frm [q] w w') (hm : Cel w' q 4 (M'.map Value.bool)) (hl : M'.length = n) : Rn w' g q A us n pc mc M' := by
  refine ⟨h.run.frm hf (by simp; exact Cel.ne h.run h.met (by decide)), hm, Rr.keep h.rr hf ?_ ?_, h.len, hl⟩
  · intro k hk; simp at hk; subst hk; exact h.met.not_ty (by decide)
  · intro k hk; simp at hk; subst hk; exact h.met.not_ty (by decide)
/-- What come does. -/
def CoSays (w : World) (q : Nat) (us : List Iv) (M : List Bool) (pl : Int) (e : Ending) (w' : World) : Prop :=
  e = .returned (.tuple #[]) ∧ ∃ M', Come (us.map (·.i)) M M' pl ∧ Frm [q] w w' ∧ Cel w' q 4 (M'.map Value.bool)
variable {w : World} {g q n pc mc : Nat} {A : Option Addr} {us : List Iv} {M : List Bool}

set_option maxRecDepth 100000 in
set_option maxHeartbeats 1000000 in
theorem come_out (h : Rn w g q A us n pc mc M) (hn : n ≤ 1000) (pl : Int) (ho : pl < 0 ∨ (n : Int) ≤ pl) :
    Calls Try.prog 20 #[.pointer (some ⟨g, 0, none⟩), .int .i64 pl] w (CoSays w q us M pl) := by
  have HC := Lib.hid (show CoSays w q us M pl (.returned (.tuple #[])) w from ⟨rfl, M, Come.out (by rw [List.length_map, h.len]; exact ho), Frm.refl _ _, h.met⟩)
  have k0 := h.run.cell 0
  have kf := h.run.free 0
  clear h
  go_enter Try.func20, Try.ntmps20
  by_cases h0 : pl < 0
  · go_wp2_with fail
    exact bodyPost_ret (results_none rfl _ _ _) rfl HC.out
  · have h1 : (n : Int) ≤ pl := by omega
    go_wp2_with fail
    exact bodyPost_ret (results_none rfl _ _ _) rfl HC.out
set_option maxRecDepth 100000 in
set_option maxHeartbeats 1000000 in
theorem come_met (h : Rn w g q A us n pc mc M) (hn : n ≤ 1000) (a : Nat) (ha : a < n) (hm : M[a]? = some true) :
    Calls Try.prog 20 #[.pointer (some ⟨g, 0, none⟩), .int .i64 (a : Int)] w (CoSays w q us M a) := by
  have HC := Lib.hid (show CoSays w q us M a (.returned (.tuple #[])) w from ⟨rfl, M, Come.met hm, Frm.refl _ _, h.met⟩)
  have k0 := h.run.cell 0
  have k1 := h.run.cell 1
  have k2 : w.cell? ⟨q, a, none⟩ = some (.bool true) := by rw [h.met.cell a, List.getElem?_map, hm]; rfl
  clear h
  go_enter Try.func20, Try.ntmps20
  go_wp2_with fail
  exact bodyPost_ret (results_none rfl _ _ _) rfl HC.out

theorem wrap_pl {p : Nat} {n a : Nat} {x : Int} (hn : n ≤ 1000) (ha : a < n) (hp : p = n) (hx : -9223372036854775808 ≤ x ∧ x < 9223372036854775808) : wrap64 ((a : Int) + x) = (a : Int) + x ∨ wrap64 ((a : Int) + x) < 0 ∧ (p : Int) ≤ (a : Int) + x := by
  unfold wrap64
  omega
set_option maxRecDepth 100000 in
set_option maxHeartbeats 1000000 in
theorem come_one (h : Rn w g q A us n pc mc M) (hn : n ≤ 1000) (a : Nat) (ha : a < n) (hm : M[a]? = some false) (u : Iv) (hu : us[a]? = some u) (hk2 : u.i.kind ≠ 2) (hk3 : u.i.kind ≠ 3) :
    Calls Try.prog 20 #[.pointer (some ⟨g, 0, none⟩), .int .i64 (a : Int)] w (CoSays w q us M a) := by
  have k0 := h.run.cell 0
  have k1 := h.run.cell 1
  have k2 : w.cell? ⟨q, a, none⟩ = some (.bool false) := by rw [h.met.cell a, List.getElem?_map, hm]; rfl
  have k3 := h.met.free a
  have hq : (us.map (·.i))[a]? = some u.i := by rw [List.getElem?_map, hu]; rfl
  have hcm := h.met.set a (.bool true)
  rw [← List.map_set] at hcm
  have hf : Frm [q] w (w.setCell ⟨q, a, none⟩ (.bool true)) := (Frm.refl _ _).set (by simp) _
  have h1 := h.after hf hcm (by simp [h.mlen])
  have j0 := h1.run.cell 0
  obtain ⟨ad, hA, i0, i1, i2, i3, i4⟩ := ry_five h1.rr.ry hu
  have hv := Cel.new (w.setCell ⟨q, a, none⟩ (.bool true)) 59 [.int .i64 u.i.kind, .int .i64 u.i.x, .int .i64 u.i.y, .bool u.i.neg, .slice u.A u.i.sp.length u.c]
  have hf2 : Frm [q] w ((w.setCell ⟨q, a, none⟩ (.bool true)).alloc (.cells #[.int .i64 u.i.kind, .int .i64 u.i.x, .int .i64 u.i.y, .bool u.i.neg, .slice u.A u.i.sp.length u.c] 59)) := hf.alloc _
  have hm2 : Cel ((w.setCell ⟨q, a, none⟩ (.bool true)).alloc (.cells #[.int .i64 u.i.kind, .int .i64 u.i.x, .int .i64 u.i.y, .bool u.i.neg, .slice u.A u.i.sp.length u.c] 59)) q 4 ((M.set a true).map Value.bool) := hcm.alloc _
  have hqa : a < M.length := by rw [h.mlen]; exact ha
  have hcnt : (M.set a true).count false < M.count false := cnt_lt _ _ a (by simp) (fun j hj => (set_true hqa).2 (.inr hj)) hm ((set_true hqa).2 (.inl rfl))
  have hr2 := h.after hf2 hm2 (by simp [h.mlen])
  have hqn : q ≠ w.heap.size := Nat.ne_of_lt h.met.lt
  have hl : M.length = (us.map (·.i)).length := by rw [List.length_map, h.len, h.mlen]
  have hun : (us.map (·.i)).length = n := by rw [List.length_map, h.len]
  have hz : (w.setCell ⟨q, a, none⟩ (.bool true)).heap.size = w.heap.size := by simp [World.setCell]
  rw [hz] at hv
  have HD := Lib.hid hq
  have HF := Lib.hid hf2
  have HL := Lib.hid hl
  have HM := Lib.hid hm2
  have HV := Lib.hid hv
  have HR := Lib.hid hr2
  have HQ := Lib.hid hqn
  have v2 := hv.cell 2
  clear h hcm hf hq hu h1 hf2 hm2 hl hv hr2 hqa hqn
  subst hA
  obtain ⟨⟨kd, px, py, ng, l⟩, uA, uc⟩ := u
  dsimp only at *
  have z2 : (kd == 2) = false := by simp [hk2]
  have z3 : (kd == 3) = false := by simp [hk3]
  go_enter Try.func20, Try.ntmps20
  go_wp2_with fail
  exact bodyPost_end (results_none rfl _ _ _) rfl ⟨rfl, _, Come.one HL.out HD.out hk2 hk3, HF.out, HM.out⟩

set_option maxRecDepth 100000 in
set_option maxHeartbeats 1000000 in
theorem come_go (h : Rn w g q A us n pc mc M) (hn : n ≤ 1000) (a : Nat) (ha : a < n) (hm : M[a]? = some false) (u : Iv) (hu : us[a]? = some u) (hk3 : u.i.kind = 3) (fit : (-9223372036854775808 ≤ u.i.x ∧ u.i.x < 9223372036854775808) ∧ -9223372036854775808 ≤ u.i.y ∧ u.i.y < 9223372036854775808)
    (con : ∀ (W : World) (M1 : List Bool) (z : Int), Rn W g q A us n pc mc M1 → M1.count false < M.count false → Calls Try.prog 20 #[.pointer (some ⟨g, 0, none⟩), .int .i64 z] W (CoSays W q us M1 z)) :
    Calls Try.prog 20 #[.pointer (some ⟨g, 0, none⟩), .int .i64 (a : Int)] w (CoSays w q us M a) := by
  have k0 := h.run.cell 0
  have k1 := h.run.cell 1
  have k2 : w.cell? ⟨q, a, none⟩ = some (.bool false) := by rw [h.met.cell a, List.getElem?_map, hm]; rfl
  have k3 := h.met.free a
  have hq : (us.map (·.i))[a]? = some u.i := by rw [List.getElem?_map, hu]; rfl
  have hcm := h.met.set a (.bool true)
  rw [← List.map_set] at hcm
  have hf : Frm [q] w (w.setCell ⟨q, a, none⟩ (.bool true)) := (Frm.refl _ _).set (by simp) _
  have h1 := h.after hf hcm (by simp [h.mlen])
  have j0 := h1.run.cell 0
  obtain ⟨ad, hA, i0, i1, i2, i3, i4⟩ := ry_five h1.rr.ry hu
  have hv := Cel.new (w.setCell ⟨q, a, none⟩ (.bool true)) 59 [.int .i64 u.i.kind, .int .i64 u.i.x, .int .i64 u.i.y, .bool u.i.neg, .slice u.A u.i.sp.length u.c]
  have hf2 : Frm [q] w ((w.setCell ⟨q, a, none⟩ (.bool true)).alloc (.cells #[.int .i64 u.i.kind, .int .i64 u.i.x, .int .i64 u.i.y, .bool u.i.neg, .slice u.A u.i.sp.length u.c] 59)) := hf.alloc _
  have hm2 : Cel ((w.setCell ⟨q, a, none⟩ (.bool true)).alloc (.cells #[.int .i64 u.i.kind, .int .i64 u.i.x, .int .i64 u.i.y, .bool u.i.neg, .slice u.A u.i.sp.length u.c] 59)) q 4 ((M.set a true).map Value.bool) := hcm.alloc _
  have hqa : a < M.length := by rw [h.mlen]; exact ha
  have hcnt : (M.set a true).count false < M.count false := cnt_lt _ _ a (by simp) (fun j hj => (set_true hqa).2 (.inr hj)) hm ((set_true hqa).2 (.inl rfl))
  have hr2 := h.after hf2 hm2 (by simp [h.mlen])
  have hqn : q ≠ w.heap.size := Nat.ne_of_lt h.met.lt
  have hl : M.length = (us.map (·.i)).length := by rw [List.length_map, h.len, h.mlen]
  have hun : (us.map (·.i)).length = n := by rw [List.length_map, h.len]
  have hz : (w.setCell ⟨q, a, none⟩ (.bool true)).heap.size = w.heap.size := by simp [World.setCell]
  rw [hz] at hv
  have c1 := con _ _ (wrap64 ((a : Int) + u.i.x)) hr2 hcnt
  have C1 := Lib.hid c1
  have hw := wrap_pl hn ha hun fit.1
  clear con c1
  have HD := Lib.hid hq
  have HF := Lib.hid hf2
  have HL := Lib.hid hl
  have HM := Lib.hid hm2
  have HV := Lib.hid hv
  have HR := Lib.hid hr2
  have HQ := Lib.hid hqn
  have v2 := hv.cell 2
  clear h hcm hf hq hu h1 hf2 hm2 hl hv hr2 hqa hqn
  subst hA
  obtain ⟨⟨kd, px, py, ng, l⟩, uA, uc⟩ := u
  dsimp only at *
  subst hk3
  go_enter Try.func20, Try.ntmps20
  go_wp2_with fail
  refine C1.out.mono ?_
  clear C1
  rintro e wa ⟨rfl, M1, hc, hf, hm1⟩
  have v0 := (HV.out.frm hf (by simp; exact fun e => HQ.out e.symm)).cell 0
  have HC := Lib.hid hc
  have HF1 := Lib.hid hf
  have HM1 := Lib.hid hm1
  clear hc hf hm1
  go_wp2_with fail
  exact bodyPost_end (results_none rfl _ _ _) rfl ⟨rfl, M1, Come.go HL.out HD.out rfl (HC.out.wrap hw), HF.out.trans HF1.out, HM1.out⟩

set_option maxRecDepth 100000 in
set_option maxHeartbeats 1000000 in
theorem come_two (h : Rn w g q A us n pc mc M) (hn : n ≤ 1000) (a : Nat) (ha : a < n) (hm : M[a]? = some false) (u : Iv) (hu : us[a]? = some u) (hk2 : u.i.kind = 2) (fit : (-9223372036854775808 ≤ u.i.x ∧ u.i.x < 9223372036854775808) ∧ -9223372036854775808 ≤ u.i.y ∧ u.i.y < 9223372036854775808)
    (con : ∀ (W : World) (M1 : List Bool) (z : Int), Rn W g q A us n pc mc M1 → M1.count false < M.count false → Calls Try.prog 20 #[.pointer (some ⟨g, 0, none⟩), .int .i64 z] W (CoSays W q us M1 z)) :
    Calls Try.prog 20 #[.pointer (some ⟨g, 0, none⟩), .int .i64 (a : Int)] w (CoSays w q us M a) := by
  have k0 := h.run.cell 0
  have k1 := h.run.cell 1
  have k2 : w.cell? ⟨q, a, none⟩ = some (.bool false) := by rw [h.met.cell a, List.getElem?_map, hm]; rfl
  have k3 := h.met.free a
  have hq : (us.map (·.i))[a]? = some u.i := by rw [List.getElem?_map, hu]; rfl
  have hcm := h.met.set a (.bool true)
  rw [← List.map_set] at hcm
  have hf : Frm [q] w (w.setCell ⟨q, a, none⟩ (.bool true)) := (Frm.refl _ _).set (by simp) _
  have h1 := h.after hf hcm (by simp [h.mlen])
  have j0 := h1.run.cell 0
  obtain ⟨ad, hA, i0, i1, i2, i3, i4⟩ := ry_five h1.rr.ry hu
  have hv := Cel.new (w.setCell ⟨q, a, none⟩ (.bool true)) 59 [.int .i64 u.i.kind, .int .i64 u.i.x, .int .i64 u.i.y, .bool u.i.neg, .slice u.A u.i.sp.length u.c]
  have hf2 : Frm [q] w ((w.setCell ⟨q, a, none⟩ (.bool true)).alloc (.cells #[.int .i64 u.i.kind, .int .i64 u.i.x, .int .i64 u.i.y, .bool u.i.neg, .slice u.A u.i.sp.length u.c] 59)) := hf.alloc _
  have hm2 : Cel ((w.setCell ⟨q, a, none⟩ (.bool true)).alloc (.cells #[.int .i64 u.i.kind, .int .i64 u.i.x, .int .i64 u.i.y, .bool u.i.neg, .slice u.A u.i.sp.length u.c] 59)) q 4 ((M.set a true).map Value.bool) := hcm.alloc _
  have hqa : a < M.length := by rw [h.mlen]; exact ha
  have hcnt : (M.set a true).count false < M.count false := cnt_lt _ _ a (by simp) (fun j hj => (set_true hqa).2 (.inr hj)) hm ((set_true hqa).2 (.inl rfl))
  have hr2 := h.after hf2 hm2 (by simp [h.mlen])
  have hqn : q ≠ w.heap.size := Nat.ne_of_lt h.met.lt
  have hl : M.length = (us.map (·.i)).length := by rw [List.length_map, h.len, h.mlen]
  have hun : (us.map (·.i)).length = n := by rw [List.length_map, h.len]
  have hz : (w.setCell ⟨q, a, none⟩ (.bool true)).heap.size = w.heap.size := by simp [World.setCell]
  rw [hz] at hv
  have c1 := con _ _ (wrap64 ((a : Int) + u.i.x)) hr2 hcnt
  have C1 := Lib.hid c1
  have hw := wrap_pl hn ha hun fit.1
  have hw2 := wrap_pl hn ha hun fit.2
  have CON := Lib.hid con
  clear con c1
  have HD := Lib.hid hq
  have HF := Lib.hid hf2
  have HL := Lib.hid hl
  have HM := Lib.hid hm2
  have HV := Lib.hid hv
  have HR := Lib.hid hr2
  have HQ := Lib.hid hqn
  have v2 := hv.cell 2
  clear h hcm hf hq hu h1 hf2 hm2 hl hv hr2 hqa hqn
  subst hA
  obtain ⟨⟨kd, px, py, ng, l⟩, uA, uc⟩ := u
  dsimp only at *
  subst hk2
  go_enter Try.func20, Try.ntmps20
  go_wp2_with fail
  refine C1.out.mono ?_
  clear C1
  rintro e wa ⟨rfl, M1, hc, hf, hm1⟩
  have hva := HV.out.frm hf (by simp; exact fun e => HQ.out e.symm)
  have v0 := hva.cell 0
  have v2 := hva.cell 2
  have hra := HR.out.after hf hm1 (by rw [hc.len]; simp; rw [HL.out, hun])
  have hca : M1.count false < M.count false := Nat.lt_of_le_of_lt (cnt_le _ _ hc.len hc.mono) hcnt
  have C2 := Lib.hid (CON.out _ _ (wrap64 ((a : Int) + py)) hra hca)
  have HC := Lib.hid hc
  have HF1 := Lib.hid hf
  clear hc hf hm1 CON hva hra hca
  go_wp2_with fail
  refine C2.out.mono ?_
  clear C2
  rintro e wb ⟨rfl, M2, hc2, hf2, hm2⟩
  have HC2 := Lib.hid hc2
  have HF2 := Lib.hid hf2
  have HM2 := Lib.hid hm2
  clear hc2 hf2 hm2
  go_wp2_with fail
  exact bodyPost_end (results_none rfl _ _ _) rfl ⟨rfl, M2, Come.two HL.out HD.out rfl (HC.out.wrap hw) (HC2.out.wrap hw2), (HF.out.trans HF1.out).trans HF2.out, HM2.out⟩

/-- Coming to a place, by how many are unmarked. -/
theorem come_all (hn : n ≤ 1000) (fit : ∀ u ∈ us, (-9223372036854775808 ≤ u.i.x ∧ u.i.x < 9223372036854775808) ∧ -9223372036854775808 ≤ u.i.y ∧ u.i.y < 9223372036854775808) : ∀ (k : Nat) (w : World) (M : List Bool) (pl : Int), M.count false < k → Rn w g q A us n pc mc M →
    Calls Try.prog 20 #[.pointer (some ⟨g, 0, none⟩), .int .i64 pl] w (CoSays w q us M pl)
  | 0, _, _, _, hk, _ => absurd hk (Nat.not_lt_zero _)
  | k + 1, w, M, pl, hk, h => by
    by_cases ho : pl < 0 ∨ (n : Int) ≤ pl
    · exact come_out h hn pl ho
    · obtain ⟨a, rfl⟩ : ∃ a : Nat, pl = (a : Int) := ⟨pl.toNat, by omega⟩
      have ha : a < n := by omega
      have hml := h.mlen
      obtain ⟨b, hb⟩ : ∃ b, M[a]? = some b := ⟨_, List.getElem?_eq_getElem (by omega)⟩
      cases b
      · obtain ⟨u, hu⟩ : ∃ u, us[a]? = some u := ⟨_, List.getElem?_eq_getElem (by rw [h.len]; exact ha)⟩
        have fu := fit u (List.mem_of_getElem? hu)
        have con : ∀ (W : World) (M1 : List Bool) (z : Int), Rn W g q A us n pc mc M1 → M1.count false < M.count false → Calls Try.prog 20 #[.pointer (some ⟨g, 0, none⟩), .int .i64 z] W (CoSays W q us M1 z) :=
          fun W M1 z hW hc => come_all hn fit k W M1 z (by omega) hW
        by_cases h2 : u.i.kind = 2
        · exact come_two h hn a ha hb u hu h2 fu con
        · by_cases h3 : u.i.kind = 3
          · exact come_go h hn a ha hb u hu h3 fu con
          · exact come_one h hn a ha hb u hu h2 h3
      · exact come_met h hn a ha hb
theorem come (hn : n ≤ 1000) (fit : ∀ u ∈ us, (-9223372036854775808 ≤ u.i.x ∧ u.i.x < 9223372036854775808) ∧ -9223372036854775808 ≤ u.i.y ∧ u.i.y < 9223372036854775808) (h : Rn w g q A us n pc mc M) (pl : Int) :
    Calls Try.prog 20 #[.pointer (some ⟨g, 0, none⟩), .int .i64 pl] w (CoSays w q us M pl) := come_all hn fit _ w M pl (Nat.lt_succ_self _) h
end Go.Proofs.Ytjpbndpfbdfhjaa.Seek
end

section
namespace Go.Proofs.Ytjpbndpfbdfhjaa.Seek
open Go.RowKit Go.Proofs.Ytjpbndpfbdfhjaa.Nfa
open Go.Proofs.Ytjpbndpfbdfhjaa.Reg (Sp RSpn sflat)
set_option linter.unusedVariables false
set_option linter.unusedSimpArgs false
variable {w : World} {g q n pc mc : Nat} {A : Option Addr} {us : List Iv} {M : List Bool}

/-- One of the places that are marked is a Done. -/
def DoneIn (us : List Iv) (M : List Bool) : Prop := ∃ (i : Nat) (u : Iv), M[i]? = some true ∧ us[i]? = some u ∧ u.i.kind = 4
theorem doneIn_hits {p : List In} {us : List Iv} {M : List Bool} {bs : List (BitVec 8)} (hp : us.map (·.i) = p) (h : Marks p M (On p bs)) : DoneIn us M ↔ Hits p bs := by
  subst hp
  constructor
  · rintro ⟨i, u, h1, h2, h3⟩
    exact ⟨i, u.i, (h.iff i).1 h1, by rw [List.getElem?_map, h2]; rfl, h3⟩
  · rintro ⟨i, x, h1, h2, h3⟩
    rw [List.getElem?_map] at h2
    cases hu : us[i]? with
    | none => rw [hu] at h2; cases h2
    | some u => rw [hu] at h2; cases h2; exact ⟨i, u, (h.iff i).2 h1, hu, h3⟩
def DoSays (w : World) (us : List Iv) (M : List Bool) (e : Ending) (w' : World) : Prop := ∃ b, e = .returned (.bool b) ∧ w = w' ∧ (b = true ↔ DoneIn us M)
set_option maxRecDepth 100000 in
set_option maxHeartbeats 1000000 in
theorem done_ (h : Rn w g q A us n pc mc M) (hn : n ≤ 1000) :
    Calls Try.prog 22 #[.pointer (some ⟨g, 0, none⟩)] w (DoSays w us M) := by
  have k0 := h.run.cell 0
  have k1 := h.run.cell 1
  have H := Lib.hid h
  clear h
  go_enter Try.func22, Try.ntmps22
  go_wp2_with fail
  go_loop [3] (fun i => ∃ k : Nat, k ≤ n ∧ i = .int .i64 k ∧ ∀ j u, j < k → M[j]? = some true → us[j]? = some u → u.i.kind ≠ 4) (fun i => n - (Go.RowKit.intOf i).toNat)
  case atStart => exact ⟨0, Nat.zero_le _, rfl, fun j u hj => absurd hj (Nat.not_lt_zero _)⟩
  case round =>
    obtain ⟨k, hk, rfl, hks⟩ := hrel
    have HKS := Lib.hid hks
    clear hks
    rcases Nat.lt_or_ge k n with hlt | hge
    · obtain ⟨u, hu⟩ : ∃ u, us[k]? = some u := ⟨_, List.getElem?_eq_getElem (by rw [H.out.len]; exact hlt)⟩
      obtain ⟨b, hb⟩ : ∃ b, M[k]? = some b := ⟨_, List.getElem?_eq_getElem (by rw [H.out.mlen]; exact hlt)⟩
      obtain ⟨ad, rfl, i0, _, _, _, _⟩ := ry_five H.out.rr.ry hu
      have k2 : w.cell? ⟨q, k, none⟩ = some (.bool b) := by rw [H.out.met.cell k, List.getElem?_map, hb]; rfl
      have HN := Lib.hid (fun (hno : ¬ (b = true ∧ u.i.kind = 4)) => (show ∀ j v, j < k + 1 → M[j]? = some true → us[j]? = some v → v.i.kind ≠ 4 from fun j v hj h1 h2 h3 => by
        rcases Nat.lt_or_ge j k with q | q
        · exact HKS.out j v q h1 h2 h3
        · obtain rfl : j = k := by omega
          rw [hb] at h1; rw [hu] at h2
          cases h1; cases h2
          exact hno ⟨rfl, h3⟩))
      have HY := Lib.hid (fun (hb1 : b = true) (h4 : u.i.kind = 4) => (show DoneIn us M from ⟨k, u, by rw [hb, hb1], hu, h4⟩))
      clear hu hb
      obtain ⟨⟨kd, px, py, ng, l⟩, uA, uc⟩ := u
      dsimp only at *
      cases b
      · have HN2 := Lib.hid (HN.out (by simp))
        go_wp2_with fail
        go_round
        case rel => exact ⟨k + 1, by omega, by go_num, HN2.out⟩
        case measure => simp [Go.RowKit.intOf]; omega
      · by_cases h4 : kd = 4
        · have HD := Lib.hid (HY.out rfl h4)
          have z4 : (kd == 4) = true := by simp [h4]
          go_wp2_with fail
          go_ret
          exact ⟨true, rfl, rfl, ⟨fun _ => HD.out, fun _ => rfl⟩⟩
        · have HN2 := Lib.hid (HN.out (by simp [h4]))
          have z4 : (kd == 4) = false := by simp [h4]
          go_wp2_with fail
          go_round
          case rel => exact ⟨k + 1, by omega, by go_num, HN2.out⟩
          case measure => simp [Go.RowKit.intOf]; omega
    · obtain rfl : k = n := by omega
      go_wp2_with fail
      go_ret
      refine ⟨false, rfl, rfl, ⟨fun h => (by cases h), fun hd => ?_⟩⟩
      obtain ⟨i, u, h1, h2, h3⟩ := hd
      have := (List.getElem?_eq_some_iff.1 h2).1
      rw [H.out.len] at this
      exact absurd h3 (HKS.out i u this h1 h2)
end Go.Proofs.Ytjpbndpfbdfhjaa.Seek
end

section
namespace Go.Proofs.Ytjpbndpfbdfhjaa.Seek
open Go.RowKit Go.Proofs.Ytjpbndpfbdfhjaa.Nfa
open Go.Proofs.Ytjpbndpfbdfhjaa.Reg (Sp RSpn sflat)
set_option linter.unusedVariables false
set_option linter.unusedSimpArgs false
variable {w : World} {g q n pc mc : Nat} {A : Option Addr} {us : List Iv} {M : List Bool}

theorem made_bools (k : Nat) : madeCells (Value.cells (.bool false)) (k * 1) = ((List.replicate k false).map Value.bool).toArray := by
  apply Array.ext
  · simp [size_madeCells]
  · intro i h1 h2
    simp [madeCells, Value.cells, Nat.mod_one]
theorem binfo : (Try.prog.info? 4).map (fun i => (i.zero, i.size, i.bytes)) = some (some (.bool false), 1, 1) := by kernel_rfl
theorem run_make_bools (w : World) (k : Nat) (hk : k ≤ 140737488355328) :
    (Instr.makeSlice 64 (.int .i64 (k : Int)) (.int .i64 (k : Int))).run Try.prog w = .ok (.slice (some ⟨w.heap.size, 0, none⟩) k k) (w.alloc (.cells ((List.replicate k false).map Value.bool).toArray 4)) := by
  cases hi : Try.prog.info? 4 with
  | none => have := binfo; rw [hi] at this; cases this
  | some i =>
    have e := binfo
    rw [hi] at e
    simp only [Option.map_some, Option.some.injEq, Prod.mk.injEq] at e
    obtain ⟨hz, hsz, hby⟩ := e
    have h := run_make (P := Try.prog) w 64 4 i (.bool false) Try.underlying64 hi hz .i64 .i64 k k (by omega) (Int.le_refl _) (by rw [hby]; omega) (by omega)
    simp only [Int.toNat_natCast] at h
    rw [h, hsz, made_bools]
/-- The marks anew: none. -/
theorem Rn.anew (h : Rn w g q A us n pc mc M) (zs : List Value) (hz : zs = (List.replicate n false).map Value.bool) : Rn ((w.alloc (.cells zs.toArray 4)).setCell ⟨g, 1, none⟩ (.slice (some ⟨w.heap.size, 0, none⟩) n n)) g w.heap.size A us n pc n (List.replicate n false) := by
  have hcn : Cel (w.alloc (.cells zs.toArray 4)) w.heap.size 4 ((List.replicate n false).map Value.bool) := hz ▸ Cel.new w _ zs
  have hg : w.heap.size ≠ g := Nat.ne_of_gt h.run.lt
  have hf : Frm [g] w ((w.alloc (.cells zs.toArray 4)).setCell ⟨g, 1, none⟩ (.slice (some ⟨w.heap.size, 0, none⟩) n n)) := ((Frm.refl [g] w).alloc _).set (by simp) _
  refine ⟨(h.run.alloc _).set 1 _, hcn.far hg _, Rr.keep h.rr hf ?_ ?_, h.len, by simp⟩
  · intro k hk; simp at hk; subst hk; exact h.run.not_ty (by decide)
  · intro k hk; simp at hk; subst hk; exact h.run.not_ty (by decide)
def TkSays (w : World) (g : Nat) (A : Option Addr) (us : List Iv) (n pc : Nat) (M : List Bool) (c : BitVec 8) (e : Ending) (w' : World) : Prop :=
  e = .returned (.tuple #[]) ∧ ∃ q' M', Rn w' g q' A us n pc n M' ∧ Frm [g] w w' ∧ w.heap.size ≤ q' ∧ ∀ S, Marks (us.map (·.i)) M S → Marks (us.map (·.i)) M' (Take (us.map (·.i)) S c)
set_option maxRecDepth 100000 in
set_option maxHeartbeats 2000000 in
theorem take_ (h : Rn w g q A us n pc mc M) (hn : n ≤ 1000) (fit : ∀ u ∈ us, (-9223372036854775808 ≤ u.i.x ∧ u.i.x < 9223372036854775808) ∧ -9223372036854775808 ≤ u.i.y ∧ u.i.y < 9223372036854775808)
    (hsp : ∀ u ∈ us, u.i.sp.length ≤ 1000) (c : BitVec 8) :
    Calls Try.prog 21 #[.pointer (some ⟨g, 0, none⟩), v8 c] w (TkSays w g A us n pc M c) := by
  obtain ⟨zs, hz⟩ : ∃ zs, zs = (List.replicate n false).map Value.bool := ⟨_, rfl⟩
  have k0 := h.run.cell 0
  have k1 := h.run.cell 1
  have kf := (h.run.alloc (.cells zs.toArray 4)).free 1
  have j0 := (h.run.alloc (.cells zs.toArray 4)).cell 0
  have j1 := (h.run.alloc (.cells zs.toArray 4)).cell 1
  have hmk := run_make_bools w n (by omega)
  rw [← hz] at hmk
  have hun : (us.map (·.i)).length = n := by rw [List.length_map, h.len]
  have H2 := Lib.hid (h.anew zs hz)
  have HF2 := Lib.hid (show Frm [g] w ((w.alloc (.cells zs.toArray 4)).setCell ⟨g, 1, none⟩ (.slice (some ⟨w.heap.size, 0, none⟩) n n)) from ((Frm.refl [g] w).alloc _).set (by simp) _)
  have hgq : q ≠ g := Cel.ne h.met h.run (by decide)
  have HGQ := Lib.hid hgq
  have H := Lib.hid h
  have HUN := Lib.hid hun
  have FIT := Lib.hid fit
  have HSP := Lib.hid hsp
  clear h hgq hun fit hsp hz
  go_enter Try.func21, Try.ntmps21
  go_wp2_with fail
  clear hmk j1 j0 kf k0 k1
  go_loopw [5, 6] (fun v5 v6 wr => ∃ (k : Nat) (M' : List Bool), k ≤ n ∧ v5 = .int .i64 (k : Int) ∧ Rn wr g w.heap.size A us n pc n M' ∧ Frm [g] w wr ∧ ∀ S, Marks (us.map (·.i)) M S → Marks (us.map (·.i)) M' (TakeTo (us.map (·.i)) S c k)) (fun v5 _ _ => n - (intOf v5).toNat)
  case atStart =>
    refine ⟨0, _, Nat.zero_le _, rfl, H2.out, HF2.out, fun S _ => ?_⟩
    have := Marks.none (us.map (·.i))
    rw [HUN.out] at this
    exact this.congr fun j => (takeTo_zero _ _ _ _).symm
  case round =>
    clear H2 HF2
    obtain ⟨k, M', hk, rfl, hr, hf, hS⟩ := hrel
    have k0 := hr.run.cell 0
    have HR := Lib.hid hr
    have HF := Lib.hid hf
    have HS := Lib.hid hS
    clear hr hf hS
    rcases Nat.lt_or_ge k n with hlt | hge
    · obtain ⟨u, hu⟩ : ∃ u, us[k]? = some u := ⟨_, List.getElem?_eq_getElem (by rw [H.out.len]; exact hlt)⟩
      obtain ⟨b, hb⟩ : ∃ b, M[k]? = some b := ⟨_, List.getElem?_eq_getElem (by rw [H.out.mlen]; exact hlt)⟩
      obtain ⟨ad, rfl, i0, i1, i2, i3, i4⟩ := ry_five HR.out.rr.ry hu
      have k2 : wr.cell? ⟨q, k, none⟩ = some (.bool b) := by rw [(H.out.met.frm HF.out (by simp; exact HGQ.out)).cell k, List.getElem?_map, hb]; rfl
      have hpk : (us.map (·.i))[k]? = some u.i := by rw [List.getElem?_map, hu]; rfl
      have HNO := Lib.hid (fun (hno : b = true → u.i.kind = 1 → has u.i c = true → False) => (show ∀ S, Marks (us.map (·.i)) M S → Marks (us.map (·.i)) M' (TakeTo (us.map (·.i)) S c (k + 1)) from fun S hs =>
        (HS.out S hs).congr fun j => (takeTo_no (fun x q1 q2 q3 q4 => by
          have q5 := (hs.iff k).2 q1
          rw [hb] at q5
          rw [hpk] at q2
          cases q2
          exact hno (by simpa using q5) q3 q4) j).symm))
      have HYES := Lib.hid (fun (M2 : List Bool) (hb1 : b = true) (h1 : u.i.kind = 1) (hh : has u.i c = true) (hc : Come (us.map (·.i)) M' M2 ((k + 1 : Nat) : Int)) => (show ∀ S, Marks (us.map (·.i)) M S → Marks (us.map (·.i)) M2 (TakeTo (us.map (·.i)) S c (k + 1)) from fun S hs =>
        ((HS.out S hs).come hc).congr fun j => (takeTo_yes ((hs.iff k).1 (by rw [hb, hb1])) hpk h1 hh j).symm))
      have HAS := Lib.hid (rhas wr u.i u.A u.c c (HR.out.rr.sp u (List.mem_of_getElem? hu)) (HSP.out u (List.mem_of_getElem? hu)))
      clear hu hb hpk
      obtain ⟨⟨kd, px, py, ng, l⟩, uA, uc⟩ := u
      dsimp only at *
      cases b
      · have HN2 := Lib.hid (HNO.out (by simp))
        go_wp2_with fail
        exact ⟨⟨k + 1, M', by omega, by rw [show ((k + 1 : Nat) : Int) = (k : Int) + 1 by omega], HR.out, HF.out, HN2.out⟩, by simp [intOf]; omega⟩
      · by_cases h1 : kd = 1
        · subst h1
          go_wp2_with fail
          refine HAS.out.mono ?_
          clear HAS
          rintro e wa ⟨rfl, hba⟩
          have HRA := Lib.hid (show Rn wa g w.heap.size (some ad) us n pc n M' from HR.out.after (Frm.of_below hba) (HR.out.met.below hba HR.out.met.lt) HR.out.mlen)
          have HFA := Lib.hid (HF.out.trans (Frm.of_below hba))
          clear hba
          cases hh : has ⟨1, px, py, ng, l⟩ c
          · have HN2 := Lib.hid (HNO.out (by simp [hh]))
            go_wp2_with fail
            exact ⟨⟨k + 1, M', by omega, by rw [show ((k + 1 : Nat) : Int) = (k : Int) + 1 by omega], HRA.out, HFA.out, HN2.out⟩, by simp [intOf]; omega⟩
          · have HCO := Lib.hid (come hn FIT.out HRA.out ((k : Int) + 1))
            have HY2 := Lib.hid (fun M2 => HYES.out M2 (by trivial) (by trivial) hh)
            go_wp2_with fail
            refine HCO.out.mono ?_
            clear HCO
            rintro e wb ⟨rfl, M2, hc2, hf2, hm2⟩
            have HRB := Lib.hid (HRA.out.after hf2 hm2 (by rw [hc2.len]; exact HRA.out.mlen))
            have HFB := Lib.hid (HFA.out.then_ hf2 (by intro k' hk' hl; simp at hk'; omega))
            have HY3 := Lib.hid (HY2.out M2 (by push_cast; exact hc2))
            clear hc2 hf2 hm2 HY2
            go_wp2_with fail
            exact ⟨⟨k + 1, M2, by omega, by rw [show ((k + 1 : Nat) : Int) = (k : Int) + 1 by omega], HRB.out, HFB.out, HY3.out⟩, by simp [intOf]; omega⟩
        · have HN2 := Lib.hid (HNO.out (by simp [h1]))
          have z1 : (kd == 1) = false := by simp [h1]
          go_wp2_with fail
          exact ⟨⟨k + 1, M', by omega, by rw [show ((k + 1 : Nat) : Int) = (k : Int) + 1 by omega], HR.out, HF.out, HN2.out⟩, by simp [intOf]; omega⟩
    · obtain rfl : k = n := by omega
      go_wp2_with fail
      refine bodyPost_end (results_none rfl _ _ _) rfl ⟨rfl, w.heap.size, M', HR.out, HF.out, Nat.le_refl _, fun S hs => ?_⟩
      have := HS.out S hs
      rw [← HUN.out] at this
      exact this.congr fun j => takeTo_all _ _ _ j
end Go.Proofs.Ytjpbndpfbdfhjaa.Seek
end

section
namespace Go.Proofs.Ytjpbndpfbdfhjaa.Seek
open Go.RowKit Go.Proofs.Ytjpbndpfbdfhjaa.Nfa
open Go.Proofs.Ytjpbndpfbdfhjaa.Reg (Sp RSpn sflat)
set_option linter.unusedVariables false
set_option linter.unusedSimpArgs false
variable {w : World} {g q n pc mc : Nat} {A : Option Addr} {us : List Iv} {M : List Bool}

/-- A new runner. -/
theorem Rn.make (h : Rr w A us) (hl : us.length = n) (pc : Nat) (zs : List Value) (hz : zs = (List.replicate n false).map Value.bool) :
    Rn ((w.alloc (.cells zs.toArray 4)).alloc (.cells #[.slice A n pc, .slice (some ⟨w.heap.size, 0, none⟩) n n] 68)) (w.heap.size + 1) w.heap.size A us n pc n (List.replicate n false) := by
  have hcn : Cel (w.alloc (.cells zs.toArray 4)) w.heap.size 4 ((List.replicate n false).map Value.bool) := hz ▸ Cel.new w _ zs
  have hr := Cel.new (w.alloc (.cells zs.toArray 4)) 68 [.slice A n pc, .slice (some ⟨w.heap.size, 0, none⟩) n n]
  rw [show (w.alloc (.cells zs.toArray 4)).heap.size = w.heap.size + 1 by simp] at hr
  have hb : Below w.heap.size w ((w.alloc (.cells zs.toArray 4)).alloc (.cells #[.slice A n pc, .slice (some ⟨w.heap.size, 0, none⟩) n n] 68)) := ((Below.refl _ _).alloc (Nat.le_refl _) _).alloc (by simp) _
  exact ⟨hr, hcn.alloc _, ⟨Ry.below h.ry hb, fun u hu => Ry.below (h.sp u hu) hb⟩, hl, by simp⟩
theorem Marks.begin {p : List In} {n : Nat} {M' : List Bool} (hp : p.length = n) (hc : Come p (List.replicate n false) M' 0) : Marks p M' (On p []) := by
  subst hp
  have := (Marks.none p).come (a := 0) hc
  exact this.congr fun j => by rw [On.nil]; simp
theorem Marks.next {p : List In} {M M' : List Bool} {bs : List (BitVec 8)} {k : Nat} {c : BitVec 8} (hc : bs[k]? = some c) (hm : Marks p M (On p (bs.take k))) (h : ∀ S, Marks p M S → Marks p M' (Take p S c)) : Marks p M' (On p (bs.take (k + 1))) := by
  rw [List.take_add_one, hc]
  show Marks p M' (On p (bs.take k ++ [c]))
  rw [On.snoc]
  exact h _ hm
def MaSays (w : World) (us : List Iv) (bs : List (BitVec 8)) (e : Ending) (w' : World) : Prop := ∃ b, e = .returned (.bool b) ∧ (b = true ↔ Hits (us.map (·.i)) bs) ∧ Below w.heap.size w w'
set_option maxRecDepth 100000 in
set_option maxHeartbeats 2000000 in
theorem matches_ (h : Rr w A us) (hl : us.length = n) (hn : n ≤ 1000) (fit : ∀ u ∈ us, (-9223372036854775808 ≤ u.i.x ∧ u.i.x < 9223372036854775808) ∧ -9223372036854775808 ≤ u.i.y ∧ u.i.y < 9223372036854775808)
    (hsp : ∀ u ∈ us, u.i.sp.length ≤ 1000) (B : Option Addr) (m bc : Nat) (bs : List (BitVec 8)) (hb : Bs w w.heap.size B m bs) (hm : m ≤ 1000) :
    Calls Try.prog 13 #[.slice A n pc, .slice B m bc] w (MaSays w us bs) := by
  obtain ⟨zs, hz⟩ : ∃ zs, zs = (List.replicate n false).map Value.bool := ⟨_, rfl⟩
  have hmk := run_make_bools w n (by omega)
  rw [← hz] at hmk
  have hun : (us.map (·.i)).length = n := by rw [List.length_map, hl]
  have hr := Rn.make h hl pc zs hz
  have hb1 : Below w.heap.size w ((w.alloc (.cells zs.toArray 4)).alloc (.cells #[.slice A n pc, .slice (some ⟨w.heap.size, 0, none⟩) n n] 68)) := ((Below.refl _ _).alloc (Nat.le_refl _) _).alloc (by simp) _
  have HCO := Lib.hid (come hn fit hr 0)
  have HR := Lib.hid hr
  have HB1 := Lib.hid hb1
  have HUN := Lib.hid hun
  have FIT := Lib.hid fit
  have HSP := Lib.hid hsp
  have HB := Lib.hid hb
  clear h hl fit hsp hb hr hb1 hun hz
  go_enter Try.func13, Try.ntmps13
  go_wp2_with fail
  refine HCO.out.mono ?_
  clear HCO hmk
  rintro e wa ⟨rfl, M1, hc, hf, hm1⟩
  have HRA := Lib.hid (HR.out.after hf hm1 (by rw [hc.len]; simp))
  have HMA := Lib.hid (Marks.begin HUN.out hc)
  have HBA := Lib.hid (HB1.out.trans (hf.below HB1.out.size (by intro k hk; simp at hk; omega)))
  clear hc hf hm1 HR HB1
  go_wp2_with fail
  go_loopw [6] (fun v6 wr => ∃ (k q' : Nat) (M' : List Bool), k ≤ m ∧ v6 = .int .i64 (k : Int) ∧ Rn wr (w.heap.size + 1) q' A us n pc n M' ∧ Below w.heap.size w wr ∧ w.heap.size ≤ q' ∧ Marks (us.map (·.i)) M' (On (us.map (·.i)) (bs.take k))) (fun v6 _ => m - (intOf v6).toNat)
  case atStart => exact ⟨0, _, _, Nat.zero_le _, rfl, HRA.out, HBA.out, Nat.le_refl _, HMA.out⟩
  case round =>
    clear HRA HMA HBA
    obtain ⟨k, q', M', hk, rfl, hr, hbr, hq, hma⟩ := hrel
    have HR := Lib.hid hr
    have HBR := Lib.hid hbr
    have HMA := Lib.hid hma
    clear hr hbr hma
    rcases Nat.lt_or_ge k m with hlt | hge
    · obtain ⟨c, hc⟩ : ∃ c, bs[k]? = some c := ⟨_, List.getElem?_eq_getElem (by rw [HB.out.1]; exact hlt)⟩
      obtain ⟨bd, rfl, _, b0⟩ := (HB.out.below HBR.out).at_ hlt
      rw [List.getD_eq_getElem?_getD, hc] at b0
      change _ = some (v8 c) at b0
      have HT := Lib.hid (take_ HR.out hn FIT.out HSP.out c)
      have HN := Lib.hid (fun M2 => Marks.next (M' := M2) hc HMA.out)
      clear hc
      go_wp2_with fail
      refine HT.out.mono ?_
      clear HT
      rintro e wb ⟨rfl, q2, M2, hr2, hf2, hq2, hS⟩
      have HR2 := Lib.hid hr2
      have HB2 := Lib.hid (HBR.out.trans (hf2.below HBR.out.size (by intro k' hk'; simp at hk'; omega)))
      have HM2 := Lib.hid (HN.out M2 hS)
      have hz2 : w.heap.size ≤ q2 := Nat.le_trans HBR.out.size hq2
      clear hr2 hf2 hS HN
      go_wp2_with fail
      exact ⟨⟨k + 1, q2, M2, by omega, by rw [show ((k + 1 : Nat) : Int) = (k : Int) + 1 by omega], HR2.out, HB2.out, hz2, HM2.out⟩, by simp [intOf]; omega⟩
    · obtain rfl : k = m := by omega
      have HD := Lib.hid (done_ HR.out hn)
      have HE := Lib.hid (show Marks (us.map (·.i)) M' (On (us.map (·.i)) bs) by have := HMA.out; rwa [List.take_of_length_le (by rw [HB.out.1]; exact Nat.le_refl _)] at this)
      go_wp2_with fail
      refine HD.out.mono ?_
      clear HD
      rintro e wb ⟨b, rfl, rfl, hbb⟩
      have HI := Lib.hid (hbb.trans (doneIn_hits rfl HE.out))
      clear hbb
      go_wp2_with fail
      go_ret
      exact ⟨b, rfl, HI.out, HBR.out⟩
end Go.Proofs.Ytjpbndpfbdfhjaa.Seek
end

section
namespace Go.Proofs.Ytjpbndpfbdfhjaa.Seek
open Go.RowKit Go.Proofs.Ytjpbndpfbdfhjaa.Nfa
open Go.Proofs.Ytjpbndpfbdfhjaa.Reg (Sp RSpn sflat)
set_option linter.unusedVariables false
set_option linter.unusedSimpArgs false
variable {w : World} {g q n pc mc : Nat} {A : Option Addr} {us : List Iv} {M : List Bool}

/-- A cell of another slice of bools is written. -/
theorem Rn.far (h : Rn w g q A us n pc mc M) {o : Nat} {cs : List Value} (ho : Cel w o 4 cs) (hq : q ≠ o) (i : Nat) (v : Value) : Rn (w.setCell ⟨o, i, none⟩ v) g q A us n pc mc M := by
  have hf : Frm [o] w (w.setCell ⟨o, i, none⟩ v) := (Frm.refl _ _).set (by simp) _
  refine ⟨h.run.far (p := ⟨o, i, none⟩) (Cel.ne h.run ho (by decide)) v, h.met.far (p := ⟨o, i, none⟩) hq v, Rr.keep h.rr hf ?_ ?_, h.len, h.mlen⟩
  · intro k hk; simp at hk; subst hk; exact ho.not_ty (by decide)
  · intro k hk; simp at hk; subst hk; exact ho.not_ty (by decide)
/-- The ends that are told, up to a place. -/
def EndsTo (p : List In) (bs : List (BitVec 8)) (f t : Nat) (L : List Bool) : Prop := L.length = bs.length + 1 ∧ ∀ i, f ≤ i → i < t → (L[i]? = some true ↔ Hits p (cut bs f i))
theorem EndsTo.snoc {p : List In} {bs : List (BitVec 8)} {f t : Nat} {L : List Bool} {b : Bool} (h : EndsTo p bs f t L) (ht : t ≤ bs.length) (hb : b = true ↔ Hits p (cut bs f t)) : EndsTo p bs f (t + 1) (L.set t b) := by
  refine ⟨by rw [List.length_set]; exact h.1, fun i hf hi => ?_⟩
  have hl := h.1
  by_cases e : t = i
  · subst e
    rw [List.getElem?_set_self (by omega), ← hb]
    simp
  · rw [List.getElem?_set_ne e]
    exact h.2 i hf (by omega)
def EnSays (w : World) (us : List Iv) (bs : List (BitVec 8)) (f : Nat) (e : Ending) (w' : World) : Prop :=
  ∃ L, e = .returned (.slice (some ⟨w.heap.size, 0, none⟩) (bs.length + 1) (bs.length + 1)) ∧ Cel w' w.heap.size 4 (L.map Value.bool) ∧ EndsTo (us.map (·.i)) bs f (bs.length + 1) L ∧ Below w.heap.size w w'
set_option maxRecDepth 100000 in
set_option maxHeartbeats 2000000 in
theorem ends_ (h : Rr w A us) (hl : us.length = n) (hn : n ≤ 1000) (fit : ∀ u ∈ us, (-9223372036854775808 ≤ u.i.x ∧ u.i.x < 9223372036854775808) ∧ -9223372036854775808 ≤ u.i.y ∧ u.i.y < 9223372036854775808)
    (hsp : ∀ u ∈ us, u.i.sp.length ≤ 1000) (B : Option Addr) (m bc : Nat) (bs : List (BitVec 8)) (hb : Bs w w.heap.size B m bs) (hm : m ≤ 1000) (f : Nat) (hfm : f ≤ m) :
    Calls Try.prog 19 #[.slice A n pc, .slice B m bc, .int .i64 (f : Int)] w (EnSays w us bs f) := by
  obtain ⟨zs, hz⟩ : ∃ zs, zs = (List.replicate n false).map Value.bool := ⟨_, rfl⟩
  obtain ⟨ys, hy⟩ : ∃ ys, ys = (List.replicate (m + 1) false).map Value.bool := ⟨_, rfl⟩
  obtain ⟨w1, hw1⟩ : ∃ w1, w1 = w.alloc (.cells ys.toArray 4) := ⟨_, rfl⟩
  have hmk0 := run_make_bools w (m + 1) (by omega)
  rw [← hy, ← hw1] at hmk0
  push_cast at hmk0
  have hmk := run_make_bools w1 n (by omega)
  rw [← hz] at hmk
  have hs1 : w1.heap.size = w.heap.size + 1 := by rw [hw1]; simp
  have hb0 : Below w.heap.size w w1 := by rw [hw1]; exact (Below.refl _ _).alloc (Nat.le_refl _) _
  have hout : Cel w1 w.heap.size 4 ((List.replicate (m + 1) false).map Value.bool) := by rw [hw1, ← hy]; exact Cel.new w _ ys
  have hun : (us.map (·.i)).length = n := by rw [List.length_map, hl]
  have hrr : Rr w1 A us := ⟨Ry.below h.ry hb0, fun u hu => Ry.below (h.sp u hu) hb0⟩
  have hr := Rn.make hrr hl pc zs hz
  rw [hs1] at hr
  have hb1 : Below w1.heap.size w1 ((w1.alloc (.cells zs.toArray 4)).alloc (.cells #[.slice A n pc, .slice (some ⟨w1.heap.size, 0, none⟩) n n] 68)) := ((Below.refl _ _).alloc (Nat.le_refl _) _).alloc (by simp) _
  have hout2 := hout.below hb1 hout.lt
  rw [hs1] at hb1 hout2
  have hb2 := hb0.trans (hb1.mono (by omega))
  have hbl : bs.length = m := hb.1
  have HCO := Lib.hid (come hn fit hr 0)
  have HR := Lib.hid hr
  have HB1 := Lib.hid hb2
  have HO := Lib.hid hout2
  have HUN := Lib.hid hun
  have FIT := Lib.hid fit
  have HSP := Lib.hid hsp
  have HB := Lib.hid hb
  have HBL := Lib.hid hbl
  clear h hl fit hsp hb hr hb0 hb1 hb2 hun hz hy hout hout2 hrr hw1 hbl
  go_enter Try.func19, Try.ntmps19
  go_wp2_with fail
  refine HCO.out.mono ?_
  clear HCO hmk hmk0
  rintro e wa ⟨rfl, M1, hc, hf, hm1⟩
  have HRA := Lib.hid (HR.out.after hf hm1 (by rw [hc.len]; simp))
  have HMA := Lib.hid (Marks.begin HUN.out hc)
  have HBA := Lib.hid (HB1.out.trans (hf.below HB1.out.size (by intro k hk; simp at hk; omega)))
  have HOA := Lib.hid (HO.out.frm hf (by simp))
  clear hc hf hm1 HR HB1 HO
  go_wp2_with fail
  go_loopw [9] (fun v9 wr => ∃ (t q' : Nat) (M' L : List Bool), f ≤ t ∧ t ≤ m + 1 ∧ v9 = .int .i64 (t : Int) ∧ Rn wr ((w.heap.size + 1) + 1) q' A us n pc n M' ∧ Below w.heap.size w wr ∧ (w.heap.size + 1) ≤ q' ∧ (w.heap.size + 1) ≤ wr.heap.size ∧ Cel wr w.heap.size 4 (L.map Value.bool) ∧ EndsTo (us.map (·.i)) bs f t L ∧ (t ≤ m → Marks (us.map (·.i)) M' (On (us.map (·.i)) (cut bs f t)))) (fun v9 _ => m + 1 - (intOf v9).toNat)
  case atStart => exact ⟨f, _, _, _, Nat.le_refl _, by omega, rfl, HRA.out, HBA.out, Nat.le_refl _, Nat.le_of_lt HRA.out.met.lt, HOA.out, ⟨by simp [HBL.out], fun i h1 h2 => by omega⟩, fun _ => by rw [cut_self]; exact HMA.out⟩
  case round =>
    clear HRA HMA HBA HOA
    obtain ⟨t, q', M', L, hft, ht, rfl, hr, hbr, hq, hws, ho, he, hma⟩ := hrel
    have HR := Lib.hid hr
    have HBR := Lib.hid hbr
    have HO := Lib.hid ho
    have HE := Lib.hid he
    have HMA := Lib.hid hma
    clear hr hbr hma ho he
    by_cases hlt : t ≤ m
    · have HD := Lib.hid (done_ HR.out hn)
      have kf := HO.out.free t
      have hqo : q' ≠ w.heap.size := by omega
      go_wp2_with fail
      refine HD.out.mono ?_
      clear HD
      rintro e wb ⟨b, rfl, rfl, hbb⟩
      have k0 : wr.cell? ⟨w.heap.size, t, none⟩ = some (.bool (L.getD t false)) := by
        have := HE.out.1
        rw [HO.out.cell t, List.getElem?_map, List.getElem?_eq_getElem (by rw [this, HBL.out]; omega), List.getD_eq_getElem?_getD, List.getElem?_eq_getElem (by rw [this, HBL.out]; omega)]; rfl
      have HE2 := Lib.hid (HE.out.snoc (by rw [HBL.out]; exact hlt) (hbb.trans (doneIn_hits rfl (HMA.out hlt))))
      have HR2 := Lib.hid (HR.out.far HO.out hqo t (.bool b))
      have HO2 := Lib.hid (show Cel (wr.setCell ⟨w.heap.size, t, none⟩ (.bool b)) w.heap.size 4 ((L.set t b).map Value.bool) by rw [List.map_set]; exact HO.out.set t _)
      have HB2 := Lib.hid (show Below w.heap.size w (wr.setCell ⟨w.heap.size, t, none⟩ (.bool b)) from HBR.out.trans (((Frm.refl [w.heap.size] wr).set (p := ⟨w.heap.size, t, none⟩) (by simp) (.bool b)).below HBR.out.size (by intro k hk; simp at hk; omega)))
      have hws2 : (w.heap.size + 1) ≤ (wr.setCell ⟨w.heap.size, t, none⟩ (.bool b)).heap.size := by simp [World.setCell]; exact hws
      clear hbb
      by_cases hlm : t < m
      · obtain ⟨c, hc⟩ : ∃ c, bs[t]? = some c := ⟨_, List.getElem?_eq_getElem (by rw [HBL.out]; exact hlm)⟩
        obtain ⟨bd, rfl, _, b0⟩ := (HB.out.below HB2.out).at_ hlm
        rw [List.getD_eq_getElem?_getD, hc] at b0
        change _ = some (v8 c) at b0
        have HT := Lib.hid (take_ HR2.out hn FIT.out HSP.out c)
        have HC := Lib.hid hc
        clear hc
        go_wp2_with fail
        refine HT.out.mono ?_
        clear HT
        rintro e wb ⟨rfl, q2, M2, hr2, hf2, hq2, hS⟩
        have HR3 := Lib.hid hr2
        have HB3 := Lib.hid (HB2.out.trans (hf2.below HB2.out.size (by intro k' hk'; simp at hk'; omega)))
        have HO3 := Lib.hid (HO2.out.frm hf2 (by simp; omega))
        have HM3 := Lib.hid (show Marks (us.map (·.i)) M2 (On (us.map (·.i)) (cut bs f (t + 1))) by rw [cut_snoc hft HC.out, On.snoc]; exact hS _ (HMA.out hlt))
        have hz2 : (w.heap.size + 1) ≤ q2 := Nat.le_trans hws2 hq2
        have hz3 := Nat.le_trans hws2 hf2.size
        clear hr2 hf2 hS
        go_wp2_with fail
        exact ⟨⟨t + 1, q2, M2, _, by omega, by omega, by rw [show ((t + 1 : Nat) : Int) = (t : Int) + 1 by omega], HR3.out, HB3.out, hz2, hz3, HO3.out, HE2.out, fun _ => HM3.out⟩, by simp [intOf]; omega⟩
      · go_wp2_with fail
        exact ⟨⟨t + 1, q', M', _, by omega, by omega, by rw [show ((t + 1 : Nat) : Int) = (t : Int) + 1 by omega], HR2.out, HB2.out, hq, hws2, HO2.out, HE2.out, fun h => absurd h (by omega)⟩, by simp [intOf]; omega⟩
    · obtain rfl : t = m + 1 := by omega
      have HF := Lib.hid (show EnSays w us bs f (.returned (.slice (some ⟨w.heap.size, 0, none⟩) (m + 1) (m + 1))) wr from ⟨L, by rw [HBL.out], HO.out, by rw [HBL.out]; exact HE.out, HBR.out⟩)
      go_wp2_with fail
      go_ret
      exact HF.out
end Go.Proofs.Ytjpbndpfbdfhjaa.Seek
end
