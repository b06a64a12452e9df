/-
  The orders sync, remove and rename.
-/
import Derived.Test.YtdaknfepcbooeaaGreatMDiskB
import Derived.StillTailTactics
namespace Go.Proofs.YtdaknfepcbooeaaGreat.Disk
open Go.RowKit Go.Maps
set_option linter.unusedVariables false
set_option linter.unusedSimpArgs false

/-- An order as a value. -/
abbrev ordV (d : Nat) (f t : Int) (A : Option Addr) (n c : Nat) : Value := .agg #[.pointer (some ⟨d, 0, none⟩), .int .i64 f, .int .i64 t, .slice A n c]
theorem Dv.alloc {w : World} {B d b : Nat} {m : M} {vs : Int → Value} {kv : Value} (h : Dv w B d m b vs kv) (o : Obj) : Dv (w.alloc o) B d m b vs kv := h.below ((Below.refl _ _).alloc (Nat.le_refl _) o)
theorem Dv.drew {w : World} {B d b : Nat} {m : M} {vs : Int → Value} {kv : Value} (h : Dv w B d m b vs kv) : Dv w.drew B d m b vs kv := h.below (Below.refl _ _).drew
theorem there_here {m : M} {f : Int} (h : there m f = 0) : f ∈ m.files := by
  unfold there at h
  by_cases hf : f ∈ m.files
  · exact hf
  · exfalso; revert h; split <;> simp [hf]

/-- The map alone was written. -/
theorem Dv.mapped {w w' : World} {B d b : Nat} {m : M} {vs : Int → Value} {kv : Value} (h : Dv w B d m b vs kv) (hg : w.grownBy w' (some b)) (m' : M) (vs' : Int → Value) (hm : Mp w' b m'.files vs') (hi : Inv m') (e1 : m'.room = m.room) (e2 : m'.off = m.off) (e3 : m'.plan = m.plan)
    (σ : Int → Int) (hs : ∀ f ∈ m'.files, σ f ∈ m.files ∧ vs' f = vs (σ f) ∧ Disk.rows f m'.l = Disk.rows (σ f) m.l) (hinj : ∀ f ∈ m'.files, ∀ g ∈ m'.files, f ≠ g → σ f ≠ σ g) : Dv w' B d m' b vs' kv ∧ Chg B Dob w w' := by
  obtain ⟨es, clock, hb, hr⟩ := h.map
  have hch : Chg B Dob w w' := (Chg.refl B Dob w).grown hg fun g e => by cases e; exact .inr ⟨h.own.2, _, hb, trivial⟩
  have hne : ∀ k cs t fz, w.heap[k]? = some (Obj.cells cs t fz) → k ≠ b := fun k cs t fz hk e => by rw [e, hb] at hk; cases hk
  have hkp : ∀ k cs t fz, w.heap[k]? = some (Obj.cells cs t fz) → w'.heap[k]? = some (Obj.cells cs t fz) := fun k cs t fz hk => by
    rw [hg.block k (Array.getElem?_eq_some_iff.1 hk).1 (fun e => hne k cs t fz hk (Option.some.inj e)), hk]
  refine ⟨⟨hi, ?_, h.own, hm, fun f hf => ?_, fun f hf g hg' hfg => ?_, ?_⟩, hch⟩
  · rw [e1, e2, e3]; exact hkp _ _ _ _ h.cel
  · obtain ⟨h1, h2, h3⟩ := hs f hf
    rw [h2, h3]
    refine World.ownsRow.kept (h.rows _ h1) hg ?_
    rcases (h.rows _ h1).cases with ⟨e, _⟩ | ⟨g, cap, e, _, _, cur, hbg⟩
    · rw [e]; exact .inl rfl
    · rw [e]; exact .inr fun e' => hne g _ _ _ hbg (Option.some.inj e')
  · obtain ⟨h1, h2, h3⟩ := hs f hf
    obtain ⟨h4, h5, h6⟩ := hs g hg'
    rw [h2, h5]
    exact h.apart _ h1 _ h4 (hinj f hf g hg' hfg)
  · rw [e1, e3]
    exact fun k ks e => (h.keep k ks e).chg hch (by rintro cs fz (h | h) <;> revert h <;> decide)

set_option maxRecDepth 100000 in
set_option maxHeartbeats 1000000 in
theorem o_sync (w : World) (B d b : Nat) (m : M) (vs : Int → Value) (kv : Value) (f t : Int) (A : Option Addr) (n c : Nat) (h : Dv w B d m b vs kv) (hf : f ∈ m.files) (hi : Inv { m with l := syncL f m.l }) :
    Calls Tryz.prog 100 #[ordV d f t A n c] w fun e w' => e = .returned (.tuple #[]) ∧ Dv w' B d { m with l := syncL f m.l } b vs kv ∧ Chg B Dob w w' := by
  have hW := (h.alloc (.cells #[.pointer (some ⟨d, 0, none⟩), .int .i64 f, .int .i64 t, .slice A n c] 90)).drew
  have hWb : Below w.heap.size w (w.alloc (.cells #[.pointer (some ⟨d, 0, none⟩), .int .i64 f, .int .i64 t, .slice A n c] 90)).drew := ((Below.refl _ _).alloc (Nat.le_refl _) _).drew
  obtain ⟨j0, j1, j2, j3, j4⟩ := Cel.at0 (h.alloc (.cells #[.pointer (some ⟨d, 0, none⟩), .int .i64 f, .int .i64 t, .slice A n c] 90)).cel
  obtain ⟨r0, r1, r2, r3⟩ : (w.alloc (.cells #[.pointer (some ⟨d, 0, none⟩), .int .i64 f, .int .i64 t, .slice A n c] 90)).cell? ⟨w.heap.size, 0, none⟩ = some (.pointer (some ⟨d, 0, none⟩)) ∧ (w.alloc (.cells #[.pointer (some ⟨d, 0, none⟩), .int .i64 f, .int .i64 t, .slice A n c] 90)).cell? ⟨w.heap.size, 1, none⟩ = some (.int .i64 f) ∧ (w.alloc (.cells #[.pointer (some ⟨d, 0, none⟩), .int .i64 f, .int .i64 t, .slice A n c] 90)).cell? ⟨w.heap.size, 2, none⟩ = some (.int .i64 t) ∧ (w.alloc (.cells #[.pointer (some ⟨d, 0, none⟩), .int .i64 f, .int .i64 t, .slice A n c] 90)).cell? ⟨w.heap.size, 3, none⟩ = some (.slice A n c) := by
    have := Cel.new w 90 [.pointer (some ⟨d, 0, none⟩), .int .i64 f, .int .i64 t, .slice A n c]
    exact ⟨this.cell 0, this.cell 1, this.cell 2, this.cell 3⟩
  have hlk := hW.map.look (h.inv.fit f hf)
  rw [show lookV m.files vs f = vs f from if_pos hf] at hlk
  have hfit := h.inv.fit f hf
  have con := fun (V : World) (hV : Rw V B (vs f) (rows f m.l)) => syncAll_ok V B (vs f) (rows f m.l) hV (h.inv.r512 f) (h.inv.rows_le f)
  have con := con _ (hW.rows f hf)
  obtain ⟨v, hv⟩ : ∃ v, v = vs f := ⟨_, rfl⟩
  rw [← hv] at con hlk
  have HV := Lib.hid hv
  have HW := Lib.hid hW
  have HWb := Lib.hid hWb
  have HI := Lib.hid hi
  have HF := Lib.hid hf
  clear hW hWb hi hf hv h j0 j1 j3 j4 hfit r2 r3
  go_enter Tryz.func100, Tryz.ntmps100
  go_wp2_with fail
  generalize w.alloc (.cells #[.pointer (some ⟨d, 0, none⟩), .int .i64 f, .int .i64 t, .slice A n c] 90) = W at *
  go_still_tail 8, (by kernel_rfl)
  change wpList _ _ _ _ _ W.drew
  generalize W.drew = W2 at *
  go_wp2_with fail
  refine con.mono ?_
  clear con
  rintro e w2 ⟨rfl, h1, h2⟩
  go_wp2_with fail
  go_end0
  have hg : W2.grownBy w2 (vs f).ownBlock := by rw [← HV.out]; exact h2
  have hr : Rw w2 B (vs f) (rows f (syncL f m.l)) := by rw [rows_sync, if_pos rfl, ← HV.out]; exact h1
  exact ⟨rfl, HW.out.row HF.out hg hr (fun g hne => by show rows g (syncL f m.l) = _; rw [rows_sync, if_neg hne]) HI.out rfl rfl rfl rfl, (Chg.of_below HWb.out).trans ((HW.out.rows f HF.out).chg hg)⟩

set_option maxRecDepth 100000 in
set_option maxHeartbeats 1000000 in
theorem o_remove (w : World) (B d b : Nat) (m : M) (vs : Int → Value) (kv : Value) (f t : Int) (A : Option Addr) (n c : Nat) (h : Dv w B d m b vs kv) (hf : f ∈ m.files) (hi : Inv { m with files := without f m.files, l := dropL f m.l }) :
    Calls Tryz.prog 116 #[ordV d f t A n c] w fun e w' => e = .returned (.tuple #[]) ∧ Dv w' B d { m with files := without f m.files, l := dropL f m.l } b vs kv ∧ Chg B Dob w w' := by
  have hW := (h.alloc (.cells #[.pointer (some ⟨d, 0, none⟩), .int .i64 f, .int .i64 t, .slice A n c] 90)).drew
  have hWb : Below w.heap.size w (w.alloc (.cells #[.pointer (some ⟨d, 0, none⟩), .int .i64 f, .int .i64 t, .slice A n c] 90)).drew := ((Below.refl _ _).alloc (Nat.le_refl _) _).drew
  obtain ⟨j0, j1, j2, j3, j4⟩ := Cel.at0 (h.alloc (.cells #[.pointer (some ⟨d, 0, none⟩), .int .i64 f, .int .i64 t, .slice A n c] 90)).cel
  obtain ⟨r0, r1⟩ : (w.alloc (.cells #[.pointer (some ⟨d, 0, none⟩), .int .i64 f, .int .i64 t, .slice A n c] 90)).cell? ⟨w.heap.size, 0, none⟩ = some (.pointer (some ⟨d, 0, none⟩)) ∧ (w.alloc (.cells #[.pointer (some ⟨d, 0, none⟩), .int .i64 f, .int .i64 t, .slice A n c] 90)).cell? ⟨w.heap.size, 1, none⟩ = some (.int .i64 f) := by
    have := Cel.new w 90 [.pointer (some ⟨d, 0, none⟩), .int .i64 f, .int .i64 t, .slice A n c]
    exact ⟨this.cell 0, this.cell 1⟩
  obtain ⟨w2, hr, hm, hg⟩ := hW.map.drop (h.inv.fit f hf) 0
  have HW := Lib.hid hW
  have HWb := Lib.hid hWb
  have HI := Lib.hid hi
  have HF := Lib.hid hf
  have HM := Lib.hid hm
  have HG := Lib.hid hg
  clear hW hWb hi hf h j0 j1 j3 j4 hm hg
  go_enter Tryz.func116, Tryz.ntmps116
  go_wp2_with fail
  generalize w.alloc (.cells #[.pointer (some ⟨d, 0, none⟩), .int .i64 f, .int .i64 t, .slice A n c] 90) = W at *
  go_still_tail 7, (by kernel_rfl)
  change wpList _ _ _ _ _ W.drew
  generalize W.drew = W2 at *
  go_wp2_with fail
  go_end0
  obtain ⟨q1, q2⟩ := HW.out.mapped HG.out { m with files := without f m.files, l := dropL f m.l } vs HM.out HI.out rfl rfl rfl id (fun g hg => by
    obtain ⟨h1, h2⟩ := (mem_without f g m.files).1 hg
    exact ⟨h1, rfl, by show rows g (dropL f m.l) = _; rw [rows_drop, if_neg h2]; rfl⟩) (fun _ _ _ _ h => h)
  exact ⟨rfl, q1, (Chg.of_below HWb.out).trans q2⟩

theorem upd_at (vs : Int → Value) (t : Int) (v : Value) (g : Int) : upd vs t v g = if g = t then v else vs g := rfl

set_option maxRecDepth 100000 in
set_option maxHeartbeats 1000000 in
theorem o_rename_same (w : World) (B d b : Nat) (m : M) (vs : Int → Value) (kv : Value) (f : Int) (A : Option Addr) (n c : Nat) (h : Dv w B d m b vs kv) :
    Calls Tryz.prog 101 #[ordV d f f A n c] w fun e w' => e = .returned (.tuple #[]) ∧ Dv w' B d m b vs kv ∧ Chg B Dob w w' := by
  have HW := Lib.hid h
  obtain ⟨r0, r1, r2⟩ : (w.alloc (.cells #[.pointer (some ⟨d, 0, none⟩), .int .i64 f, .int .i64 f, .slice A n c] 90)).cell? ⟨w.heap.size, 0, none⟩ = some (.pointer (some ⟨d, 0, none⟩)) ∧ (w.alloc (.cells #[.pointer (some ⟨d, 0, none⟩), .int .i64 f, .int .i64 f, .slice A n c] 90)).cell? ⟨w.heap.size, 1, none⟩ = some (.int .i64 f) ∧ (w.alloc (.cells #[.pointer (some ⟨d, 0, none⟩), .int .i64 f, .int .i64 f, .slice A n c] 90)).cell? ⟨w.heap.size, 2, none⟩ = some (.int .i64 f) := by
    have := Cel.new w 90 [.pointer (some ⟨d, 0, none⟩), .int .i64 f, .int .i64 f, .slice A n c]
    exact ⟨this.cell 0, this.cell 1, this.cell 2⟩
  clear h
  go_enter Tryz.func101, Tryz.ntmps101
  go_wp2_with fail
  exact bodyPost_ret (results_none rfl _ _ _) rfl ⟨rfl, HW.out.alloc _, (Chg.refl _ _ _).alloc _⟩

set_option maxRecDepth 100000 in
set_option maxHeartbeats 1000000 in
theorem o_rename (w : World) (B d b : Nat) (m : M) (vs : Int → Value) (kv : Value) (f t : Int) (A : Option Addr) (n c : Nat) (h : Dv w B d m b vs kv) (hf : f ∈ m.files) (hne : f ≠ t) (ht : 0 ≤ t ∧ t < 9223372036854775808) (hi : Inv { m with files := without f (add t m.files), l := moveL f t (dropL t m.l) }) :
    Calls Tryz.prog 101 #[ordV d f t A n c] w fun e w' => e = .returned (.tuple #[]) ∧ Dv w' B d { m with files := without f (add t m.files), l := moveL f t (dropL t m.l) } b (upd vs t (vs f)) kv ∧ Chg B Dob w w' := by
  have hW := (h.alloc (.cells #[.pointer (some ⟨d, 0, none⟩), .int .i64 f, .int .i64 t, .slice A n c] 90)).drew
  have hWb : Below w.heap.size w (w.alloc (.cells #[.pointer (some ⟨d, 0, none⟩), .int .i64 f, .int .i64 t, .slice A n c] 90)).drew := ((Below.refl _ _).alloc (Nat.le_refl _) _).drew
  obtain ⟨j0, j1, j2, j3, j4⟩ := Cel.at0 (h.alloc (.cells #[.pointer (some ⟨d, 0, none⟩), .int .i64 f, .int .i64 t, .slice A n c] 90)).cel
  have hbx := Cel.new w 90 [.pointer (some ⟨d, 0, none⟩), .int .i64 f, .int .i64 t, .slice A n c]
  obtain ⟨r0, r1, r2⟩ : (w.alloc (.cells #[.pointer (some ⟨d, 0, none⟩), .int .i64 f, .int .i64 t, .slice A n c] 90)).cell? ⟨w.heap.size, 0, none⟩ = some (.pointer (some ⟨d, 0, none⟩)) ∧ (w.alloc (.cells #[.pointer (some ⟨d, 0, none⟩), .int .i64 f, .int .i64 t, .slice A n c] 90)).cell? ⟨w.heap.size, 1, none⟩ = some (.int .i64 f) ∧ (w.alloc (.cells #[.pointer (some ⟨d, 0, none⟩), .int .i64 f, .int .i64 t, .slice A n c] 90)).cell? ⟨w.heap.size, 2, none⟩ = some (.int .i64 t) :=
    ⟨hbx.cell 0, hbx.cell 1, hbx.cell 2⟩
  obtain ⟨Av, cv, hv⟩ := (h.rows f hf).form
  have hlk := hW.map.look (h.inv.fit f hf)
  rw [show lookV m.files vs f = vs f from if_pos hf, hv] at hlk
  obtain ⟨w2, hr2, hm2, hg2⟩ := hW.map.store (f := t) ⟨by omega, ht.2⟩ h.inv.few Av (rows f m.l).length cv
  obtain ⟨w3, hr3, hm3, hg3⟩ := (show Mp w2.drew b _ _ from hm2).drop (f := f) (h.inv.fit f hf) 0
  have hkp : ∀ k cs ty, Cel (w.alloc (.cells #[.pointer (some ⟨d, 0, none⟩), .int .i64 f, .int .i64 t, .slice A n c] 90)).drew k ty cs → Cel w2 k ty cs := fun k cs ty hk => by
    obtain ⟨es, clock, hb, _⟩ := hW.map
    unfold Cel at hk ⊢
    rw [hg2.block k (Array.getElem?_eq_some_iff.1 hk).1 (fun e => by rw [Option.some.inj e, hb] at hk; cases hk), hk]
  obtain ⟨a0, a1, a2, a3, a4⟩ := Cel.at0 (hkp _ _ _ hW.cel)
  have hbx2 := hkp _ _ _ hbx.drew
  obtain ⟨s0, s1⟩ : w2.cell? ⟨w.heap.size, 0, none⟩ = some (.pointer (some ⟨d, 0, none⟩)) ∧ w2.cell? ⟨w.heap.size, 1, none⟩ = some (.int .i64 f) := ⟨hbx2.cell 0, hbx2.cell 1⟩
  have heq : (f == t) = false := by simpa using hne
  have HW := Lib.hid hW
  have HWb := Lib.hid hWb
  have HI := Lib.hid hi
  have HF := Lib.hid hf
  have HM := Lib.hid hm3
  have HG := Lib.hid (hg2.andThen (show w2.grownBy w3 (some b) from ⟨hg3.os, hg3.tape, hg3.output, hg3.size, hg3.block⟩) (fun j hj => .inr hj))
  have HV := Lib.hid hv
  have HN := Lib.hid hne
  clear hW hWb hi hf h j0 j1 j3 j4 hm2 hm3 hg2 hg3 hkp hbx hbx2 a0 a1 a3 a4 hv hne
  go_enter Tryz.func101, Tryz.ntmps101
  go_wp2_with fail
  generalize w.alloc (.cells #[.pointer (some ⟨d, 0, none⟩), .int .i64 f, .int .i64 t, .slice A n c] 90) = W at *
  go_still_tail 15, (by kernel_rfl)
  change wpList _ _ _ _ _ W.drew
  generalize W.drew = W2 at *
  go_wp2_with fail
  go_still_tail 7, (by kernel_rfl)
  change wpList _ _ _ _ _ w2.drew
  generalize w2.drew = W3 at *
  go_wp2_with fail
  go_end0
  obtain ⟨q1, q2⟩ := HW.out.mapped HG.out { m with files := without f (add t m.files), l := moveL f t (dropL t m.l) } (upd vs t (vs f)) (by rw [HV.out]; exact HM.out) HI.out rfl rfl rfl (fun g => if g = t then f else g) (fun g hg => by
    obtain ⟨h1, h2⟩ := (mem_without f g _).1 hg
    have hno : ∀ c ∈ dropL t m.l, c.file ≠ t := fun c hc => by
      have := (List.mem_filter.1 hc).2
      simpa using this
    show (if g = t then f else g) ∈ m.files ∧ upd vs t (vs f) g = vs (if g = t then f else g) ∧ rows g (moveL f t (dropL t m.l)) = rows (if g = t then f else g) m.l
    rw [rows_move f t g _ HN.out hno, upd_at]
    by_cases e : g = t
    · subst e
      rw [if_pos rfl, if_pos rfl, if_pos rfl, rows_drop, if_neg HN.out]
      exact ⟨HF.out, rfl, rfl⟩
    · rw [if_neg e, if_neg e, if_neg e, if_neg h2, rows_drop, if_neg e]
      rcases (mem_add t g m.files).1 h1 with h | h
      · exact absurd h e
      · exact ⟨h, rfl, rfl⟩) (fun g hg g' hg' hne => by
    have h1 := ((mem_without f g _).1 hg).2
    have h2 := ((mem_without f g' _).1 hg').2
    show (if g = t then f else g) ≠ (if g' = t then f else g')
    by_cases e : g = t
    · rw [if_pos e, if_neg (fun e' => hne (e.trans e'.symm))]; exact Ne.symm h2
    · rw [if_neg e]
      by_cases e' : g' = t
      · rw [if_pos e']; exact h1
      · rw [if_neg e']; exact hne)
  exact ⟨rfl, q1, (Chg.of_below HWb.out).trans q2⟩
end Go.Proofs.YtdaknfepcbooeaaGreat.Disk
