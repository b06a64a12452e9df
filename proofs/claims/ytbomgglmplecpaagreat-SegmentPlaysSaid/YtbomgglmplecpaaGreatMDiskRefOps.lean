/-
  The document's add and drop.
-/
import Derived.Test.YtbomgglmplecpaaGreatMBaseB
import Derived.Test.YtbomgglmplecpaaGreatMDiskRefCrash
import Derived.Laws.Tables
namespace Go.Proofs.YtbomgglmplecpaaGreat.Disk
open Go.RowKit Go.Proofs.YtbomgglmplecpaaGreat.Ord
set_option linter.unusedVariables false
set_option linter.unusedSimpArgs false

/-- The document's disk in block d has what m has, whatever that is. -/
structure Fw (w : World) (B d : Nat) (m : M) (A : Option Addr) (c : Nat) (lv kv : Value) (left : Int) : Prop where
  cel : Cel w d 35 [.int .i64 m.room, .slice A m.files.length c, lv, .bool m.off, .bool m.plan.isSome, .int .i64 left, kv]
  own : B ≤ d
  cap : m.files.length ≤ c
  files : Is w A m.files
  row : Rl w B lv m.l
  plan : ∀ k ks, m.plan = some (k, ks) → left = k ∧ Bo w B kv ks
theorem Fv.fw {w : World} {B d : Nat} {m : M} {A : Option Addr} {c : Nat} {lv kv : Value} {left : Int} (h : Fv w B d m A c lv kv left) : Fw w B d m A c lv kv left := ⟨h.cel, h.own, h.cap, h.files, h.row, h.plan⟩
theorem Fw.fv {w : World} {B d : Nat} {m : M} {A : Option Addr} {c : Nat} {lv kv : Value} {left : Int} (h : Fw w B d m A c lv kv left) (hi : Inv m) : Fv w B d m A c lv kv left := ⟨hi, h.cel, h.own, h.cap, h.files, h.row, h.plan⟩
def Fu (w : World) (B d : Nat) (m : M) : Prop := ∃ A c lv kv left, Fw w B d m A c lv kv left
theorem Fk.fu {w : World} {B d : Nat} {m : M} (h : Fk w B d m) : Fu w B d m := by obtain ⟨A, c, lv, kv, left, h⟩ := h; exact ⟨A, c, lv, kv, left, h.fw⟩
theorem Fu.fk {w : World} {B d : Nat} {m : M} (h : Fu w B d m) (hi : Inv m) : Fk w B d m := by obtain ⟨A, c, lv, kv, left, h⟩ := h; exact ⟨A, c, lv, kv, left, h.fv hi⟩
/-- A new row of files was stored. -/
theorem Fw.setFiles {w w1 : World} {B d : Nat} {m : M} {A : Option Addr} {c : Nat} {lv kv : Value} {left : Int} (h : Fw w B d m A c lv kv left) (hb : Below w.heap.size w w1) (A' : Option Addr) (c' base : Nat) (fs : List Int) (ho : w1.ownsRow base 3 1 (.slice A' fs.length c') fs.length (fs.map (Value.int .i64))) :
    Fw (w1.setCell ⟨d, 1, none⟩ (.slice A' fs.length c')) B d { m with files := fs } A' c' lv kv left ∧ Chg B Rob w (w1.setCell ⟨d, 1, none⟩ (.slice A' fs.length c')) := by
  have hc1 := Cel.below h.cel hb h.cel.lt
  have hg := grown_setCell w1 ⟨d, 1, none⟩ (.slice A' fs.length c')
  have hch : Chg B Rob w1 (w1.setCell ⟨d, 1, none⟩ (.slice A' fs.length c')) := (Chg.refl B Rob w1).grown hg fun g e => by cases e; exact .inr ⟨h.own, _, hc1, .inl rfl⟩
  have hrow : Rl w1 B lv m.l := h.row.chg (B' := 0) (T := fun _ => False) (Chg.of_below hb) (fun _ _ h => h)
  refine ⟨⟨hc1.set 1 _, h.own, ?_, (Is.of_own ho).chg hch (fun _ _ => notRob_int), ?_, fun k ks e => ⟨(h.plan k ks e).1, ((h.plan k ks e).2.below hb).chg hch (fun _ _ => notRob_bool)⟩⟩, (Chg.of_below hb).trans hch⟩
  · rcases ho.2 with ⟨e, h0⟩ | ⟨g, cap, cur, e, _, _, hcap, _⟩
    · show fs.length ≤ c'; omega
    · cases e; exact hcap
  · refine World.ownsRow.kept hrow hg ?_
    rcases hrow.cases with ⟨e, _⟩ | ⟨g, cap, e, _, _, cur, hb2⟩
    · rw [e]; exact .inl rfl
    · rw [e]
      refine .inr fun e' => ?_
      cases e'
      unfold Cel at hc1
      rw [hb2] at hc1
      simp at hc1

/-- A new row of sectors was stored. -/
theorem Fw.setRow {w w1 : World} {B d : Nat} {m : M} {A : Option Addr} {c : Nat} {lv kv : Value} {left : Int} (h : Fw w B d m A c lv kv left) (hb : Below w.heap.size w w1) (v : Value) (l : List Cl) (hr : Rl w1 B v l) :
    Fw (w1.setCell ⟨d, 2, none⟩ v) B d { m with l := l } A c v kv left ∧ Chg B Rob w (w1.setCell ⟨d, 2, none⟩ v) := by
  have hc1 := Cel.below h.cel hb h.cel.lt
  have hg := grown_setCell w1 ⟨d, 2, none⟩ v
  have hch : Chg B Rob w1 (w1.setCell ⟨d, 2, none⟩ v) := (Chg.refl B Rob w1).grown hg fun g e => by cases e; exact .inr ⟨h.own, _, hc1, .inl rfl⟩
  refine ⟨⟨hc1.set 2 _, h.own, h.cap, (h.files.below hb).chg hch (fun _ _ => notRob_int), ?_, fun k ks e => ⟨(h.plan k ks e).1, ((h.plan k ks e).2.below hb).chg hch (fun _ _ => notRob_bool)⟩⟩, (Chg.of_below hb).trans hch⟩
  refine World.ownsRow.kept hr hg ?_
  rcases hr.cases with ⟨e, _⟩ | ⟨g, cap, e, _, _, cur, hb2⟩
  · rw [e]; exact .inl rfl
  · rw [e]
    refine .inr fun e' => ?_
    cases e'
    unfold Cel at hc1
    rw [hb2] at hc1
    simp at hc1

theorem undI : Tryz.prog.underlying 31 = some (.slice 3) := by kernel_rfl
theorem infoI : (Tryz.prog.info? 3).map (fun i => (i.zero, i.size, i.bytes)) = some (some (.int .i64 0), 1, 8) := by kernel_rfl
theorem sizeI : (Tryz.prog.info? 3).map (·.size) = some 1 := by kernel_rfl
theorem intsT : ElemRow Tryz.prog 31 3 1 8 := ElemRow.mk' undI infoI rfl (by decide)
theorem undC : Tryz.prog.underlying 32 = some (.slice 83) := by kernel_rfl
theorem infoC : (Tryz.prog.info? 83).map (fun i => (i.zero, i.size, i.bytes)) = some (some (.agg #[.int .i64 0, .string ⟨#[]⟩, .bool false]), 3, 32) := by kernel_rfl
theorem cellsT : ElemRow Tryz.prog 32 83 3 32 := ElemRow.mk' undC infoC rfl (by decide)
theorem ints_one (fs : List Int) : ∀ u ∈ fs.map (Value.int .i64), u.oneCell' = true := by
  intro u hu; obtain ⟨x, _, rfl⟩ := List.mem_map.1 hu; rfl

/-- Where a file stands in the order. -/
theorem ins_at {f : Int} {fs : List Int} {k : Nat} (hk : k ≤ fs.length) (h1 : ∀ x ∈ fs.take k, x < f) (h2 : ∀ x, fs[k]? = some x → f < x) : ins f fs = fs.take k ++ f :: fs.drop k := by
  induction fs generalizing k with
  | nil => simp at hk; subst hk; rfl
  | cons g fs ih =>
    cases k with
    | zero =>
      have := h2 g rfl
      simp [ins, this]
    | succ k =>
      have hg := h1 g (by simp)
      unfold ins
      rw [if_neg (by omega), ih (by simpa using hk) (fun x hx => h1 x (by simp [hx])) (fun x hx => h2 x (by simpa using hx))]
      rfl
theorem without_at {f : Int} {fs : List Int} (hs : fs.Pairwise (· < ·)) (h : f ∈ fs) : without f fs = fs.take (fs.idxOf f) ++ fs.drop (fs.idxOf f + 1) := by
  induction fs with
  | nil => simp at h
  | cons g fs ih =>
    obtain ⟨h1, h2⟩ := List.pairwise_cons.1 hs
    by_cases hg : g = f
    · subst hg
      have hn : g ∉ fs := fun hm => by have := h1 g hm; omega
      rw [List.idxOf_cons_self, List.take_zero, List.nil_append, Nat.zero_add, List.drop_succ_cons, List.drop_zero]
      unfold without
      rw [List.filter_cons]
      simp
      exact fun a ha e => hn (e ▸ ha)
    · have hm : f ∈ fs := by rcases List.mem_cons.1 h with e | e; exact absurd e.symm hg; exact e
      have ei : (g :: fs).idxOf f = fs.idxOf f + 1 := by
        have : (g == f) = false := by simpa using hg
        rw [List.idxOf_cons, this]; rfl
      rw [ei, List.take_succ_cons, List.drop_succ_cons, List.cons_append, ← ih h2 hm]
      unfold without
      rw [List.filter_cons]
      simp [hg]
theorem idxOf_lt {f : Int} {fs : List Int} (h : f ∈ fs) : fs.idxOf f < fs.length := List.idxOf_lt_length_of_mem h

set_option maxRecDepth 100000 in
set_option maxHeartbeats 2000000 in
theorem rdropFiles (w : World) (B d : Nat) (m : M) (f : Int) (h : Fu w B d m) (hB : B ≤ w.heap.size) (hs : m.files.Pairwise (· < ·)) (hl : m.files.length ≤ 1000) (hll : m.l.length ≤ 1000) (hf : f ∈ m.files) :
    Calls Tryz.prog 53 #[.pointer (some ⟨d, 0, none⟩), .int .i64 f] w fun r w' => r = .returned (.tuple #[]) ∧ Fu w' B d { m with files := without f m.files, l := dropL f m.l } ∧ Chg B Rob w w' := by
  obtain ⟨A, c, lv, kv, left, h⟩ := h
  obtain ⟨k0, k1, k2, k3, k4, k5, k6⟩ := Cel.at7 h.cel
  obtain ⟨fs, hfs⟩ : ∃ fs, fs = m.files := ⟨_, rfl⟩
  have con := at_ok w d m.files f A c k1 h.files hl
  have e : atI f m.files = (m.files.idxOf f : Nat) := if_pos hf
  rw [e] at con
  have hk := idxOf_lt hf
  obtain ⟨k, hkk⟩ : ∃ k, k = m.files.idxOf f := ⟨_, rfl⟩
  rw [← hkk] at con hk
  have hw := without_at hs hf
  rw [← hkk, ← hfs] at hw
  rw [← hfs] at hk hl
  obtain ⟨ad, hA, _⟩ := h.files (by rw [← hfs]; omega)
  subst hA
  have hcel := h.cel
  have hcap := h.cap
  have hfi := h.files
  rw [← hfs] at hcel hcap hfi
  have H := Lib.hid h
  have HC := Lib.hid hcel
  have HCAP := Lib.hid hcap
  have HI := Lib.hid hfi
  have HFS := Lib.hid hfs
  have HWO := Lib.hid hw
  clear h hcel hfi hfs hw e hf hs k0 k1 k2 k3 k4 k5 k6 hkk
  go_enter Tryz.func53, Tryz.ntmps53
  go_wp2_with (first | (go_at_call 28; refine con.mono ?_; rintro e w' ⟨rfl, rfl⟩))
  clear con
  obtain ⟨W, rfl⟩ : ∃ W : World, W = w := ⟨_, rfl⟩
  obtain ⟨X, hX⟩ : ∃ X, X = if c = k + 1 then some ad else (some ad).map (·.add ((k + 1) * 1)) := ⟨_, rfl⟩
  have HX := Lib.hid hX
  clear hX
  refine wp_region_N [19] (Below W.heap.size W) (by kernel_rfl) ?_
  have hH : Below W.heap.size W W.drew := (Below.refl _ _).drew
  have hlv : ∀ V, Below W.heap.size W V → V.cell? ⟨d, 1, none⟩ = some (.slice (some ad) fs.length c) := fun V hV => (Cel.below HC.out hV HC.out.lt).cell 1
  refine wpAnyN_take (i := 0) (v := .pointer (some ⟨d, 0, none⟩)) [19] (by kernel_rfl) rfl (by kernel_rfl) (by kernel_rfl) (by kernel_rfl) (fun _ _ _ h => h) (Or.inl ⟨by rfl, ?_⟩) hH ?_
  · intro V hV; go_simp
  try simp only [Act.put, List.setIfInBounds_toArray, List.set_cons_zero, List.set_cons_succ, List.getElem_toArray, List.getElem_cons_succ, List.getElem_cons_zero]
  refine wpAnyN_take (i := 2) (v := .pointer (some ⟨d, 0, none⟩)) [19] (by kernel_rfl) rfl (by kernel_rfl) (by kernel_rfl) (by kernel_rfl) (fun _ _ _ h => h) (Or.inl ⟨by rfl, ?_⟩) hH ?_
  · intro V hV; go_simp
  try simp only [Act.put, List.setIfInBounds_toArray, List.set_cons_zero, List.set_cons_succ, List.getElem_toArray, List.getElem_cons_succ, List.getElem_cons_zero]
  refine wpAnyN_take (i := 3) (v := .pointer (some ⟨d, 0, none⟩)) [19] (by kernel_rfl) rfl (by kernel_rfl) (by kernel_rfl) (by kernel_rfl) (fun _ _ _ h => h) (Or.inl ⟨by rfl, ?_⟩) hH ?_
  · intro V hV; go_simp
  try simp only [Act.put, List.setIfInBounds_toArray, List.set_cons_zero, List.set_cons_succ, List.getElem_toArray, List.getElem_cons_succ, List.getElem_cons_zero]
  refine wpAnyN_take (i := 4) (v := .pointer (some ⟨d, 1, none⟩)) [19] (by kernel_rfl) rfl (by kernel_rfl) (by kernel_rfl) (by kernel_rfl) (fun _ _ _ h => h) (Or.inl ⟨by rfl, ?_⟩) hH ?_
  · intro V hV; go_simp
  try simp only [Act.put, List.setIfInBounds_toArray, List.set_cons_zero, List.set_cons_succ, List.getElem_toArray, List.getElem_cons_succ, List.getElem_cons_zero]
  refine wpAnyN_take (i := 5) (v := .slice (some ad) fs.length c) [19] (by kernel_rfl) rfl (by kernel_rfl) (by kernel_rfl) (by kernel_rfl) (fun _ _ _ h => h) (Or.inl ⟨by rfl, ?_⟩) hH ?_
  · intro V hV; have k := hlv V hV; go_simp
  try simp only [Act.put, List.setIfInBounds_toArray, List.set_cons_zero, List.set_cons_succ, List.getElem_toArray, List.getElem_cons_succ, List.getElem_cons_zero]
  refine wpAnyN_take (i := 6) (v := .int .i64 (k : Nat)) [19] (by kernel_rfl) rfl (by kernel_rfl) (by kernel_rfl) (by kernel_rfl) (fun _ _ _ h => h) (Or.inl ⟨by rfl, ?_⟩) hH ?_
  · intro V hV; go_simp
  try simp only [Act.put, List.setIfInBounds_toArray, List.set_cons_zero, List.set_cons_succ, List.getElem_toArray, List.getElem_cons_succ, List.getElem_cons_zero]
  refine wpAnyN_take (i := 7) (v := .slice (some ad) k c) [19] (by kernel_rfl) rfl (by kernel_rfl) (by kernel_rfl) (by kernel_rfl) (fun _ _ _ h => h) (yieldsIf_slice (by rfl) 31 (.tmp 17) none (some (.tmp 18)) none rfl _ (fun V => run_cutTo V undI sizeI (some ad) fs.length c k .i64 (by omega))) hH ?_
  try simp only [Act.put, List.setIfInBounds_toArray, List.set_cons_zero, List.set_cons_succ, List.getElem_toArray, List.getElem_cons_succ, List.getElem_cons_zero]
  refine wpAnyN_take (i := 9) (v := .pointer (some ⟨d, 0, none⟩)) [19] (by kernel_rfl) rfl (by kernel_rfl) (by kernel_rfl) (by kernel_rfl) (fun _ _ _ h => h) (Or.inl ⟨by rfl, ?_⟩) hH ?_
  · intro V hV; go_simp
  try simp only [Act.put, List.setIfInBounds_toArray, List.set_cons_zero, List.set_cons_succ, List.getElem_toArray, List.getElem_cons_succ, List.getElem_cons_zero]
  refine wpAnyN_take (i := 10) (v := .pointer (some ⟨d, 0, none⟩)) [19] (by kernel_rfl) rfl (by kernel_rfl) (by kernel_rfl) (by kernel_rfl) (fun _ _ _ h => h) (Or.inl ⟨by rfl, ?_⟩) hH ?_
  · intro V hV; go_simp
  try simp only [Act.put, List.setIfInBounds_toArray, List.set_cons_zero, List.set_cons_succ, List.getElem_toArray, List.getElem_cons_succ, List.getElem_cons_zero]
  refine wpAnyN_take (i := 11) (v := .pointer (some ⟨d, 1, none⟩)) [19] (by kernel_rfl) rfl (by kernel_rfl) (by kernel_rfl) (by kernel_rfl) (fun _ _ _ h => h) (Or.inl ⟨by rfl, ?_⟩) hH ?_
  · intro V hV; go_simp
  try simp only [Act.put, List.setIfInBounds_toArray, List.set_cons_zero, List.set_cons_succ, List.getElem_toArray, List.getElem_cons_succ, List.getElem_cons_zero]
  refine wpAnyN_take (i := 12) (v := .slice (some ad) fs.length c) [19] (by kernel_rfl) rfl (by kernel_rfl) (by kernel_rfl) (by kernel_rfl) (fun _ _ _ h => h) (Or.inl ⟨by rfl, ?_⟩) hH ?_
  · intro V hV; have k := hlv V hV; go_simp
  try simp only [Act.put, List.setIfInBounds_toArray, List.set_cons_zero, List.set_cons_succ, List.getElem_toArray, List.getElem_cons_succ, List.getElem_cons_zero]
  refine wpAnyN_take (i := 13) (v := .int .i64 (k : Nat)) [19] (by kernel_rfl) rfl (by kernel_rfl) (by kernel_rfl) (by kernel_rfl) (fun _ _ _ h => h) (Or.inl ⟨by rfl, ?_⟩) hH ?_
  · intro V hV; go_simp
  try simp only [Act.put, List.setIfInBounds_toArray, List.set_cons_zero, List.set_cons_succ, List.getElem_toArray, List.getElem_cons_succ, List.getElem_cons_zero]
  refine wpAnyN_take (i := 14) (v := .int .i64 ((k + 1 : Nat) : Int)) [19] (by kernel_rfl) rfl (by kernel_rfl) (by kernel_rfl) (by kernel_rfl) (fun _ _ _ h => h) (Or.inl ⟨by rfl, ?_⟩) hH ?_
  · intro V hV; have ew : IntKind.i64.wrap ((k : Int) + 1) = (k : Int) + 1 := (IntWalk.i64_in _ (by omega)); push_cast; go_simp
  try simp only [Act.put, List.setIfInBounds_toArray, List.set_cons_zero, List.set_cons_succ, List.getElem_toArray, List.getElem_cons_succ, List.getElem_cons_zero]
  refine wpAnyN_take (i := 15) (v := .slice X (fs.length - (k + 1)) (c - (k + 1))) [19] (by kernel_rfl) rfl (by kernel_rfl) (by kernel_rfl) (by kernel_rfl) (fun _ _ _ h => h) (yieldsIf_slice (by rfl) 31 (.tmp 24) (some (.tmp 26)) none none rfl _ (fun V => by rw [HX.out]; exact run_cutFrom V undI sizeI (some ad) fs.length c (k + 1) .i64 (by omega))) hH ?_
  try simp only [Act.put, List.setIfInBounds_toArray, List.set_cons_zero, List.set_cons_succ, List.getElem_toArray, List.getElem_cons_succ, List.getElem_cons_zero]
  refine wpAnyN_one (i := 1) (by kernel_rfl) rfl (fun K hK => ?_)
  go_simp
  refine hK.out _ _ (.inr (hH.alloc hH.size _)) ?_
  clear hK K
  try simp only [Act.put, List.setIfInBounds_toArray, List.set_cons_zero, List.set_cons_succ, List.getElem_toArray, List.getElem_cons_succ, List.getElem_cons_zero]
  have o0 : (W.drew.alloc (.cells #[] 3)).ownsRow W.heap.size 3 1 (.slice (some ⟨W.heap.size, 0, none⟩) 0 0) 0 [] := World.ownsRow_lit W.drew #[] 0 (Nat.le_refl _) (Nat.zero_le _) rfl
  have hB0 := hH.alloc hH.size (.cells #[] 3)
  have s0 := (HI.out.take k).below hB0
  refine wpAnyN_one (i := 8) (by kernel_rfl) rfl (fun K hK => ?_)
  rw [if_pos (by rfl)]
  refine wp_append_any _ (.tmp 13) (.tmp 19) 31 rfl W.heap.size 3 intsT _ 0 [] rfl o0 (some ad) k c ((fs.take k).map (Value.int .i64)) rfl (by rw [List.length_map, List.length_take]; omega) (by have := s0.src; rw [List.length_take, Nat.min_eq_left (by omega)] at this; exact this) (ints_one _) k _ (Nat.zero_add _) (List.nil_append _) (by unfold maxLen; omega) (by omega) hB0.size ?_
  intro A1 c1 w1 o1 g1 _
  have hb1 : Below W.heap.size W w1 := hB0.grown g1 hB0.size (by intro g hg; cases hg; exact Nat.le_refl _)
  refine hK.out _ _ (.inr hb1) ?_
  clear hK K
  try simp only [Act.put, List.setIfInBounds_toArray, List.set_cons_zero, List.set_cons_succ, List.getElem_toArray, List.getElem_cons_succ, List.getElem_cons_zero]
  have s1 := (HI.out.cut (k := k + 1) HCAP.out).below hb1
  refine wpAnyN_one (i := 16) (by kernel_rfl) rfl (fun K hK => ?_)
  rw [if_pos (by rfl)]
  refine wp_append_any _ (.tmp 20) (.tmp 27) 31 rfl W.heap.size 3 intsT _ k _ rfl o1 X (fs.length - (k + 1)) (c - (k + 1)) ((fs.drop (k + 1)).map (Value.int .i64)) rfl (by rw [List.length_map, List.length_drop, Nat.mul_one]) (by have := s1.src; rw [List.length_drop] at this; rw [HX.out, Nat.mul_one]; exact this) (ints_one _) (fs.length - 1) ((fs.take k ++ fs.drop (k + 1)).map (Value.int .i64)) (by omega) (by rw [List.map_append]) (by unfold maxLen; omega) (by omega) hb1.size ?_
  intro A2 c2 w2 o2 g2 _
  have hb2 : Below W.heap.size W w2 := hb1.grown g2 hb1.size (fun g hg => (World.ownsRow.lt o1 g hg).1)
  refine hK.out _ _ (.inr hb2) ?_
  clear hK K
  try simp only [Act.put, List.setIfInBounds_toArray, List.set_cons_zero, List.set_cons_succ, List.getElem_toArray, List.getElem_cons_succ, List.getElem_cons_zero]
  refine wpAnyN_one (i := 17) (by kernel_rfl) rfl (fun K hK => ?_)
  go_simp
  refine hK.out _ _ (.inr hb2) ?_
  clear hK K
  try simp only [Act.put, List.setIfInBounds_toArray, List.set_cons_zero, List.set_cons_succ, List.getElem_toArray, List.getElem_cons_succ, List.getElem_cons_zero]
  refine wpAnyN_one (i := 18) (by kernel_rfl) rfl (fun K hK => ?_)
  go_simp
  refine hK.out _ _ (.inr hb2) ?_
  clear hK K
  try simp only [Act.put, List.setIfInBounds_toArray, List.set_cons_zero, List.set_cons_succ, List.getElem_toArray, List.getElem_cons_succ, List.getElem_cons_zero]
  have hc2 := Cel.below HC.out hb2 HC.out.lt
  have e2 := hc2.cell 1
  have f2 := hc2.free 1
  refine wpAnyN_one (i := 19) (by kernel_rfl) rfl (fun K hK => ?_)
  go_simp
  refine hK.out _ _ (.inl (by decide)) ?_
  clear hK K
  refine wpAnyN_done (by kernel_rfl) ?_ _
  go_wp2_with fail
  have hlen : (without f fs).length = fs.length - 1 := by rw [HWO.out, List.length_append, List.length_take, List.length_drop]; omega
  have o3 : w2.ownsRow W.heap.size 3 1 (.slice A2 (without f fs).length c2) (without f fs).length ((without f fs).map (Value.int .i64)) := by rw [hlen, HWO.out]; exact o2
  obtain ⟨hw3, hch3⟩ := H.out.setFiles hb2 A2 c2 W.heap.size (without f fs) o3
  rw [hlen] at hw3 hch3
  have hBW : B ≤ (w2.setCell ⟨d, 1, none⟩ (.slice A2 (fs.length - 1) c2)).heap.size := Nat.le_trans hB hch3.size
  have HW := Lib.hid hw3
  have HCH := Lib.hid hch3
  clear hw3 hch3 hlen o3 o2 g2 hb2 hc2 e2 f2 o1 g1 hb1 s0 s1 o0 hB0 hH hlv
  generalize w2.setCell ⟨d, 1, none⟩ (.slice A2 (fs.length - 1) c2) = W1 at *
  obtain ⟨lA, lc, hlv⟩ := HW.out.row.form
  subst hlv
  have k2 := HW.out.cel.cell 2
  go_loopw [5, 6] (fun v i wr => ∃ j : Nat, j ≤ m.l.length ∧ i = .int .i64 j ∧ Rl wr W1.heap.size v (dropL f (m.l.take j)) ∧ Below W1.heap.size W1 wr)
    (fun _ i _ => m.l.length - (Go.RowKit.intOf i).toNat)
  case atStart => exact ⟨0, Nat.zero_le _, rfl, World.ownsRow_nil _ _ _ _, Below.refl _ _⟩
  case round =>
    obtain ⟨j, hj, rfl, hrl, hbw⟩ := hrel
    have HRL := Lib.hid hrl
    have HB := Lib.hid hbw
    have k2' := (Cel.below HW.out.cel hbw HW.out.cel.lt).cell 2
    clear hrl hbw k2
    by_cases hlt : j < m.l.length
    · obtain ⟨x, hx⟩ : ∃ x, m.l[j]? = some x := ⟨_, List.getElem?_eq_getElem hlt⟩
      have hR1 : Rl wr B (.slice lA m.l.length lc) m.l := HW.out.row.chg (B' := 0) (T := fun _ => False) (Chg.of_below HB.out) (fun _ _ h => h)
      obtain ⟨g, cap, hv, hgB, hgl⟩ : ∃ g cap, Value.slice lA m.l.length lc = .slice (some ⟨g, 0, none⟩) m.l.length cap ∧ B ≤ g ∧ g < wr.heap.size := by
        rcases hR1.cases with ⟨_, e⟩ | ⟨g, cap, e, h1, h2, _⟩
        · rw [e] at hlt; simp at hlt
        · exact ⟨g, cap, e, h1, h2⟩
      cases hv
      obtain ⟨q0, q1, q2⟩ := hR1.cell hx
      have hxl : m.l.take (j + 1) = m.l.take j ++ [x] := by
        obtain ⟨hj2, e⟩ := List.getElem?_eq_some_iff.1 hx
        rw [List.take_succ_eq_append_getElem hj2, e]
      have HXL := Lib.hid hxl
      clear hx hxl hR1
      by_cases hxf : x.file = f
      · subst hxf
        have hd : dropL x.file (m.l.take (j + 1)) = dropL x.file (m.l.take j) := by rw [HXL.out]; simp [dropL]
        have HD := Lib.hid hd
        clear hd
        go_wp2_with fail
        go_roundw
        case rel => exact ⟨j + 1, by omega, by go_num, by rw [HD.out]; exact HRL.out, HB.out⟩
        case measure => simp [Go.RowKit.intOf]; omega
      · have hq : (x.file == f) = false := by simpa using hxf
        have hq2 : (x.file != f) = true := by simpa using hxf
        have hd : dropL f (m.l.take (j + 1)) = dropL f (m.l.take j) ++ [x] := by rw [HXL.out]; simp [dropL, hxf]
        have hpl : (dropL f (m.l.take j)).length ≤ 1000 := by
          have h1 : (dropL f (m.l.take j)).length ≤ (m.l.take j).length := List.length_filter_le _ _
          have h2 : (m.l.take j).length ≤ j := List.length_take_le _ _
          omega
        obtain ⟨pl, hpl2⟩ : ∃ pl, pl = (dropL f (m.l.take j)).length := ⟨_, rfl⟩
        have hnew : Src (wr.alloc (.cells #[.int .i64 x.file, .string (str x.b), .bool x.s] 83)) (some ⟨wr.heap.size, 0, none⟩) 1 x.cells := fun _ => ⟨_, rfl, fun q u hu => by rw [Addr.add_lit, Nat.zero_add]; exact ((Cel.new wr 83 x.cells).cell q).trans hu⟩
        have hown : (wr.alloc (.cells #[.int .i64 x.file, .string (str x.b), .bool x.s] 83)).ownsRow W1.heap.size 83 3 u5 pl (cellsL (dropL f (m.l.take j))) := by rw [hpl2]; exact World.ownsRow.alloc HRL.out _
        have hone : ∀ u ∈ x.cells, u.oneCell' = true := by have := cellsL_one [x]; simpa [cellsL] using this
        have hn1 : pl ≤ 1000 := by omega
        have hsz := HB.out.size
        have HD := Lib.hid hd
        have HPL := Lib.hid hpl2
        have HNEW := Lib.hid hnew
        have HOWN := Lib.hid hown
        have HONE := Lib.hid hone
        clear hd hpl hpl2 hnew hown hone
        go_wp2_with ((at_builtin; refine wpList_append_any _ rfl (.tmp 50) (.tmp 58) 32 rfl W1.heap.size 83 cellsT _ pl _ rfl HOWN.out (some ⟨wr.heap.size, 0, none⟩) 1 1 x.cells rfl rfl HNEW.out HONE.out (pl + 1) _ rfl rfl (by unfold maxLen; omega) (by omega) (by simp; omega) ?_; intro A3 c3 w3 o3 g3 _; have O3 := Lib.hid o3; have G3 := Lib.hid g3; clear o3 g3))
        have hrl3 : Rl w3 W1.heap.size (.slice A3 (pl + 1) c3) (dropL f (m.l.take (j + 1))) := by
          rw [HD.out]
          unfold Rl
          rw [List.length_append, cellsL_app, ← HPL.out]
          have : cellsL [x] = x.cells := by simp [cellsL]
          rw [this]
          exact O3.out
        have hb3 : Below W1.heap.size W1 w3 := (HB.out.alloc HB.out.size _).grown G3.out (by simp; omega) (fun q hq => (World.ownsRow.lt HOWN.out q hq).1)
        go_roundw
        case rel => exact ⟨j + 1, by omega, by go_num, hrl3, hb3⟩
        case measure => simp [Go.RowKit.intOf]; omega
    · obtain rfl : j = m.l.length := by omega
      have hrl2 := HRL.out
      rw [List.take_length] at hrl2
      obtain ⟨A4, c4, hv4⟩ := hrl2.form
      have hrl2' := ownsRow_base_a hrl2 hBW
      obtain ⟨hfin, hfch⟩ := HW.out.setRow HB.out _ _ hrl2'
      have HFIN := Lib.hid hfin
      have HFCH := Lib.hid hfch
      have f2 := (Cel.below HW.out.cel HB.out HW.out.cel.lt).free 2
      subst hv4
      clear hfin hfch hrl2 hrl2'
      go_wp2_with fail
      go_end0
      have hfin := HFIN.out
      have hfch := HFCH.out
      exact ⟨rfl, ⟨_, _, _, _, _, by rw [← HFS.out]; exact hfin⟩, HCH.out.trans hfch⟩

set_option maxRecDepth 100000 in
set_option maxHeartbeats 2000000 in
theorem rdropNone (w : World) (B d : Nat) (m : M) (f : Int) (h : Fu w B d m) (hB : B ≤ w.heap.size) (hl : m.files.length ≤ 1000) (hll : m.l.length ≤ 1000) (hf : f ∉ m.files) :
    Calls Tryz.prog 53 #[.pointer (some ⟨d, 0, none⟩), .int .i64 f] w fun r w' => r = .returned (.tuple #[]) ∧ Fu w' B d { m with files := without f m.files, l := dropL f m.l } ∧ Chg B Rob w w' := by
  rw [without_self f _ hf]
  obtain ⟨A, c, lv, kv, left, h⟩ := h
  have k1 := h.cel.cell 1
  have con := at_ok w d m.files f A c k1 h.files hl
  have e : atI f m.files = -1 := if_neg hf
  rw [e] at con
  have HW := Lib.hid h
  clear h e hf k1
  go_enter Tryz.func53, Tryz.ntmps53
  go_wp2_with (first | (go_at_call 28; refine con.mono ?_; rintro e w' ⟨rfl, rfl⟩))
  clear con
  obtain ⟨W1, rfl⟩ : ∃ W : World, W = w := ⟨_, rfl⟩
  have hBW := hB
  obtain ⟨lA, lc, hlv⟩ := HW.out.row.form
  subst hlv
  have k2 := HW.out.cel.cell 2
  go_loopw [5, 6] (fun v i wr => ∃ j : Nat, j ≤ m.l.length ∧ i = .int .i64 j ∧ Rl wr W1.heap.size v (dropL f (m.l.take j)) ∧ Below W1.heap.size W1 wr)
    (fun _ i _ => m.l.length - (Go.RowKit.intOf i).toNat)
  case atStart => exact ⟨0, Nat.zero_le _, rfl, World.ownsRow_nil _ _ _ _, Below.refl _ _⟩
  case round =>
    obtain ⟨j, hj, rfl, hrl, hbw⟩ := hrel
    have HRL := Lib.hid hrl
    have HB := Lib.hid hbw
    have k2' := (Cel.below HW.out.cel hbw HW.out.cel.lt).cell 2
    clear hrl hbw k2
    by_cases hlt : j < m.l.length
    · obtain ⟨x, hx⟩ : ∃ x, m.l[j]? = some x := ⟨_, List.getElem?_eq_getElem hlt⟩
      have hR1 : Rl wr B (.slice lA m.l.length lc) m.l := HW.out.row.chg (B' := 0) (T := fun _ => False) (Chg.of_below HB.out) (fun _ _ h => h)
      obtain ⟨g, cap, hv, hgB, hgl⟩ : ∃ g cap, Value.slice lA m.l.length lc = .slice (some ⟨g, 0, none⟩) m.l.length cap ∧ B ≤ g ∧ g < wr.heap.size := by
        rcases hR1.cases with ⟨_, e⟩ | ⟨g, cap, e, h1, h2, _⟩
        · rw [e] at hlt; simp at hlt
        · exact ⟨g, cap, e, h1, h2⟩
      cases hv
      obtain ⟨q0, q1, q2⟩ := hR1.cell hx
      have hxl : m.l.take (j + 1) = m.l.take j ++ [x] := by
        obtain ⟨hj2, e⟩ := List.getElem?_eq_some_iff.1 hx
        rw [List.take_succ_eq_append_getElem hj2, e]
      have HXL := Lib.hid hxl
      clear hx hxl hR1
      by_cases hxf : x.file = f
      · subst hxf
        have hd : dropL x.file (m.l.take (j + 1)) = dropL x.file (m.l.take j) := by rw [HXL.out]; simp [dropL]
        have HD := Lib.hid hd
        clear hd
        go_wp2_with fail
        go_roundw
        case rel => exact ⟨j + 1, by omega, by go_num, by rw [HD.out]; exact HRL.out, HB.out⟩
        case measure => simp [Go.RowKit.intOf]; omega
      · have hq : (x.file == f) = false := by simpa using hxf
        have hq2 : (x.file != f) = true := by simpa using hxf
        have hd : dropL f (m.l.take (j + 1)) = dropL f (m.l.take j) ++ [x] := by rw [HXL.out]; simp [dropL, hxf]
        have hpl : (dropL f (m.l.take j)).length ≤ 1000 := by
          have h1 : (dropL f (m.l.take j)).length ≤ (m.l.take j).length := List.length_filter_le _ _
          have h2 : (m.l.take j).length ≤ j := List.length_take_le _ _
          omega
        obtain ⟨pl, hpl2⟩ : ∃ pl, pl = (dropL f (m.l.take j)).length := ⟨_, rfl⟩
        have hnew : Src (wr.alloc (.cells #[.int .i64 x.file, .string (str x.b), .bool x.s] 83)) (some ⟨wr.heap.size, 0, none⟩) 1 x.cells := fun _ => ⟨_, rfl, fun q u hu => by rw [Addr.add_lit, Nat.zero_add]; exact ((Cel.new wr 83 x.cells).cell q).trans hu⟩
        have hown : (wr.alloc (.cells #[.int .i64 x.file, .string (str x.b), .bool x.s] 83)).ownsRow W1.heap.size 83 3 u5 pl (cellsL (dropL f (m.l.take j))) := by rw [hpl2]; exact World.ownsRow.alloc HRL.out _
        have hone : ∀ u ∈ x.cells, u.oneCell' = true := by have := cellsL_one [x]; simpa [cellsL] using this
        have hn1 : pl ≤ 1000 := by omega
        have hsz := HB.out.size
        have HD := Lib.hid hd
        have HPL := Lib.hid hpl2
        have HNEW := Lib.hid hnew
        have HOWN := Lib.hid hown
        have HONE := Lib.hid hone
        clear hd hpl hpl2 hnew hown hone
        go_wp2_with ((at_builtin; refine wpList_append_any _ rfl (.tmp 50) (.tmp 58) 32 rfl W1.heap.size 83 cellsT _ pl _ rfl HOWN.out (some ⟨wr.heap.size, 0, none⟩) 1 1 x.cells rfl rfl HNEW.out HONE.out (pl + 1) _ rfl rfl (by unfold maxLen; omega) (by omega) (by simp; omega) ?_; intro A3 c3 w3 o3 g3 _; have O3 := Lib.hid o3; have G3 := Lib.hid g3; clear o3 g3))
        have hrl3 : Rl w3 W1.heap.size (.slice A3 (pl + 1) c3) (dropL f (m.l.take (j + 1))) := by
          rw [HD.out]
          unfold Rl
          rw [List.length_append, cellsL_app, ← HPL.out]
          have : cellsL [x] = x.cells := by simp [cellsL]
          rw [this]
          exact O3.out
        have hb3 : Below W1.heap.size W1 w3 := (HB.out.alloc HB.out.size _).grown G3.out (by simp; omega) (fun q hq => (World.ownsRow.lt HOWN.out q hq).1)
        go_roundw
        case rel => exact ⟨j + 1, by omega, by go_num, hrl3, hb3⟩
        case measure => simp [Go.RowKit.intOf]; omega
    · obtain rfl : j = m.l.length := by omega
      have hrl2 := HRL.out
      rw [List.take_length] at hrl2
      obtain ⟨A4, c4, hv4⟩ := hrl2.form
      have hrl2' := ownsRow_base_a hrl2 hBW
      obtain ⟨hfin, hfch⟩ := HW.out.setRow HB.out _ _ hrl2'
      have HFIN := Lib.hid hfin
      have HFCH := Lib.hid hfch
      have f2 := (Cel.below HW.out.cel HB.out HW.out.cel.lt).free 2
      subst hv4
      clear hfin hfch hrl2 hrl2'
      go_wp2_with fail
      go_end0
      have hfin := HFIN.out
      have hfch := HFCH.out
      exact ⟨rfl, ⟨_, _, _, _, _, hfin⟩, hfch⟩
theorem rdrop_ok (w : World) (B d : Nat) (m : M) (f : Int) (h : Fu w B d m) (hB : B ≤ w.heap.size) (hs : m.files.Pairwise (· < ·)) (hl : m.files.length ≤ 1000) (hll : m.l.length ≤ 1000) :
    Calls Tryz.prog 53 #[.pointer (some ⟨d, 0, none⟩), .int .i64 f] w fun r w' => r = .returned (.tuple #[]) ∧ Fu w' B d { m with files := without f m.files, l := dropL f m.l } ∧ Chg B Rob w w' := by
  by_cases hf : f ∈ m.files
  · exact rdropFiles w B d m f h hB hs hl hll hf
  · exact rdropNone w B d m f h hB hl hll hf
end Go.Proofs.YtbomgglmplecpaaGreat.Disk
