/-
  The document's Rename.
-/
import Derived.Test.YtkoaelpmknaakaaDiskRefRead
namespace Go.Proofs.Ytkoaelpmknaakaa.Disk
open Go.RowKit Go.Proofs.Ytkoaelpmknaakaa.Ord
set_option linter.unusedVariables false
set_option linter.unusedSimpArgs false

set_option maxRecDepth 100000 in
set_option maxHeartbeats 1000000 in
theorem rrename_not (w : World) (B d : Nat) (m : M) (f t : Int) (h : Fk w B d m) (ht : there m f ≠ 0) :
    Calls Try.prog 16 #[.pointer (some ⟨d, 0, none⟩), .int .i64 f, .int .i64 t] w (RDid w B d (.int .i64 (there m f)) m) := by
  have con := rthere_ok w B d m f h
  have H := Lib.hid h
  obtain ⟨x, hx⟩ : ∃ x, x = there m f := ⟨_, rfl⟩
  rw [← hx] at ht con ⊢
  have q1 : (x == 0) = false := by simpa using ht
  have q2 : (x != 0) = true := by simpa using ht
  clear h hx ht
  go_enter Try.func16, Try.ntmps16
  go_wp2_with (first | (go_at_call 35; refine con.mono ?_; rintro e w' ⟨rfl, rfl⟩))
  go_ret
  exact ⟨rfl, H.out, Chg.refl _ _ _⟩
set_option maxRecDepth 100000 in
set_option maxHeartbeats 1000000 in
theorem rrename_arg (w : World) (B d : Nat) (m : M) (f t : Int) (h : Fk w B d m) (ht : there m f = 0) (ht0 : t < 0) :
    Calls Try.prog 16 #[.pointer (some ⟨d, 0, none⟩), .int .i64 f, .int .i64 t] w (RDid w B d (.int .i64 1) m) := by
  have con := rthere_ok w B d m f h
  have H := Lib.hid h
  rw [ht] at con
  clear h ht
  go_enter Try.func16, Try.ntmps16
  go_wp2_with (first | (go_at_call 35; refine con.mono ?_; rintro e w' ⟨rfl, rfl⟩))
  go_ret
  exact ⟨rfl, H.out, Chg.refl _ _ _⟩
set_option maxRecDepth 100000 in
set_option maxHeartbeats 1000000 in
theorem rrename_fails (w : World) (B d : Nat) (m : M) (f t : Int) (h : Fk w B d m) (hB : B ≤ w.heap.size) (ht : there m f = 0) (ht0 : 0 ≤ t) (hpl : ∀ k ks, m.plan = some (k, ks) → ks.length ≤ maxLen) (h5 : fails m = true) :
    Calls Try.prog 16 #[.pointer (some ⟨d, 0, none⟩), .int .i64 f, .int .i64 t] w (RDid w B d (.int .i64 8) (stepped m)) := by
  have con := rthere_ok w B d m f h
  have con2 := rfails_ok w B d m h hB (there_on ht) hpl
  rw [ht] at con
  rw [h5] at con2
  clear h hB ht hpl h5
  go_enter Try.func16, Try.ntmps16
  go_wp2_with (first | (go_at_call 35; refine con.mono ?_; rintro e w' ⟨rfl, rfl⟩) | (go_at_call 31; refine con2.mono ?_; rintro e w' ⟨rfl, h1, h2⟩))
  go_ret
  exact ⟨rfl, h1, h2⟩
set_option maxRecDepth 100000 in
set_option maxHeartbeats 1000000 in
theorem rrename_same (w : World) (B d : Nat) (m : M) (f : Int) (h : Fk w B d m) (hB : B ≤ w.heap.size) (ht : there m f = 0) (ht0 : 0 ≤ f) (hpl : ∀ k ks, m.plan = some (k, ks) → ks.length ≤ maxLen) (h5 : fails m = false) :
    Calls Try.prog 16 #[.pointer (some ⟨d, 0, none⟩), .int .i64 f, .int .i64 f] w (RDid w B d (.int .i64 0) (stepped m)) := by
  have con := rthere_ok w B d m f h
  have con2 := rfails_ok w B d m h hB (there_on ht) hpl
  rw [ht] at con
  rw [h5] at con2
  clear h hB ht hpl h5
  go_enter Try.func16, Try.ntmps16
  go_wp2_with (first | (go_at_call 35; refine con.mono ?_; rintro e w' ⟨rfl, rfl⟩) | (go_at_call 31; refine con2.mono ?_; rintro e w' ⟨rfl, h1, h2⟩))
  go_ret
  exact ⟨rfl, h1, h2⟩

theorem add_without (t : Int) (fs : List Int) : add t (without t fs) = add t fs := by unfold add; rw [without_without]
theorem add_len (t : Int) (fs : List Int) : (add t fs).length ≤ fs.length + 1 := by
  have h1 : ∀ (gs : List Int), (ins t gs).length = gs.length + 1 := fun gs => by
    induction gs with
    | nil => rfl
    | cons g gs ih => unfold ins; split <;> simp [ih]
  unfold add
  rw [h1]
  have : (without t fs).length ≤ fs.length := List.length_filter_le _ _
  omega

set_option maxRecDepth 100000 in
set_option maxHeartbeats 4000000 in
theorem rrename_goes (w : World) (B d : Nat) (m : M) (f t : Int) (h : Fk w B d m) (hB : B ≤ w.heap.size) (hi : Inv m) (ht : there m f = 0) (hpl : ∀ k ks, m.plan = some (k, ks) → ks.length ≤ maxLen) (h5 : fails m = false) (hne : f ≠ t) (ht0 : 0 ≤ t) (htb : t < 9223372036854775808) :
    Calls Try.prog 16 #[.pointer (some ⟨d, 0, none⟩), .int .i64 f, .int .i64 t] w (RDid w B d (.int .i64 0) { stepped m with files := without f (add t m.files), l := moveL f t (dropL t m.l) }) := by
  have con := rthere_ok w B d m f h
  have con2 := rfails_ok w B d m h hB (there_on ht) hpl
  have hfm := there_here ht
  rw [ht] at con
  rw [h5] at con2
  have hir := hi.rename f t htb
  rw [rename_goes ht (by omega) h5 hne] at hir
  obtain ⟨e1, e2, e3, e4⟩ := stepped_same h5
  have hms : m.files.Pairwise (· < ·) := hi.sorted
  have hmf := hi.few
  have hll : m.l.length ≤ 1000 := by have := hi.most; have := hi.room; omega
  have con3 := fun (w1 : World) (h1 : Fk w1 B d (stepped m)) (hB1 : B ≤ w1.heap.size) => rdrop_ok w1 B d (stepped m) t h1.fu hB1 (by rw [e1]; exact hms) (by rw [e1]; exact hmf) (by rw [e2]; exact hll)
  rw [e1, e2] at con3
  have hds : (without t m.files).Pairwise (· < ·) := sorted_without t _ hms
  have hdl : (without t m.files).length ≤ 1000 := Nat.le_trans (List.length_filter_le _ _) hmf
  have con4 := fun (w1 : World) (h1 : Fu w1 B d { stepped m with files := without t m.files, l := dropL t m.l }) => radd_ok w1 B d { stepped m with files := without t m.files, l := dropL t m.l } t h1 hds hdl
  simp only [add_without] at con4
  have hq : (f == t) = false := by simpa using hne
  obtain ⟨fs, hfs⟩ : ∃ fs, fs = add t m.files := ⟨_, rfl⟩
  have hss : fs.Pairwise (· < ·) := by rw [hfs]; exact sorted_add t _ hms
  have hl : fs.length ≤ 1001 := by rw [hfs]; have := add_len t m.files; omega
  have hff : f ∈ fs := by rw [hfs, mem_add]; exact .inr hfm
  have hk := idxOf_lt hff
  obtain ⟨k, hkk⟩ : ∃ k, k = fs.idxOf f := ⟨_, rfl⟩
  have hat : atI f fs = (k : Int) := by rw [hkk]; exact if_pos hff
  rw [← hkk] at hk
  have hw := without_at hss hff
  rw [← hkk] at hw
  have HIR := Lib.hid hir
  have HWO := Lib.hid hw
  have HAT := Lib.hid hat
  have HFS := Lib.hid hfs
  have HLL := Lib.hid hll
  clear h ht hpl h5 hir e1 e2 e3 e4 hi hfm hms hmf hds hdl hss hff hkk hw hat hfs hll hne
  go_enter Try.func16, Try.ntmps16
  go_wp2_with (first | (go_at_call 35; refine con.mono ?_; rintro e w' ⟨rfl, rfl⟩))
  refine con2.mono ?_
  clear con2 con
  rintro e w1 ⟨rfl, h1, hc1⟩
  have HC1 := Lib.hid hc1
  have con5 := con3 w1 h1 (Nat.le_trans hB hc1.size)
  clear con3 h1 hc1
  go_wp2_with fail
  refine con5.mono ?_
  clear con5
  rintro e w2 ⟨rfl, h2, hc2⟩
  have HC2 := Lib.hid hc2
  have con6 := con4 w2 h2
  clear con4 h2 hc2
  go_wp2_with fail
  refine con6.mono ?_
  clear con6
  rintro e w3 ⟨rfl, h3, hc3⟩
  have HC3 := Lib.hid hc3
  obtain ⟨A, c, lv, kv, left, h3⟩ := h3
  have hcel := h3.cel
  have hcap := h3.cap
  have hfi := h3.files
  dsimp only at hcel hcap hfi
  rw [← HFS.out] at hcel hcap hfi
  have con7 := at_ok1 w3 d fs f A c (hcel.cell 1) hfi hl
  rw [HAT.out] at con7
  obtain ⟨ad, hA, _⟩ := hfi (by omega)
  subst hA
  have H3 := Lib.hid h3
  have HC := Lib.hid hcel
  have HCAP := Lib.hid hcap
  have HI := Lib.hid hfi
  clear h3 hc3 hcel hfi
  go_wp2_with fail
  refine con7.mono ?_
  clear con7
  rintro e W ⟨rfl, rfl⟩
  go_wp2_with fail
  obtain ⟨W, rfl⟩ : ∃ W : World, W = w3 := ⟨_, rfl⟩
  obtain ⟨X, hX⟩ : ∃ X, X = if c = k + 1 then some ad else (some ad).map (·.add ((k + 1) * 1)) := ⟨_, rfl⟩
  have HX := Lib.hid hX
  clear hX
  refine wp_region_N [19] (Below W.heap.size W) (by kernel_rfl) ?_
  have hH : Below W.heap.size W W.drew := (Below.refl _ _).drew
  have hlv : ∀ V, Below W.heap.size W V → V.cell? ⟨d, 1, none⟩ = some (.slice (some ad) fs.length c) := fun V hV => (Cel.below HC.out hV HC.out.lt).cell 1
  refine wpAnyN_take (i := 0) (v := .pointer (some ⟨d, 0, none⟩)) [19] (by kernel_rfl) rfl (by kernel_rfl) (by kernel_rfl) (by kernel_rfl) (fun _ _ _ h => h) (Or.inl ⟨by rfl, ?_⟩) hH ?_
  · intro V hV; go_simp
  try simp only [Act.put, List.setIfInBounds_toArray, List.set_cons_zero, List.set_cons_succ, List.getElem_toArray, List.getElem_cons_succ, List.getElem_cons_zero]
  refine wpAnyN_take (i := 2) (v := .pointer (some ⟨d, 0, none⟩)) [19] (by kernel_rfl) rfl (by kernel_rfl) (by kernel_rfl) (by kernel_rfl) (fun _ _ _ h => h) (Or.inl ⟨by rfl, ?_⟩) hH ?_
  · intro V hV; go_simp
  try simp only [Act.put, List.setIfInBounds_toArray, List.set_cons_zero, List.set_cons_succ, List.getElem_toArray, List.getElem_cons_succ, List.getElem_cons_zero]
  refine wpAnyN_take (i := 3) (v := .pointer (some ⟨d, 0, none⟩)) [19] (by kernel_rfl) rfl (by kernel_rfl) (by kernel_rfl) (by kernel_rfl) (fun _ _ _ h => h) (Or.inl ⟨by rfl, ?_⟩) hH ?_
  · intro V hV; go_simp
  try simp only [Act.put, List.setIfInBounds_toArray, List.set_cons_zero, List.set_cons_succ, List.getElem_toArray, List.getElem_cons_succ, List.getElem_cons_zero]
  refine wpAnyN_take (i := 4) (v := .pointer (some ⟨d, 1, none⟩)) [19] (by kernel_rfl) rfl (by kernel_rfl) (by kernel_rfl) (by kernel_rfl) (fun _ _ _ h => h) (Or.inl ⟨by rfl, ?_⟩) hH ?_
  · intro V hV; go_simp
  try simp only [Act.put, List.setIfInBounds_toArray, List.set_cons_zero, List.set_cons_succ, List.getElem_toArray, List.getElem_cons_succ, List.getElem_cons_zero]
  refine wpAnyN_take (i := 5) (v := .slice (some ad) fs.length c) [19] (by kernel_rfl) rfl (by kernel_rfl) (by kernel_rfl) (by kernel_rfl) (fun _ _ _ h => h) (Or.inl ⟨by rfl, ?_⟩) hH ?_
  · intro V hV; have k := hlv V hV; go_simp
  try simp only [Act.put, List.setIfInBounds_toArray, List.set_cons_zero, List.set_cons_succ, List.getElem_toArray, List.getElem_cons_succ, List.getElem_cons_zero]
  refine wpAnyN_take (i := 6) (v := .int .i64 (k : Nat)) [19] (by kernel_rfl) rfl (by kernel_rfl) (by kernel_rfl) (by kernel_rfl) (fun _ _ _ h => h) (Or.inl ⟨by rfl, ?_⟩) hH ?_
  · intro V hV; go_simp
  try simp only [Act.put, List.setIfInBounds_toArray, List.set_cons_zero, List.set_cons_succ, List.getElem_toArray, List.getElem_cons_succ, List.getElem_cons_zero]
  refine wpAnyN_take (i := 7) (v := .slice (some ad) k c) [19] (by kernel_rfl) rfl (by kernel_rfl) (by kernel_rfl) (by kernel_rfl) (fun _ _ _ h => h) (yieldsIf_slice (by rfl) 30 (.tmp 37) none (some (.tmp 38)) none rfl _ (fun V => run_cutTo V undI sizeI (some ad) fs.length c k .i64 (by omega))) hH ?_
  try simp only [Act.put, List.setIfInBounds_toArray, List.set_cons_zero, List.set_cons_succ, List.getElem_toArray, List.getElem_cons_succ, List.getElem_cons_zero]
  refine wpAnyN_take (i := 9) (v := .pointer (some ⟨d, 0, none⟩)) [19] (by kernel_rfl) rfl (by kernel_rfl) (by kernel_rfl) (by kernel_rfl) (fun _ _ _ h => h) (Or.inl ⟨by rfl, ?_⟩) hH ?_
  · intro V hV; go_simp
  try simp only [Act.put, List.setIfInBounds_toArray, List.set_cons_zero, List.set_cons_succ, List.getElem_toArray, List.getElem_cons_succ, List.getElem_cons_zero]
  refine wpAnyN_take (i := 10) (v := .pointer (some ⟨d, 0, none⟩)) [19] (by kernel_rfl) rfl (by kernel_rfl) (by kernel_rfl) (by kernel_rfl) (fun _ _ _ h => h) (Or.inl ⟨by rfl, ?_⟩) hH ?_
  · intro V hV; go_simp
  try simp only [Act.put, List.setIfInBounds_toArray, List.set_cons_zero, List.set_cons_succ, List.getElem_toArray, List.getElem_cons_succ, List.getElem_cons_zero]
  refine wpAnyN_take (i := 11) (v := .pointer (some ⟨d, 1, none⟩)) [19] (by kernel_rfl) rfl (by kernel_rfl) (by kernel_rfl) (by kernel_rfl) (fun _ _ _ h => h) (Or.inl ⟨by rfl, ?_⟩) hH ?_
  · intro V hV; go_simp
  try simp only [Act.put, List.setIfInBounds_toArray, List.set_cons_zero, List.set_cons_succ, List.getElem_toArray, List.getElem_cons_succ, List.getElem_cons_zero]
  refine wpAnyN_take (i := 12) (v := .slice (some ad) fs.length c) [19] (by kernel_rfl) rfl (by kernel_rfl) (by kernel_rfl) (by kernel_rfl) (fun _ _ _ h => h) (Or.inl ⟨by rfl, ?_⟩) hH ?_
  · intro V hV; have k := hlv V hV; go_simp
  try simp only [Act.put, List.setIfInBounds_toArray, List.set_cons_zero, List.set_cons_succ, List.getElem_toArray, List.getElem_cons_succ, List.getElem_cons_zero]
  refine wpAnyN_take (i := 13) (v := .int .i64 (k : Nat)) [19] (by kernel_rfl) rfl (by kernel_rfl) (by kernel_rfl) (by kernel_rfl) (fun _ _ _ h => h) (Or.inl ⟨by rfl, ?_⟩) hH ?_
  · intro V hV; go_simp
  try simp only [Act.put, List.setIfInBounds_toArray, List.set_cons_zero, List.set_cons_succ, List.getElem_toArray, List.getElem_cons_succ, List.getElem_cons_zero]
  refine wpAnyN_take (i := 14) (v := .int .i64 ((k + 1 : Nat) : Int)) [19] (by kernel_rfl) rfl (by kernel_rfl) (by kernel_rfl) (by kernel_rfl) (fun _ _ _ h => h) (Or.inl ⟨by rfl, ?_⟩) hH ?_
  · intro V hV; have ew : IntKind.i64.wrap ((k : Int) + 1) = (k : Int) + 1 := (IntWalk.i64_in _ (by omega)); push_cast; go_simp
  try simp only [Act.put, List.setIfInBounds_toArray, List.set_cons_zero, List.set_cons_succ, List.getElem_toArray, List.getElem_cons_succ, List.getElem_cons_zero]
  refine wpAnyN_take (i := 15) (v := .slice X (fs.length - (k + 1)) (c - (k + 1))) [19] (by kernel_rfl) rfl (by kernel_rfl) (by kernel_rfl) (by kernel_rfl) (fun _ _ _ h => h) (yieldsIf_slice (by rfl) 30 (.tmp 44) (some (.tmp 46)) none none rfl _ (fun V => by rw [HX.out]; exact run_cutFrom V undI sizeI (some ad) fs.length c (k + 1) .i64 (by omega))) hH ?_
  try simp only [Act.put, List.setIfInBounds_toArray, List.set_cons_zero, List.set_cons_succ, List.getElem_toArray, List.getElem_cons_succ, List.getElem_cons_zero]
  refine wpAnyN_one (i := 1) (by kernel_rfl) rfl (fun K hK => ?_)
  go_simp
  refine hK.out _ _ (.inr (hH.alloc hH.size _)) ?_
  clear hK K
  try simp only [Act.put, List.setIfInBounds_toArray, List.set_cons_zero, List.set_cons_succ, List.getElem_toArray, List.getElem_cons_succ, List.getElem_cons_zero]
  have o0 : (W.drew.alloc (.cells #[] 3)).ownsRow W.heap.size 3 1 (.slice (some ⟨W.heap.size, 0, none⟩) 0 0) 0 [] := World.ownsRow_lit W.drew #[] 0 (Nat.le_refl _) (Nat.zero_le _) rfl
  have hB0 := hH.alloc hH.size (.cells #[] 3)
  have s0 := (HI.out.take k).below hB0
  refine wpAnyN_one (i := 8) (by kernel_rfl) rfl (fun K hK => ?_)
  rw [if_pos (by rfl)]
  refine wp_append_any _ (.tmp 33) (.tmp 39) 30 rfl W.heap.size 3 intsT _ 0 [] rfl o0 (some ad) k c ((fs.take k).map (Value.int .i64)) rfl (by rw [List.length_map, List.length_take]; omega) (by have := s0.src; rw [List.length_take, Nat.min_eq_left (by omega)] at this; exact this) (ints_one _) k _ (Nat.zero_add _) (List.nil_append _) (by unfold maxLen; omega) (by omega) hB0.size ?_
  intro A1 c1 w1 o1 g1 _
  have hb1 : Below W.heap.size W w1 := hB0.grown g1 hB0.size (by intro g hg; cases hg; exact Nat.le_refl _)
  refine hK.out _ _ (.inr hb1) ?_
  clear hK K
  try simp only [Act.put, List.setIfInBounds_toArray, List.set_cons_zero, List.set_cons_succ, List.getElem_toArray, List.getElem_cons_succ, List.getElem_cons_zero]
  have s1 := (HI.out.cut (k := k + 1) HCAP.out).below hb1
  refine wpAnyN_one (i := 16) (by kernel_rfl) rfl (fun K hK => ?_)
  rw [if_pos (by rfl)]
  refine wp_append_any _ (.tmp 40) (.tmp 47) 30 rfl W.heap.size 3 intsT _ k _ rfl o1 X (fs.length - (k + 1)) (c - (k + 1)) ((fs.drop (k + 1)).map (Value.int .i64)) rfl (by rw [List.length_map, List.length_drop, Nat.mul_one]) (by have := s1.src; rw [List.length_drop] at this; rw [HX.out, Nat.mul_one]; exact this) (ints_one _) (fs.length - 1) ((fs.take k ++ fs.drop (k + 1)).map (Value.int .i64)) (by omega) (by rw [List.map_append]) (by unfold maxLen; omega) (by omega) hb1.size ?_
  intro A2 c2 w2 o2 g2 _
  have hb2 : Below W.heap.size W w2 := hb1.grown g2 hb1.size (fun g hg => (World.ownsRow.lt o1 g hg).1)
  refine hK.out _ _ (.inr hb2) ?_
  clear hK K
  try simp only [Act.put, List.setIfInBounds_toArray, List.set_cons_zero, List.set_cons_succ, List.getElem_toArray, List.getElem_cons_succ, List.getElem_cons_zero]
  refine wpAnyN_one (i := 17) (by kernel_rfl) rfl (fun K hK => ?_)
  go_simp
  refine hK.out _ _ (.inr hb2) ?_
  clear hK K
  try simp only [Act.put, List.setIfInBounds_toArray, List.set_cons_zero, List.set_cons_succ, List.getElem_toArray, List.getElem_cons_succ, List.getElem_cons_zero]
  refine wpAnyN_one (i := 18) (by kernel_rfl) rfl (fun K hK => ?_)
  go_simp
  refine hK.out _ _ (.inr hb2) ?_
  clear hK K
  try simp only [Act.put, List.setIfInBounds_toArray, List.set_cons_zero, List.set_cons_succ, List.getElem_toArray, List.getElem_cons_succ, List.getElem_cons_zero]
  have hc2 := Cel.below HC.out hb2 HC.out.lt
  have e2 := hc2.cell 1
  have f2 := hc2.free 1
  refine wpAnyN_one (i := 19) (by kernel_rfl) rfl (fun K hK => ?_)
  go_simp
  refine hK.out _ _ (.inl (by decide)) ?_
  clear hK K
  refine wpAnyN_done (by kernel_rfl) ?_ _
  go_wp2_with fail
  have hlen : (without f fs).length = fs.length - 1 := by rw [HWO.out, List.length_append, List.length_take, List.length_drop]; omega
  have o3 : w2.ownsRow W.heap.size 3 1 (.slice A2 (without f fs).length c2) (without f fs).length ((without f fs).map (Value.int .i64)) := by rw [hlen, HWO.out]; exact o2
  obtain ⟨hw3, hch3⟩ := H3.out.setFiles hb2 A2 c2 W.heap.size (without f fs) o3
  rw [hlen] at hw3 hch3
  have HCH0 := Lib.hid hch3
  obtain ⟨m3, hm3⟩ : ∃ m3 : M, m3 = { stepped m with files := without f fs, l := dropL t m.l } := ⟨_, rfl⟩
  have hw4 : Fw (w2.setCell ⟨d, 1, none⟩ (.slice A2 (fs.length - 1) c2)) B d m3 A2 c2 lv kv left := by rw [hm3]; exact hw3
  clear hw3 hch3 hlen o3 o2 g2 hb2 hc2 e2 f2 o1 g1 hb1 s0 s1 o0 hB0 hH hlv
  generalize w2.setCell ⟨d, 1, none⟩ (.slice A2 (fs.length - 1) c2) = W1 at *
  obtain ⟨A3, hA3⟩ : ∃ A3, A3 = A2 := ⟨_, rfl⟩
  obtain ⟨c3, hc3⟩ : ∃ c3, c3 = c2 := ⟨_, rfl⟩
  obtain ⟨kv3, hkv3⟩ : ∃ kv3, kv3 = kv := ⟨_, rfl⟩
  obtain ⟨left3, hleft3⟩ : ∃ left3, left3 = left := ⟨_, rfl⟩
  rw [← hA3, ← hc3, ← hkv3, ← hleft3] at hw4
  obtain ⟨lA, lc, hlv⟩ := hw4.row.form
  subst hlv
  obtain ⟨N, hN⟩ : ∃ N, N = m3.l.length := ⟨_, rfl⟩
  rw [← hN] at hw4
  obtain ⟨l0, hl0⟩ : ∃ l0, l0 = m3.l := ⟨_, rfl⟩
  have hN1 : N ≤ 1000 := by
    rw [hN, hm3]
    have : (dropL t m.l).length ≤ m.l.length := List.length_filter_le _ _
    have := HLL.out
    show (dropL t m.l).length ≤ 1000
    omega
  have hll := hN1
  have hrow0 := hw4.row
  rw [← hl0] at hrow0
  have hl0l : l0.length = N := by rw [hl0, hN]
  have k2 := hw4.cel.cell 2
  have H := Lib.hid hw4
  have HL0 := Lib.hid hl0
  have HM3 := Lib.hid hm3
  have HLL := Lib.hid hl0l
  have HROW0 := Lib.hid hrow0
  clear hw4 hl0 hl0l hrow0 hm3 hN
  go_loopw [9] (fun i wr => ∃ j : Nat, j ≤ N ∧ i = .int .i64 j ∧ Rl wr B (.slice lA N lc) (mapTo (fun c : Cl => if c.file = f then ⟨t, c.b, c.s⟩ else c) l0 j) ∧ Chg B Rob W1 wr ∧ Cel wr d 34 [.int .i64 m3.room, .slice A3 m3.files.length c3, .slice lA N lc, .bool m3.off, .bool m3.plan.isSome, .int .i64 left3, kv3])
    (fun i _ => N - (Go.RowKit.intOf i).toNat)
  case atStart => exact ⟨0, Nat.zero_le _, rfl, by simpa [mapTo] using HROW0.out, Chg.refl _ _ _, H.out.cel⟩
  case round =>
    obtain ⟨j, hj, rfl, hrl, hch, hcel⟩ := hrel
    have HRL := Lib.hid hrl
    have HCG := Lib.hid hch
    have HCEL := Lib.hid hcel
    have k2' := hcel.cell 2
    clear hrl hch hcel k2
    by_cases hlt : j < N
    · obtain ⟨x, hx⟩ : ∃ x, l0[j]? = some x := ⟨_, List.getElem?_eq_getElem (by rw [HLL.out]; exact hlt)⟩
      have hmx := mapTo_at (q := (fun c : Cl => if c.file = f then ⟨t, c.b, c.s⟩ else c)) hx
      have hpl : (mapTo (fun c : Cl => if c.file = f then ⟨t, c.b, c.s⟩ else c) l0 j).length = N := mapTo_len.trans HLL.out
      obtain ⟨g, cap, hv, hgB, hgl⟩ : ∃ g cap, Value.slice lA N lc = .slice (some ⟨g, 0, none⟩) N cap ∧ B ≤ g ∧ g < wr.heap.size := by
        rcases HRL.out.cases with ⟨_, e⟩ | ⟨g, cap, e, q1, q2, _⟩
        · rw [e] at hpl; simp at hpl; omega
        · rw [hpl] at e; exact ⟨g, cap, e, q1, q2⟩
      cases hv
      have hr : Rl wr B (.slice (some ⟨g, 0, none⟩) (mapTo (fun c : Cl => if c.file = f then ⟨t, c.b, c.s⟩ else c) l0 j).length lc) (mapTo (fun c : Cl => if c.file = f then ⟨t, c.b, c.s⟩ else c) l0 j) := by rw [hpl]; exact HRL.out
      obtain ⟨q0, q1, q2⟩ := hr.cell hmx
      have hfz := World.ownsRow.frozenAt hr (j * 3)
      have HHR := Lib.hid hr
      have HMX := Lib.hid hmx
      have HX0 := Lib.hid hx
      have HPL := Lib.hid hpl
      clear hr hmx hx hpl
      by_cases hxf : x.file = f
      · have hq : (x.file == f) = true := by simpa using hxf
        have HXF := Lib.hid hxf
        clear hxf
        obtain ⟨z1, z2⟩ := HHR.out.set HMX.out (by omega : 0 < 3) (.int .i64 t) ((fun c : Cl => if c.file = f then ⟨t, c.b, c.s⟩ else c) x) (by show _ = Cl.cells (if x.file = f then _ else x); rw [if_pos HXF.out]; rfl)
        rw [mapTo_set HX0.out, HPL.out] at z1
        have hch2 : Chg B Rob W1 (wr.setCell ⟨g, j * 3, none⟩ (.int .i64 t)) := HCG.out.trans (HRL.out.chgd z2)
        have hcel2 := HCEL.out.far (HRL.out.apart HCEL.out) (p := ⟨g, j * 3, none⟩) (.int .i64 t)
        have Z1 := Lib.hid z1
        have Z2 := Lib.hid hch2
        have Z3 := Lib.hid hcel2
        clear z1 z2 hch2 hcel2
        go_wp2_with fail
        go_roundw
        case rel => exact ⟨j + 1, by omega, by go_num, Z1.out, Z2.out, Z3.out⟩
        case measure => simp [Go.RowKit.intOf]; omega
      · have hq : (x.file == f) = false := by simpa using hxf
        have hm := mapTo_same (q := (fun c : Cl => if c.file = f then ⟨t, c.b, c.s⟩ else c)) HX0.out (if_neg hxf)
        have HM := Lib.hid hm
        clear hm
        go_wp2_with fail
        go_roundw
        case rel => exact ⟨j + 1, by omega, by go_num, by rw [← HM.out]; exact HRL.out, HCG.out, HCEL.out⟩
        case measure => simp [Go.RowKit.intOf]; omega
    · obtain rfl : j = N := by omega
      go_wp2_with fail
      go_ret
      have hrl := HRL.out
      rw [← HLL.out, mapTo_all, HLL.out, HL0.out] at hrl
      have hx : Fw wr B d { m3 with l := moveL f t m3.l } A3 c3 _ kv3 left3 :=
        ⟨HCEL.out, H.out.own, H.out.cap, H.out.files.chg HCG.out (fun _ _ => notRob_int), hrl, fun k ks e => ⟨(H.out.plan k ks e).1, (H.out.plan k ks e).2.chg HCG.out (fun _ _ => notRob_bool)⟩⟩
      have hy : Fu wr B d { stepped m with files := without f (add t m.files), l := moveL f t (dropL t m.l) } := ⟨_, _, _, _, _, by rw [HM3.out, HFS.out] at hx; exact hx⟩
      exact ⟨rfl, hy.fk HIR.out, ((((HC1.out.trans HC2.out).trans HC3.out)).trans HCH0.out).trans HCG.out⟩
theorem rrename_ok (w : World) (B d : Nat) (m : M) (f t : Int) (h : Fk w B d m) (hB : B ≤ w.heap.size) (hi : Inv m) (htb : t < 9223372036854775808) (hpl : ∀ k ks, m.plan = some (k, ks) → ks.length ≤ maxLen) :
    Calls Try.prog 16 #[.pointer (some ⟨d, 0, none⟩), .int .i64 f, .int .i64 t] w (RDid w B d (.int .i64 (rename m f t).1) (rename m f t).2) := by
  by_cases ht : there m f = 0
  · by_cases ht0 : t < 0
    · rw [rename_arg ht ht0]; exact rrename_arg w B d m f t h ht ht0
    · cases h5 : fails m
      · by_cases hne : f = t
        · subst hne
          rw [rename_same ht ht0 h5]; exact rrename_same w B d m f h hB ht (by omega) hpl h5
        · rw [rename_goes ht ht0 h5 hne]; exact rrename_goes w B d m f t h hB hi ht hpl h5 hne (by omega) htb
      · rw [rename_fails ht ht0 h5]; exact rrename_fails w B d m f t h hB ht (by omega) hpl h5
  · rw [rename_not ht]; exact rrename_not w B d m f t h ht
theorem rsync_ok (w : World) (B d : Nat) (m : M) (f : Int) (h : Fk w B d m) (hB : B ≤ w.heap.size) (hi : Inv m) (hpl : ∀ k ks, m.plan = some (k, ks) → ks.length ≤ maxLen) :
    Calls Try.prog 12 #[.pointer (some ⟨d, 0, none⟩), .int .i64 f] w (RDid w B d (.int .i64 (sync m f).1) (sync m f).2) := by
  by_cases ht : there m f = 0
  · cases h5 : fails m
    · rw [sync_goes ht h5]; exact rsync_goes w B d m f h hB hi ht hpl h5
    · rw [sync_fails ht h5]; exact rsync_fails w B d m f h hB ht hpl h5
  · rw [sync_not ht]; exact rsync_not w B d m f h ht
theorem rremove_ok (w : World) (B d : Nat) (m : M) (f : Int) (h : Fk w B d m) (hB : B ≤ w.heap.size) (hi : Inv m) (hpl : ∀ k ks, m.plan = some (k, ks) → ks.length ≤ maxLen) :
    Calls Try.prog 14 #[.pointer (some ⟨d, 0, none⟩), .int .i64 f] w (RDid w B d (.int .i64 (remove m f).1) (remove m f).2) := by
  by_cases ht : there m f = 0
  · cases h5 : fails m
    · rw [remove_goes ht h5]; exact rremove_goes w B d m f h hB hi ht hpl h5
    · rw [remove_fails ht h5]; exact rremove_fails w B d m f h hB ht hpl h5
  · rw [remove_not ht]; exact rremove_not w B d m f h ht
end Go.Proofs.Ytkoaelpmknaakaa.Disk
