/-
  The document's Append.
-/
import Derived.Test.YtbomgglmplecpaaGreatMDiskRefRead
namespace Go.Proofs.YtbomgglmplecpaaGreat.Disk
open Go.RowKit Go.Proofs.YtbomgglmplecpaaGreat.Ord
set_option linter.unusedVariables false
set_option linter.unusedSimpArgs false

theorem str_size (bs : List (BitVec 8)) : (str bs).size = bs.length := by simp [str, ByteArray.size]
theorem cone (f : Int) (bs : List (BitVec 8)) : ∀ u ∈ Cl.cells ⟨f, bs, false⟩, u.oneCell' = true := by have := cellsL_one [⟨f, bs, false⟩]; simpa [cellsL] using this

set_option maxRecDepth 100000 in
set_option maxHeartbeats 1000000 in
theorem rappend_off (w : World) (B d : Nat) (m : M) (f : Int) (bs : List (BitVec 8)) (h : Fk w B d m) (ho : m.off = true) :
    Calls Tryz.prog 34 #[.pointer (some ⟨d, 0, none⟩), .int .i64 f, .string (str bs)] w (RDid w B d (.int .i64 8) m) := by
  have H := Lib.hid h
  obtain ⟨A, c, lv, kv, left, h⟩ := h
  have k3 := h.cel.cell 3
  rw [ho] at k3
  clear h ho
  go_enter Tryz.func34, Tryz.ntmps34
  go_wp2_with fail
  go_ret
  exact ⟨rfl, H.out, Chg.refl _ _ _⟩
set_option maxRecDepth 100000 in
set_option maxHeartbeats 1000000 in
theorem rappend_arg (w : World) (B d : Nat) (m : M) (f : Int) (bs : List (BitVec 8)) (h : Fk w B d m) (ho : m.off = false) (hn : bs.length ≤ maxLen) (h2 : f < 0 ∨ bs.length ≠ 512) :
    Calls Tryz.prog 34 #[.pointer (some ⟨d, 0, none⟩), .int .i64 f, .string (str bs)] w (RDid w B d (.int .i64 1) m) := by
  have H := Lib.hid h
  obtain ⟨A, c, lv, kv, left, h⟩ := h
  have k3 := h.cel.cell 3
  rw [ho] at k3
  have hss := str_size bs
  unfold maxLen at hn
  clear h ho
  by_cases hf : f < 0
  · clear h2
    go_enter Tryz.func34, Tryz.ntmps34
    go_wp2_with fail
    go_ret
    exact ⟨rfl, H.out, Chg.refl _ _ _⟩
  · have h3 : ((bs.length : Int) == 512) = false := by have := h2.resolve_left hf; simp; omega
    have h4 : ((bs.length : Int) != 512) = true := by have := h2.resolve_left hf; simp; omega
    clear h2
    go_enter Tryz.func34, Tryz.ntmps34
    go_wp2_with fail
    go_ret
    exact ⟨rfl, H.out, Chg.refl _ _ _⟩
set_option maxRecDepth 100000 in
set_option maxHeartbeats 2000000 in
theorem rappend_full (w : World) (B d : Nat) (m : M) (f : Int) (bs : List (BitVec 8)) (h : Fk w B d m) (hB : B ≤ w.heap.size) (ho : m.off = false) (hf : 0 ≤ f ∧ f < 9223372036854775808) (hbs : bs.length = 512) (h3 : m.room ≤ m.l.length) :
    Calls Tryz.prog 34 #[.pointer (some ⟨d, 0, none⟩), .int .i64 f, .string (str bs)] w (RDid w B d (.int .i64 3) (m)) := by
  have H := Lib.hid h
  obtain ⟨A, cf, lv, kv, left, h⟩ := h
  obtain ⟨lA, lc, hlv⟩ := h.row.form
  subst hlv
  have k3 := h.cel.cell 3
  rw [ho] at k3
  have k0V : ∀ V, From w V → V.cell? ⟨d, 0, none⟩ = some (.int .i64 m.room) := fun V hV => (Cel.below h.cel hV h.cel.lt).cell 0
  have k2V : ∀ V, From w V → V.cell? ⟨d, 2, none⟩ = some (.slice lA m.l.length lc) := fun V hV => (Cel.below h.cel hV h.cel.lt).cell 2
  have hroom := h.inv.room
  have hrl := h.inv.rows_le f
  have hmost := h.inv.most
  have hss := (str_size bs).trans hbs
  have HI := Lib.hid h.inv
  have HO := Lib.hid ho
  have HBS := Lib.hid hbs
  clear h ho hbs
  go_enter Tryz.func34, Tryz.ntmps34
  go_wp2_with fail
  clear hss k3
  refine wp_region_held_drew (S := From w) (by kernel_rfl) (From.self _).drew (fun hH => ?_)
  refine wpAnyH_take (i := 0) (v := .pointer (some ⟨d, 0, none⟩)) rfl (by kernel_rfl) (by kernel_rfl) (by kernel_rfl) (fun _ _ _ h => h) (Or.inl ⟨by rfl, ?_⟩) hH ?_
  · intro V hV; go_simp
  try simp only [Act.put, List.setIfInBounds_toArray, List.set_cons_zero, List.set_cons_succ, List.getElem_toArray, List.getElem_cons_succ, List.getElem_cons_zero]
  refine wpAnyH_take (i := 1) (v := .pointer (some ⟨d, 0, none⟩)) rfl (by kernel_rfl) (by kernel_rfl) (by kernel_rfl) (fun _ _ _ h => h) (Or.inl ⟨by rfl, ?_⟩) hH ?_
  · intro V hV; go_simp
  try simp only [Act.put, List.setIfInBounds_toArray, List.set_cons_zero, List.set_cons_succ, List.getElem_toArray, List.getElem_cons_succ, List.getElem_cons_zero]
  refine wpAnyH_take (i := 2) (v := .pointer (some ⟨d, 2, none⟩)) rfl (by kernel_rfl) (by kernel_rfl) (by kernel_rfl) (fun _ _ _ h => h) (Or.inl ⟨by rfl, ?_⟩) hH ?_
  · intro V hV; go_simp
  try simp only [Act.put, List.setIfInBounds_toArray, List.set_cons_zero, List.set_cons_succ, List.getElem_toArray, List.getElem_cons_succ, List.getElem_cons_zero]
  refine wpAnyH_take (i := 3) (v := .slice lA m.l.length lc) rfl (by kernel_rfl) (by kernel_rfl) (by kernel_rfl) (fun _ _ _ h => h) (Or.inl ⟨by rfl, ?_⟩) hH ?_
  · intro V hV; have k := k2V V hV; go_simp
  try simp only [Act.put, List.setIfInBounds_toArray, List.set_cons_zero, List.set_cons_succ, List.getElem_toArray, List.getElem_cons_succ, List.getElem_cons_zero]
  refine wpAnyH_take (i := 4) (v := .int .i64 (m.l.length : Nat)) rfl (by kernel_rfl) (by kernel_rfl) (by kernel_rfl) (fun _ _ _ h => h) (Or.inl ⟨by rfl, ?_⟩) hH ?_
  · intro V hV; go_simp
  try simp only [Act.put, List.setIfInBounds_toArray, List.set_cons_zero, List.set_cons_succ, List.getElem_toArray, List.getElem_cons_succ, List.getElem_cons_zero]
  refine wpAnyH_take (i := 5) (v := .pointer (some ⟨d, 0, none⟩)) rfl (by kernel_rfl) (by kernel_rfl) (by kernel_rfl) (fun _ _ _ h => h) (Or.inl ⟨by rfl, ?_⟩) hH ?_
  · intro V hV; go_simp
  try simp only [Act.put, List.setIfInBounds_toArray, List.set_cons_zero, List.set_cons_succ, List.getElem_toArray, List.getElem_cons_succ, List.getElem_cons_zero]
  refine wpAnyH_take (i := 6) (v := .pointer (some ⟨d, 0, none⟩)) rfl (by kernel_rfl) (by kernel_rfl) (by kernel_rfl) (fun _ _ _ h => h) (Or.inl ⟨by rfl, ?_⟩) hH ?_
  · intro V hV; go_simp
  try simp only [Act.put, List.setIfInBounds_toArray, List.set_cons_zero, List.set_cons_succ, List.getElem_toArray, List.getElem_cons_succ, List.getElem_cons_zero]
  refine wpAnyH_take (i := 7) (v := .pointer (some ⟨d, 0, none⟩)) rfl (by kernel_rfl) (by kernel_rfl) (by kernel_rfl) (fun _ _ _ h => h) (Or.inl ⟨by rfl, ?_⟩) hH ?_
  · intro V hV; go_simp
  try simp only [Act.put, List.setIfInBounds_toArray, List.set_cons_zero, List.set_cons_succ, List.getElem_toArray, List.getElem_cons_succ, List.getElem_cons_zero]
  refine wpAnyH_take (i := 8) (v := .int .i64 m.room) rfl (by kernel_rfl) (by kernel_rfl) (by kernel_rfl) (fun _ _ _ h => h) (Or.inl ⟨by rfl, ?_⟩) hH ?_
  · intro V hV; have k := k0V V hV; go_simp
  try simp only [Act.put, List.setIfInBounds_toArray, List.set_cons_zero, List.set_cons_succ, List.getElem_toArray, List.getElem_cons_succ, List.getElem_cons_zero]
  refine wpAnyH_take (i := 9) (v := .bool true) rfl (by kernel_rfl) (by kernel_rfl) (by kernel_rfl) (fun _ _ _ h => h) (Or.inl ⟨by rfl, ?_⟩) hH ?_
  · intro V hV; go_simp
  try simp only [Act.put, List.setIfInBounds_toArray, List.set_cons_zero, List.set_cons_succ, List.getElem_toArray, List.getElem_cons_succ, List.getElem_cons_zero]
  refine wpAnyH_take (i := 10) (v := .bool true) rfl (by kernel_rfl) (by kernel_rfl) (by kernel_rfl) (fun _ _ _ h => h) (Or.inl ⟨by rfl, ?_⟩) hH ?_
  · intro V hV; go_simp
  try simp only [Act.put, List.setIfInBounds_toArray, List.set_cons_zero, List.set_cons_succ, List.getElem_toArray, List.getElem_cons_succ, List.getElem_cons_zero]
  refine wpAnyH_take (i := 11) (v := undef) rfl (by kernel_rfl) (by kernel_rfl) (by kernel_rfl) (fun _ _ _ h => h) (Or.inr ⟨by rfl, rfl⟩) hH ?_
  try simp only [Act.put, List.setIfInBounds_toArray, List.set_cons_zero, List.set_cons_succ, List.getElem_toArray, List.getElem_cons_succ, List.getElem_cons_zero]
  refine wpAnyH_take (i := 12) (v := undef) rfl (by kernel_rfl) (by kernel_rfl) (by kernel_rfl) (fun _ _ _ h => h) (Or.inr ⟨by rfl, rfl⟩) hH ?_
  try simp only [Act.put, List.setIfInBounds_toArray, List.set_cons_zero, List.set_cons_succ, List.getElem_toArray, List.getElem_cons_succ, List.getElem_cons_zero]
  refine wpAnyH_take (i := 13) (v := undef) rfl (by kernel_rfl) (by kernel_rfl) (by kernel_rfl) (fun _ _ _ h => h) (Or.inr ⟨by rfl, rfl⟩) hH ?_
  try simp only [Act.put, List.setIfInBounds_toArray, List.set_cons_zero, List.set_cons_succ, List.getElem_toArray, List.getElem_cons_succ, List.getElem_cons_zero]
  refine wpAnyH_take (i := 14) (v := undef) rfl (by kernel_rfl) (by kernel_rfl) (by kernel_rfl) (fun _ _ _ h => h) (Or.inr ⟨by rfl, rfl⟩) hH ?_
  try simp only [Act.put, List.setIfInBounds_toArray, List.set_cons_zero, List.set_cons_succ, List.getElem_toArray, List.getElem_cons_succ, List.getElem_cons_zero]
  refine wpAnyH_take (i := 15) (v := undef) rfl (by kernel_rfl) (by kernel_rfl) (by kernel_rfl) (fun _ _ _ h => h) (Or.inr ⟨by rfl, rfl⟩) hH ?_
  try simp only [Act.put, List.setIfInBounds_toArray, List.set_cons_zero, List.set_cons_succ, List.getElem_toArray, List.getElem_cons_succ, List.getElem_cons_zero]
  refine wpAnyH_take (i := 16) (v := .bool true) rfl (by kernel_rfl) (by kernel_rfl) (by kernel_rfl) (fun _ _ _ h => h) (Or.inl ⟨by rfl, ?_⟩) hH ?_
  · intro V hV; go_simp
  try simp only [Act.put, List.setIfInBounds_toArray, List.set_cons_zero, List.set_cons_succ, List.getElem_toArray, List.getElem_cons_succ, List.getElem_cons_zero]
  refine wpAnyH_done (by kernel_rfl) ?_ _
  clear k0V k2V
  go_wp2_with fail
  go_ret
  exact ⟨rfl, H.out.below hH, Chg.of_below hH⟩
set_option maxRecDepth 100000 in
set_option maxHeartbeats 2000000 in
theorem rappend_many (w : World) (B d : Nat) (m : M) (f : Int) (bs : List (BitVec 8)) (h : Fk w B d m) (hB : B ≤ w.heap.size) (ho : m.off = false) (hf : 0 ≤ f ∧ f < 9223372036854775808) (hbs : bs.length = 512) (h3 : ¬ m.room ≤ m.l.length) (h4 : 200 ≤ (rows f m.l).length) :
    Calls Tryz.prog 34 #[.pointer (some ⟨d, 0, none⟩), .int .i64 f, .string (str bs)] w (RDid w B d (.int .i64 3) (m)) := by
  have H := Lib.hid h
  obtain ⟨A, cf, lv, kv, left, h⟩ := h
  obtain ⟨lA, lc, hlv⟩ := h.row.form
  subst hlv
  have k3 := h.cel.cell 3
  rw [ho] at k3
  have k0V : ∀ V, From w V → V.cell? ⟨d, 0, none⟩ = some (.int .i64 m.room) := fun V hV => (Cel.below h.cel hV h.cel.lt).cell 0
  have k2V : ∀ V, From w V → V.cell? ⟨d, 2, none⟩ = some (.slice lA m.l.length lc) := fun V hV => (Cel.below h.cel hV h.cel.lt).cell 2
  have hroom := h.inv.room
  have hrl := h.inv.rows_le f
  have hmost := h.inv.most
  have hss := (str_size bs).trans hbs
  have HI := Lib.hid h.inv
  have HO := Lib.hid ho
  have HBS := Lib.hid hbs
  clear h ho hbs
  go_enter Tryz.func34, Tryz.ntmps34
  go_wp2_with fail
  clear hss k3
  refine wp_region_held_drew (S := From w) (by kernel_rfl) (From.self _).drew (fun hH => ?_)
  refine wpAnyH_take (i := 0) (v := .pointer (some ⟨d, 0, none⟩)) rfl (by kernel_rfl) (by kernel_rfl) (by kernel_rfl) (fun _ _ _ h => h) (Or.inl ⟨by rfl, ?_⟩) hH ?_
  · intro V hV; go_simp
  try simp only [Act.put, List.setIfInBounds_toArray, List.set_cons_zero, List.set_cons_succ, List.getElem_toArray, List.getElem_cons_succ, List.getElem_cons_zero]
  refine wpAnyH_take (i := 1) (v := .pointer (some ⟨d, 0, none⟩)) rfl (by kernel_rfl) (by kernel_rfl) (by kernel_rfl) (fun _ _ _ h => h) (Or.inl ⟨by rfl, ?_⟩) hH ?_
  · intro V hV; go_simp
  try simp only [Act.put, List.setIfInBounds_toArray, List.set_cons_zero, List.set_cons_succ, List.getElem_toArray, List.getElem_cons_succ, List.getElem_cons_zero]
  refine wpAnyH_take (i := 2) (v := .pointer (some ⟨d, 2, none⟩)) rfl (by kernel_rfl) (by kernel_rfl) (by kernel_rfl) (fun _ _ _ h => h) (Or.inl ⟨by rfl, ?_⟩) hH ?_
  · intro V hV; go_simp
  try simp only [Act.put, List.setIfInBounds_toArray, List.set_cons_zero, List.set_cons_succ, List.getElem_toArray, List.getElem_cons_succ, List.getElem_cons_zero]
  refine wpAnyH_take (i := 3) (v := .slice lA m.l.length lc) rfl (by kernel_rfl) (by kernel_rfl) (by kernel_rfl) (fun _ _ _ h => h) (Or.inl ⟨by rfl, ?_⟩) hH ?_
  · intro V hV; have k := k2V V hV; go_simp
  try simp only [Act.put, List.setIfInBounds_toArray, List.set_cons_zero, List.set_cons_succ, List.getElem_toArray, List.getElem_cons_succ, List.getElem_cons_zero]
  refine wpAnyH_take (i := 4) (v := .int .i64 (m.l.length : Nat)) rfl (by kernel_rfl) (by kernel_rfl) (by kernel_rfl) (fun _ _ _ h => h) (Or.inl ⟨by rfl, ?_⟩) hH ?_
  · intro V hV; go_simp
  try simp only [Act.put, List.setIfInBounds_toArray, List.set_cons_zero, List.set_cons_succ, List.getElem_toArray, List.getElem_cons_succ, List.getElem_cons_zero]
  refine wpAnyH_take (i := 5) (v := .pointer (some ⟨d, 0, none⟩)) rfl (by kernel_rfl) (by kernel_rfl) (by kernel_rfl) (fun _ _ _ h => h) (Or.inl ⟨by rfl, ?_⟩) hH ?_
  · intro V hV; go_simp
  try simp only [Act.put, List.setIfInBounds_toArray, List.set_cons_zero, List.set_cons_succ, List.getElem_toArray, List.getElem_cons_succ, List.getElem_cons_zero]
  refine wpAnyH_take (i := 6) (v := .pointer (some ⟨d, 0, none⟩)) rfl (by kernel_rfl) (by kernel_rfl) (by kernel_rfl) (fun _ _ _ h => h) (Or.inl ⟨by rfl, ?_⟩) hH ?_
  · intro V hV; go_simp
  try simp only [Act.put, List.setIfInBounds_toArray, List.set_cons_zero, List.set_cons_succ, List.getElem_toArray, List.getElem_cons_succ, List.getElem_cons_zero]
  refine wpAnyH_take (i := 7) (v := .pointer (some ⟨d, 0, none⟩)) rfl (by kernel_rfl) (by kernel_rfl) (by kernel_rfl) (fun _ _ _ h => h) (Or.inl ⟨by rfl, ?_⟩) hH ?_
  · intro V hV; go_simp
  try simp only [Act.put, List.setIfInBounds_toArray, List.set_cons_zero, List.set_cons_succ, List.getElem_toArray, List.getElem_cons_succ, List.getElem_cons_zero]
  refine wpAnyH_take (i := 8) (v := .int .i64 m.room) rfl (by kernel_rfl) (by kernel_rfl) (by kernel_rfl) (fun _ _ _ h => h) (Or.inl ⟨by rfl, ?_⟩) hH ?_
  · intro V hV; have k := k0V V hV; go_simp
  try simp only [Act.put, List.setIfInBounds_toArray, List.set_cons_zero, List.set_cons_succ, List.getElem_toArray, List.getElem_cons_succ, List.getElem_cons_zero]
  refine wpAnyH_take (i := 9) (v := .bool false) rfl (by kernel_rfl) (by kernel_rfl) (by kernel_rfl) (fun _ _ _ h => h) (Or.inl ⟨by rfl, ?_⟩) hH ?_
  · intro V hV; go_simp
  try simp only [Act.put, List.setIfInBounds_toArray, List.set_cons_zero, List.set_cons_succ, List.getElem_toArray, List.getElem_cons_succ, List.getElem_cons_zero]
  refine wpAnyH_take (i := 10) (v := .bool false) rfl (by kernel_rfl) (by kernel_rfl) (by kernel_rfl) (fun _ _ _ h => h) (Or.inl ⟨by rfl, ?_⟩) hH ?_
  · intro V hV; go_simp
  try simp only [Act.put, List.setIfInBounds_toArray, List.set_cons_zero, List.set_cons_succ, List.getElem_toArray, List.getElem_cons_succ, List.getElem_cons_zero]
  refine wpAnyH_take (i := 11) (v := .pointer (some ⟨d, 0, none⟩)) rfl (by kernel_rfl) (by kernel_rfl) (by kernel_rfl) (fun _ _ _ h => h) (Or.inl ⟨by rfl, ?_⟩) hH ?_
  · intro V hV; go_simp
  try simp only [Act.put, List.setIfInBounds_toArray, List.set_cons_zero, List.set_cons_succ, List.getElem_toArray, List.getElem_cons_succ, List.getElem_cons_zero]
  refine wpAnyH_take (i := 12) (v := .int .i64 f) rfl (by kernel_rfl) (by kernel_rfl) (by kernel_rfl) (fun _ _ _ h => h) (Or.inl ⟨by rfl, ?_⟩) hH ?_
  · intro V hV; go_simp
  try simp only [Act.put, List.setIfInBounds_toArray, List.set_cons_zero, List.set_cons_succ, List.getElem_toArray, List.getElem_cons_succ, List.getElem_cons_zero]
  have con5 := rread_ok w.drew B d m f (H.out.below (Below.refl _ _).drew)
  refine wpAnyH_ready (rs := [13]) (by kernel_rfl) (by simp) (AllReadyH.cons rfl (fun K hK => ?_) AllReadyH.nil)
  go_simp
  refine con5.mono ?_
  rintro r w5 ⟨A5, c5, rfl, ho5, hb5⟩
  go_wp2_with fail
  refine hK.out _ _ (hH.call hb5) (fun hH' => ?_)
  clear hK K hH
  have hH := hH'
  clear hH'
  try simp only [Act.put, List.setIfInBounds_toArray, List.set_cons_zero, List.set_cons_succ, List.getElem_toArray, List.getElem_cons_succ, List.getElem_cons_zero]
  clear con5 ho5
  refine wpAnyH_take (i := 14) (v := .int .i64 ((rows f m.l).length : Nat)) rfl (by kernel_rfl) (by kernel_rfl) (by kernel_rfl) (fun _ _ _ h => h) (Or.inl ⟨by rfl, ?_⟩) hH ?_
  · intro V hV; go_simp
  try simp only [Act.put, List.setIfInBounds_toArray, List.set_cons_zero, List.set_cons_succ, List.getElem_toArray, List.getElem_cons_succ, List.getElem_cons_zero]
  refine wpAnyH_take (i := 15) (v := .bool true) rfl (by kernel_rfl) (by kernel_rfl) (by kernel_rfl) (fun _ _ _ h => h) (Or.inl ⟨by rfl, ?_⟩) hH ?_
  · intro V hV; have k15 : (200 : Int) ≤ (rows f m.l).length := (by omega); go_simp
  try simp only [Act.put, List.setIfInBounds_toArray, List.set_cons_zero, List.set_cons_succ, List.getElem_toArray, List.getElem_cons_succ, List.getElem_cons_zero]
  refine wpAnyH_take (i := 16) (v := .bool true) rfl (by kernel_rfl) (by kernel_rfl) (by kernel_rfl) (fun _ _ _ h => h) (Or.inl ⟨by rfl, ?_⟩) hH ?_
  · intro V hV; go_simp
  try simp only [Act.put, List.setIfInBounds_toArray, List.set_cons_zero, List.set_cons_succ, List.getElem_toArray, List.getElem_cons_succ, List.getElem_cons_zero]
  refine wpAnyH_done (by kernel_rfl) ?_ _
  clear k0V k2V
  go_wp2_with fail
  go_ret
  exact ⟨rfl, H.out.below hH, Chg.of_below hH⟩
set_option maxRecDepth 100000 in
set_option maxHeartbeats 2000000 in
theorem rappend_fails (w : World) (B d : Nat) (m : M) (f : Int) (bs : List (BitVec 8)) (h : Fk w B d m) (hB : B ≤ w.heap.size) (ho : m.off = false) (hf : 0 ≤ f ∧ f < 9223372036854775808) (hbs : bs.length = 512) (h3 : ¬ m.room ≤ m.l.length) (h4 : ¬ 200 ≤ (rows f m.l).length) (hpl : ∀ k ks, m.plan = some (k, ks) → ks.length ≤ maxLen) (h5 : fails m = true) :
    Calls Tryz.prog 34 #[.pointer (some ⟨d, 0, none⟩), .int .i64 f, .string (str bs)] w (RDid w B d (.int .i64 8) (stepped m)) := by
  have H := Lib.hid h
  obtain ⟨A, cf, lv, kv, left, h⟩ := h
  obtain ⟨lA, lc, hlv⟩ := h.row.form
  subst hlv
  have k3 := h.cel.cell 3
  rw [ho] at k3
  have k0V : ∀ V, From w V → V.cell? ⟨d, 0, none⟩ = some (.int .i64 m.room) := fun V hV => (Cel.below h.cel hV h.cel.lt).cell 0
  have k2V : ∀ V, From w V → V.cell? ⟨d, 2, none⟩ = some (.slice lA m.l.length lc) := fun V hV => (Cel.below h.cel hV h.cel.lt).cell 2
  have hroom := h.inv.room
  have hrl := h.inv.rows_le f
  have hmost := h.inv.most
  have hss := (str_size bs).trans hbs
  have HI := Lib.hid h.inv
  have HO := Lib.hid ho
  have HBS := Lib.hid hbs
  clear h ho hbs
  go_enter Tryz.func34, Tryz.ntmps34
  go_wp2_with fail
  clear hss k3
  refine wp_region_held_drew (S := From w) (by kernel_rfl) (From.self _).drew (fun hH => ?_)
  refine wpAnyH_take (i := 0) (v := .pointer (some ⟨d, 0, none⟩)) rfl (by kernel_rfl) (by kernel_rfl) (by kernel_rfl) (fun _ _ _ h => h) (Or.inl ⟨by rfl, ?_⟩) hH ?_
  · intro V hV; go_simp
  try simp only [Act.put, List.setIfInBounds_toArray, List.set_cons_zero, List.set_cons_succ, List.getElem_toArray, List.getElem_cons_succ, List.getElem_cons_zero]
  refine wpAnyH_take (i := 1) (v := .pointer (some ⟨d, 0, none⟩)) rfl (by kernel_rfl) (by kernel_rfl) (by kernel_rfl) (fun _ _ _ h => h) (Or.inl ⟨by rfl, ?_⟩) hH ?_
  · intro V hV; go_simp
  try simp only [Act.put, List.setIfInBounds_toArray, List.set_cons_zero, List.set_cons_succ, List.getElem_toArray, List.getElem_cons_succ, List.getElem_cons_zero]
  refine wpAnyH_take (i := 2) (v := .pointer (some ⟨d, 2, none⟩)) rfl (by kernel_rfl) (by kernel_rfl) (by kernel_rfl) (fun _ _ _ h => h) (Or.inl ⟨by rfl, ?_⟩) hH ?_
  · intro V hV; go_simp
  try simp only [Act.put, List.setIfInBounds_toArray, List.set_cons_zero, List.set_cons_succ, List.getElem_toArray, List.getElem_cons_succ, List.getElem_cons_zero]
  refine wpAnyH_take (i := 3) (v := .slice lA m.l.length lc) rfl (by kernel_rfl) (by kernel_rfl) (by kernel_rfl) (fun _ _ _ h => h) (Or.inl ⟨by rfl, ?_⟩) hH ?_
  · intro V hV; have k := k2V V hV; go_simp
  try simp only [Act.put, List.setIfInBounds_toArray, List.set_cons_zero, List.set_cons_succ, List.getElem_toArray, List.getElem_cons_succ, List.getElem_cons_zero]
  refine wpAnyH_take (i := 4) (v := .int .i64 (m.l.length : Nat)) rfl (by kernel_rfl) (by kernel_rfl) (by kernel_rfl) (fun _ _ _ h => h) (Or.inl ⟨by rfl, ?_⟩) hH ?_
  · intro V hV; go_simp
  try simp only [Act.put, List.setIfInBounds_toArray, List.set_cons_zero, List.set_cons_succ, List.getElem_toArray, List.getElem_cons_succ, List.getElem_cons_zero]
  refine wpAnyH_take (i := 5) (v := .pointer (some ⟨d, 0, none⟩)) rfl (by kernel_rfl) (by kernel_rfl) (by kernel_rfl) (fun _ _ _ h => h) (Or.inl ⟨by rfl, ?_⟩) hH ?_
  · intro V hV; go_simp
  try simp only [Act.put, List.setIfInBounds_toArray, List.set_cons_zero, List.set_cons_succ, List.getElem_toArray, List.getElem_cons_succ, List.getElem_cons_zero]
  refine wpAnyH_take (i := 6) (v := .pointer (some ⟨d, 0, none⟩)) rfl (by kernel_rfl) (by kernel_rfl) (by kernel_rfl) (fun _ _ _ h => h) (Or.inl ⟨by rfl, ?_⟩) hH ?_
  · intro V hV; go_simp
  try simp only [Act.put, List.setIfInBounds_toArray, List.set_cons_zero, List.set_cons_succ, List.getElem_toArray, List.getElem_cons_succ, List.getElem_cons_zero]
  refine wpAnyH_take (i := 7) (v := .pointer (some ⟨d, 0, none⟩)) rfl (by kernel_rfl) (by kernel_rfl) (by kernel_rfl) (fun _ _ _ h => h) (Or.inl ⟨by rfl, ?_⟩) hH ?_
  · intro V hV; go_simp
  try simp only [Act.put, List.setIfInBounds_toArray, List.set_cons_zero, List.set_cons_succ, List.getElem_toArray, List.getElem_cons_succ, List.getElem_cons_zero]
  refine wpAnyH_take (i := 8) (v := .int .i64 m.room) rfl (by kernel_rfl) (by kernel_rfl) (by kernel_rfl) (fun _ _ _ h => h) (Or.inl ⟨by rfl, ?_⟩) hH ?_
  · intro V hV; have k := k0V V hV; go_simp
  try simp only [Act.put, List.setIfInBounds_toArray, List.set_cons_zero, List.set_cons_succ, List.getElem_toArray, List.getElem_cons_succ, List.getElem_cons_zero]
  refine wpAnyH_take (i := 9) (v := .bool false) rfl (by kernel_rfl) (by kernel_rfl) (by kernel_rfl) (fun _ _ _ h => h) (Or.inl ⟨by rfl, ?_⟩) hH ?_
  · intro V hV; go_simp
  try simp only [Act.put, List.setIfInBounds_toArray, List.set_cons_zero, List.set_cons_succ, List.getElem_toArray, List.getElem_cons_succ, List.getElem_cons_zero]
  refine wpAnyH_take (i := 10) (v := .bool false) rfl (by kernel_rfl) (by kernel_rfl) (by kernel_rfl) (fun _ _ _ h => h) (Or.inl ⟨by rfl, ?_⟩) hH ?_
  · intro V hV; go_simp
  try simp only [Act.put, List.setIfInBounds_toArray, List.set_cons_zero, List.set_cons_succ, List.getElem_toArray, List.getElem_cons_succ, List.getElem_cons_zero]
  refine wpAnyH_take (i := 11) (v := .pointer (some ⟨d, 0, none⟩)) rfl (by kernel_rfl) (by kernel_rfl) (by kernel_rfl) (fun _ _ _ h => h) (Or.inl ⟨by rfl, ?_⟩) hH ?_
  · intro V hV; go_simp
  try simp only [Act.put, List.setIfInBounds_toArray, List.set_cons_zero, List.set_cons_succ, List.getElem_toArray, List.getElem_cons_succ, List.getElem_cons_zero]
  refine wpAnyH_take (i := 12) (v := .int .i64 f) rfl (by kernel_rfl) (by kernel_rfl) (by kernel_rfl) (fun _ _ _ h => h) (Or.inl ⟨by rfl, ?_⟩) hH ?_
  · intro V hV; go_simp
  try simp only [Act.put, List.setIfInBounds_toArray, List.set_cons_zero, List.set_cons_succ, List.getElem_toArray, List.getElem_cons_succ, List.getElem_cons_zero]
  have con5 := rread_ok w.drew B d m f (H.out.below (Below.refl _ _).drew)
  refine wpAnyH_ready (rs := [13]) (by kernel_rfl) (by simp) (AllReadyH.cons rfl (fun K hK => ?_) AllReadyH.nil)
  go_simp
  refine con5.mono ?_
  rintro r w5 ⟨A5, c5, rfl, ho5, hb5⟩
  go_wp2_with fail
  refine hK.out _ _ (hH.call hb5) (fun hH' => ?_)
  clear hK K hH
  have hH := hH'
  clear hH'
  try simp only [Act.put, List.setIfInBounds_toArray, List.set_cons_zero, List.set_cons_succ, List.getElem_toArray, List.getElem_cons_succ, List.getElem_cons_zero]
  clear con5 ho5
  refine wpAnyH_take (i := 14) (v := .int .i64 ((rows f m.l).length : Nat)) rfl (by kernel_rfl) (by kernel_rfl) (by kernel_rfl) (fun _ _ _ h => h) (Or.inl ⟨by rfl, ?_⟩) hH ?_
  · intro V hV; go_simp
  try simp only [Act.put, List.setIfInBounds_toArray, List.set_cons_zero, List.set_cons_succ, List.getElem_toArray, List.getElem_cons_succ, List.getElem_cons_zero]
  refine wpAnyH_take (i := 15) (v := .bool false) rfl (by kernel_rfl) (by kernel_rfl) (by kernel_rfl) (fun _ _ _ h => h) (Or.inl ⟨by rfl, ?_⟩) hH ?_
  · intro V hV; have k15 : ((rows f m.l).length : Int) < 200 := (by omega); go_simp
  try simp only [Act.put, List.setIfInBounds_toArray, List.set_cons_zero, List.set_cons_succ, List.getElem_toArray, List.getElem_cons_succ, List.getElem_cons_zero]
  refine wpAnyH_take (i := 16) (v := .bool false) rfl (by kernel_rfl) (by kernel_rfl) (by kernel_rfl) (fun _ _ _ h => h) (Or.inl ⟨by rfl, ?_⟩) hH ?_
  · intro V hV; go_simp
  try simp only [Act.put, List.setIfInBounds_toArray, List.set_cons_zero, List.set_cons_succ, List.getElem_toArray, List.getElem_cons_succ, List.getElem_cons_zero]
  refine wpAnyH_done (by kernel_rfl) ?_ _
  clear k0V k2V
  have hB5 : B ≤ w5.heap.size := Nat.le_trans hB hH.size
  have con2 := rfails_ok w5 B d m (H.out.below hH) hB5 HO.out hpl
  rw [h5] at con2
  have HH := Lib.hid hH
  clear hpl h5 hH hb5
  go_wp2_with (first | (go_at_call 52; refine con2.mono ?_; rintro e w6 ⟨rfl, h6, hc6⟩))
  go_ret
  exact ⟨rfl, h6, (Chg.of_below HH.out).trans hc6⟩
set_option maxRecDepth 100000 in
set_option maxHeartbeats 2000000 in
theorem rappend_goes (w : World) (B d : Nat) (m : M) (f : Int) (bs : List (BitVec 8)) (h : Fk w B d m) (hB : B ≤ w.heap.size) (ho : m.off = false) (hf : 0 ≤ f ∧ f < 9223372036854775808) (hbs : bs.length = 512) (h3 : ¬ m.room ≤ m.l.length) (h4 : ¬ 200 ≤ (rows f m.l).length) (hpl : ∀ k ks, m.plan = some (k, ks) → ks.length ≤ maxLen) (h5 : fails m = false) :
    Calls Tryz.prog 34 #[.pointer (some ⟨d, 0, none⟩), .int .i64 f, .string (str bs)] w (RDid w B d (.int .i64 0) ({ stepped m with files := add f m.files, l := m.l ++ [⟨f, bs, false⟩] })) := by
  have H := Lib.hid h
  obtain ⟨A, cf, lv, kv, left, h⟩ := h
  obtain ⟨lA, lc, hlv⟩ := h.row.form
  subst hlv
  have k3 := h.cel.cell 3
  rw [ho] at k3
  have k0V : ∀ V, From w V → V.cell? ⟨d, 0, none⟩ = some (.int .i64 m.room) := fun V hV => (Cel.below h.cel hV h.cel.lt).cell 0
  have k2V : ∀ V, From w V → V.cell? ⟨d, 2, none⟩ = some (.slice lA m.l.length lc) := fun V hV => (Cel.below h.cel hV h.cel.lt).cell 2
  have hroom := h.inv.room
  have hrl := h.inv.rows_le f
  have hmost := h.inv.most
  have hss := (str_size bs).trans hbs
  have HI := Lib.hid h.inv
  have hi : Inv { stepped m with files := add f m.files, l := m.l ++ [⟨f, bs, false⟩] } := by
    have := h.inv.append f hf.2 bs
    rw [append_ok ho (by rintro (h | h); omega; exact h hbs) (by rintro (h | h); exact h3 h; exact h4 h) h5] at this
    exact this
  have HIN := Lib.hid hi
  clear hi
  obtain ⟨e1, e2, e3, e4⟩ := stepped_same h5
  have his := h.inv.stepped
  have HO := Lib.hid ho
  have HBS := Lib.hid hbs
  clear h ho hbs
  go_enter Tryz.func34, Tryz.ntmps34
  go_wp2_with fail
  clear hss k3
  refine wp_region_held_drew (S := From w) (by kernel_rfl) (From.self _).drew (fun hH => ?_)
  refine wpAnyH_take (i := 0) (v := .pointer (some ⟨d, 0, none⟩)) rfl (by kernel_rfl) (by kernel_rfl) (by kernel_rfl) (fun _ _ _ h => h) (Or.inl ⟨by rfl, ?_⟩) hH ?_
  · intro V hV; go_simp
  try simp only [Act.put, List.setIfInBounds_toArray, List.set_cons_zero, List.set_cons_succ, List.getElem_toArray, List.getElem_cons_succ, List.getElem_cons_zero]
  refine wpAnyH_take (i := 1) (v := .pointer (some ⟨d, 0, none⟩)) rfl (by kernel_rfl) (by kernel_rfl) (by kernel_rfl) (fun _ _ _ h => h) (Or.inl ⟨by rfl, ?_⟩) hH ?_
  · intro V hV; go_simp
  try simp only [Act.put, List.setIfInBounds_toArray, List.set_cons_zero, List.set_cons_succ, List.getElem_toArray, List.getElem_cons_succ, List.getElem_cons_zero]
  refine wpAnyH_take (i := 2) (v := .pointer (some ⟨d, 2, none⟩)) rfl (by kernel_rfl) (by kernel_rfl) (by kernel_rfl) (fun _ _ _ h => h) (Or.inl ⟨by rfl, ?_⟩) hH ?_
  · intro V hV; go_simp
  try simp only [Act.put, List.setIfInBounds_toArray, List.set_cons_zero, List.set_cons_succ, List.getElem_toArray, List.getElem_cons_succ, List.getElem_cons_zero]
  refine wpAnyH_take (i := 3) (v := .slice lA m.l.length lc) rfl (by kernel_rfl) (by kernel_rfl) (by kernel_rfl) (fun _ _ _ h => h) (Or.inl ⟨by rfl, ?_⟩) hH ?_
  · intro V hV; have k := k2V V hV; go_simp
  try simp only [Act.put, List.setIfInBounds_toArray, List.set_cons_zero, List.set_cons_succ, List.getElem_toArray, List.getElem_cons_succ, List.getElem_cons_zero]
  refine wpAnyH_take (i := 4) (v := .int .i64 (m.l.length : Nat)) rfl (by kernel_rfl) (by kernel_rfl) (by kernel_rfl) (fun _ _ _ h => h) (Or.inl ⟨by rfl, ?_⟩) hH ?_
  · intro V hV; go_simp
  try simp only [Act.put, List.setIfInBounds_toArray, List.set_cons_zero, List.set_cons_succ, List.getElem_toArray, List.getElem_cons_succ, List.getElem_cons_zero]
  refine wpAnyH_take (i := 5) (v := .pointer (some ⟨d, 0, none⟩)) rfl (by kernel_rfl) (by kernel_rfl) (by kernel_rfl) (fun _ _ _ h => h) (Or.inl ⟨by rfl, ?_⟩) hH ?_
  · intro V hV; go_simp
  try simp only [Act.put, List.setIfInBounds_toArray, List.set_cons_zero, List.set_cons_succ, List.getElem_toArray, List.getElem_cons_succ, List.getElem_cons_zero]
  refine wpAnyH_take (i := 6) (v := .pointer (some ⟨d, 0, none⟩)) rfl (by kernel_rfl) (by kernel_rfl) (by kernel_rfl) (fun _ _ _ h => h) (Or.inl ⟨by rfl, ?_⟩) hH ?_
  · intro V hV; go_simp
  try simp only [Act.put, List.setIfInBounds_toArray, List.set_cons_zero, List.set_cons_succ, List.getElem_toArray, List.getElem_cons_succ, List.getElem_cons_zero]
  refine wpAnyH_take (i := 7) (v := .pointer (some ⟨d, 0, none⟩)) rfl (by kernel_rfl) (by kernel_rfl) (by kernel_rfl) (fun _ _ _ h => h) (Or.inl ⟨by rfl, ?_⟩) hH ?_
  · intro V hV; go_simp
  try simp only [Act.put, List.setIfInBounds_toArray, List.set_cons_zero, List.set_cons_succ, List.getElem_toArray, List.getElem_cons_succ, List.getElem_cons_zero]
  refine wpAnyH_take (i := 8) (v := .int .i64 m.room) rfl (by kernel_rfl) (by kernel_rfl) (by kernel_rfl) (fun _ _ _ h => h) (Or.inl ⟨by rfl, ?_⟩) hH ?_
  · intro V hV; have k := k0V V hV; go_simp
  try simp only [Act.put, List.setIfInBounds_toArray, List.set_cons_zero, List.set_cons_succ, List.getElem_toArray, List.getElem_cons_succ, List.getElem_cons_zero]
  refine wpAnyH_take (i := 9) (v := .bool false) rfl (by kernel_rfl) (by kernel_rfl) (by kernel_rfl) (fun _ _ _ h => h) (Or.inl ⟨by rfl, ?_⟩) hH ?_
  · intro V hV; go_simp
  try simp only [Act.put, List.setIfInBounds_toArray, List.set_cons_zero, List.set_cons_succ, List.getElem_toArray, List.getElem_cons_succ, List.getElem_cons_zero]
  refine wpAnyH_take (i := 10) (v := .bool false) rfl (by kernel_rfl) (by kernel_rfl) (by kernel_rfl) (fun _ _ _ h => h) (Or.inl ⟨by rfl, ?_⟩) hH ?_
  · intro V hV; go_simp
  try simp only [Act.put, List.setIfInBounds_toArray, List.set_cons_zero, List.set_cons_succ, List.getElem_toArray, List.getElem_cons_succ, List.getElem_cons_zero]
  refine wpAnyH_take (i := 11) (v := .pointer (some ⟨d, 0, none⟩)) rfl (by kernel_rfl) (by kernel_rfl) (by kernel_rfl) (fun _ _ _ h => h) (Or.inl ⟨by rfl, ?_⟩) hH ?_
  · intro V hV; go_simp
  try simp only [Act.put, List.setIfInBounds_toArray, List.set_cons_zero, List.set_cons_succ, List.getElem_toArray, List.getElem_cons_succ, List.getElem_cons_zero]
  refine wpAnyH_take (i := 12) (v := .int .i64 f) rfl (by kernel_rfl) (by kernel_rfl) (by kernel_rfl) (fun _ _ _ h => h) (Or.inl ⟨by rfl, ?_⟩) hH ?_
  · intro V hV; go_simp
  try simp only [Act.put, List.setIfInBounds_toArray, List.set_cons_zero, List.set_cons_succ, List.getElem_toArray, List.getElem_cons_succ, List.getElem_cons_zero]
  have con5 := rread_ok w.drew B d m f (H.out.below (Below.refl _ _).drew)
  refine wpAnyH_ready (rs := [13]) (by kernel_rfl) (by simp) (AllReadyH.cons rfl (fun K hK => ?_) AllReadyH.nil)
  go_simp
  refine con5.mono ?_
  rintro r w5 ⟨A5, c5, rfl, ho5, hb5⟩
  go_wp2_with fail
  refine hK.out _ _ (hH.call hb5) (fun hH' => ?_)
  clear hK K hH
  have hH := hH'
  clear hH'
  try simp only [Act.put, List.setIfInBounds_toArray, List.set_cons_zero, List.set_cons_succ, List.getElem_toArray, List.getElem_cons_succ, List.getElem_cons_zero]
  clear con5 ho5
  refine wpAnyH_take (i := 14) (v := .int .i64 ((rows f m.l).length : Nat)) rfl (by kernel_rfl) (by kernel_rfl) (by kernel_rfl) (fun _ _ _ h => h) (Or.inl ⟨by rfl, ?_⟩) hH ?_
  · intro V hV; go_simp
  try simp only [Act.put, List.setIfInBounds_toArray, List.set_cons_zero, List.set_cons_succ, List.getElem_toArray, List.getElem_cons_succ, List.getElem_cons_zero]
  refine wpAnyH_take (i := 15) (v := .bool false) rfl (by kernel_rfl) (by kernel_rfl) (by kernel_rfl) (fun _ _ _ h => h) (Or.inl ⟨by rfl, ?_⟩) hH ?_
  · intro V hV; have k15 : ((rows f m.l).length : Int) < 200 := (by omega); go_simp
  try simp only [Act.put, List.setIfInBounds_toArray, List.set_cons_zero, List.set_cons_succ, List.getElem_toArray, List.getElem_cons_succ, List.getElem_cons_zero]
  refine wpAnyH_take (i := 16) (v := .bool false) rfl (by kernel_rfl) (by kernel_rfl) (by kernel_rfl) (fun _ _ _ h => h) (Or.inl ⟨by rfl, ?_⟩) hH ?_
  · intro V hV; go_simp
  try simp only [Act.put, List.setIfInBounds_toArray, List.set_cons_zero, List.set_cons_succ, List.getElem_toArray, List.getElem_cons_succ, List.getElem_cons_zero]
  refine wpAnyH_done (by kernel_rfl) ?_ _
  have E1 := Lib.hid e1
  have E2 := Lib.hid e2
  have HIS := Lib.hid his
  clear e1 e2 e3 e4 his
  clear k0V k2V
  have hB5 : B ≤ w5.heap.size := Nat.le_trans hB hH.size
  have con2 := rfails_ok w5 B d m (H.out.below hH) hB5 HO.out hpl
  rw [h5] at con2
  have HH := Lib.hid hH
  clear hpl h5 hH hb5
  go_wp2_with fail
  refine con2.mono ?_
  clear con2
  rintro e w6 ⟨rfl, h6, hc6⟩
  have con3 := radd_ok w6 B d (stepped m) f h6.fu HIS.out.sorted HIS.out.few
  have HC6 := Lib.hid hc6
  clear h6 hc6
  go_wp2_with fail
  refine con3.mono ?_
  clear con3
  rintro e w7 ⟨rfl, h7, hc7⟩
  obtain ⟨A7, cf7, lv7, kv7, left7, h7⟩ := h7
  have hrow7 : Rl w7 B lv7 m.l := by have := h7.row; dsimp only at this; rw [E2.out] at this; exact this
  obtain ⟨A7l, c7l, hlv7⟩ := hrow7.form
  subst hlv7
  have hc7' := h7.cel
  have H7 := Lib.hid h7
  have HC7 := Lib.hid hc7'
  have HG7 := Lib.hid hc7
  have o0 : (w7.alloc (.cells #[] 83)).ownsRow w7.heap.size 83 3 (.slice (some ⟨w7.heap.size, 0, none⟩) 0 0) 0 [] := World.ownsRow_lit w7 #[] 0 (Nat.le_refl _) (Nat.zero_le _) rfl
  have s0 : Src (w7.alloc (.cells #[] 83)) A7l m.l.length (cellsL m.l) := by
    have hr : Rl (w7.alloc (.cells #[] 83)) B (.slice A7l m.l.length c7l) m.l := World.ownsRow.alloc hrow7 _
    exact hr.src
  have k72 : (w7.alloc (.cells #[] 83)).cell? ⟨d, 2, none⟩ = some (.slice A7l m.l.length c7l) := (Cel.alloc hc7' _).cell 2
  have O0 := Lib.hid o0
  have S0 := Lib.hid s0
  clear o0 s0 hc7' h7 hc7 hrow7
  go_wp2_with (first | (at_builtin; refine wpList_append_any _ rfl (.tmp 41) (.tmp 45) 32 rfl w7.heap.size 83 cellsT _ 0 [] rfl O0.out A7l m.l.length c7l (cellsL m.l) rfl (cellsL_len _) S0.out (cellsL_one _) m.l.length _ (Nat.zero_add _) (List.nil_append _) (by unfold maxLen; omega) (by omega) (by simp) ?_; intro A8 c8 w8 o8 g8 _; have hb8 : Below w7.heap.size w7 w8 := ((Below.refl _ _).alloc (Nat.le_refl _) _).grown g8 (by simp) (by intro q hq; cases hq; exact Nat.le_refl _); have B8 := Lib.hid hb8; have O8 := Lib.hid o8; have h8z := hb8.size; clear hb8 o8 g8) | (at_builtin; refine wpList_append_any _ rfl (.tmp 46) (.tmp 50) 32 rfl w7.heap.size 83 cellsT _ m.l.length _ rfl (World.ownsRow.alloc O8.out _) (some ⟨w8.heap.size, 0, none⟩) 1 1 (Cl.cells ⟨f, bs, false⟩) rfl rfl (src_new3 w8 83 (.int .i64 f) (.string (str bs)) (.bool false)) (cone f bs) (m.l.length + 1) _ rfl rfl (by unfold maxLen; omega) (by omega) (by simp; omega) ?_; intro A9 c9 w9 o9 g9 _; have hb9 : Below w7.heap.size w7 w9 := (B8.out.alloc B8.out.size _).grown g9 (by simp; omega) (fun q hq => (World.ownsRow.lt O8.out q hq).1); have B9 := Lib.hid hb9; have O9 := Lib.hid o9; have k92 := (Cel.below HC7.out hb9 HC7.out.lt).cell 2; have f92 := (Cel.below HC7.out hb9 HC7.out.lt).free 2; clear hb9 o9 g9))
  go_ret
  have hrl9 : Rl w9 w7.heap.size (.slice A9 (m.l.length + 1) c9) (m.l ++ [⟨f, bs, false⟩]) := by
    unfold Rl
    rw [List.length_append, cellsL_app]
    exact O9.out
  have hB7 : B ≤ w7.heap.size := Nat.le_trans (Nat.le_trans hB5 HC6.out.size) HG7.out.size
  obtain ⟨q1, q2⟩ := H7.out.setRow B9.out _ _ (ownsRow_base_a hrl9 hB7 : Rl w9 B _ _)
  have q3 : Fu (w9.setCell ⟨d, 2, none⟩ (.slice A9 (m.l.length + 1) c9)) B d { stepped m with files := add f m.files, l := m.l ++ [⟨f, bs, false⟩] } := ⟨_, _, _, _, _, by rw [← E1.out]; exact q1⟩
  exact ⟨rfl, q3.fk HIN.out, ((((Chg.of_below HH.out).trans HC6.out).trans HG7.out)).trans q2⟩
theorem rappend_ok (w : World) (B d : Nat) (m : M) (f : Int) (bs : List (BitVec 8)) (h : Fk w B d m) (hB : B ≤ w.heap.size) (hf : f < 9223372036854775808) (hbl : bs.length ≤ maxLen) (hpl : ∀ k ks, m.plan = some (k, ks) → ks.length ≤ maxLen) :
    Calls Tryz.prog 34 #[.pointer (some ⟨d, 0, none⟩), .int .i64 f, .string (str bs)] w (RDid w B d (.int .i64 (append m f bs).1) (append m f bs).2) := by
  cases ho : m.off
  · by_cases h2 : f < 0 ∨ bs.length ≠ 512
    · rw [append_arg ho h2]
      exact rappend_arg w B d m f bs h ho hbl h2
    · have hf2 : 0 ≤ f ∧ f < 9223372036854775808 := ⟨by omega, hf⟩
      have hbs : bs.length = 512 := by omega
      by_cases h3 : m.room ≤ m.l.length
      · rw [append_full ho h2 (.inl h3)]
        exact rappend_full w B d m f bs h hB ho hf2 hbs h3
      · by_cases h4 : 200 ≤ (rows f m.l).length
        · rw [append_full ho h2 (.inr h4)]
          exact rappend_many w B d m f bs h hB ho hf2 hbs h3 h4
        · have h34 : ¬ (m.room ≤ m.l.length ∨ 200 ≤ (rows f m.l).length) := by rintro (h | h); exact h3 h; exact h4 h
          cases h5 : fails m
          · rw [append_ok ho h2 h34 h5]
            exact rappend_goes w B d m f bs h hB ho hf2 hbs h3 h4 hpl h5
          · rw [append_fails ho h2 h34 h5]
            exact rappend_fails w B d m f bs h hB ho hf2 hbs h3 h4 hpl h5
  · rw [append_off ho]
    exact rappend_off w B d m f bs h ho
end Go.Proofs.YtbomgglmplecpaaGreat.Disk
