/-
  The law's same: a disk has the files of the document's.
-/
import Derived.Test.YtdaknfepcbooeaaGreatMDiskD
import Derived.Test.YtdaknfepcbooeaaGreatMDiskE
import Derived.Test.YtdaknfepcbooeaaGreatMDiskRead
import Derived.BigQuiet
namespace Go.Proofs.YtdaknfepcbooeaaGreat.Sto
open Go.RowKit Go.Maps
open Go.Proofs.YtdaknfepcbooeaaGreat.Disk
set_option linter.unusedVariables false
set_option linter.unusedSimpArgs false

theorem Below.drewN' {B : Nat} {a w : World} (h : Below B a w) (n : Nat) : Below B a (w.drewN n) := h.trans ⟨rfl, rfl, rfl, Nat.le_refl _, fun _ _ => rfl⟩
theorem Below.kept {w V : World} (hb : Below w.heap.size w V) {a : Addr} {x : Value} (h : w.cell? a = some x) : V.cell? a = some x := (hb.cell (World.block_lt_of_cell? w a h)).trans h

set_option maxRecDepth 100000 in
set_option maxHeartbeats 4000000 in
theorem same7_off (w : World) (B d d2 : Nat) (m : M) (h : Dk w B d m) (hr : Fk w B d2 m) (ho : m.off = true) :
    Calls Tryz.prog 26 #[.pointer (some ⟨d, 0, none⟩), .pointer (some ⟨d2, 0, none⟩)] w fun r w' => r = .returned (.bool true) ∧ Below w.heap.size w w' := by
  obtain ⟨b, vs, kv, h⟩ := h
  have con := files_call w d b m.files vs (h.cel.cell 2) h.map h.inv.sorted h.inv.few
  have hfew := h.inv.few
  have H := Lib.hid h
  have HR := Lib.hid hr
  have HO := Lib.hid ho
  clear h hr ho
  go_enter Tryz.func26, Tryz.ntmps26
  go_wp2_with fail
  refine con.mono ?_
  clear con
  rintro e W ⟨A, c, rfl, hown, hbW⟩
  have hRW := HR.out.below hbW
  have hDW := H.out.below hbW
  obtain ⟨A2, c2, lv, kv2, left, hF⟩ := hRW
  have hr1 : ∀ V, From W V → V.cell? ⟨d2, 1, none⟩ = some (.slice A2 m.files.length c2) := fun V hV => (Cel.below hF.cel hV hF.cel.lt).cell 1
  have hr3 : ∀ V, From W V → V.cell? ⟨d2, 3, none⟩ = some (.bool true) := fun V hV => by rw [← HO.out]; exact (Cel.below hF.cel hV hF.cel.lt).cell 3
  have hon : ∀ V, From W V → V.cell? ⟨d, 1, none⟩ = some (.bool false) := fun V hV => by
    have := (Cel.below hDW.cel hV hDW.cel.lt).cell 1
    rw [HO.out] at this; exact this
  have hiA : Is W A m.files := Is.of_own hown
  have HIA := Lib.hid hiA
  have HIF := Lib.hid hF.files
  have HR1 := Lib.hid hr1
  have HR3 := Lib.hid hr3
  have HBW := Lib.hid hbW
  clear hown hF hDW hiA hbW
  go_wp2_with fail
  refine wp_region_held_drew (S := From W) (by kernel_rfl) (From.self _).drew (fun hH => ?_)
  refine wpAnyH_take (i := 0) (v := .slice A m.files.length c) rfl (by kernel_rfl) (by kernel_rfl) (by kernel_rfl) (fun _ _ _ h => h) (Or.inl ⟨by rfl, ?_⟩) hH ?_
  · intro V hV; go_simp
  try simp only [Act.put, List.setIfInBounds_toArray, List.set_cons_zero, List.set_cons_succ, List.getElem_toArray, List.getElem_cons_succ, List.getElem_cons_zero]
  refine wpAnyH_take (i := 1) (v := .int .i64 (m.files.length : Nat)) rfl (by kernel_rfl) (by kernel_rfl) (by kernel_rfl) (fun _ _ _ h => h) (Or.inl ⟨by rfl, ?_⟩) hH ?_
  · intro V hV; go_simp
  try simp only [Act.put, List.setIfInBounds_toArray, List.set_cons_zero, List.set_cons_succ, List.getElem_toArray, List.getElem_cons_succ, List.getElem_cons_zero]
  refine wpAnyH_take (i := 2) (v := .pointer (some ⟨d2, 0, none⟩)) rfl (by kernel_rfl) (by kernel_rfl) (by kernel_rfl) (fun _ _ _ h => h) (Or.inl ⟨by rfl, ?_⟩) hH ?_
  · intro V hV; go_simp
  try simp only [Act.put, List.setIfInBounds_toArray, List.set_cons_zero, List.set_cons_succ, List.getElem_toArray, List.getElem_cons_succ, List.getElem_cons_zero]
  refine wpAnyH_take (i := 3) (v := .pointer (some ⟨d2, 0, none⟩)) rfl (by kernel_rfl) (by kernel_rfl) (by kernel_rfl) (fun _ _ _ h => h) (Or.inl ⟨by rfl, ?_⟩) hH ?_
  · intro V hV; go_simp
  try simp only [Act.put, List.setIfInBounds_toArray, List.set_cons_zero, List.set_cons_succ, List.getElem_toArray, List.getElem_cons_succ, List.getElem_cons_zero]
  refine wpAnyH_take (i := 4) (v := .pointer (some ⟨d2, 1, none⟩)) rfl (by kernel_rfl) (by kernel_rfl) (by kernel_rfl) (fun _ _ _ h => h) (Or.inl ⟨by rfl, ?_⟩) hH ?_
  · intro V hV; go_simp
  try simp only [Act.put, List.setIfInBounds_toArray, List.set_cons_zero, List.set_cons_succ, List.getElem_toArray, List.getElem_cons_succ, List.getElem_cons_zero]
  refine wpAnyH_take (i := 5) (v := .slice A2 m.files.length c2) rfl (by kernel_rfl) (by kernel_rfl) (by kernel_rfl) (fun _ _ _ h => h) (Or.inl ⟨by rfl, ?_⟩) hH ?_
  · intro V hV; have k := hr1 V hV; go_simp
  try simp only [Act.put, List.setIfInBounds_toArray, List.set_cons_zero, List.set_cons_succ, List.getElem_toArray, List.getElem_cons_succ, List.getElem_cons_zero]
  refine wpAnyH_take (i := 6) (v := .int .i64 (m.files.length : Nat)) rfl (by kernel_rfl) (by kernel_rfl) (by kernel_rfl) (fun _ _ _ h => h) (Or.inl ⟨by rfl, ?_⟩) hH ?_
  · intro V hV; go_simp
  try simp only [Act.put, List.setIfInBounds_toArray, List.set_cons_zero, List.set_cons_succ, List.getElem_toArray, List.getElem_cons_succ, List.getElem_cons_zero]
  refine wpAnyH_take (i := 7) (v := .bool false) rfl (by kernel_rfl) (by kernel_rfl) (by kernel_rfl) (fun _ _ _ h => h) (Or.inl ⟨by rfl, ?_⟩) hH ?_
  · intro V hV; go_simp
  try simp only [Act.put, List.setIfInBounds_toArray, List.set_cons_zero, List.set_cons_succ, List.getElem_toArray, List.getElem_cons_succ, List.getElem_cons_zero]
  refine wpAnyH_take (i := 8) (v := .bool false) rfl (by kernel_rfl) (by kernel_rfl) (by kernel_rfl) (fun _ _ _ h => h) (Or.inl ⟨by rfl, ?_⟩) hH ?_
  · intro V hV; go_simp
  try simp only [Act.put, List.setIfInBounds_toArray, List.set_cons_zero, List.set_cons_succ, List.getElem_toArray, List.getElem_cons_succ, List.getElem_cons_zero]
  refine wpAnyH_take (i := 9) (v := .pointer (some ⟨d, 0, none⟩)) rfl (by kernel_rfl) (by kernel_rfl) (by kernel_rfl) (fun _ _ _ h => h) (Or.inl ⟨by rfl, ?_⟩) hH ?_
  · intro V hV; go_simp
  try simp only [Act.put, List.setIfInBounds_toArray, List.set_cons_zero, List.set_cons_succ, List.getElem_toArray, List.getElem_cons_succ, List.getElem_cons_zero]
  refine wpAnyH_take (i := 11) (v := .pointer (some ⟨d2, 0, none⟩)) rfl (by kernel_rfl) (by kernel_rfl) (by kernel_rfl) (fun _ _ _ h => h) (Or.inl ⟨by rfl, ?_⟩) hH ?_
  · intro V hV; go_simp
  try simp only [Act.put, List.setIfInBounds_toArray, List.set_cons_zero, List.set_cons_succ, List.getElem_toArray, List.getElem_cons_succ, List.getElem_cons_zero]
  refine wpAnyH_take (i := 12) (v := .pointer (some ⟨d2, 0, none⟩)) rfl (by kernel_rfl) (by kernel_rfl) (by kernel_rfl) (fun _ _ _ h => h) (Or.inl ⟨by rfl, ?_⟩) hH ?_
  · intro V hV; go_simp
  try simp only [Act.put, List.setIfInBounds_toArray, List.set_cons_zero, List.set_cons_succ, List.getElem_toArray, List.getElem_cons_succ, List.getElem_cons_zero]
  refine wpAnyH_take (i := 13) (v := .pointer (some ⟨d2, 3, none⟩)) rfl (by kernel_rfl) (by kernel_rfl) (by kernel_rfl) (fun _ _ _ h => h) (Or.inl ⟨by rfl, ?_⟩) hH ?_
  · intro V hV; go_simp
  try simp only [Act.put, List.setIfInBounds_toArray, List.set_cons_zero, List.set_cons_succ, List.getElem_toArray, List.getElem_cons_succ, List.getElem_cons_zero]
  refine wpAnyH_take (i := 14) (v := .bool true) rfl (by kernel_rfl) (by kernel_rfl) (by kernel_rfl) (fun _ _ _ h => h) (Or.inl ⟨by rfl, ?_⟩) hH ?_
  · intro V hV; have k := hr3 V hV; go_simp
  try simp only [Act.put, List.setIfInBounds_toArray, List.set_cons_zero, List.set_cons_succ, List.getElem_toArray, List.getElem_cons_succ, List.getElem_cons_zero]
  refine wpAnyH_ready (rs := [10]) (by kernel_rfl) (by simp) (AllReadyH.cons rfl (fun K hK => ?_) AllReadyH.nil)
  go_simp
  refine (on_cell _ d false (hon _ hH)).mono ?_
  rintro r w5 ⟨rfl, rfl⟩
  go_wp2_with fail
  refine hK.out _ _ (hH.call (Below.refl _ _)) (fun hH' => ?_)
  clear hK K hH
  have hH := hH'
  clear hH'
  try simp only [Act.put, List.setIfInBounds_toArray, List.set_cons_zero, List.set_cons_succ, List.getElem_toArray, List.getElem_cons_succ, List.getElem_cons_zero]
  refine wpAnyH_take (i := 15) (v := .bool false) rfl (by kernel_rfl) (by kernel_rfl) (by kernel_rfl) (fun _ _ _ h => h) (Or.inl ⟨by rfl, ?_⟩) hH ?_
  · intro V hV; go_simp
  try simp only [Act.put, List.setIfInBounds_toArray, List.set_cons_zero, List.set_cons_succ, List.getElem_toArray, List.getElem_cons_succ, List.getElem_cons_zero]
  refine wpAnyH_take (i := 16) (v := .bool false) rfl (by kernel_rfl) (by kernel_rfl) (by kernel_rfl) (fun _ _ _ h => h) (Or.inl ⟨by rfl, ?_⟩) hH ?_
  · intro V hV; go_simp
  try simp only [Act.put, List.setIfInBounds_toArray, List.set_cons_zero, List.set_cons_succ, List.getElem_toArray, List.getElem_cons_succ, List.getElem_cons_zero]
  refine wpAnyH_done (by kernel_rfl) ?_ _
  go_wp2_with fail
  clear hr1 hr3 hon
  have HH := Lib.hid hH
  clear hH
  go_loopw [6] (fun i wr => ∃ k : Nat, k ≤ m.files.length ∧ i = .int .i64 k ∧ Below W.heap.size W wr) (fun i _ => m.files.length - (Go.RowKit.intOf i).toNat)
  case atStart => exact ⟨0, Nat.zero_le _, rfl, HH.out⟩
  case round =>
    obtain ⟨k, hk, rfl, hbr⟩ := hrel
    have HBR := Lib.hid hbr
    by_cases hlt : k < m.files.length
    · obtain ⟨f, hf⟩ : ∃ f, m.files[k]? = some f := ⟨_, List.getElem?_eq_getElem hlt⟩
      obtain ⟨ad, hA, _, hcl⟩ := (HIA.out.below hbr) (by omega)
      obtain ⟨ad2, hA2, _, hcl2⟩ := (HIF.out.below hbr) (by omega)
      subst hA hA2
      have q1 := hcl k f hf
      have q2 := hcl2 k f hf
      have q3 := HR1.out _ hbr
      have q4 := HR3.out _ hbr
      clear hcl hcl2 hf hbr
      go_wp2_with fail
      go_quiet (fail)
      go_wp2_with fail
      go_roundw
      case rel => exact ⟨k + 1, by omega, by go_num, Below.drewN' HBR.out nq⟩
      case measure => simp [Go.RowKit.intOf]; omega
    · obtain rfl : k = m.files.length := by omega
      clear hbr hk
      go_wp2_with fail
      go_ret
      exact ⟨rfl, HBW.out.trans (HBR.out.mono HBW.out.size)⟩

set_option maxRecDepth 100000 in
set_option maxHeartbeats 6000000 in
theorem same7_on (w : World) (B d d2 : Nat) (m : M) (h : Dk w B d m) (hr : Fk w B d2 m) (ho : m.off = false) :
    Calls Tryz.prog 26 #[.pointer (some ⟨d, 0, none⟩), .pointer (some ⟨d2, 0, none⟩)] w fun r w' => r = .returned (.bool true) ∧ Below w.heap.size w w' := by
  obtain ⟨b, vs, kv, h⟩ := h
  have con := files_call w d b m.files vs (h.cel.cell 2) h.map h.inv.sorted h.inv.few
  have hfew := h.inv.few
  have H := Lib.hid h
  have HR := Lib.hid hr
  have HO := Lib.hid ho
  clear h hr ho
  go_enter Tryz.func26, Tryz.ntmps26
  go_wp2_with fail
  refine con.mono ?_
  clear con
  rintro e W ⟨A, c, rfl, hown, hbW⟩
  have hRW := HR.out.below hbW
  have hDW := H.out.below hbW
  obtain ⟨A2, c2, lv, kv2, left, hF⟩ := id hRW
  have hr1 : ∀ V, From W V → V.cell? ⟨d2, 1, none⟩ = some (.slice A2 m.files.length c2) := fun V hV => (Cel.below hF.cel hV hF.cel.lt).cell 1
  have hr3 : ∀ V, From W V → V.cell? ⟨d2, 3, none⟩ = some (.bool false) := fun V hV => by rw [← HO.out]; exact (Cel.below hF.cel hV hF.cel.lt).cell 3
  have hon : ∀ V, From W V → V.cell? ⟨d, 1, none⟩ = some (.bool true) := fun V hV => by
    have := (Cel.below hDW.cel hV hDW.cel.lt).cell 1
    rw [HO.out] at this; exact this
  have hiA : Is W A m.files := Is.of_own hown
  have HIA := Lib.hid hiA
  have HIF := Lib.hid hF.files
  have HR1 := Lib.hid hr1
  have HR3 := Lib.hid hr3
  have HBW := Lib.hid hbW
  have HDW := Lib.hid hDW
  have HRW := Lib.hid hRW
  clear hown hF hDW hiA hbW hRW
  go_wp2_with fail
  refine wp_region_held_drew (S := From W) (by kernel_rfl) (From.self _).drew (fun hH => ?_)
  refine wpAnyH_take (i := 0) (v := .slice A m.files.length c) rfl (by kernel_rfl) (by kernel_rfl) (by kernel_rfl) (fun _ _ _ h => h) (Or.inl ⟨by rfl, ?_⟩) hH ?_
  · intro V hV; go_simp
  try simp only [Act.put, List.setIfInBounds_toArray, List.set_cons_zero, List.set_cons_succ, List.getElem_toArray, List.getElem_cons_succ, List.getElem_cons_zero]
  refine wpAnyH_take (i := 1) (v := .int .i64 (m.files.length : Nat)) rfl (by kernel_rfl) (by kernel_rfl) (by kernel_rfl) (fun _ _ _ h => h) (Or.inl ⟨by rfl, ?_⟩) hH ?_
  · intro V hV; go_simp
  try simp only [Act.put, List.setIfInBounds_toArray, List.set_cons_zero, List.set_cons_succ, List.getElem_toArray, List.getElem_cons_succ, List.getElem_cons_zero]
  refine wpAnyH_take (i := 2) (v := .pointer (some ⟨d2, 0, none⟩)) rfl (by kernel_rfl) (by kernel_rfl) (by kernel_rfl) (fun _ _ _ h => h) (Or.inl ⟨by rfl, ?_⟩) hH ?_
  · intro V hV; go_simp
  try simp only [Act.put, List.setIfInBounds_toArray, List.set_cons_zero, List.set_cons_succ, List.getElem_toArray, List.getElem_cons_succ, List.getElem_cons_zero]
  refine wpAnyH_take (i := 3) (v := .pointer (some ⟨d2, 0, none⟩)) rfl (by kernel_rfl) (by kernel_rfl) (by kernel_rfl) (fun _ _ _ h => h) (Or.inl ⟨by rfl, ?_⟩) hH ?_
  · intro V hV; go_simp
  try simp only [Act.put, List.setIfInBounds_toArray, List.set_cons_zero, List.set_cons_succ, List.getElem_toArray, List.getElem_cons_succ, List.getElem_cons_zero]
  refine wpAnyH_take (i := 4) (v := .pointer (some ⟨d2, 1, none⟩)) rfl (by kernel_rfl) (by kernel_rfl) (by kernel_rfl) (fun _ _ _ h => h) (Or.inl ⟨by rfl, ?_⟩) hH ?_
  · intro V hV; go_simp
  try simp only [Act.put, List.setIfInBounds_toArray, List.set_cons_zero, List.set_cons_succ, List.getElem_toArray, List.getElem_cons_succ, List.getElem_cons_zero]
  refine wpAnyH_take (i := 5) (v := .slice A2 m.files.length c2) rfl (by kernel_rfl) (by kernel_rfl) (by kernel_rfl) (fun _ _ _ h => h) (Or.inl ⟨by rfl, ?_⟩) hH ?_
  · intro V hV; have k := hr1 V hV; go_simp
  try simp only [Act.put, List.setIfInBounds_toArray, List.set_cons_zero, List.set_cons_succ, List.getElem_toArray, List.getElem_cons_succ, List.getElem_cons_zero]
  refine wpAnyH_take (i := 6) (v := .int .i64 (m.files.length : Nat)) rfl (by kernel_rfl) (by kernel_rfl) (by kernel_rfl) (fun _ _ _ h => h) (Or.inl ⟨by rfl, ?_⟩) hH ?_
  · intro V hV; go_simp
  try simp only [Act.put, List.setIfInBounds_toArray, List.set_cons_zero, List.set_cons_succ, List.getElem_toArray, List.getElem_cons_succ, List.getElem_cons_zero]
  refine wpAnyH_take (i := 7) (v := .bool false) rfl (by kernel_rfl) (by kernel_rfl) (by kernel_rfl) (fun _ _ _ h => h) (Or.inl ⟨by rfl, ?_⟩) hH ?_
  · intro V hV; go_simp
  try simp only [Act.put, List.setIfInBounds_toArray, List.set_cons_zero, List.set_cons_succ, List.getElem_toArray, List.getElem_cons_succ, List.getElem_cons_zero]
  refine wpAnyH_take (i := 8) (v := .bool false) rfl (by kernel_rfl) (by kernel_rfl) (by kernel_rfl) (fun _ _ _ h => h) (Or.inl ⟨by rfl, ?_⟩) hH ?_
  · intro V hV; go_simp
  try simp only [Act.put, List.setIfInBounds_toArray, List.set_cons_zero, List.set_cons_succ, List.getElem_toArray, List.getElem_cons_succ, List.getElem_cons_zero]
  refine wpAnyH_take (i := 9) (v := .pointer (some ⟨d, 0, none⟩)) rfl (by kernel_rfl) (by kernel_rfl) (by kernel_rfl) (fun _ _ _ h => h) (Or.inl ⟨by rfl, ?_⟩) hH ?_
  · intro V hV; go_simp
  try simp only [Act.put, List.setIfInBounds_toArray, List.set_cons_zero, List.set_cons_succ, List.getElem_toArray, List.getElem_cons_succ, List.getElem_cons_zero]
  refine wpAnyH_take (i := 11) (v := .pointer (some ⟨d2, 0, none⟩)) rfl (by kernel_rfl) (by kernel_rfl) (by kernel_rfl) (fun _ _ _ h => h) (Or.inl ⟨by rfl, ?_⟩) hH ?_
  · intro V hV; go_simp
  try simp only [Act.put, List.setIfInBounds_toArray, List.set_cons_zero, List.set_cons_succ, List.getElem_toArray, List.getElem_cons_succ, List.getElem_cons_zero]
  refine wpAnyH_take (i := 12) (v := .pointer (some ⟨d2, 0, none⟩)) rfl (by kernel_rfl) (by kernel_rfl) (by kernel_rfl) (fun _ _ _ h => h) (Or.inl ⟨by rfl, ?_⟩) hH ?_
  · intro V hV; go_simp
  try simp only [Act.put, List.setIfInBounds_toArray, List.set_cons_zero, List.set_cons_succ, List.getElem_toArray, List.getElem_cons_succ, List.getElem_cons_zero]
  refine wpAnyH_take (i := 13) (v := .pointer (some ⟨d2, 3, none⟩)) rfl (by kernel_rfl) (by kernel_rfl) (by kernel_rfl) (fun _ _ _ h => h) (Or.inl ⟨by rfl, ?_⟩) hH ?_
  · intro V hV; go_simp
  try simp only [Act.put, List.setIfInBounds_toArray, List.set_cons_zero, List.set_cons_succ, List.getElem_toArray, List.getElem_cons_succ, List.getElem_cons_zero]
  refine wpAnyH_take (i := 14) (v := .bool false) rfl (by kernel_rfl) (by kernel_rfl) (by kernel_rfl) (fun _ _ _ h => h) (Or.inl ⟨by rfl, ?_⟩) hH ?_
  · intro V hV; have k := hr3 V hV; go_simp
  try simp only [Act.put, List.setIfInBounds_toArray, List.set_cons_zero, List.set_cons_succ, List.getElem_toArray, List.getElem_cons_succ, List.getElem_cons_zero]
  refine wpAnyH_ready (rs := [10]) (by kernel_rfl) (by simp) (AllReadyH.cons rfl (fun K hK => ?_) AllReadyH.nil)
  go_simp
  refine (on_cell _ d true (hon _ hH)).mono ?_
  rintro r w5 ⟨rfl, rfl⟩
  go_wp2_with fail
  refine hK.out _ _ (hH.call (Below.refl _ _)) (fun hH' => ?_)
  clear hK K hH
  have hH := hH'
  clear hH'
  try simp only [Act.put, List.setIfInBounds_toArray, List.set_cons_zero, List.set_cons_succ, List.getElem_toArray, List.getElem_cons_succ, List.getElem_cons_zero]
  refine wpAnyH_take (i := 15) (v := .bool false) rfl (by kernel_rfl) (by kernel_rfl) (by kernel_rfl) (fun _ _ _ h => h) (Or.inl ⟨by rfl, ?_⟩) hH ?_
  · intro V hV; go_simp
  try simp only [Act.put, List.setIfInBounds_toArray, List.set_cons_zero, List.set_cons_succ, List.getElem_toArray, List.getElem_cons_succ, List.getElem_cons_zero]
  refine wpAnyH_take (i := 16) (v := .bool false) rfl (by kernel_rfl) (by kernel_rfl) (by kernel_rfl) (fun _ _ _ h => h) (Or.inl ⟨by rfl, ?_⟩) hH ?_
  · intro V hV; go_simp
  try simp only [Act.put, List.setIfInBounds_toArray, List.set_cons_zero, List.set_cons_succ, List.getElem_toArray, List.getElem_cons_succ, List.getElem_cons_zero]
  refine wpAnyH_done (by kernel_rfl) ?_ _
  go_wp2_with fail
  clear hr1 hr3 hon
  have HH := Lib.hid hH
  clear hH
  go_loopw [6] (fun i wr => ∃ k : Nat, k ≤ m.files.length ∧ i = .int .i64 k ∧ Below W.heap.size W wr) (fun i _ => m.files.length - (Go.RowKit.intOf i).toNat)
  case atStart => exact ⟨0, Nat.zero_le _, rfl, HH.out⟩
  case round =>
    obtain ⟨k, hk, rfl, hbr⟩ := hrel
    have HBR := Lib.hid hbr
    by_cases hlt : k < m.files.length
    · obtain ⟨f, hf⟩ : ∃ f, m.files[k]? = some f := ⟨_, List.getElem?_eq_getElem hlt⟩
      obtain ⟨ad, hA, _, hcl⟩ := (HIA.out.below hbr) (by omega)
      obtain ⟨ad2, hA2, _, hcl2⟩ := (HIF.out.below hbr) (by omega)
      subst hA hA2
      have q1 := hcl k f hf
      have q2 := hcl2 k f hf
      have q3 := HR1.out _ hbr
      have q4 := HR3.out _ hbr
      have hfm : f ∈ m.files := List.mem_of_getElem? hf
      have hfit := H.out.inv.fit f hfm
      have hth : there m f = 0 := by unfold there; rw [HO.out]; simp [hfm]
      have HTH := Lib.hid hth
      have HFM := Lib.hid hfm
      have HFIT := Lib.hid hfit
      clear hcl hcl2 hf hbr hfm hth hfit
      obtain ⟨wo, rfl⟩ : ∃ wo : World, wo = wr := ⟨_, rfl⟩
      go_wp2_with fail
      go_quiet (fail)
      have hbq : Below W.heap.size W (wo.drewN nq) := Below.drewN' HBR.out nq
      have hd1 : Dk (wo.drewN nq) B d m := ⟨_, _, _, HDW.out.below hbq⟩
      have con := read_ok (wo.drewN nq) B d m f HFIT.out hd1 HTH.out
      have HBQ := Lib.hid hbq
      clear hd1 hbq
      go_wp2_with fail
      refine con.mono ?_
      clear con
      rintro e w3 ⟨v, rfl, hrs, hb3⟩
      have q5 : w3.cell? (ad.add k) = some (.int .i64 f) := Below.kept (w := wo.drewN nq) hb3 q1
      have hb3' : Below W.heap.size W w3 := HBQ.out.trans (hb3.mono HBQ.out.size)
      have con2 := rread_ok w3 B d2 m f (HRW.out.below hb3')
      have hr512 := H.out.inv.r512 f
      have hrl := H.out.inv.rows_le f
      obtain ⟨us, hu1, hu2, hu3⟩ := hrs
      rw [List.length_map] at hu1 hu2
      obtain ⟨n, hn⟩ : ∃ n, n = (rows f m.l).length := ⟨_, rfl⟩
      rw [← hn] at hu1 hu2 hrl con2
      obtain ⟨gA, gc, hv⟩ := own_slice _ hu1
      subst hv
      have HN := Lib.hid hn
      have HU1 := Lib.hid hu1
      have HU2 := Lib.hid hu2
      have HU3 := Lib.hid hu3
      have HB3 := Lib.hid hb3'
      have H512 := Lib.hid hr512
      clear hn hu1 hu2 hu3 hb3 hb3' hr512 q1 q2 q3 q4
      go_wp2_with fail
      refine con2.mono ?_
      clear con2
      rintro e w5 ⟨wA, wc, rfl, hst, hb5⟩
      have hb5' : Below W.heap.size W w5 := HB3.out.trans (hb5.mono HB3.out.size)
      have HST := Lib.hid hst
      have HB5 := Lib.hid hb5
      have HBB := Lib.hid hb5'
      clear hst hb5 hb5' q5
      go_wp2_with fail
      go_loopw [10] (fun i wi => ∃ j : Nat, j ≤ n ∧ i = .int .i64 j ∧ Below w5.heap.size w5 wi) (fun i _ => n - (Go.RowKit.intOf i).toNat)
      case atStart => exact ⟨0, Nat.zero_le _, rfl, Below.refl _ _⟩
      case round =>
        obtain ⟨j, hj, rfl, hbi⟩ := hrel
        have HBI := Lib.hid hbi
        by_cases hjt : j < n
        · obtain ⟨x, hx⟩ : ∃ x, (rows f m.l)[j]? = some x := ⟨_, List.getElem?_eq_getElem (by rw [← HN.out]; exact hjt)⟩
          have hx5 : x.b.length = 512 := H512.out x (List.mem_of_getElem? hx)
          have hxm : ((rows f m.l).map Sc.b)[j]? = some x.b := by rw [List.getElem?_map, hx]; rfl
          obtain ⟨Ax, cx, ex, hyx⟩ := HU3.out j x.b hxm
          rw [hx5] at ex hyx
          obtain ⟨g, hg⟩ : ∃ g, gA = some ⟨g, 0, none⟩ := by
            rcases HU1.out.2 with ⟨_, h⟩ | ⟨g, cap, cur, e, _⟩
            · omega
            · injection e with e1; exact ⟨g, e1⟩
          obtain ⟨gw, hgw⟩ : ∃ gw, wA = some ⟨gw, 0, none⟩ := by
            rcases HST.out.2 with ⟨_, h⟩ | ⟨g, cap, cur, e, _⟩
            · rw [List.length_map, ← HN.out] at h; omega
            · injection e with e1; exact ⟨g, e1⟩
          subst hg hgw
          have p1 : w3.cell? ⟨g, j, none⟩ = some (.slice Ax 512 cx) := by
            have := World.ownsRow.cells HU1.out (g := g) rfl j _ ex
            rwa [Addr.add_lit, Nat.zero_add] at this
          have p2 : w5.cell? ⟨gw, j, none⟩ = some (.string (str x.b)) := by
            have := World.ownsRow.cells HST.out (g := gw) rfl j (.string (str x.b)) (by rw [List.getElem?_map, hxm]; rfl)
            rwa [Addr.add_lit, Nat.zero_add] at this
          have hbr5 : ∀ V, From wr V → Below w5.heap.size w5 V := fun V hV => HBI.out.trans (Below.mono hV HBI.out.size)
          have hbr3 : ∀ V, From wr V → Below w3.heap.size w3 V := fun V hV => HB5.out.trans ((hbr5 V hV).mono HB5.out.size)
          have hu : ∀ V, From wr V → V.cell? ⟨g, j, none⟩ = some (.slice Ax 512 cx) := fun V hV => Below.kept (hbr3 V hV) p1
          have hs : ∀ V, From wr V → V.cell? ⟨gw, j, none⟩ = some (.string (str x.b)) := fun V hV => Below.kept (hbr5 V hV) p2
          have hq : ∀ V, From wr V → (convert 44 9 (.slice Ax 512 cx)).run Tryz.prog V = .ok (.string (str x.b)) V := fun V hV => toStr (hyx.below (hbr3 V hV)).rd cx
          clear hx hx5 hxm ex hyx p1 p2 hbr5 hbr3 hbi
          go_wp2_with fail
          refine wp_region_held_drew (S := From wr) (by kernel_rfl) (From.self _).drew (fun hH => ?_)
          refine wpAnyH_take (i := 0) (v := .slice (some ⟨g, 0, none⟩) n gc) rfl (by kernel_rfl) (by kernel_rfl) (by kernel_rfl) (fun _ _ _ h => h) (Or.inl ⟨by rfl, ?_⟩) hH ?_
          · intro V hV; go_simp
          try simp only [Act.put, List.setIfInBounds_toArray, List.set_cons_zero, List.set_cons_succ, List.getElem_toArray, List.getElem_cons_succ, List.getElem_cons_zero]
          refine wpAnyH_take (i := 1) (v := .int .i64 (j : Nat)) rfl (by kernel_rfl) (by kernel_rfl) (by kernel_rfl) (fun _ _ _ h => h) (Or.inl ⟨by rfl, ?_⟩) hH ?_
          · intro V hV; go_simp
          try simp only [Act.put, List.setIfInBounds_toArray, List.set_cons_zero, List.set_cons_succ, List.getElem_toArray, List.getElem_cons_succ, List.getElem_cons_zero]
          refine wpAnyH_take (i := 2) (v := .pointer (some ⟨g, j, none⟩)) rfl (by kernel_rfl) (by kernel_rfl) (by kernel_rfl) (fun _ _ _ h => h) (Or.inl ⟨by rfl, ?_⟩) hH ?_
          · intro V hV; go_simp
          try simp only [Act.put, List.setIfInBounds_toArray, List.set_cons_zero, List.set_cons_succ, List.getElem_toArray, List.getElem_cons_succ, List.getElem_cons_zero]
          refine wpAnyH_take (i := 3) (v := .slice Ax 512 cx) rfl (by kernel_rfl) (by kernel_rfl) (by kernel_rfl) (fun _ _ _ h => h) (Or.inl ⟨by rfl, ?_⟩) hH ?_
          · intro V hV; have k := hu V hV; go_simp
          try simp only [Act.put, List.setIfInBounds_toArray, List.set_cons_zero, List.set_cons_succ, List.getElem_toArray, List.getElem_cons_succ, List.getElem_cons_zero]
          refine wpAnyH_take (i := 4) (v := .string (str x.b)) rfl (by kernel_rfl) (by kernel_rfl) (by kernel_rfl) (fun _ _ _ h => h) (Or.inl ⟨by rfl, ?_⟩) hH ?_
          · intro V hV; have k := hq V hV; go_simp
          try simp only [Act.put, List.setIfInBounds_toArray, List.set_cons_zero, List.set_cons_succ, List.getElem_toArray, List.getElem_cons_succ, List.getElem_cons_zero]
          refine wpAnyH_take (i := 5) (v := .slice (some ⟨gw, 0, none⟩) n wc) rfl (by kernel_rfl) (by kernel_rfl) (by kernel_rfl) (fun _ _ _ h => h) (Or.inl ⟨by rfl, ?_⟩) hH ?_
          · intro V hV; go_simp
          try simp only [Act.put, List.setIfInBounds_toArray, List.set_cons_zero, List.set_cons_succ, List.getElem_toArray, List.getElem_cons_succ, List.getElem_cons_zero]
          refine wpAnyH_take (i := 6) (v := .int .i64 (j : Nat)) rfl (by kernel_rfl) (by kernel_rfl) (by kernel_rfl) (fun _ _ _ h => h) (Or.inl ⟨by rfl, ?_⟩) hH ?_
          · intro V hV; go_simp
          try simp only [Act.put, List.setIfInBounds_toArray, List.set_cons_zero, List.set_cons_succ, List.getElem_toArray, List.getElem_cons_succ, List.getElem_cons_zero]
          refine wpAnyH_take (i := 7) (v := .pointer (some ⟨gw, j, none⟩)) rfl (by kernel_rfl) (by kernel_rfl) (by kernel_rfl) (fun _ _ _ h => h) (Or.inl ⟨by rfl, ?_⟩) hH ?_
          · intro V hV; go_simp
          try simp only [Act.put, List.setIfInBounds_toArray, List.set_cons_zero, List.set_cons_succ, List.getElem_toArray, List.getElem_cons_succ, List.getElem_cons_zero]
          refine wpAnyH_take (i := 8) (v := .string (str x.b)) rfl (by kernel_rfl) (by kernel_rfl) (by kernel_rfl) (fun _ _ _ h => h) (Or.inl ⟨by rfl, ?_⟩) hH ?_
          · intro V hV; have k := hs V hV; go_simp
          try simp only [Act.put, List.setIfInBounds_toArray, List.set_cons_zero, List.set_cons_succ, List.getElem_toArray, List.getElem_cons_succ, List.getElem_cons_zero]
          refine wpAnyH_take (i := 9) (v := .bool false) rfl (by kernel_rfl) (by kernel_rfl) (by kernel_rfl) (fun _ _ _ h => h) (Or.inl ⟨by rfl, ?_⟩) hH ?_
          · intro V hV; go_simp
          try simp only [Act.put, List.setIfInBounds_toArray, List.set_cons_zero, List.set_cons_succ, List.getElem_toArray, List.getElem_cons_succ, List.getElem_cons_zero]
          refine wpAnyH_done (by kernel_rfl) ?_ _
          clear hu hs hq
          go_wp2_with fail
          go_roundw
          case rel => exact ⟨j + 1, by omega, by go_num, HBI.out.trans (Below.mono hH HBI.out.size)⟩
          case measure => simp [Go.RowKit.intOf]; omega
        · obtain rfl : j = n := by omega
          clear hbi hj
          go_wp2_with fail
          go_roundw
          case rel => exact ⟨k + 1, by omega, by go_num, HBB.out.trans (HBI.out.mono HBB.out.size)⟩
          case measure => simp [Go.RowKit.intOf]; omega
    · obtain rfl : k = m.files.length := by omega
      clear hbr hk
      go_wp2_with fail
      go_ret
      exact ⟨rfl, HBW.out.trans (HBR.out.mono HBW.out.size)⟩
theorem same7_ok (w : World) (B d d2 : Nat) (m : M) (h : Dk w B d m) (hr : Fk w B d2 m) :
    Calls Tryz.prog 26 #[.pointer (some ⟨d, 0, none⟩), .pointer (some ⟨d2, 0, none⟩)] w fun r w' => r = .returned (.bool true) ∧ Below w.heap.size w w' := by
  cases ho : m.off
  · exact same7_on w B d d2 m h hr ho
  · exact same7_off w B d d2 m h hr ho
end Go.Proofs.YtdaknfepcbooeaaGreat.Sto
