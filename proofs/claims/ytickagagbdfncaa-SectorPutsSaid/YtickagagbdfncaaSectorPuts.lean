/-
  The walk of davitlaw03.SectorPuts: it answers true, whatever comes in. (Written out by wip/tools/gen_puts.py.)
-/
import Derived.Test.YtickagagbdfncaaSectorKnows
namespace Go.Proofs.Ytickagagbdfncaa.Sector
open Go.RowKit Go.Proofs.Ytickagagbdfncaa.Pack
set_option linter.unusedVariables false
set_option linter.unusedSimpArgs false

set_option maxRecDepth 100000 in
set_option maxHeartbeats 1000000 in
theorem puts_long (p : Pt) (A : Option Addr) (n c : Nat) (w : World) (hn : 600 < n) : Calls Try.prog 3 #[partV p.epoch p.seq p.flags A n c] w fun r w' => r = .returned (.bool true) ∧ Below w.heap.size w w' := by
  have d1 : decide ((600 : Int) < (n : Int)) = true := by simp; omega
  go_enter Try.func3, Try.ntmps3
  go_wp2_with fail
  refine (knows _).mono ?_
  rintro r w1 ⟨rfl, hb⟩
  go_wp2_with fail
  go_ret
  exact ⟨rfl, ((Below.refl _ _).alloc (Nat.le_refl _) _).trans (hb.mono (by simp))⟩

set_option maxRecDepth 100000 in
set_option maxHeartbeats 1000000 in
theorem puts_not (p : Pt) (A : Option Addr) (n c : Nat) (w : World) (hn : n ≤ 600) (hm : mayB p.flags n = false) : Calls Try.prog 3 #[partV p.epoch p.seq p.flags A n c] w fun r w' => r = .returned (.bool true) ∧ Below w.heap.size w w' := by
  have d1 : decide ((600 : Int) < (n : Int)) = false := by simp; omega
  have HM := Lib.hid hm
  clear hm
  have C0 := Lib.hid (Cel.new w 25 [v32 p.epoch, v32 p.seq, .int .i64 p.flags, .slice A n c])
  go_enter Try.func3, Try.ntmps3
  go_wp2_with fail
  refine (put_no p A n c _ HM.out).mono ?_
  rintro r w1 ⟨rfl, hb1⟩
  have hc := C0.out.below hb1 (by simp)
  have k0 := hc.cell 0
  have k1 := hc.cell 1
  have k2 := hc.cell 2
  have k3 := hc.cell 3
  have HB1 := Lib.hid (((Below.refl w.heap.size w).alloc (Nat.le_refl _) (.cells #[v32 p.epoch, v32 p.seq, .int .i64 p.flags, .slice A n c] 25)).trans (hb1.mono (by simp)))
  clear hc hb1
  go_wp2_with fail
  refine (as_walk p.epoch p.seq p.flags A n c _).mono ?_
  rintro r w2 ⟨rfl, hb2⟩
  go_wp2_with fail
  refine (may_no _ _ _ _ _ _ _ HM.out).mono ?_
  rintro r w3 ⟨rfl, hb3⟩
  go_wp2_with fail
  refine (knows _).mono ?_
  rintro r w4 ⟨rfl, hb4⟩
  go_wp2_with fail
  go_ret
  have h2 := HB1.out.trans (hb2.mono HB1.out.size)
  have h3 := h2.trans (hb3.mono h2.size)
  exact ⟨rfl, h3.trans (hb4.mono h3.size)⟩

set_option maxRecDepth 100000 in
set_option maxHeartbeats 2000000 in
theorem puts_yes (p : Pt) (A : Option Addr) (n c : Nat) (w : World) (h : Lo w A n p.body) (hm : p.may = true) : Calls Try.prog 3 #[partV p.epoch p.seq p.flags A n c] w fun r w' => r = .returned (.bool true) ∧ Below w.heap.size w w' := by
  have d1 : decide ((600 : Int) < (n : Int)) = false := by have := may_body hm; rw [h.len] at this; simp; omega
  have hmb : mayB p.flags n = true := by rw [← h.len]; exact hm
  have H := Lib.hid h
  have HM := Lib.hid hm
  have HMB := Lib.hid hmb
  clear h hm hmb
  have C0 := Lib.hid (Cel.new w 25 [v32 p.epoch, v32 p.seq, .int .i64 p.flags, .slice A n c])
  have L0 := Lib.hid (Lo.alloc (.cells #[v32 p.epoch, v32 p.seq, .int .i64 p.flags, .slice A n c] 25) H.out)
  go_enter Try.func3, Try.ntmps3
  go_wp2_with fail
  refine (put_yes p _ A n c _ L0.out (Nat.le_refl _) HM.out).mono ?_
  rintro r w1 ⟨g, rfl, _, hc1, hb1⟩
  have C1 := Lib.hid (C0.out.below hb1 (by simp))
  have L1 := Lib.hid (Lo.call hb1 L0.out)
  have G1 := Lib.hid (show Lo w1 (some ⟨g, 0, none⟩) 512 (sec p) from Cel.bs hc1 hc1.lt (by rw [sec_length HM.out]; exact Nat.le_refl _) (List.take_of_length_le (by rw [sec_length HM.out]; exact Nat.le_refl _)))
  have HB1 := Lib.hid (((Below.refl w.heap.size w).alloc (Nat.le_refl _) (.cells #[v32 p.epoch, v32 p.seq, .int .i64 p.flags, .slice A n c] 25)).trans (hb1.mono (by simp)))
  have k0 := C1.out.cell 0
  have k1 := C1.out.cell 1
  have k2 := C1.out.cell 2
  have k3 := C1.out.cell 3
  clear hc1 hb1 L0 C0
  go_wp2_with fail
  refine (as_walk p.epoch p.seq p.flags A n c _).mono ?_
  rintro r w2 ⟨rfl, hb2⟩
  go_wp2_with fail
  refine (may_yes _ _ _ _ _ _ _ HMB.out).mono ?_
  rintro r w3 ⟨rfl, hb3⟩
  have hF13 : From w1 w3 := (From.self w1).call hb2 |>.call hb3
  have F13 := Lib.hid hF13
  clear hb2 hb3 hF13 k0 k1 k2 k3
  go_wp2_with fail
  refine (get_yes w3.heap.size _ 512 512 (sec p) _ (Lo.call F13.out G1.out) (Nat.le_refl _) p (get_sec p HM.out)).mono ?_
  rintro r w4 ⟨A4, c4, rfl, ho4, hb4⟩
  have F14 := Lib.hid (From.alloc (.cells #[v32 p.epoch, v32 p.seq, .int .i64 p.flags, .slice A4 p.body.length c4] 25) (From.call hb4 F13.out))
  have E1 := Lib.hid (Cel.below C1.out F14.out C1.out.lt)
  have E2 := Lib.hid (Cel.new w4 25 [v32 p.epoch, v32 p.seq, .int .i64 p.flags, .slice A4 p.body.length c4])
  have G4 := Lib.hid (Lo.call F14.out G1.out)
  have L4 := Lib.hid (Lo.call F14.out L1.out)
  have D4 := Lib.hid (Lo.alloc (.cells #[v32 p.epoch, v32 p.seq, .int .i64 p.flags, .slice A4 p.body.length c4] 25) (Lo.own ho4))
  have HB4 := Lib.hid (HB1.out.trans (Below.mono F14.out HB1.out.size))
  have ht1 := E1.out.lt
  have ht2 := E2.out.lt
  clear ho4 hb4 C1 L1 G1 F13 HB1
  go_wp2_with fail
  generalize w4.alloc (.cells #[v32 p.epoch, v32 p.seq, .int .i64 p.flags, .slice A4 p.body.length c4] 25) = W at *
  generalize w4.heap.size = v4 at *
  generalize hs : sec p = sc at *
  have HS := Lib.hid hs
  clear hs
  refine wp_region_held_drew (S := From W) (by kernel_rfl) (From.self _).drew (fun hH => ?_)
  refine wpAnyH_take (i := 0) (v := .slice (some ⟨g, 0, none⟩) 512 512) rfl (by kernel_rfl) (by kernel_rfl) (by kernel_rfl) (fun _ _ _ h => h) (Or.inl ⟨by rfl, ?_⟩) hH ?_
  · intro V hV; go_simp
  try simp only [Act.put, List.setIfInBounds_toArray, List.set_cons_zero, List.set_cons_succ, List.getElem_toArray, List.getElem_cons_succ, List.getElem_cons_zero]
  refine wpAnyH_take (i := 1) (v := .string (str sc)) rfl (by kernel_rfl) (by kernel_rfl) (by kernel_rfl) (fun _ _ _ h => h) (Or.inl ⟨by rfl, ?_⟩) hH ?_
  · intro V hV; have q := toStr (Bs.bp (Lo.call hV G4.out)) 512; go_simp
  try simp only [Act.put, List.setIfInBounds_toArray, List.set_cons_zero, List.set_cons_succ, List.getElem_toArray, List.getElem_cons_succ, List.getElem_cons_zero]
  refine wpAnyH_take (i := 2) (v := partV p.epoch p.seq p.flags A n c) rfl (by kernel_rfl) (by kernel_rfl) (by kernel_rfl) (fun _ _ _ h => h) (Or.inl ⟨by rfl, ?_⟩) hH ?_
  · intro V hV; have hc := Cel.below E1.out hV ht1; have k0 := hc.cell 0; have k1 := hc.cell 1; have k2 := hc.cell 2; have k3 := hc.cell 3; clear hc; go_simp
  try simp only [Act.put, List.setIfInBounds_toArray, List.set_cons_zero, List.set_cons_succ, List.getElem_toArray, List.getElem_cons_succ, List.getElem_cons_zero]
  refine wpAnyH_ready (rs := [3]) (by kernel_rfl) (by simp) (AllReadyH.cons rfl (fun K hK => ?_) AllReadyH.nil)
  go_simp
  refine (as_walk p.epoch p.seq p.flags A n c _).mono ?_
  rintro r w5 ⟨rfl, hb5⟩
  go_wp2_with fail
  refine hK.out _ _ (hH.call hb5) (fun hH' => ?_)
  have F5 := Lib.hid hH'
  clear hK K hH
  have hH := hH'
  clear hH'
  try simp only [Act.put, List.setIfInBounds_toArray, List.set_cons_zero, List.set_cons_succ, List.getElem_toArray, List.getElem_cons_succ, List.getElem_cons_zero]
  refine wpAnyH_ready (rs := [4]) (by kernel_rfl) (by simp) (AllReadyH.cons rfl (fun K hK => ?_) AllReadyH.nil)
  go_simp
  refine (refPut p w5.heap.size A n c _ (Lo.call F5.out L4.out) (Nat.le_refl _) HM.out).mono ?_
  rintro r w6 ⟨A6, c6, rfl, ho6, hb6⟩
  go_wp2_with fail
  refine hK.out _ _ (hH.call hb6) (fun hH' => ?_)
  rw [HS.out] at ho6
  have q6 := toStr (Own.bp ho6) c6
  clear ho6
  clear hK K hH
  have hH := hH'
  clear hH'
  try simp only [Act.put, List.setIfInBounds_toArray, List.set_cons_zero, List.set_cons_succ, List.getElem_toArray, List.getElem_cons_succ, List.getElem_cons_zero]
  refine wpAnyH_ready (rs := [5]) (by kernel_rfl) (by simp) (AllReadyH.cons rfl (fun K hK => ?_) AllReadyH.nil)
  go_simp
  refine hK.out _ _ hH (fun hH' => ?_)
  clear hK K hH
  have hH := hH'
  clear hH'
  try simp only [Act.put, List.setIfInBounds_toArray, List.set_cons_zero, List.set_cons_succ, List.getElem_toArray, List.getElem_cons_succ, List.getElem_cons_zero]
  clear q6
  refine wpAnyH_take (i := 6) (v := .bool true) rfl (by kernel_rfl) (by kernel_rfl) (by kernel_rfl) (fun _ _ _ h => h) (Or.inl ⟨by rfl, ?_⟩) hH ?_
  · intro V hV; go_simp
  try simp only [Act.put, List.setIfInBounds_toArray, List.set_cons_zero, List.set_cons_succ, List.getElem_toArray, List.getElem_cons_succ, List.getElem_cons_zero]
  refine wpAnyH_take (i := 7) (v := .bool true) rfl (by kernel_rfl) (by kernel_rfl) (by kernel_rfl) (fun _ _ _ h => h) (Or.inl ⟨by rfl, ?_⟩) hH ?_
  · intro V hV; go_simp
  try simp only [Act.put, List.setIfInBounds_toArray, List.set_cons_zero, List.set_cons_succ, List.getElem_toArray, List.getElem_cons_succ, List.getElem_cons_zero]
  refine wpAnyH_take (i := 8) (v := .int .i64 0) rfl (by kernel_rfl) (by kernel_rfl) (by kernel_rfl) (fun _ _ _ h => h) (Or.inl ⟨by rfl, ?_⟩) hH ?_
  · intro V hV; go_simp
  try simp only [Act.put, List.setIfInBounds_toArray, List.set_cons_zero, List.set_cons_succ, List.getElem_toArray, List.getElem_cons_succ, List.getElem_cons_zero]
  refine wpAnyH_take (i := 9) (v := .bool true) rfl (by kernel_rfl) (by kernel_rfl) (by kernel_rfl) (fun _ _ _ h => h) (Or.inl ⟨by rfl, ?_⟩) hH ?_
  · intro V hV; go_simp
  try simp only [Act.put, List.setIfInBounds_toArray, List.set_cons_zero, List.set_cons_succ, List.getElem_toArray, List.getElem_cons_succ, List.getElem_cons_zero]
  refine wpAnyH_take (i := 10) (v := .bool true) rfl (by kernel_rfl) (by kernel_rfl) (by kernel_rfl) (fun _ _ _ h => h) (Or.inl ⟨by rfl, ?_⟩) hH ?_
  · intro V hV; go_simp
  try simp only [Act.put, List.setIfInBounds_toArray, List.set_cons_zero, List.set_cons_succ, List.getElem_toArray, List.getElem_cons_succ, List.getElem_cons_zero]
  refine wpAnyH_take (i := 11) (v := .bool true) rfl (by kernel_rfl) (by kernel_rfl) (by kernel_rfl) (fun _ _ _ h => h) (Or.inl ⟨by rfl, ?_⟩) hH ?_
  · intro V hV; go_simp
  try simp only [Act.put, List.setIfInBounds_toArray, List.set_cons_zero, List.set_cons_succ, List.getElem_toArray, List.getElem_cons_succ, List.getElem_cons_zero]
  refine wpAnyH_take (i := 12) (v := partV p.epoch p.seq p.flags A4 p.body.length c4) rfl (by kernel_rfl) (by kernel_rfl) (by kernel_rfl) (fun _ _ _ h => h) (Or.inl ⟨by rfl, ?_⟩) hH ?_
  · intro V hV; have hc := Cel.below E2.out hV ht2; have k0 := hc.cell 0; have k1 := hc.cell 1; have k2 := hc.cell 2; have k3 := hc.cell 3; clear hc; go_simp
  try simp only [Act.put, List.setIfInBounds_toArray, List.set_cons_zero, List.set_cons_succ, List.getElem_toArray, List.getElem_cons_succ, List.getElem_cons_zero]
  refine wpAnyH_take (i := 14) (v := partV p.epoch p.seq p.flags A n c) rfl (by kernel_rfl) (by kernel_rfl) (by kernel_rfl) (fun _ _ _ h => h) (Or.inl ⟨by rfl, ?_⟩) hH ?_
  · intro V hV; have hc := Cel.below E1.out hV ht1; have k0 := hc.cell 0; have k1 := hc.cell 1; have k2 := hc.cell 2; have k3 := hc.cell 3; clear hc; go_simp
  try simp only [Act.put, List.setIfInBounds_toArray, List.set_cons_zero, List.set_cons_succ, List.getElem_toArray, List.getElem_cons_succ, List.getElem_cons_zero]
  refine wpAnyH_ready (rs := [13]) (by kernel_rfl) (by simp) (AllReadyH.cons rfl (fun K hK => ?_) AllReadyH.nil)
  go_simp
  refine (as_walk p.epoch p.seq p.flags A4 p.body.length c4 _).mono ?_
  rintro r w7 ⟨rfl, hb7⟩
  go_wp2_with fail
  refine hK.out _ _ (hH.call hb7) (fun hH' => ?_)
  clear hK K hH
  have hH := hH'
  clear hH'
  try simp only [Act.put, List.setIfInBounds_toArray, List.set_cons_zero, List.set_cons_succ, List.getElem_toArray, List.getElem_cons_succ, List.getElem_cons_zero]
  refine wpAnyH_ready (rs := [15]) (by kernel_rfl) (by simp) (AllReadyH.cons rfl (fun K hK => ?_) AllReadyH.nil)
  go_simp
  refine (as_walk p.epoch p.seq p.flags A n c _).mono ?_
  rintro r w8 ⟨rfl, hb8⟩
  go_wp2_with fail
  refine hK.out _ _ (hH.call hb8) (fun hH' => ?_)
  have F8 := Lib.hid hH'
  clear hK K hH
  have hH := hH'
  clear hH'
  try simp only [Act.put, List.setIfInBounds_toArray, List.set_cons_zero, List.set_cons_succ, List.getElem_toArray, List.getElem_cons_succ, List.getElem_cons_zero]
  refine wpAnyH_ready (rs := [16]) (by kernel_rfl) (by simp) (AllReadyH.cons rfl (fun K hK => ?_) AllReadyH.nil)
  go_simp
  refine (same_yes p.epoch p.seq p.flags A4 A p.body.length n c4 c p.body _ (Lo.call F8.out D4.out) (Lo.call F8.out L4.out)).mono ?_
  rintro r w9 ⟨rfl, hb9⟩
  go_wp2_with fail
  refine hK.out _ _ (hH.call hb9) (fun hH' => ?_)
  clear hK K hH
  have hH := hH'
  clear hH'
  try simp only [Act.put, List.setIfInBounds_toArray, List.set_cons_zero, List.set_cons_succ, List.getElem_toArray, List.getElem_cons_succ, List.getElem_cons_zero]
  refine wpAnyH_take (i := 17) (v := .bool true) rfl (by kernel_rfl) (by kernel_rfl) (by kernel_rfl) (fun _ _ _ h => h) (Or.inl ⟨by rfl, ?_⟩) hH ?_
  · intro V hV; go_simp
  try simp only [Act.put, List.setIfInBounds_toArray, List.set_cons_zero, List.set_cons_succ, List.getElem_toArray, List.getElem_cons_succ, List.getElem_cons_zero]
  refine wpAnyH_take (i := 18) (v := .bool true) rfl (by kernel_rfl) (by kernel_rfl) (by kernel_rfl) (fun _ _ _ h => h) (Or.inl ⟨by rfl, ?_⟩) hH ?_
  · intro V hV; go_simp
  try simp only [Act.put, List.setIfInBounds_toArray, List.set_cons_zero, List.set_cons_succ, List.getElem_toArray, List.getElem_cons_succ, List.getElem_cons_zero]
  refine wpAnyH_take (i := 19) (v := .int .i64 0) rfl (by kernel_rfl) (by kernel_rfl) (by kernel_rfl) (fun _ _ _ h => h) (Or.inl ⟨by rfl, ?_⟩) hH ?_
  · intro V hV; go_simp
  try simp only [Act.put, List.setIfInBounds_toArray, List.set_cons_zero, List.set_cons_succ, List.getElem_toArray, List.getElem_cons_succ, List.getElem_cons_zero]
  refine wpAnyH_take (i := 20) (v := .bool true) rfl (by kernel_rfl) (by kernel_rfl) (by kernel_rfl) (fun _ _ _ h => h) (Or.inl ⟨by rfl, ?_⟩) hH ?_
  · intro V hV; go_simp
  try simp only [Act.put, List.setIfInBounds_toArray, List.set_cons_zero, List.set_cons_succ, List.getElem_toArray, List.getElem_cons_succ, List.getElem_cons_zero]
  refine wpAnyH_take (i := 21) (v := .bool true) rfl (by kernel_rfl) (by kernel_rfl) (by kernel_rfl) (fun _ _ _ h => h) (Or.inl ⟨by rfl, ?_⟩) hH ?_
  · intro V hV; go_simp
  try simp only [Act.put, List.setIfInBounds_toArray, List.set_cons_zero, List.set_cons_succ, List.getElem_toArray, List.getElem_cons_succ, List.getElem_cons_zero]
  refine wpAnyH_take (i := 22) (v := .bool true) rfl (by kernel_rfl) (by kernel_rfl) (by kernel_rfl) (fun _ _ _ h => h) (Or.inl ⟨by rfl, ?_⟩) hH ?_
  · intro V hV; go_simp
  try simp only [Act.put, List.setIfInBounds_toArray, List.set_cons_zero, List.set_cons_succ, List.getElem_toArray, List.getElem_cons_succ, List.getElem_cons_zero]
  refine wpAnyH_ready (rs := [23]) (by kernel_rfl) (by simp) (AllReadyH.cons rfl (fun K hK => ?_) AllReadyH.nil)
  go_simp
  refine (knows _).mono ?_
  rintro r w10 ⟨rfl, hb10⟩
  go_wp2_with fail
  refine hK.out _ _ (hH.call hb10) (fun hH' => ?_)
  clear hK K hH
  have hH := hH'
  clear hH'
  try simp only [Act.put, List.setIfInBounds_toArray, List.set_cons_zero, List.set_cons_succ, List.getElem_toArray, List.getElem_cons_succ, List.getElem_cons_zero]
  refine wpAnyH_take (i := 24) (v := .bool true) rfl (by kernel_rfl) (by kernel_rfl) (by kernel_rfl) (fun _ _ _ h => h) (Or.inl ⟨by rfl, ?_⟩) hH ?_
  · intro V hV; go_simp
  try simp only [Act.put, List.setIfInBounds_toArray, List.set_cons_zero, List.set_cons_succ, List.getElem_toArray, List.getElem_cons_succ, List.getElem_cons_zero]
  refine wpAnyH_take (i := 25) (v := .bool true) rfl (by kernel_rfl) (by kernel_rfl) (by kernel_rfl) (fun _ _ _ h => h) (Or.inl ⟨by rfl, ?_⟩) hH ?_
  · intro V hV; go_simp
  try simp only [Act.put, List.setIfInBounds_toArray, List.set_cons_zero, List.set_cons_succ, List.getElem_toArray, List.getElem_cons_succ, List.getElem_cons_zero]
  refine wpAnyH_done (by kernel_rfl) ?_ _
  have hF := hH
  clear hH
  go_wp2_with fail
  go_ret
  exact ⟨rfl, HB4.out.trans (Below.mono hF HB4.out.size)⟩

theorem puts_walk (p : Pt) (A : Option Addr) (n c : Nat) (w : World) (h : Lo w A n p.body) : Calls Try.prog 3 #[partV p.epoch p.seq p.flags A n c] w fun r w' => r = .returned (.bool true) ∧ Below w.heap.size w w' := by
  by_cases hn : 600 < n
  · exact puts_long p A n c w hn
  · cases hm : p.may
    · exact puts_not p A n c w (by omega) (by rw [← h.len]; exact hm)
    · exact puts_yes p A n c w h hm
end Go.Proofs.Ytickagagbdfncaa.Sector
