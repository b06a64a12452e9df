/-
  The walk of davitlaw03.SectorGets: it answers true, whatever comes in. (Written out by wip/tools/gen_gets.py.)
-/
import Derived.Test.YtickagagbdfncaaSectorKnows
namespace Go.Proofs.Ytickagagbdfncaa.Sector
open Go.RowKit Go.Proofs.Ytickagagbdfncaa.Pack
set_option linter.unusedVariables false
set_option linter.unusedSimpArgs false

theorem refGet (A : Option Addr) (n c : Nat) (bs : List (BitVec 8)) (w : World) (hbs : Lo w A n bs) (hc1 : n ≤ c) (hc2 : c ≤ maxLen) : Calls Try.prog 13 #[.slice A n c] w (RefSays w bs) := by
  by_cases hn : n = 512
  · subst hn; exact refGet_512 A c bs w hbs hc1 hc2
  · exact refGet_len A n c w bs hbs.len hn (by omega)
theorem refGet_yes (A : Option Addr) (n c : Nat) (bs : List (BitVec 8)) (p : Pt) (w : World) (hg : get bs = some p) (hbs : Lo w A n bs) (hc1 : n ≤ c) (hc2 : c ≤ maxLen) :
    Calls Try.prog 13 #[.slice A n c] w fun r w' => ∃ A' c', r = .returned (.tuple #[partV p.epoch p.seq p.flags A' p.body.length c', .bool true]) ∧ Lo w' A' p.body.length p.body ∧ Below w.heap.size w w' := by
  refine (refGet A n c bs w hbs hc1 hc2).mono fun r w' h => ?_
  rcases h with ⟨⟨q, A', c', h1, h2, h3⟩ | ⟨h1, _⟩, hb⟩
  · rw [hg] at h1; injection h1 with h1; subst h1; exact ⟨A', c', h2, h3, hb⟩
  · rw [hg] at h1; cases h1
theorem refGet_not (A : Option Addr) (n c : Nat) (bs : List (BitVec 8)) (w : World) (hg : get bs = none) (hbs : Lo w A n bs) (hc1 : n ≤ c) (hc2 : c ≤ maxLen) :
    Calls Try.prog 13 #[.slice A n c] w fun r w' => ∃ e s f A' n' c', r = .returned (.tuple #[partV e s f A' n' c', .bool false]) ∧ Below w.heap.size w w' := by
  refine (refGet A n c bs w hbs hc1 hc2).mono fun r w' h => ?_
  rcases h with ⟨⟨q, A', c', h1, _⟩ | ⟨_, e, s, f, A', n', c', h2⟩, hb⟩
  · rw [hg] at h1; cases h1
  · exact ⟨e, s, f, A', n', c', h2, hb⟩

set_option maxRecDepth 100000 in
set_option maxHeartbeats 1000000 in
theorem gets_long (A : Option Addr) (n c : Nat) (w : World) (hn : 600 < n) : Calls Try.prog 4 #[.slice A n c] w fun r w' => r = .returned (.bool true) ∧ Below w.heap.size w w' := by
  have d1 : decide ((600 : Int) < (n : Int)) = true := by simp; omega
  go_enter Try.func4, Try.ntmps4
  go_wp2_with fail
  refine (knows _).mono ?_
  rintro r w1 ⟨rfl, hb⟩
  go_wp2_with fail
  go_ret
  exact ⟨rfl, hb⟩

set_option maxRecDepth 100000 in
set_option maxHeartbeats 1000000 in
theorem gets_not (A : Option Addr) (n c : Nat) (bs : List (BitVec 8)) (w : World) (h : Lo w A n bs) (hc1 : n ≤ c) (hc2 : c ≤ maxLen) (hn : n ≤ 600) (hg : get bs = none) : Calls Try.prog 4 #[.slice A n c] w fun r w' => r = .returned (.bool true) ∧ Below w.heap.size w w' := by
  have d1 : decide ((600 : Int) < (n : Int)) = false := by simp; omega
  have H := Lib.hid h
  have HG := Lib.hid hg
  clear h hg
  go_enter Try.func4, Try.ntmps4
  go_wp2_with fail
  refine (get_not w.heap.size A n c bs _ H.out (Nat.le_refl _) (by omega) HG.out).mono ?_
  rintro r w1 ⟨rfl, hb1⟩
  have s1 := hb1.size
  have L1 := Lib.hid ((Lo.call hb1 H.out).alloc (.cells #[.int .u32 0, .int .u32 0, .int .i64 0, .slice none 0 0] 25))
  go_wp2_with fail
  refine (refGet_not A n c bs _ HG.out L1.out hc1 hc2).mono ?_
  rintro r w2 ⟨e, s, f, A', n', c', rfl, hb2⟩
  have hp := ((Cel.new w1 25 [.int .u32 0, .int .u32 0, .int .i64 0, .slice none 0 0]).below hb2 (by simp)).alloc (.cells #[v32 e, v32 s, .int .i64 f, .slice A' n' c'] 31)
  have k0 := hp.cell 0
  have k1 := hp.cell 1
  have k2 := hp.cell 2
  have k3 := hp.cell 3
  clear hp
  have hbw : Below w.heap.size w w2 := (hb1.alloc s1 _).trans (hb2.mono (by simp; omega))
  have HBW := Lib.hid (hbw.alloc hbw.size (.cells #[v32 e, v32 s, .int .i64 f, .slice A' n' c'] 31))
  clear hb1 hb2 hbw
  go_wp2_with fail
  refine (as_walk 0#32 0#32 0 none 0 0 _).mono ?_
  rintro r w3 ⟨rfl, hb3⟩
  go_wp2_with fail
  refine (same_yes 0#32 0#32 0 none none 0 0 0 0 [] _ Bs.nil_ Bs.nil_).mono ?_
  rintro r w4 ⟨rfl, hb4⟩
  go_wp2_with fail
  refine (knows _).mono ?_
  rintro r w5 ⟨rfl, hb5⟩
  go_wp2_with fail
  go_ret
  have h3 := HBW.out.trans (hb3.mono HBW.out.size)
  have h4 := h3.trans (hb4.mono h3.size)
  exact ⟨rfl, h4.trans (hb5.mono h4.size)⟩

set_option maxRecDepth 100000 in
set_option maxHeartbeats 2000000 in
theorem gets_yes (A : Option Addr) (n c : Nat) (bs : List (BitVec 8)) (p : Pt) (w : World) (h : Lo w A n bs) (hc1 : n ≤ c) (hc2 : c ≤ maxLen) (hn : n ≤ 600) (hg : get bs = some p) : Calls Try.prog 4 #[.slice A n c] w fun r w' => r = .returned (.bool true) ∧ Below w.heap.size w w' := by
  have d1 : decide ((600 : Int) < (n : Int)) = false := by simp; omega
  obtain ⟨hm, hs, _⟩ := get_some hg
  have hn5 : n = 512 := by rw [← h.len, ← hs, sec_length hm]
  have H := Lib.hid h
  have HG := Lib.hid hg
  have HM := Lib.hid hm
  have HS := Lib.hid hs
  have HN5 := Lib.hid hn5
  clear h hg hm hs hn5
  go_enter Try.func4, Try.ntmps4
  go_wp2_with fail
  refine (get_yes w.heap.size A n c bs _ H.out (Nat.le_refl _) p HG.out).mono ?_
  rintro r w1 ⟨A1, c1, rfl, ho1, hb1⟩
  have s1 := hb1.size
  have L1 := Lib.hid ((Lo.call hb1 H.out).alloc (.cells #[v32 p.epoch, v32 p.seq, .int .i64 p.flags, .slice A1 p.body.length c1] 25))
  have B1 := Lib.hid ((Lo.own ho1).alloc (.cells #[v32 p.epoch, v32 p.seq, .int .i64 p.flags, .slice A1 p.body.length c1] 25))
  clear ho1
  go_wp2_with fail
  refine (refGet_yes A n c bs p _ HG.out L1.out hc1 hc2).mono ?_
  rintro r w2 ⟨A2, c2, rfl, hl2, hb2⟩
  have C1 := Lib.hid (((Cel.new w1 25 [v32 p.epoch, v32 p.seq, .int .i64 p.flags, .slice A1 p.body.length c1]).below hb2 (by simp)).alloc (.cells #[v32 p.epoch, v32 p.seq, .int .i64 p.flags, .slice A2 p.body.length c2] 31))
  have C2 := Lib.hid (Cel.new w2 31 [v32 p.epoch, v32 p.seq, .int .i64 p.flags, .slice A2 p.body.length c2])
  have L2 := Lib.hid ((Lo.call hb2 L1.out).alloc (.cells #[v32 p.epoch, v32 p.seq, .int .i64 p.flags, .slice A2 p.body.length c2] 31))
  have B2 := Lib.hid ((Lo.call hb2 B1.out).alloc (.cells #[v32 p.epoch, v32 p.seq, .int .i64 p.flags, .slice A2 p.body.length c2] 31))
  have D2 := Lib.hid (Lo.alloc (.cells #[v32 p.epoch, v32 p.seq, .int .i64 p.flags, .slice A2 p.body.length c2] 31) hl2)
  have hbw : Below w.heap.size w w2 := (hb1.alloc s1 _).trans (hb2.mono (by simp; omega))
  have HBW := Lib.hid (hbw.alloc hbw.size (.cells #[v32 p.epoch, v32 p.seq, .int .i64 p.flags, .slice A2 p.body.length c2] 31))
  clear hb1 hb2 hbw hl2 L1 B1
  have k0 := C1.out.cell 0
  have k1 := C1.out.cell 1
  have k2 := C1.out.cell 2
  have k3 := C1.out.cell 3
  go_wp2_with fail
  generalize w2.alloc (.cells #[v32 p.epoch, v32 p.seq, .int .i64 p.flags, .slice A2 p.body.length c2] 31) = W2 at *
  refine (put_yes p W2.heap.size A1 p.body.length c1 _ B2.out (Nat.le_refl _) HM.out).mono ?_
  rintro r w3 ⟨g, rfl, hg3, hc3, hb3⟩
  have C3 := Lib.hid hc3
  have E1 := Lib.hid (C1.out.below hb3 C1.out.lt)
  have E2 := Lib.hid (C2.out.below hb3 C2.out.lt)
  have L3 := Lib.hid (Lo.call hb3 L2.out)
  have B3 := Lib.hid (Lo.call hb3 B2.out)
  have D3 := Lib.hid (Lo.call hb3 D2.out)
  have HW3 := Lib.hid (HBW.out.trans (hb3.mono HBW.out.size))
  have ht1 := E1.out.lt
  have ht2 := E2.out.lt
  clear hc3 hb3 C1 C2 L2 B2 D2 HBW k0 k1 k2 k3 hg3
  generalize w1.heap.size = v1 at *
  generalize w2.heap.size = v2 at *
  have G3 := Lib.hid (show Lo w3 (some ⟨g, 0, none⟩) 512 bs from Cel.bs C3.out C3.out.lt (by rw [sec_length HM.out]; exact Nat.le_refl _) (by rw [HS.out, List.take_of_length_le (by rw [H.out.len, HN5.out]; exact Nat.le_refl _)]))
  go_wp2_with fail
  refine wp_region_held_drew (S := From w3) (by kernel_rfl) (From.self _).drew (fun hH => ?_)
  refine wpAnyH_take (i := 0) (v := partV p.epoch p.seq p.flags A1 p.body.length c1) rfl (by kernel_rfl) (by kernel_rfl) (by kernel_rfl) (fun _ _ _ h => h) (Or.inl ⟨by rfl, ?_⟩) hH ?_
  · intro V hV; have hc := Cel.below E1.out hV ht1; have k0 := hc.cell 0; have k1 := hc.cell 1; have k2 := hc.cell 2; have k3 := hc.cell 3; clear hc; go_simp
  try simp only [Act.put, List.setIfInBounds_toArray, List.set_cons_zero, List.set_cons_succ, List.getElem_toArray, List.getElem_cons_succ, List.getElem_cons_zero]
  refine wpAnyH_take (i := 2) (v := partV p.epoch p.seq p.flags A2 p.body.length c2) rfl (by kernel_rfl) (by kernel_rfl) (by kernel_rfl) (fun _ _ _ h => h) (Or.inl ⟨by rfl, ?_⟩) hH ?_
  · intro V hV; have hc := Cel.below E2.out hV ht2; have k0 := hc.cell 0; have k1 := hc.cell 1; have k2 := hc.cell 2; have k3 := hc.cell 3; clear hc; go_simp
  try simp only [Act.put, List.setIfInBounds_toArray, List.set_cons_zero, List.set_cons_succ, List.getElem_toArray, List.getElem_cons_succ, List.getElem_cons_zero]
  refine wpAnyH_ready (rs := [1]) (by kernel_rfl) (by simp) (AllReadyH.cons rfl (fun K hK => ?_) AllReadyH.nil)
  go_simp
  refine (as_walk p.epoch p.seq p.flags A1 p.body.length c1 _).mono ?_
  rintro r w4 ⟨rfl, hb4⟩
  go_wp2_with fail
  refine hK.out _ _ (hH.call hb4) (fun hH' => ?_)
  have F4 := Lib.hid hH'
  clear hK K hH
  have hH := hH'
  clear hH'
  try simp only [Act.put, List.setIfInBounds_toArray, List.set_cons_zero, List.set_cons_succ, List.getElem_toArray, List.getElem_cons_succ, List.getElem_cons_zero]
  refine wpAnyH_ready (rs := [3]) (by kernel_rfl) (by simp) (AllReadyH.cons rfl (fun K hK => ?_) AllReadyH.nil)
  go_simp
  refine (same_yes p.epoch p.seq p.flags A1 A2 p.body.length p.body.length c1 c2 p.body _ (Lo.call F4.out B3.out) (Lo.call F4.out D3.out)).mono ?_
  rintro r w5 ⟨rfl, hb5⟩
  go_wp2_with fail
  refine hK.out _ _ (hH.call hb5) (fun hH' => ?_)
  clear hK K hH
  have hH := hH'
  clear hH'
  try simp only [Act.put, List.setIfInBounds_toArray, List.set_cons_zero, List.set_cons_succ, List.getElem_toArray, List.getElem_cons_succ, List.getElem_cons_zero]
  refine wpAnyH_take (i := 4) (v := .bool true) rfl (by kernel_rfl) (by kernel_rfl) (by kernel_rfl) (fun _ _ _ h => h) (Or.inl ⟨by rfl, ?_⟩) hH ?_
  · intro V hV; go_simp
  try simp only [Act.put, List.setIfInBounds_toArray, List.set_cons_zero, List.set_cons_succ, List.getElem_toArray, List.getElem_cons_succ, List.getElem_cons_zero]
  refine wpAnyH_take (i := 5) (v := .int .i64 0) rfl (by kernel_rfl) (by kernel_rfl) (by kernel_rfl) (fun _ _ _ h => h) (Or.inl ⟨by rfl, ?_⟩) hH ?_
  · intro V hV; go_simp
  try simp only [Act.put, List.setIfInBounds_toArray, List.set_cons_zero, List.set_cons_succ, List.getElem_toArray, List.getElem_cons_succ, List.getElem_cons_zero]
  refine wpAnyH_take (i := 6) (v := .bool true) rfl (by kernel_rfl) (by kernel_rfl) (by kernel_rfl) (fun _ _ _ h => h) (Or.inl ⟨by rfl, ?_⟩) hH ?_
  · intro V hV; go_simp
  try simp only [Act.put, List.setIfInBounds_toArray, List.set_cons_zero, List.set_cons_succ, List.getElem_toArray, List.getElem_cons_succ, List.getElem_cons_zero]
  refine wpAnyH_take (i := 7) (v := .bool true) rfl (by kernel_rfl) (by kernel_rfl) (by kernel_rfl) (fun _ _ _ h => h) (Or.inl ⟨by rfl, ?_⟩) hH ?_
  · intro V hV; go_simp
  try simp only [Act.put, List.setIfInBounds_toArray, List.set_cons_zero, List.set_cons_succ, List.getElem_toArray, List.getElem_cons_succ, List.getElem_cons_zero]
  refine wpAnyH_take (i := 8) (v := .bool true) rfl (by kernel_rfl) (by kernel_rfl) (by kernel_rfl) (fun _ _ _ h => h) (Or.inl ⟨by rfl, ?_⟩) hH ?_
  · intro V hV; go_simp
  try simp only [Act.put, List.setIfInBounds_toArray, List.set_cons_zero, List.set_cons_succ, List.getElem_toArray, List.getElem_cons_succ, List.getElem_cons_zero]
  refine wpAnyH_take (i := 9) (v := .slice (some ⟨g, 0, none⟩) 512 512) rfl (by kernel_rfl) (by kernel_rfl) (by kernel_rfl) (fun _ _ _ h => h) (Or.inl ⟨by rfl, ?_⟩) hH ?_
  · intro V hV; go_simp
  try simp only [Act.put, List.setIfInBounds_toArray, List.set_cons_zero, List.set_cons_succ, List.getElem_toArray, List.getElem_cons_succ, List.getElem_cons_zero]
  refine wpAnyH_take (i := 10) (v := .string (str bs)) rfl (by kernel_rfl) (by kernel_rfl) (by kernel_rfl) (fun _ _ _ h => h) (Or.inl ⟨by rfl, ?_⟩) hH ?_
  · intro V hV; have q := toStr (Bs.bp (Lo.call hV G3.out)) 512; go_simp
  try simp only [Act.put, List.setIfInBounds_toArray, List.set_cons_zero, List.set_cons_succ, List.getElem_toArray, List.getElem_cons_succ, List.getElem_cons_zero]
  refine wpAnyH_take (i := 11) (v := .slice A n c) rfl (by kernel_rfl) (by kernel_rfl) (by kernel_rfl) (fun _ _ _ h => h) (Or.inl ⟨by rfl, ?_⟩) hH ?_
  · intro V hV; go_simp
  try simp only [Act.put, List.setIfInBounds_toArray, List.set_cons_zero, List.set_cons_succ, List.getElem_toArray, List.getElem_cons_succ, List.getElem_cons_zero]
  refine wpAnyH_take (i := 12) (v := .string (str bs)) rfl (by kernel_rfl) (by kernel_rfl) (by kernel_rfl) (fun _ _ _ h => h) (Or.inl ⟨by rfl, ?_⟩) hH ?_
  · intro V hV; have q := toStr (Bs.bp (Lo.call hV L3.out)) c; go_simp
  try simp only [Act.put, List.setIfInBounds_toArray, List.set_cons_zero, List.set_cons_succ, List.getElem_toArray, List.getElem_cons_succ, List.getElem_cons_zero]
  refine wpAnyH_take (i := 13) (v := .bool true) rfl (by kernel_rfl) (by kernel_rfl) (by kernel_rfl) (fun _ _ _ h => h) (Or.inl ⟨by rfl, ?_⟩) hH ?_
  · intro V hV; go_simp
  try simp only [Act.put, List.setIfInBounds_toArray, List.set_cons_zero, List.set_cons_succ, List.getElem_toArray, List.getElem_cons_succ, List.getElem_cons_zero]
  refine wpAnyH_take (i := 14) (v := .bool true) rfl (by kernel_rfl) (by kernel_rfl) (by kernel_rfl) (fun _ _ _ h => h) (Or.inl ⟨by rfl, ?_⟩) hH ?_
  · intro V hV; go_simp
  try simp only [Act.put, List.setIfInBounds_toArray, List.set_cons_zero, List.set_cons_succ, List.getElem_toArray, List.getElem_cons_succ, List.getElem_cons_zero]
  refine wpAnyH_take (i := 15) (v := .bool true) rfl (by kernel_rfl) (by kernel_rfl) (by kernel_rfl) (fun _ _ _ h => h) (Or.inl ⟨by rfl, ?_⟩) hH ?_
  · intro V hV; go_simp
  try simp only [Act.put, List.setIfInBounds_toArray, List.set_cons_zero, List.set_cons_succ, List.getElem_toArray, List.getElem_cons_succ, List.getElem_cons_zero]
  refine wpAnyH_take (i := 16) (v := .int .i64 0) rfl (by kernel_rfl) (by kernel_rfl) (by kernel_rfl) (fun _ _ _ h => h) (Or.inl ⟨by rfl, ?_⟩) hH ?_
  · intro V hV; go_simp
  try simp only [Act.put, List.setIfInBounds_toArray, List.set_cons_zero, List.set_cons_succ, List.getElem_toArray, List.getElem_cons_succ, List.getElem_cons_zero]
  refine wpAnyH_take (i := 17) (v := .bool true) rfl (by kernel_rfl) (by kernel_rfl) (by kernel_rfl) (fun _ _ _ h => h) (Or.inl ⟨by rfl, ?_⟩) hH ?_
  · intro V hV; go_simp
  try simp only [Act.put, List.setIfInBounds_toArray, List.set_cons_zero, List.set_cons_succ, List.getElem_toArray, List.getElem_cons_succ, List.getElem_cons_zero]
  refine wpAnyH_take (i := 18) (v := .bool true) rfl (by kernel_rfl) (by kernel_rfl) (by kernel_rfl) (fun _ _ _ h => h) (Or.inl ⟨by rfl, ?_⟩) hH ?_
  · intro V hV; go_simp
  try simp only [Act.put, List.setIfInBounds_toArray, List.set_cons_zero, List.set_cons_succ, List.getElem_toArray, List.getElem_cons_succ, List.getElem_cons_zero]
  refine wpAnyH_take (i := 19) (v := .bool true) rfl (by kernel_rfl) (by kernel_rfl) (by kernel_rfl) (fun _ _ _ h => h) (Or.inl ⟨by rfl, ?_⟩) hH ?_
  · intro V hV; go_simp
  try simp only [Act.put, List.setIfInBounds_toArray, List.set_cons_zero, List.set_cons_succ, List.getElem_toArray, List.getElem_cons_succ, List.getElem_cons_zero]
  refine wpAnyH_ready (rs := [20]) (by kernel_rfl) (by simp) (AllReadyH.cons rfl (fun K hK => ?_) AllReadyH.nil)
  go_simp
  refine (knows _).mono ?_
  rintro r w6 ⟨rfl, hb6⟩
  go_wp2_with fail
  refine hK.out _ _ (hH.call hb6) (fun hH' => ?_)
  clear hK K hH
  have hH := hH'
  clear hH'
  try simp only [Act.put, List.setIfInBounds_toArray, List.set_cons_zero, List.set_cons_succ, List.getElem_toArray, List.getElem_cons_succ, List.getElem_cons_zero]
  refine wpAnyH_take (i := 21) (v := .bool true) rfl (by kernel_rfl) (by kernel_rfl) (by kernel_rfl) (fun _ _ _ h => h) (Or.inl ⟨by rfl, ?_⟩) hH ?_
  · intro V hV; go_simp
  try simp only [Act.put, List.setIfInBounds_toArray, List.set_cons_zero, List.set_cons_succ, List.getElem_toArray, List.getElem_cons_succ, List.getElem_cons_zero]
  refine wpAnyH_take (i := 22) (v := .bool true) rfl (by kernel_rfl) (by kernel_rfl) (by kernel_rfl) (fun _ _ _ h => h) (Or.inl ⟨by rfl, ?_⟩) hH ?_
  · intro V hV; go_simp
  try simp only [Act.put, List.setIfInBounds_toArray, List.set_cons_zero, List.set_cons_succ, List.getElem_toArray, List.getElem_cons_succ, List.getElem_cons_zero]
  refine wpAnyH_done (by kernel_rfl) ?_ _
  have hF := hH
  clear hH
  go_wp2_with fail
  go_ret
  exact ⟨rfl, HW3.out.trans (Below.mono hF HW3.out.size)⟩

theorem gets_walk (A : Option Addr) (n c : Nat) (bs : List (BitVec 8)) (w : World) (h : Lo w A n bs) (hc1 : n ≤ c) (hc2 : c ≤ maxLen) : Calls Try.prog 4 #[.slice A n c] w fun r w' => r = .returned (.bool true) ∧ Below w.heap.size w w' := by
  by_cases hn : 600 < n
  · exact gets_long A n c w hn
  · cases hg : get bs with
    | none => exact gets_not A n c bs w h hc1 hc2 (by omega) hg
    | some p => exact gets_yes A n c bs p w h hc1 hc2 (by omega) hg
end Go.Proofs.Ytickagagbdfncaa.Sector
