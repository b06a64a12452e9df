/-
  The law's deeds, as they came in; few, same.
-/
import Derived.Test.YtbomgglmplecpaaGreatMSegPlayA
namespace Go.Proofs.YtbomgglmplecpaaGreat.Segm
open Go.RowKit
open Go.Proofs.YtbomgglmplecpaaGreat.Disk (M Sc Dk Fk Chg Dob Rob Rs Rst Bo append sync remove there rows atI Ok Inv fit64 fit_wf)
set_option linter.unusedVariables false
set_option linter.unusedSimpArgs false

structure Dd where
  what : Int
  n : Int
  b : BitVec 8
  A : Option Addr
  c : Nat
  ks : List Bool
def Dd.cells (D : Dd) : List Value := [.int .i64 D.what, .int .i64 D.n, v8 D.b, .slice D.A D.ks.length D.c]
structure IsDd (w : World) (x : Addr) (i : Nat) (D : Dd) : Prop where
  cell : ∀ j v, D.cells[j]? = some v → w.cell? (x.add (i * 4 + j)) = some v
  keep : Bo w w.heap.size (.slice D.A D.ks.length D.c) D.ks
  fits : fit64 D.what ∧ fit64 D.n
  len : D.ks.length ≤ maxLen
theorem IsDd.of_isv {w : World} {A : Option Addr} {l c : Nat} (h : IsV w (.recs [.int .i64, .int .i64, .int .u8, .slice .bool]) (.slice A l c)) :
    l ≤ maxLen ∧ (0 < l → ∃ x, A = some x ∧ ∀ i, i < l → ∃ D, IsDd w x i D) := by
  cases h with
  | rnil => exact ⟨by unfold maxLen; omega, fun h => absurd h (by omega)⟩
  | recs U hl hc hcell hU =>
    rename_i x
    refine ⟨by omega, fun _ => ⟨x, rfl, fun i hi => ?_⟩⟩
    have c0 := hcell i 0 hi (by decide)
    have c1 := hcell i 1 hi (by decide)
    have c3 := hcell i 2 hi (by decide)
    have c4 := hcell i 3 hi (by decide)
    have u0 := hU i 0 _ hi rfl
    have u1 := hU i 1 _ hi rfl
    have u3 := hU i 2 _ hi rfl
    have u4 := hU i 3 _ hi rfl
    generalize U i 0 = a0 at *
    generalize U i 1 = a1 at *
    generalize U i 2 = a3 at *
    generalize U i 3 = a4 at *
    cases u0 with | int h0 =>
    cases u1 with | int h1 =>
    cases u3 with | int h3 =>
    obtain ⟨b, rfl⟩ := Disk.u8_of h3
    obtain ⟨kA, kl, kc, rfl⟩ : ∃ A l c, a4 = .slice A l c := by cases u4 <;> exact ⟨_, _, _, rfl⟩
    obtain ⟨ks, rfl, hkl, hbo⟩ := Disk.Bo.of_isv u4
    refine ⟨⟨_, _, b, kA, kc, ks⟩, fun j v hv => ?_, hbo, ⟨fit_wf h0, fit_wf h1⟩, hkl⟩
    match j, hv with
    | 0, hv => cases hv; exact c0
    | 1, hv => cases hv; exact c1
    | 2, hv => cases hv; exact c3
    | 3, hv => cases hv; exact c4
    | j + 4, hv => simp [Dd.cells] at hv
theorem add_off (a : Addr) {j : Nat} (hj : 0 < j) : (⟨a.block, a.off + j, none⟩ : Addr) = a.add j := by
  unfold Addr.add; rw [if_neg (by omega)]
theorem IsDd.at_ {w : World} {x : Addr} {i : Nat} {D : Dd} (h : IsDd w x i D) {V : World} (hb : Below w.heap.size w V) : V.cell? (x.add (i * 4)) = some (.int .i64 D.what) ∧ V.cell? ⟨(x.add (i * 4)).block, (x.add (i * 4)).off + 1, none⟩ = some (.int .i64 D.n) ∧
    V.cell? ⟨(x.add (i * 4)).block, (x.add (i * 4)).off + 2, none⟩ = some (v8 D.b) ∧ V.cell? ⟨(x.add (i * 4)).block, (x.add (i * 4)).off + 3, none⟩ = some (.slice D.A D.ks.length D.c) := by
  have hk : ∀ j v, 0 < j → D.cells[j]? = some v → V.cell? ⟨(x.add (i * 4)).block, (x.add (i * 4)).off + j, none⟩ = some v := fun j v h0 hj => by
    rw [add_off _ h0, add_add]; exact kept hb (h.cell j v hj)
  have h0 := h.cell 0 _ rfl
  rw [Nat.add_zero] at h0
  exact ⟨kept hb h0, hk 1 _ (by decide) rfl, hk 2 _ (by decide) rfl, hk 3 _ (by decide) rfl⟩
theorem IsDd.keepAt {w : World} {x : Addr} {i : Nat} {D : Dd} (h : IsDd w x i D) {V : World} (hb : Below w.heap.size w V) : Bo V w.heap.size (.slice D.A D.ks.length D.c) D.ks := h.keep.below hb

def FewSays (l : Nat) (w : World) (r : Ending) (w' : World) : Prop := ∃ b, r = .returned (.bool b) ∧ (b = true → l ≤ 30) ∧ w = w'
set_option maxRecDepth 100000 in
set_option maxHeartbeats 1000000 in
theorem few_ok (w : World) (A : Option Addr) (l c : Nat) (hl : l ≤ maxLen) (h : 0 < l → ∃ x, A = some x ∧ ∀ i, i < l → ∃ D, IsDd w x i D) :
    Calls Tryz.prog 4 #[.slice A l c] w (FewSays l w) := by
  unfold maxLen at hl
  have H := Lib.hid h
  clear h
  go_enter Tryz.func4, Tryz.ntmps4
  go_wp2_with fail
  go_loop [3] (fun i => ∃ k : Nat, k ≤ l ∧ i = .int .i64 k) (fun i => l - (Go.RowKit.intOf i).toNat)
  case atStart => exact ⟨0, Nat.zero_le _, rfl⟩
  case round =>
    obtain ⟨k, hk, rfl⟩ := hrel
    by_cases hlt : k < l
    · obtain ⟨x, rfl, hD⟩ := H.out (by omega)
      obtain ⟨D, hd⟩ := hD k hlt
      obtain ⟨_, _, _, c4⟩ := hd.at_ (Below.refl _ _)
      have hkl := hd.len
      unfold maxLen at hkl
      clear hD hd
      by_cases hbig : 60 < D.ks.length
      · go_wp2_with fail
        go_ret
        exact ⟨false, rfl, by simp, rfl⟩
      · go_wp2_with fail
        go_round
        case rel => exact ⟨k + 1, by omega, by go_num⟩
        case measure => simp [Go.RowKit.intOf]; omega
    · obtain rfl : k = l := by omega
      go_wp2_with fail
      go_ret
      exact ⟨_, rfl, fun h => (by have h2 : (k : Int) ≤ 30 := of_decide_eq_true h; omega), rfl⟩

/-! same -/
theorem From.below {w0 W : World} (h : From w0 W) : Below w0.heap.size w0 W := h
set_option maxRecDepth 100000 in
set_option maxHeartbeats 1000000 in
theorem same_off (w : World) (B d d2 : Nat) (m : M) (f : Int) (hf : -9223372036854775808 ≤ f ∧ f < 9223372036854775808) (h : Dk w B d m) (hr : Fk w B d2 m) (ho : m.off = true) :
    Calls Tryz.prog 21 #[.pointer (some ⟨d, 0, none⟩), .pointer (some ⟨d2, 0, none⟩), .int .i64 f] w fun r w' => r = .returned (.bool true) ∧ Below w.heap.size w w' := by
  have h8 : there m f = 8 := by unfold there; rw [ho]; rfl
  have con := Disk.read_not w B d m f hf h (by rw [h8]; decide)
  rw [h8] at con
  have k3 := Fk_off hr
  rw [ho] at k3
  clear h hr ho hf h8
  go_enter Tryz.func21, Tryz.ntmps21
  go_wp2_with fail
  refine con.mono ?_
  clear con
  rintro r w1 ⟨rfl, rfl⟩
  go_wp2_with fail
  go_ret
  exact ⟨rfl, Below.refl _ _⟩
set_option maxRecDepth 100000 in
set_option maxHeartbeats 1000000 in
theorem same_none (w : World) (B d d2 : Nat) (m : M) (f : Int) (hf : -9223372036854775808 ≤ f ∧ f < 9223372036854775808) (h : Dk w B d m) (hr : Fk w B d2 m) (ho : m.off = false) (hfm : f ∉ m.files) :
    Calls Tryz.prog 21 #[.pointer (some ⟨d, 0, none⟩), .pointer (some ⟨d2, 0, none⟩), .int .i64 f] w fun r w' => r = .returned (.bool true) ∧ Below w.heap.size w w' := by
  have h4 : there m f = 4 := by unfold there; rw [ho, if_neg (by simp), if_neg hfm]
  have con := Disk.read_not w B d m f hf h (by rw [h4]; decide)
  rw [h4] at con
  have hrow : rows f m.l = [] := by
    obtain ⟨b, vs, kv, h⟩ := h
    exact h.inv.none_ hfm
  have con2 := Disk.rread_ok w B d2 m f hr
  rw [hrow] at con2
  replace con2 : Calls Tryz.prog 41 #[.pointer (some ⟨d2, 0, none⟩), .int .i64 f] w fun r w' => ∃ A c, r = .returned (.slice A 0 c) ∧ Below w.heap.size w w' := con2.mono fun r w' ⟨A, c, h1, _, h3⟩ => ⟨A, c, h1, h3⟩
  have k3 := Fk_off hr
  rw [ho] at k3
  have HR := Lib.hid hr
  have hat := atI_lt f m.files hfm
  have HAT := Lib.hid hat
  clear h hr ho hf h4 hrow hfm hat
  go_enter Tryz.func21, Tryz.ntmps21
  go_wp2_with fail
  refine con.mono ?_
  clear con
  rintro r w1 ⟨rfl, rfl⟩
  go_wp2_with fail
  refine con2.mono ?_
  clear con2
  rintro r w2 ⟨A2, c2, rfl, hb2⟩
  have con3 := at_fk (HR.out.below hb2) f
  rw [HAT.out] at con3
  have HB2 := Lib.hid hb2
  clear hb2 k3
  go_wp2_with ((go_at_call 28; refine con3.mono ?_; rintro e w' ⟨rfl, rfl⟩))
  go_loop [10] (fun i => i = .int .i64 0) (fun _ => 0)
  case atStart => rfl
  case round =>
    subst hrel
    go_wp2_with fail
    go_ret
    exact ⟨rfl, HB2.out⟩

set_option maxRecDepth 100000 in
set_option maxHeartbeats 2000000 in
theorem same_here (w : World) (B d d2 : Nat) (m : M) (f : Int) (hf : -9223372036854775808 ≤ f ∧ f < 9223372036854775808) (h : Dk w B d m) (hr : Fk w B d2 m) (ho : m.off = false) (hfm : f ∈ m.files) :
    Calls Tryz.prog 21 #[.pointer (some ⟨d, 0, none⟩), .pointer (some ⟨d2, 0, none⟩), .int .i64 f] w fun r w' => r = .returned (.bool true) ∧ Below w.heap.size w w' := by
  have h0 : there m f = 0 := by unfold there; rw [ho, if_neg (by simp), if_pos hfm]
  have con := Disk.read_ok w B d m f hf h h0
  have hinv : Inv m := by obtain ⟨_, _, _, h⟩ := h; exact h.inv
  have hr512 := hinv.r512 f
  have hrl := hinv.rows_le f
  have k3 := Fk_off hr
  rw [ho] at k3
  have HR := Lib.hid hr
  have H512 := Lib.hid hr512
  have hat := atI_ge f m.files hfm
  have HAT := Lib.hid hat
  clear h ho hf h0 hfm hat hr512 hinv
  obtain ⟨n, hn⟩ : ∃ n, n = (rows f m.l).length := ⟨_, rfl⟩
  go_enter Tryz.func21, Tryz.ntmps21
  go_wp2_with fail
  refine con.mono ?_
  clear con
  rintro r w3 ⟨v, rfl, hrs, hb3⟩
  have con2 := Disk.rread_ok w3 B d2 m f (hr.below hb3)
  obtain ⟨us, hu1, hu2, hu3⟩ := hrs
  rw [List.length_map] at hu1 hu2
  rw [← hn] at hu1 hu2 hrl con2
  obtain ⟨gA, gc, hv⟩ := own_slice _ hu1
  subst hv
  have HN := Lib.hid hn
  have HU1 := Lib.hid hu1
  have HU3 := Lib.hid hu3
  have HB3 := Lib.hid hb3
  have k3' := kept hb3 k3
  clear hn hu1 hu2 hu3 hb3 k3 hr
  go_wp2_with fail
  refine con2.mono ?_
  clear con2
  rintro e w5 ⟨wA, wc, rfl, hst, hb5⟩
  have con3 := at_fk ((HR.out.below HB3.out).below hb5) f
  have HST := Lib.hid hst
  have HB5 := Lib.hid hb5
  have hatv := HAT.out
  generalize atI f m.files = ai at con3 hatv
  clear hst hb5 k3' HAT
  go_wp2_with ((go_at_call 28; refine con3.mono ?_; rintro e w' ⟨rfl, rfl⟩))
  clear con3
  go_loopw [10] (fun i wi => ∃ j : Nat, j ≤ n ∧ i = .int .i64 j ∧ Below w5.heap.size w5 wi) (fun i _ => n - (Go.RowKit.intOf i).toNat)
  case atStart => exact ⟨0, Nat.zero_le _, rfl, Below.refl _ _⟩
  case round =>
    obtain ⟨j, hj, rfl, hbi⟩ := hrel
    have HBI := Lib.hid hbi
    by_cases hjt : j < n
    · obtain ⟨x, hx⟩ : ∃ x, (rows f m.l)[j]? = some x := ⟨_, List.getElem?_eq_getElem (by rw [← HN.out]; exact hjt)⟩
      have hx5 : x.b.length = 512 := H512.out x (List.mem_of_getElem? hx)
      have hxm : ((rows f m.l).map Sc.b)[j]? = some x.b := by rw [List.getElem?_map, hx]; rfl
      obtain ⟨Ax, cx, ex, hyx⟩ := HU3.out j x.b hxm
      rw [hx5] at ex hyx
      obtain ⟨g, hg⟩ : ∃ g, gA = some ⟨g, 0, none⟩ := by
        rcases HU1.out.2 with ⟨_, h⟩ | ⟨g, cap, cur, e, _⟩
        · omega
        · injection e with e1; exact ⟨g, e1⟩
      obtain ⟨gw, hgw⟩ : ∃ gw, wA = some ⟨gw, 0, none⟩ := by
        rcases HST.out.2 with ⟨_, h⟩ | ⟨g, cap, cur, e, _⟩
        · rw [List.length_map, ← HN.out] at h; omega
        · injection e with e1; exact ⟨g, e1⟩
      subst hg hgw
      have p1 : w3.cell? ⟨g, j, none⟩ = some (.slice Ax 512 cx) := by
        have := World.ownsRow.cells HU1.out (g := g) rfl j _ ex
        rwa [Addr.add_lit, Nat.zero_add] at this
      have p2 : w5.cell? ⟨gw, j, none⟩ = some (.string (str x.b)) := by
        have := World.ownsRow.cells HST.out (g := gw) rfl j (.string (str x.b)) (by rw [List.getElem?_map, hxm]; rfl)
        rwa [Addr.add_lit, Nat.zero_add] at this
      have hbr5 : ∀ V, From wr V → Below w5.heap.size w5 V := fun V hV => HBI.out.trans (Below.mono hV HBI.out.size)
      have hbr3 : ∀ V, From wr V → Below w3.heap.size w3 V := fun V hV => HB5.out.trans ((hbr5 V hV).mono HB5.out.size)
      have hu : ∀ V, From wr V → V.cell? ⟨g, j, none⟩ = some (.slice Ax 512 cx) := fun V hV => kept (hbr3 V hV) p1
      have hs : ∀ V, From wr V → V.cell? ⟨gw, j, none⟩ = some (.string (str x.b)) := fun V hV => kept (hbr5 V hV) p2
      have hq : ∀ V, From wr V → (convert 44 9 (.slice Ax 512 cx)).run Tryz.prog V = .ok (.string (str x.b)) V := fun V hV => Disk.toStr (hyx.below (hbr3 V hV)).rd cx
      clear hx hx5 hxm ex hyx p1 p2 hbr5 hbr3 hbi
      go_wp2_with fail
      refine wp_region_held_drew (S := From wr) (by kernel_rfl) (From.self _).drew (fun hH => ?_)
      refine wpAnyH_take (i := 0) (v := .slice (some ⟨g, 0, none⟩) n gc) rfl (by kernel_rfl) (by kernel_rfl) (by kernel_rfl) (fun _ _ _ h => h) (Or.inl ⟨by rfl, ?_⟩) hH ?_
      · intro V hV; go_simp
      try simp only [Act.put, List.setIfInBounds_toArray, List.set_cons_zero, List.set_cons_succ, List.getElem_toArray, List.getElem_cons_succ, List.getElem_cons_zero]
      refine wpAnyH_take (i := 1) (v := .int .i64 (j : Nat)) rfl (by kernel_rfl) (by kernel_rfl) (by kernel_rfl) (fun _ _ _ h => h) (Or.inl ⟨by rfl, ?_⟩) hH ?_
      · intro V hV; go_simp
      try simp only [Act.put, List.setIfInBounds_toArray, List.set_cons_zero, List.set_cons_succ, List.getElem_toArray, List.getElem_cons_succ, List.getElem_cons_zero]
      refine wpAnyH_take (i := 2) (v := .pointer (some ⟨g, j, none⟩)) rfl (by kernel_rfl) (by kernel_rfl) (by kernel_rfl) (fun _ _ _ h => h) (Or.inl ⟨by rfl, ?_⟩) hH ?_
      · intro V hV; go_simp
      try simp only [Act.put, List.setIfInBounds_toArray, List.set_cons_zero, List.set_cons_succ, List.getElem_toArray, List.getElem_cons_succ, List.getElem_cons_zero]
      refine wpAnyH_take (i := 3) (v := .slice Ax 512 cx) rfl (by kernel_rfl) (by kernel_rfl) (by kernel_rfl) (fun _ _ _ h => h) (Or.inl ⟨by rfl, ?_⟩) hH ?_
      · intro V hV; have k := hu V hV; go_simp
      try simp only [Act.put, List.setIfInBounds_toArray, List.set_cons_zero, List.set_cons_succ, List.getElem_toArray, List.getElem_cons_succ, List.getElem_cons_zero]
      refine wpAnyH_take (i := 4) (v := .string (str x.b)) rfl (by kernel_rfl) (by kernel_rfl) (by kernel_rfl) (fun _ _ _ h => h) (Or.inl ⟨by rfl, ?_⟩) hH ?_
      · intro V hV; have k := hq V hV; go_simp
      try simp only [Act.put, List.setIfInBounds_toArray, List.set_cons_zero, List.set_cons_succ, List.getElem_toArray, List.getElem_cons_succ, List.getElem_cons_zero]
      refine wpAnyH_take (i := 5) (v := .slice (some ⟨gw, 0, none⟩) n wc) rfl (by kernel_rfl) (by kernel_rfl) (by kernel_rfl) (fun _ _ _ h => h) (Or.inl ⟨by rfl, ?_⟩) hH ?_
      · intro V hV; go_simp
      try simp only [Act.put, List.setIfInBounds_toArray, List.set_cons_zero, List.set_cons_succ, List.getElem_toArray, List.getElem_cons_succ, List.getElem_cons_zero]
      refine wpAnyH_take (i := 6) (v := .int .i64 (j : Nat)) rfl (by kernel_rfl) (by kernel_rfl) (by kernel_rfl) (fun _ _ _ h => h) (Or.inl ⟨by rfl, ?_⟩) hH ?_
      · intro V hV; go_simp
      try simp only [Act.put, List.setIfInBounds_toArray, List.set_cons_zero, List.set_cons_succ, List.getElem_toArray, List.getElem_cons_succ, List.getElem_cons_zero]
      refine wpAnyH_take (i := 7) (v := .pointer (some ⟨gw, j, none⟩)) rfl (by kernel_rfl) (by kernel_rfl) (by kernel_rfl) (fun _ _ _ h => h) (Or.inl ⟨by rfl, ?_⟩) hH ?_
      · intro V hV; go_simp
      try simp only [Act.put, List.setIfInBounds_toArray, List.set_cons_zero, List.set_cons_succ, List.getElem_toArray, List.getElem_cons_succ, List.getElem_cons_zero]
      refine wpAnyH_take (i := 8) (v := .string (str x.b)) rfl (by kernel_rfl) (by kernel_rfl) (by kernel_rfl) (fun _ _ _ h => h) (Or.inl ⟨by rfl, ?_⟩) hH ?_
      · intro V hV; have k := hs V hV; go_simp
      try simp only [Act.put, List.setIfInBounds_toArray, List.set_cons_zero, List.set_cons_succ, List.getElem_toArray, List.getElem_cons_succ, List.getElem_cons_zero]
      refine wpAnyH_take (i := 9) (v := .bool false) rfl (by kernel_rfl) (by kernel_rfl) (by kernel_rfl) (fun _ _ _ h => h) (Or.inl ⟨by rfl, ?_⟩) hH ?_
      · intro V hV; go_simp
      try simp only [Act.put, List.setIfInBounds_toArray, List.set_cons_zero, List.set_cons_succ, List.getElem_toArray, List.getElem_cons_succ, List.getElem_cons_zero]
      refine wpAnyH_done (by kernel_rfl) ?_ _
      clear hu hs hq
      go_wp2_with fail
      go_roundw
      case rel => exact ⟨j + 1, by omega, by go_num, HBI.out.trans (Below.mono hH HBI.out.size)⟩
      case measure => simp [Go.RowKit.intOf]; omega
    · obtain rfl : j = n := by omega
      clear hbi hj
      go_wp2_with fail
      go_ret
      exact ⟨rfl, HB3.out.trans ((HB5.out.trans (HBI.out.mono HB5.out.size)).mono HB3.out.size)⟩
theorem same_ok (w : World) (B d d2 : Nat) (m : M) (f : Int) (hf : -9223372036854775808 ≤ f ∧ f < 9223372036854775808) (h : Dk w B d m) (hr : Fk w B d2 m) :
    Calls Tryz.prog 21 #[.pointer (some ⟨d, 0, none⟩), .pointer (some ⟨d2, 0, none⟩), .int .i64 f] w fun r w' => r = .returned (.bool true) ∧ Below w.heap.size w w' := by
  cases ho : m.off
  · by_cases hfm : f ∈ m.files
    · exact same_here w B d d2 m f hf h hr ho hfm
    · exact same_none w B d d2 m f hf h hr ho hfm
  · exact same_off w B d d2 m f hf h hr ho
end Go.Proofs.YtbomgglmplecpaaGreat.Segm
