/-
  What sector.sumOf and sector.imageOf come to.
-/
import Derived.Test.YtickagagbdfncaaSectorFields
namespace Go.Proofs.Ytickagagbdfncaa.Sector
open Go.RowKit Go.Proofs.Ytickagagbdfncaa.Pack
set_option linter.unusedVariables false

theorem le4_form (x : BitVec 32) : ∃ a b c d, num 4 (x.setWidth 64) = [a, b, c, d] ∧ le4 x = [d, c, b, a] := by
  have hl := num_length 4 (x.setWidth 64)
  match h : num 4 (x.setWidth 64), hl with
  | [a, b, c, d], _ => exact ⟨a, b, c, d, rfl, by rw [le4, h]; rfl⟩

set_option maxRecDepth 100000 in
set_option maxHeartbeats 1000000 in
theorem sumOf (B : Nat) (A : Option Addr) (n c : Nat) (bs : List (BitVec 8)) (w : World) (hbs : Bs w B A n bs) (hB : B ≤ w.heap.size) (hn : n ≤ maxLen) :
    Calls Try.prog 23 #[.slice A n c] w fun r w' => ∃ A' c', r = .returned (.slice A' 4 c') ∧ Own w' w.heap.size A' 4 c' (le4 (Crc.sum bs)) ∧ Below w.heap.size w w' := by
  have HB := Lib.hid hbs
  clear hbs
  go_enter Try.func23, Try.ntmps23
  go_wp2_with fail
  refine (Crc.sum_any B A n c bs _ HB.out hB hn).mono ?_
  rintro r w1 ⟨rfl, hb1⟩
  have s1 := hb1.size
  generalize hX : Crc.sum bs = X
  have HX := Lib.hid hX
  clear hX
  go_wp2_with fail
  refine (number_at (X.setWidth 64) 4 (by decide) (by decide) _ _ (wide X) rfl _).mono ?_
  rintro r w2 ⟨A2, c2, rfl, ho2, hb2⟩
  have s2 := hb2.size
  obtain ⟨a, b, c', d, e1, e2⟩ := le4_form X
  rw [e1] at ho2
  have O2 := Lib.hid ho2
  have E2 := Lib.hid e2
  clear ho2 e1 e2
  go_wp2_with fail
  refine (reverse4 _ A2 c2 a b c' d _ O2.out).mono ?_
  rintro r w3 ⟨rfl, ho3, hb3⟩
  have O3 := Lib.hid ho3
  clear ho3
  go_wp2_with fail
  go_ret
  exact ⟨A2, c2, rfl, by rw [HX.out, E2.out]; exact O3.out.base s1, (hb1.trans (hb2.mono s1)).trans (hb3.mono s1)⟩

/-- A result that lies in a variable. -/
theorem results_cell {P : Program} {fn : Func} {tmps : Array Value} {w : World} (a : Tmp) (t : TypeId) (hr : fn.results = #[.cell a t]) (ad : Addr) (ha : tmps.getD a undef = .pointer (some ad)) (v : Value) (hl : (loadVar t ad).run P w = .ok v w) :
    (results fn tmps).run P w = .ok v w := by
  unfold results
  rw [hr]
  simp only [List.mapM_toArray, List.mapM_cons, List.mapM_nil, ha, asAddr]
  simp [hl]
theorem zero512 : (Try.prog.info? 45).map (fun i => (i.zero, i.size)) = some (some (.agg (List.replicate 512 (v8 0#8)).toArray), 512) := by kernel_rfl
theorem arr512 : Try.prog.underlying 45 = some (.array 512 5) := by kernel_rfl
theorem size8 : (Try.prog.info? 5).map (·.size) = some 1 := by kernel_rfl

theorem Cel.range {w : World} {g : Nat} {t : TypeId} {cs : List Value} (h : Cel w g t cs) : w.rangeAt g 0 cs := fun j v hv => by
  rw [Nat.zero_add, h.cell j, hv]
theorem Cel.there {w : World} {g : Nat} {t : TypeId} {cs : List Value} (h : Cel w g t cs) : w.there g 0 cs.length := fun j hj => by
  rw [Nat.zero_add]
  exact ⟨by rw [h.cell j, List.getElem?_eq_getElem hj]; rfl, h.free j⟩
theorem Cel.bs {w : World} {g B : Nat} {t : TypeId} {bs l : List (BitVec 8)} {n : Nat} (h : Cel w g t (bs.map v8)) (hB : g < B) (hn : n ≤ bs.length) (hl : bs.take n = l) : Bs w B (some ⟨g, 0, none⟩) n l := by
  subst hl
  refine ⟨by rw [List.length_take]; omega, fun _ => ⟨_, rfl, hB, fun j hj => ?_⟩⟩
  rw [add_row, h.cell j, List.getElem?_map, List.getElem?_eq_getElem (by omega), List.getD_eq_getElem?_getD, List.getElem?_take, if_pos hj, List.getElem?_eq_getElem (by omega)]
  rfl
theorem Cel.setCells {w : World} {g : Nat} {t : TypeId} {cs vs : List Value} (h : Cel w g t cs) (hl : vs.length = cs.length) : Cel (w.setCells g 0 vs) g t vs := by
  have key : ∀ (vs cs : List Value) (k : Nat) (pre : List Value) (w : World), pre.length = k → vs.length = cs.length → Cel w g t (pre ++ cs) → Cel (w.setCells g k vs) g t (pre ++ vs) := by
    intro vs
    induction vs with
    | nil => intro cs k pre w hk hl h; cases cs with
      | nil => exact h
      | cons c cs => simp at hl
    | cons v vs ih =>
      intro cs k pre w hk hl h
      cases cs with
      | nil => simp at hl
      | cons c cs =>
        rw [World.setCells]
        have h1 := h.set k v
        rw [List.set_append_right _ _ (by omega), hk, Nat.sub_self, List.set_cons_zero] at h1
        have := ih cs (k + 1) (pre ++ [v]) _ (by simp [hk]) (by simpa using hl) (by simpa using h1)
        simpa using this
  simpa using key vs cs 0 [] w rfl hl (by simpa using h)
theorem Below.setCells {B : Nat} {w0 w : World} (h : Below B w0 w) {g : Nat} (hg : B ≤ g) : ∀ (vs : List Value) (o : Nat), Below B w0 (w.setCells g o vs) := by
  intro vs
  induction vs generalizing w with
  | nil => intro o; exact h
  | cons v vs ih => intro o; rw [World.setCells]; exact ih (h.setCell hg v) _
theorem Bs.srcs {w : World} {B : Nat} {A : Option Addr} {n : Nat} {bs : List (BitVec 8)} (h : Bs w B A n bs) : 0 < n → ∃ ad, A = some ad ∧ ∀ j v, (bs.map v8)[j]? = some v → w.cell? (ad.add j) = some v := fun hn => by
  obtain ⟨ad, e, _, hc⟩ := h.2 hn
  refine ⟨ad, e, fun j v hv => ?_⟩
  have hj : j < bs.length := by
    rcases Nat.lt_or_ge j bs.length with h' | h'
    · exact h'
    · rw [List.getElem?_eq_none (by simpa using h')] at hv; cases hv
  rw [hc j (by rw [← h.1]; exact hj), List.getD_eq_getElem?_getD, List.getElem?_eq_getElem hj]
  rw [List.getElem?_map, List.getElem?_eq_getElem hj] at hv
  exact hv
theorem one8 (bs : List (BitVec 8)) : ∀ v ∈ bs.map v8, v.oneCell' = true := by
  intro u hu; obtain ⟨x, _, rfl⟩ := List.mem_map.1 hu; rfl
/-- The first copy. -/
theorem splice_head (p : Pt) (hm : p.may = true) : splice (List.replicate 512 (v8 0#8)) 0 ((fields p).map v8) = (head p ++ List.replicate 4 0#8).map v8 := by
  have hb := may_body hm
  have hl := fields_length p
  rw [splice, List.take_zero, List.nil_append, List.drop_replicate, head, List.map_append, List.map_append, List.map_replicate, List.map_replicate, List.append_assoc, List.replicate_append_replicate]
  congr 2
  simp
  omega
/-- The second copy. -/
theorem splice_sec (p : Pt) (hm : p.may = true) : splice ((head p ++ List.replicate 4 0#8).map v8) 508 ((le4 (Crc.sum (head p))).map v8) = (sec p).map v8 := by
  have hl := head_length hm
  have h4 := le4_length (Crc.sum (head p))
  rw [splice, List.map_append, List.take_append_of_le_length (by simp; omega), List.take_of_length_le (by simp; omega), sec, List.map_append]
  congr 1
  rw [List.drop_eq_nil_of_le (by simp; omega), List.append_nil]

set_option maxRecDepth 100000 in
set_option maxHeartbeats 1000000 in
theorem imageOf (p : Pt) (B : Nat) (A : Option Addr) (n c : Nat) (w : World) (hbs : Bs w B A n p.body) (hB : B ≤ w.heap.size) (hm : p.may = true) :
    Calls Try.prog 15 #[partV p.epoch p.seq p.flags A n c] w fun r w' => r = .returned (.agg ((sec p).map v8).toArray) ∧ Below w.heap.size w w' := by
  have hn : n ≤ 493 := by have := may_body hm; rw [hbs.len] at this; exact this
  obtain ⟨hz, hsz⟩ := zero_of_info zero512
  obtain ⟨zl, hZ⟩ : ∃ zl : List Value, zl = List.replicate 512 (v8 0#8) := ⟨_, rfl⟩
  rw [← hZ] at hz
  have HZ := Lib.hid hZ
  have hzl : zl.length = 512 := by rw [hZ]; simp
  have HB := Lib.hid hbs
  have HM := Lib.hid hm
  have HSZ := Lib.hid hsz
  have HZL := Lib.hid hzl
  clear hbs hm hZ hsz hzl
  have hW0 : Cel (((w.alloc (.cells #[v32 p.epoch, v32 p.seq, .int .i64 p.flags, .slice A n c] 25)).alloc (.cells zl.toArray 45)).alloc (.cells zl.toArray 45)) w.heap.size 25 [v32 p.epoch, v32 p.seq, .int .i64 p.flags, .slice A n c] :=
    ((Cel.new w _ _).alloc _).alloc _
  have hW1 : Cel (((w.alloc (.cells #[v32 p.epoch, v32 p.seq, .int .i64 p.flags, .slice A n c] 25)).alloc (.cells zl.toArray 45)).alloc (.cells zl.toArray 45)) (w.heap.size + 1) 45 zl := by
    have := (Cel.new (w.alloc (.cells #[v32 p.epoch, v32 p.seq, .int .i64 p.flags, .slice A n c] 25)) 45 zl).alloc (.cells zl.toArray 45)
    simpa using this
  have hW2 : Cel (((w.alloc (.cells #[v32 p.epoch, v32 p.seq, .int .i64 p.flags, .slice A n c] 25)).alloc (.cells zl.toArray 45)).alloc (.cells zl.toArray 45)) (w.heap.size + 1 + 1) 45 zl := by
    have := (Cel.new ((w.alloc (.cells #[v32 p.epoch, v32 p.seq, .int .i64 p.flags, .slice A n c] 25)).alloc (.cells zl.toArray 45)) 45 zl)
    simpa using this
  have hWB : Below w.heap.size w (((w.alloc (.cells #[v32 p.epoch, v32 p.seq, .int .i64 p.flags, .slice A n c] 25)).alloc (.cells zl.toArray 45)).alloc (.cells zl.toArray 45)) :=
    (((Below.refl _ _).alloc (Nat.le_refl _) _).alloc (by simp) _).alloc (by simp; omega) _
  have HW0 := Lib.hid hW0
  have HW1 := Lib.hid hW1
  have HW2 := Lib.hid hW2
  have HWB := Lib.hid hWB
  clear hW0 hW1 hW2 hWB
  go_enter Try.func15, Try.ntmps15
  go_wp2_with fail
  generalize ((w.alloc (.cells #[v32 p.epoch, v32 p.seq, .int .i64 p.flags, .slice A n c] 25)).alloc (.cells zl.toArray 45)).alloc (.cells zl.toArray 45) = W at *
  have q0 := HW0.out.cell 0
  have q1 := HW0.out.cell 1
  have q2 := HW0.out.cell 2
  have q3 := HW0.out.cell 3
  have sW := HW2.out.lt
  go_region_law (first
    | (go_simp; go_at_call 22; refine (fields_walk p B A n c _ ((HB.out.below (HWB.out.mono hB)).drew) (Nat.le_trans hB HWB.out.size) HM.out).mono ?_; rintro r w1 ⟨A1, c1, rfl, ho1, hb1⟩; replace hb1 := (Below.refl W.heap.size W).drew.trans hb1; have O1 := Lib.hid ho1; clear ho1)
    | (refine step_copy_splice rfl (.tmp 4) (.tmp 6) 23 23 rfl 5 Try.underlying23 size8 _ _ 508 512 (15 + n) _ rfl rfl (w.heap.size + 1 + 1) 0 zl 45 (HW2.out.below hb1 sW) ((fields p).map v8) (by rw [List.length_map, fields_length, HB.out.len]; exact (Nat.min_eq_left (by omega)).symm) (fun _ => ⟨rfl, Bs.srcs (Own.low O1.out) (by omega)⟩) (by rw [HZL.out, List.length_map, fields_length, HB.out.len]; omega) (one8 _) (w.heap.size + 1 + 1) W (hb1.mono (Nat.le_of_lt sW)) (Nat.le_refl _) ?_; intro w2 hg2 hb2))
  have hC2 : Cel w2 (w.heap.size + 1 + 1) 45 ((head p ++ List.replicate 4 0#8).map v8) := by
    rw [← splice_head p HM.out, ← HZ.out]; exact hg2.out
  have HC2 := Lib.hid hC2
  have s2 := hC2.lt
  have hlen : (head p).length = 508 := head_length HM.out
  have HLEN := Lib.hid hlen
  have HB2 := Lib.hid hb2
  clear hg2 hC2 hlen hb2 hb1 O1 q0 q1 q2 q3
  go_wp2_with fail
  go_region_law (first
    | (go_simp; go_at_call 23; refine (sumOf (w.heap.size + 1 + 1 + 1) _ 508 _ (head p) _ (Bs.drew (Cel.bs HC2.out (Nat.lt_succ_self _) (by rw [List.length_append, HLEN.out]; omega) (by rw [List.take_append_of_le_length (by rw [HLEN.out]; exact Nat.le_refl _), List.take_of_length_le (by rw [HLEN.out]; exact Nat.le_refl _)]))) s2 (by decide)).mono ?_; rintro r w3 ⟨A3, c3, rfl, ho3, hb3⟩; replace hb3 := (Below.refl w2.heap.size w2).drew.trans hb3; have O3 := Lib.hid ho3; clear ho3)
    | (refine step_copy_splice rfl (.tmp 8) (.tmp 10) 23 23 rfl 5 Try.underlying23 size8 _ _ 4 4 4 _ rfl rfl (w.heap.size + 1 + 1) 508 ((head p ++ List.replicate 4 0#8).map v8) 45 (HC2.out.below hb3 s2) ((le4 (Crc.sum (head p))).map v8) (by rw [List.length_map, le4_length]; rfl) (fun _ => ⟨rfl, Bs.srcs (Own.low O3.out) (by decide)⟩) (by rw [List.length_map, List.length_map, List.length_append, HLEN.out, le4_length]; simp) (one8 _) (w.heap.size + 1 + 1) W (HB2.out.trans (hb3.mono (Nat.le_of_lt s2))) (Nat.le_refl _) ?_; intro w4 hg4 hb4))
  have hC4 : Cel w4 (w.heap.size + 1 + 1) 45 ((sec p).map v8) := by
    rw [← splice_sec p HM.out]; exact hg4.out
  have hD4 : Cel w4 (w.heap.size + 1) 45 zl := HW1.out.below hb4 (Nat.lt_succ_self _)
  have hls : ((sec p).map v8).length = 512 := by rw [List.length_map, sec_length HM.out]
  have HC4 := Lib.hid hC4
  have HD4 := Lib.hid hD4
  have HLS := Lib.hid hls
  have HB4 := Lib.hid hb4
  have H1 := Lib.hid (one8 (sec p))
  clear hg4 hC4 hD4 hls hb4 O3 hb3
  generalize hcs : (sec p).map v8 = cs at *
  have HCS := Lib.hid hcs
  clear hcs
  have hlc := HLS.out
  have hst : (storeCells { block := w.heap.size + 1, off := 0 } cs).run Try.prog w4 = .ok () (w4.setCells (w.heap.size + 1) 0 cs) := by
    have ht := Cel.there HD4.out
    rw [HZL.out] at ht
    have := run_storeCells_cells (P := Try.prog) (w.heap.size + 1) 0 cs 0 w4 (fun j hj => by simpa using (ht j (by omega)).1) (fun j hj => by simpa using (ht j (by omega)).2) H1.out
    simpa using this
  go_wp2_with (first
    | (refine wpList_load_mid rfl 45 (.tmp 3) rfl (w.heap.size + 1 + 1) 0 rfl cs (.array 512 5) (Cel.range HC4.out) arr512 rfl (by rw [HLS.out]; exact HSZ.out) ?_))
  have hR := run_loadVar_mid (P := Try.prog) (w4.setCells (w.heap.size + 1) 0 cs) (w.heap.size + 1) 0 45 cs (.array 512 5) (Cel.range (Cel.setCells HD4.out (by rw [HLS.out, HZL.out]))) arr512 rfl (by rw [HLS.out]; exact HSZ.out)
  refine bodyPost_ret (v := .agg cs.toArray) ?_ rfl ⟨by rw [HCS.out], ?_⟩
  · exact results_cell 2 45 Try.results15 ⟨w.heap.size + 1, 0, none⟩ rfl _ hR
  · exact HWB.out.trans (Below.setCells (HB4.out.mono (by omega)) (by omega) _ _)
end Go.Proofs.Ytickagagbdfncaa.Sector
