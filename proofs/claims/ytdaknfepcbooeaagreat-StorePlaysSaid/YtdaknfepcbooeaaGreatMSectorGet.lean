/-
  What sector.Put and sector.Get come to.
-/
import Derived.Test.YtdaknfepcbooeaaGreatMSectorA
import Derived.Deep.RegionHeld3
import Derived.ChangeKeysEq
import Derived.Laws.StructEq
import Derived.Lib.LaidU8
namespace Go.Proofs.YtdaknfepcbooeaaGreat.Sector
open Go.RowKit Go.Proofs.YtdaknfepcbooeaaGreat.Pack
set_option linter.unusedVariables false
set_option linter.unusedSimpArgs false

set_option maxRecDepth 100000 in
set_option maxHeartbeats 1000000 in
theorem put_no (p : Pt) (A : Option Addr) (n c : Nat) (w : World) (hm : mayB p.flags n = false) :
    Calls Tryz.prog 99 #[partV p.epoch p.seq p.flags A n c] w fun r w' => r = .returned (.tuple #[.slice none 0 0, .int .i64 1]) ∧ Below w.heap.size w w' := by
  have HM := Lib.hid hm
  clear hm
  go_enter Tryz.func99, Tryz.ntmps99
  go_wp2_with fail
  refine (isPart_no _ _ _ _ _ _ _ HM.out).mono ?_
  rintro r w1 ⟨rfl, hb1⟩
  go_wp2_with fail
  go_ret2
  exact ⟨rfl, ((Below.refl _ _).alloc (Nat.le_refl _) _).trans (hb1.mono (by simp))⟩

set_option maxRecDepth 100000 in
set_option maxHeartbeats 1000000 in
theorem put_yes (p : Pt) (B : Nat) (A : Option Addr) (n c : Nat) (w : World) (hbs : Bs w B A n p.body) (hB : B ≤ w.heap.size) (hm : p.may = true) :
    Calls Tryz.prog 99 #[partV p.epoch p.seq p.flags A n c] w fun r w' => ∃ g, r = .returned (.tuple #[.slice (some ⟨g, 0, none⟩) 512 512, .int .i64 0]) ∧ w.heap.size ≤ g ∧ Cel w' g 157 ((sec p).map v8) ∧ Below w.heap.size w w' := by
  have hmb : mayB p.flags n = true := by rw [← hbs.len]; exact hm
  obtain ⟨hz, hsz⟩ := zero_of_info zero512
  obtain ⟨zl, hZ⟩ : ∃ zl : List Value, zl = List.replicate 512 (v8 0#8) := ⟨_, rfl⟩
  rw [← hZ] at hz
  have hzl : zl.length = 512 := by rw [hZ]; simp
  have HB := Lib.hid hbs
  have HM := Lib.hid hm
  have HMB := Lib.hid hmb
  have HSZ := Lib.hid hsz
  have HZL := Lib.hid hzl
  clear hbs hm hZ hsz hzl hmb
  have hc0 := Cel.new w 121 [v32 p.epoch, v32 p.seq, .int .i64 p.flags, .slice A n c]
  have HC0 := Lib.hid hc0
  clear hc0
  go_enter Tryz.func99, Tryz.ntmps99
  go_wp2_with fail
  refine (isPart_yes _ _ _ _ _ _ _ HMB.out).mono ?_
  rintro r w1 ⟨rfl, hb1⟩
  have hb1' : Below w.heap.size w w1 := ((Below.refl _ _).alloc (Nat.le_refl _) _).trans (hb1.mono (by simp))
  have hc1 := HC0.out.below hb1 (by simp)
  have k0 := hc1.cell 0
  have k1 := hc1.cell 1
  have k2 := hc1.cell 2
  have k3 := hc1.cell 3
  have s1 := hb1'.size
  have HB1 := Lib.hid hb1'
  clear hc1 hb1 hb1'
  go_wp2_with fail
  refine (imageOf p B A n c _ (HB.out.below (HB1.out.mono hB)) (by omega) HM.out).mono ?_
  rintro r w2 ⟨rfl, hb2⟩
  have hls : ((sec p).map v8).length = 512 := by rw [List.length_map, sec_length HM.out]
  have H1 := Lib.hid (one8 (sec p))
  generalize hcs : (sec p).map v8 = cs at *
  have HCS := Lib.hid hcs
  clear hcs
  have hst : (storeCells { block := w2.heap.size, off := 0 } cs).run Tryz.prog (w2.alloc (.cells zl.toArray 157)) = .ok () ((w2.alloc (.cells zl.toArray 157)).setCells w2.heap.size 0 cs) := by
    have ht := Cel.there (Cel.new w2 157 zl)
    rw [HZL.out] at ht
    have := run_storeCells_cells (P := Tryz.prog) w2.heap.size 0 cs 0 (w2.alloc (.cells zl.toArray 157)) (fun j hj => by simpa using (ht j (by omega)).1) (fun j hj => by have := (ht j (by omega)).2; simp) H1.out
    simpa using this
  have s2 := hb2.size
  go_wp2_with fail
  go_ret2
  have hb12 := HB1.out.trans (hb2.mono s1)
  exact ⟨_, rfl, by omega, by rw [HCS.out]; exact Cel.setCells (Cel.new w2 _ zl) (by rw [hls]; exact HZL.out.symm), Below.setCells (hb12.alloc hb12.size _) (by omega) _ _⟩

/-! Arrays of bytes, compared whole. -/
theorem run_eqItems_bytes {P : Program} (w : World) (d : Nat) {e : TypeId} (he : P.underlying e = some (.int .u8)) (xs ys : List (BitVec 8)) : ∀ is : List Nat, (∀ i ∈ is, i < xs.length ∧ i < ys.length) →
    (Op.eqItems (d + 1) e 1 (xs.map v8).toArray (ys.map v8).toArray is).run P w = .ok (is.all fun i => xs.getD i 0#8 == ys.getD i 0#8) w
  | [], _ => by simp [Op.eqItems]
  | i :: is, h => by
    obtain ⟨hx, hy⟩ := h i (by simp)
    have ih := run_eqItems_bytes w d he xs ys is (fun j hj => h j (by simp [hj]))
    have pt : ∀ zs : List (BitVec 8), i < zs.length → (part e (zs.map v8).toArray (i * 1)).run P w = .ok (v8 (zs.getD i 0#8)) w := by
      intro zs hz
      simp [part, isAgg, run_underlying he, List.getElem?_eq_getElem hz]
    have eb : (((xs.getD i 0#8).toNat : Int) == ((ys.getD i 0#8).toNat : Int)) = (xs.getD i 0#8 == ys.getD i 0#8) := by
      rw [Bool.eq_iff_iff]
      simp only [beq_iff_eq]
      exact ⟨fun h => BitVec.eq_of_toNat_eq (by omega), fun h => by rw [h]⟩
    have q := run_equalIn_int (P := P) w d e .u8 .u8 ((xs.getD i 0#8).toNat : Int) ((ys.getD i 0#8).toNat : Int) he
    rw [eb] at q
    simp only [Op.eqItems, Sem.run_bind, pt xs hx, pt ys hy, Result.andThen_ok, q, List.all_cons]
    cases hb : (xs.getD i 0#8 == ys.getD i 0#8)
    · simp
    · simpa using ih
theorem all_range (xs ys : List (BitVec 8)) (n : Nat) (hx : xs.length = n) (hy : ys.length = n) : ((List.range n).all fun i => xs.getD i 0#8 == ys.getD i 0#8) = decide (xs = ys) := by
  rw [Bool.eq_iff_iff]
  simp only [List.all_eq_true, List.mem_range, beq_iff_eq, decide_eq_true_eq]
  constructor
  · intro h
    apply List.ext_getElem (by omega)
    intro i h1 h2
    have := h i (by omega)
    simpa [List.getD_eq_getElem?_getD, List.getElem?_eq_getElem h1, List.getElem?_eq_getElem h2] using this
  · rintro rfl i _; rfl
theorem run_neq_bytes {P : Program} (w : World) (t e : TypeId) (n : Nat) (ht : P.underlying t = some (.array n e)) (he : P.underlying e = some (.int .u8)) (hs : P.cellsOf e = 1) (xs ys : List (BitVec 8)) (hx : xs.length = n) (hy : ys.length = n) :
    (binOp .neq t (.agg (xs.map v8).toArray) (.agg (ys.map v8).toArray)).run P w = .ok (.bool (!decide (xs = ys))) w := by
  obtain ⟨i, hi⟩ := info_of_underlying he
  have h := run_equalIn_array w 9999 (xs.map v8).toArray (ys.map v8).toArray ht hi
  rw [hs, run_eqItems_bytes w 9998 he xs ys (List.range n) (fun i hi => by have := List.mem_range.1 hi; omega), all_range xs ys n hx hy] at h
  rw [run_neq_struct, h]
  rfl

theorem results_cell2 {P : Program} {fn : Func} {tmps : Array Value} {w : World} (a : Tmp) (t : TypeId) (b : Tmp) (hr : fn.results = #[.cell a t, .tmp b]) (ad : Addr) (ha : tmps.getD a undef = .pointer (some ad)) (v u : Value) (hu : tmps.getD b undef = u) (hl : (loadVar t ad).run P w = .ok v w) :
    (results fn tmps).run P w = .ok (.tuple #[v, u]) w := by
  unfold results
  rw [hr]
  simp only [List.mapM_toArray, List.mapM_cons, List.mapM_nil, ha, hu, asAddr]
  simp [hl]

abbrev noPart : Value := .agg #[.int .u32 0, .int .u32 0, .int .i64 0, .slice none 0 0]

theorem load_part {w : World} {g : Nat} {x0 x1 x2 x3 : Value} (h : Cel w g 121 [x0, x1, x2, x3]) : (loadVar 121 ⟨g, 0, none⟩).run Tryz.prog w = .ok (.agg #[x0, x1, x2, x3]) w :=
  run_loadVar_mid (P := Tryz.prog) w g 0 121 [x0, x1, x2, x3] _ (Cel.range h) Tryz.underlying121 rfl (by kernel_rfl)

set_option maxRecDepth 100000 in
set_option maxHeartbeats 1000000 in
theorem get_len (A : Option Addr) (n c : Nat) (w : World) (hn : n ≠ 512) (hm : n ≤ maxLen) :
    Calls Tryz.prog 91 #[.slice A n c] w fun r w' => r = .returned (.tuple #[noPart, .int .i64 2]) ∧ Below w.heap.size w w' := by
  have d1 : ((n : Int) != 512) = true := by rw [bne_iff_ne]; omega
  have hc := Cel.new w 121 [.int .u32 0, .int .u32 0, .int .i64 0, .slice none 0 0]
  have HC := Lib.hid hc
  clear hn hm hc
  go_enter Tryz.func91, Tryz.ntmps91
  go_wp2_with fail
  refine bodyPost_ret (v := .tuple #[noPart, .int .i64 2]) ?_ rfl ⟨rfl, (Below.refl _ _).alloc (Nat.le_refl _) _⟩
  exact results_cell2 2 121 3 Tryz.results91 ⟨w.heap.size, 0, none⟩ rfl _ _ rfl (load_part HC.out)

/-- Bytes that lie where a slice of 512 begins. -/
theorem Bs.range {w : World} {B : Nat} {A : Option Addr} {n : Nat} {bs : List (BitVec 8)} (h : Bs w B A n bs) (hn : 0 < n) : ∃ b o, A = some ⟨b, o, none⟩ ∧ b < B ∧ w.rangeAt b o (bs.map v8) := by
  obtain ⟨ad, rfl, hb, hc⟩ := h.2 hn
  obtain ⟨b, o, sp⟩ := ad
  have h0 := hc 0 hn
  have hsp : sp = none := Go.Proofs.cell_spot (b := b) (o := o) h0
  subst hsp
  refine ⟨b, o, rfl, hb, fun j v hv => ?_⟩
  have hj : j < bs.length := by
    rcases Nat.lt_or_ge j bs.length with h' | h'
    · exact h'
    · rw [List.getElem?_eq_none (by simpa using h')] at hv; cases hv
  have := hc j (by rw [← h.1]; exact hj)
  rw [Addr.add_mid] at this
  rw [this, List.getD_eq_getElem?_getD, List.getElem?_eq_getElem hj]
  rw [List.getElem?_map, List.getElem?_eq_getElem hj] at hv
  exact hv
theorem range_below {w w' : World} {B b o : Nat} {cs : List Value} (h : w.rangeAt b o cs) (hb : Below B w w') (hl : b < B) : w'.rangeAt b o cs := fun j v hv => (hb.cell (p := ⟨b, o + j, none⟩) hl).trans (h j v hv)

theorem held4 {b ab ao : Nat} {w0 W : World} {x y z u : Value} {ds : List Value} (c0 : w0.cell? ⟨b, 0, none⟩ = some x) (c1 : w0.cell? ⟨b, 1, none⟩ = some y) (c2 : w0.cell? ⟨b, 2, none⟩ = some z) (c3 : w0.cell? ⟨b, 3, none⟩ = some u) (hb : b < w0.heap.size) (hr : w0.rangeAt ab ao ds) (ha : ab < w0.heap.size) (h : From w0 W) :
    From w0 W ∧ W.cell? ⟨b, 0, none⟩ = some x ∧ W.cell? ⟨b, 1, none⟩ = some y ∧ W.cell? ⟨b, 2, none⟩ = some z ∧ W.cell? ⟨b, 3, none⟩ = some u ∧ W.rangeAt ab ao ds :=
  ⟨h, (Below.cell h (p := ⟨b, 0, none⟩) hb).trans c0, (Below.cell h (p := ⟨b, 1, none⟩) hb).trans c1, (Below.cell h (p := ⟨b, 2, none⟩) hb).trans c2, (Below.cell h (p := ⟨b, 3, none⟩) hb).trans c3, range_below hr h ha⟩
theorem eqGuard512 : Tryz.prog.eqGuardType Tryz.prog.depth 157 = false := by kernel_rfl
theorem cells8 : Tryz.prog.cellsOf 5 = 1 := by kernel_rfl

/-- Bytes of the call's own stay what they are where only new blocks come. -/
theorem own_up {w w' : World} {B : Nat} {A : Option Addr} {n c : Nat} {bs : List (BitVec 8)} (h : Own w B A n c bs) (hF : From w w') : Own w' B A n c bs :=
  Own.frm (l := []) h (Frm.of_below hF) (by simp)

set_option maxRecDepth 100000 in
set_option maxHeartbeats 2000000 in
theorem get_no (B : Nat) (A : Option Addr) (c : Nat) (bs : List (BitVec 8)) (w : World) (hbs : Bs w B A 512 bs) (hB : B ≤ w.heap.size) (hm : (parse bs).may = false) :
    Calls Tryz.prog 91 #[.slice A 512 c] w fun r w' => r = .returned (.tuple #[noPart, .int .i64 2]) ∧ Below w.heap.size w w' := by
  obtain ⟨ab, ao, rfl, hab, hrg⟩ := Bs.range hbs (by decide)
  have hlb : bs.length = 512 := hbs.len
  have HLB := Lib.hid hlb
  have HB := Lib.hid hbs
  have HM := Lib.hid hm
  have HRG := Lib.hid hrg
  clear hbs hm hrg hlb
  obtain ⟨hz, hsz⟩ := zero_of_info zero512
  have HSZ := Lib.hid hsz
  clear hsz hz
  have hc0 := Cel.new w 121 [.int .u32 0, .int .u32 0, .int .i64 0, .slice none 0 0]
  have HC0 := Lib.hid hc0
  clear hc0
  go_enter Tryz.func91, Tryz.ntmps91
  go_wp2_with fail
  refine (parse_walk B _ 512 c bs _ (HB.out.alloc hB _) (by simp; omega) (by decide)).mono ?_
  rintro r w1 ⟨A1, c1, rfl, ho1, hb1⟩
  have hb1' : Below w.heap.size w w1 := ((Below.refl _ _).alloc (Nat.le_refl _) _).trans (hb1.mono (by simp))
  have hc1 := HC0.out.below hb1 (by simp)
  have hv := Cel.new w1 121 [v32 (parse bs).epoch, v32 (parse bs).seq, .int .i64 (parse bs).flags, .slice A1 (parse bs).body.length c1]
  have hqw : w.heap.size < w1.heap.size := hc1.lt
  have O1 := Lib.hid ho1
  have HV := Lib.hid hv
  have HC1 := Lib.hid hc1
  have HB1 := Lib.hid hb1'
  clear hc1 hb1 hb1' ho1 hv HC0
  generalize hp : parse bs = p at *
  have HP := Lib.hid hp
  clear hp
  go_wp2_with fail
  have hw0 : Below w.heap.size w (w1.alloc (.cells #[v32 p.epoch, v32 p.seq, .int .i64 p.flags, .slice A1 p.body.length c1] 121)) := HB1.out.alloc HB1.out.size _
  have hr0 : Cel (w1.alloc (.cells #[v32 p.epoch, v32 p.seq, .int .i64 p.flags, .slice A1 p.body.length c1] 121)) w.heap.size 121 [.int .u32 0, .int .u32 0, .int .i64 0, .slice none 0 0] := HC1.out.alloc _
  have ho0 : Own (w1.alloc (.cells #[v32 p.epoch, v32 p.seq, .int .i64 p.flags, .slice A1 p.body.length c1] 121)) (w.heap.size + 1) A1 p.body.length c1 p.body := (Own.base O1.out (by simp)).alloc _
  have HW0 := Lib.hid hw0
  have HR0 := Lib.hid hr0
  have HO0 := Lib.hid ho0
  clear hw0 hr0 ho0 O1 HC1 HB1
  generalize w1.alloc (.cells #[v32 p.epoch, v32 p.seq, .int .i64 p.flags, .slice A1 p.body.length c1] 121) = W at *
  generalize w1.heap.size = q at *
  have k0 := HV.out.cell 0
  have k1 := HV.out.cell 1
  have k2 := HV.out.cell 2
  have k3 := HV.out.cell 3
  have hq := HV.out.lt
  have sW := HW0.out.size
  have habW : ab < W.heap.size := by omega
  have HK := Lib.hid (fun (V : World) (h : From W V) => held4 k0 k1 k2 k3 hq (range_below HRG.out HW0.out (Nat.lt_of_lt_of_le hab hB)) habW h)
  clear k0 k1 k2 k3
  have hs2a : ∀ V : World, (Instr.arrayAt 157 (.slice (some ⟨ab, ao, none⟩) 512 c)).run Tryz.prog V = .ok (.pointer (some ⟨ab, ao, none⟩)) V := fun V => by simp [Instr.arrayAt, run_underlying arr512]
  have hsizeD : (Tryz.prog.info? 157).map (·.size) = some (bs.map v8).length := by rw [List.length_map, HLB.out]; exact HSZ.out
  have HSD := Lib.hid hsizeD
  clear hsizeD
  have hgrd := eqGuard512
  generalize hds : bs.map v8 = ds at *
  have HDS := Lib.hid hds
  clear hds
  refine wp_region_held_drew (S := fun w' => From W w' ∧ w'.cell? ⟨q, 0, none⟩ = some (v32 p.epoch) ∧ w'.cell? ⟨q, 1, none⟩ = some (v32 p.seq) ∧ w'.cell? ⟨q, 2, none⟩ = some (.int .i64 p.flags) ∧ w'.cell? ⟨q, 3, none⟩ = some (.slice A1 p.body.length c1) ∧ w'.rangeAt ab ao ds) (by kernel_rfl) (HK.out _ (From.self _).drew) (fun hH => ?_)
  refine wpAnyH_take (i := 0) (v := partV p.epoch p.seq p.flags A1 p.body.length c1) rfl (by kernel_rfl) (by kernel_rfl) (by kernel_rfl) (fun _ _ _ h => h) (Or.inl ⟨by rfl, ?_⟩) hH ?_
  · intro V hV; obtain ⟨_, h0, h1, h2, h3, _⟩ := hV; go_simp
  try simp only [Act.put, List.setIfInBounds_toArray, List.set_cons_zero, List.set_cons_succ, List.getElem_toArray, List.getElem_cons_succ, List.getElem_cons_zero]
  refine wpAnyH_ready (rs := [1]) (by kernel_rfl) (by simp) (AllReadyH.cons rfl (fun K hK => ?_) AllReadyH.nil)
  go_simp
  refine (isPart_no _ _ _ _ _ _ _ HM.out).mono ?_
  rintro r w6 ⟨rfl, hb5⟩
  go_wp2_with fail
  refine hK.out _ _ (HK.out _ (hH.1.call hb5)) (fun hH' => ?_)
  clear hK K hH
  have hH := hH'
  clear hH'
  try simp only [Act.put, List.setIfInBounds_toArray, List.set_cons_zero, List.set_cons_succ, List.getElem_toArray, List.getElem_cons_succ, List.getElem_cons_zero]
  refine wpAnyH_take (i := 2) (v := .bool true) rfl (by kernel_rfl) (by kernel_rfl) (by kernel_rfl) (fun _ _ _ h => h) (Or.inl ⟨by rfl, ?_⟩) hH ?_
  · intro V hV; obtain ⟨_, h0, h1, h2, h3, _⟩ := hV; go_simp
  try simp only [Act.put, List.setIfInBounds_toArray, List.set_cons_zero, List.set_cons_succ, List.getElem_toArray, List.getElem_cons_succ, List.getElem_cons_zero]
  refine wpAnyH_take (i := 3) (v := .bool true) rfl (by kernel_rfl) (by kernel_rfl) (by kernel_rfl) (fun _ _ _ h => h) (Or.inl ⟨by rfl, ?_⟩) hH ?_
  · intro V hV; obtain ⟨_, h0, h1, h2, h3, _⟩ := hV; go_simp
  try simp only [Act.put, List.setIfInBounds_toArray, List.set_cons_zero, List.set_cons_succ, List.getElem_toArray, List.getElem_cons_succ, List.getElem_cons_zero]
  refine wpAnyH_take (i := 4) (v := undef) rfl (by kernel_rfl) (by kernel_rfl) (by kernel_rfl) (fun _ _ _ h => h) (Or.inr ⟨by rfl, rfl⟩) hH ?_
  try simp only [Act.put, List.setIfInBounds_toArray, List.set_cons_zero, List.set_cons_succ, List.getElem_toArray, List.getElem_cons_succ, List.getElem_cons_zero]
  refine wpAnyH_take (i := 5) (v := undef) rfl (by kernel_rfl) (by kernel_rfl) (by kernel_rfl) (fun _ _ _ h => h) (Or.inr ⟨by rfl, rfl⟩) hH ?_
  try simp only [Act.put, List.setIfInBounds_toArray, List.set_cons_zero, List.set_cons_succ, List.getElem_toArray, List.getElem_cons_succ, List.getElem_cons_zero]
  refine wpAnyH_take (i := 6) (v := undef) rfl (by kernel_rfl) (by kernel_rfl) (by kernel_rfl) (fun _ _ _ h => h) (Or.inr ⟨by rfl, rfl⟩) hH ?_
  try simp only [Act.put, List.setIfInBounds_toArray, List.set_cons_zero, List.set_cons_succ, List.getElem_toArray, List.getElem_cons_succ, List.getElem_cons_zero]
  refine wpAnyH_take (i := 7) (v := undef) rfl (by kernel_rfl) (by kernel_rfl) (by kernel_rfl) (fun _ _ _ h => h) (Or.inr ⟨by rfl, rfl⟩) hH ?_
  try simp only [Act.put, List.setIfInBounds_toArray, List.set_cons_zero, List.set_cons_succ, List.getElem_toArray, List.getElem_cons_succ, List.getElem_cons_zero]
  refine wpAnyH_take (i := 8) (v := undef) rfl (by kernel_rfl) (by kernel_rfl) (by kernel_rfl) (fun _ _ _ h => h) (Or.inr ⟨by rfl, rfl⟩) hH ?_
  try simp only [Act.put, List.setIfInBounds_toArray, List.set_cons_zero, List.set_cons_succ, List.getElem_toArray, List.getElem_cons_succ, List.getElem_cons_zero]
  refine wpAnyH_take (i := 9) (v := undef) rfl (by kernel_rfl) (by kernel_rfl) (by kernel_rfl) (fun _ _ _ h => h) (Or.inr ⟨by rfl, rfl⟩) hH ?_
  try simp only [Act.put, List.setIfInBounds_toArray, List.set_cons_zero, List.set_cons_succ, List.getElem_toArray, List.getElem_cons_succ, List.getElem_cons_zero]
  refine wpAnyH_take (i := 10) (v := .bool true) rfl (by kernel_rfl) (by kernel_rfl) (by kernel_rfl) (fun _ _ _ h => h) (Or.inl ⟨by rfl, ?_⟩) hH ?_
  · intro V hV; obtain ⟨_, h0, h1, h2, h3, _⟩ := hV; go_simp
  try simp only [Act.put, List.setIfInBounds_toArray, List.set_cons_zero, List.set_cons_succ, List.getElem_toArray, List.getElem_cons_succ, List.getElem_cons_zero]
  refine wpAnyH_done (by kernel_rfl) ?_ _
  obtain ⟨hF, k0, k1, k2, k3, _⟩ := hH
  have hR : Cel w6 w.heap.size 121 [.int .u32 0, .int .u32 0, .int .i64 0, .slice none 0 0] := HR0.out.below hF (by omega)
  have g0 := hR.cell 0
  have g1 := hR.cell 1
  have g2 := hR.cell 2
  have g3 := hR.cell 3
  have e0 := hR.free 0
  have e1 := hR.free 1
  have e2 := hR.free 2
  have e3 := hR.free 3
  have HR := Lib.hid hR
  have HF := Lib.hid hF
  clear hR hF
  go_wp2_with fail
  have hfr : Frm [w.heap.size] w6 ((((w6.setCell ⟨w.heap.size, 0, none⟩ (.int .u32 0)).setCell ⟨w.heap.size, 1, none⟩ (.int .u32 0)).setCell ⟨w.heap.size, 2, none⟩ (.int .i64 0)).setCell ⟨w.heap.size, 3, none⟩ (.slice none 0 0)) := ((((Frm.refl _ _).set (by simp) _).set (by simp) _).set (by simp) _).set (by simp) _
  have hbF : Below w.heap.size w w6 := HW0.out.trans (Below.mono HF.out sW)
  refine bodyPost_ret (v := .tuple #[noPart, .int .i64 2]) ?_ rfl ⟨rfl, hbF.trans (hfr.below hbF.size (by simp))⟩
  exact results_cell2 2 121 3 Tryz.results91 ⟨w.heap.size, 0, none⟩ rfl _ _ rfl (load_part ((((HR.out.set 0 (.int .u32 0)).set 1 (.int .u32 0)).set 2 (.int .i64 0)).set 3 (.slice none 0 0)))

set_option maxRecDepth 100000 in
set_option maxHeartbeats 2000000 in
theorem get_eq (B : Nat) (A : Option Addr) (c : Nat) (bs : List (BitVec 8)) (w : World) (hbs : Bs w B A 512 bs) (hB : B ≤ w.heap.size) (hm : (parse bs).may = true) (hqs : sec (parse bs) = bs) :
    Calls Tryz.prog 91 #[.slice A 512 c] w fun r w' => ∃ A' c', r = .returned (.tuple #[partV (parse bs).epoch (parse bs).seq (parse bs).flags A' (parse bs).body.length c', .int .i64 0]) ∧ Own w' w.heap.size A' (parse bs).body.length c' (parse bs).body ∧ Below w.heap.size w w' := by
  obtain ⟨ab, ao, rfl, hab, hrg⟩ := Bs.range hbs (by decide)
  have hlb : bs.length = 512 := hbs.len
  have hls : (sec (parse bs)).length = 512 := sec_length hm
  have hN := fun w : World => run_neq_bytes (P := Tryz.prog) w 157 5 512 arr512 Tryz.underlying5 cells8 (sec (parse bs)) bs hls hlb
  have hd : (!decide (sec (parse bs) = bs)) = false := by simp [hqs]
  simp only [hd] at hN
  have HN := Lib.hid hN
  clear hN hd hls hqs
  have HLB := Lib.hid hlb
  have HB := Lib.hid hbs
  have HM := Lib.hid hm
  have HRG := Lib.hid hrg
  clear hbs hm hrg hlb
  obtain ⟨hz, hsz⟩ := zero_of_info zero512
  have HSZ := Lib.hid hsz
  clear hsz hz
  have hc0 := Cel.new w 121 [.int .u32 0, .int .u32 0, .int .i64 0, .slice none 0 0]
  have HC0 := Lib.hid hc0
  clear hc0
  go_enter Tryz.func91, Tryz.ntmps91
  go_wp2_with fail
  refine (parse_walk B _ 512 c bs _ (HB.out.alloc hB _) (by simp; omega) (by decide)).mono ?_
  rintro r w1 ⟨A1, c1, rfl, ho1, hb1⟩
  have hb1' : Below w.heap.size w w1 := ((Below.refl _ _).alloc (Nat.le_refl _) _).trans (hb1.mono (by simp))
  have hc1 := HC0.out.below hb1 (by simp)
  have hv := Cel.new w1 121 [v32 (parse bs).epoch, v32 (parse bs).seq, .int .i64 (parse bs).flags, .slice A1 (parse bs).body.length c1]
  have hqw : w.heap.size < w1.heap.size := hc1.lt
  have O1 := Lib.hid ho1
  have HV := Lib.hid hv
  have HC1 := Lib.hid hc1
  have HB1 := Lib.hid hb1'
  clear hc1 hb1 hb1' ho1 hv HC0
  generalize hp : parse bs = p at *
  have HP := Lib.hid hp
  clear hp
  go_wp2_with fail
  have hw0 : Below w.heap.size w (w1.alloc (.cells #[v32 p.epoch, v32 p.seq, .int .i64 p.flags, .slice A1 p.body.length c1] 121)) := HB1.out.alloc HB1.out.size _
  have hr0 : Cel (w1.alloc (.cells #[v32 p.epoch, v32 p.seq, .int .i64 p.flags, .slice A1 p.body.length c1] 121)) w.heap.size 121 [.int .u32 0, .int .u32 0, .int .i64 0, .slice none 0 0] := HC1.out.alloc _
  have ho0 : Own (w1.alloc (.cells #[v32 p.epoch, v32 p.seq, .int .i64 p.flags, .slice A1 p.body.length c1] 121)) (w.heap.size + 1) A1 p.body.length c1 p.body := (Own.base O1.out (by simp)).alloc _
  have HW0 := Lib.hid hw0
  have HR0 := Lib.hid hr0
  have HO0 := Lib.hid ho0
  clear hw0 hr0 ho0 O1 HC1 HB1
  generalize w1.alloc (.cells #[v32 p.epoch, v32 p.seq, .int .i64 p.flags, .slice A1 p.body.length c1] 121) = W at *
  generalize w1.heap.size = q at *
  have k0 := HV.out.cell 0
  have k1 := HV.out.cell 1
  have k2 := HV.out.cell 2
  have k3 := HV.out.cell 3
  have hq := HV.out.lt
  have sW := HW0.out.size
  have habW : ab < W.heap.size := by omega
  have HK := Lib.hid (fun (V : World) (h : From W V) => held4 k0 k1 k2 k3 hq (range_below HRG.out HW0.out (Nat.lt_of_lt_of_le hab hB)) habW h)
  clear k0 k1 k2 k3
  have hs2a : ∀ V : World, (Instr.arrayAt 157 (.slice (some ⟨ab, ao, none⟩) 512 c)).run Tryz.prog V = .ok (.pointer (some ⟨ab, ao, none⟩)) V := fun V => by simp [Instr.arrayAt, run_underlying arr512]
  have hsizeD : (Tryz.prog.info? 157).map (·.size) = some (bs.map v8).length := by rw [List.length_map, HLB.out]; exact HSZ.out
  have HSD := Lib.hid hsizeD
  clear hsizeD
  have hgrd := eqGuard512
  have hN := HN.out
  clear HN
  generalize hcs : (sec p).map v8 = cs at hN
  have HCS := Lib.hid hcs
  clear hcs
  generalize hds : bs.map v8 = ds at *
  have HDS := Lib.hid hds
  clear hds
  refine wp_region_held_drew (S := fun w' => From W w' ∧ w'.cell? ⟨q, 0, none⟩ = some (v32 p.epoch) ∧ w'.cell? ⟨q, 1, none⟩ = some (v32 p.seq) ∧ w'.cell? ⟨q, 2, none⟩ = some (.int .i64 p.flags) ∧ w'.cell? ⟨q, 3, none⟩ = some (.slice A1 p.body.length c1) ∧ w'.rangeAt ab ao ds) (by kernel_rfl) (HK.out _ (From.self _).drew) (fun hH => ?_)
  refine wpAnyH_take (i := 0) (v := partV p.epoch p.seq p.flags A1 p.body.length c1) rfl (by kernel_rfl) (by kernel_rfl) (by kernel_rfl) (fun _ _ _ h => h) (Or.inl ⟨by rfl, ?_⟩) hH ?_
  · intro V hV; obtain ⟨_, h0, h1, h2, h3, _⟩ := hV; go_simp
  try simp only [Act.put, List.setIfInBounds_toArray, List.set_cons_zero, List.set_cons_succ, List.getElem_toArray, List.getElem_cons_succ, List.getElem_cons_zero]
  refine wpAnyH_ready (rs := [1]) (by kernel_rfl) (by simp) (AllReadyH.cons rfl (fun K hK => ?_) AllReadyH.nil)
  go_simp
  refine (isPart_yes _ _ _ _ _ _ _ HM.out).mono ?_
  rintro r w5 ⟨rfl, hb5⟩
  go_wp2_with fail
  refine hK.out _ _ (HK.out _ (hH.1.call hb5)) (fun hH' => ?_)
  have hb5w := (Below.refl W.heap.size W).drew.trans hb5
  clear hK K hH
  have hH := hH'
  clear hH'
  try simp only [Act.put, List.setIfInBounds_toArray, List.set_cons_zero, List.set_cons_succ, List.getElem_toArray, List.getElem_cons_succ, List.getElem_cons_zero]
  refine wpAnyH_take (i := 2) (v := .bool false) rfl (by kernel_rfl) (by kernel_rfl) (by kernel_rfl) (fun _ _ _ h => h) (Or.inl ⟨by rfl, ?_⟩) hH ?_
  · intro V hV; obtain ⟨_, h0, h1, h2, h3, _⟩ := hV; go_simp
  try simp only [Act.put, List.setIfInBounds_toArray, List.set_cons_zero, List.set_cons_succ, List.getElem_toArray, List.getElem_cons_succ, List.getElem_cons_zero]
  refine wpAnyH_take (i := 3) (v := .bool false) rfl (by kernel_rfl) (by kernel_rfl) (by kernel_rfl) (fun _ _ _ h => h) (Or.inl ⟨by rfl, ?_⟩) hH ?_
  · intro V hV; obtain ⟨_, h0, h1, h2, h3, _⟩ := hV; go_simp
  try simp only [Act.put, List.setIfInBounds_toArray, List.set_cons_zero, List.set_cons_succ, List.getElem_toArray, List.getElem_cons_succ, List.getElem_cons_zero]
  refine wpAnyH_take (i := 4) (v := partV p.epoch p.seq p.flags A1 p.body.length c1) rfl (by kernel_rfl) (by kernel_rfl) (by kernel_rfl) (fun _ _ _ h => h) (Or.inl ⟨by rfl, ?_⟩) hH ?_
  · intro V hV; obtain ⟨_, h0, h1, h2, h3, _⟩ := hV; go_simp
  try simp only [Act.put, List.setIfInBounds_toArray, List.set_cons_zero, List.set_cons_succ, List.getElem_toArray, List.getElem_cons_succ, List.getElem_cons_zero]
  refine wpAnyH_take (i := 6) (v := .slice (some ⟨ab, ao, none⟩) 512 c) rfl (by kernel_rfl) (by kernel_rfl) (by kernel_rfl) (fun _ _ _ h => h) (Or.inl ⟨by rfl, ?_⟩) hH ?_
  · intro V hV; obtain ⟨_, h0, h1, h2, h3, _⟩ := hV; go_simp
  try simp only [Act.put, List.setIfInBounds_toArray, List.set_cons_zero, List.set_cons_succ, List.getElem_toArray, List.getElem_cons_succ, List.getElem_cons_zero]
  refine wpAnyH_take (i := 7) (v := .pointer (some ⟨ab, ao, none⟩)) rfl (by kernel_rfl) (by kernel_rfl) (by kernel_rfl) (fun _ _ _ h => h) (Or.inl ⟨by rfl, ?_⟩) hH ?_
  · intro V hV; obtain ⟨_, h0, h1, h2, h3, _⟩ := hV; go_simp
  try simp only [Act.put, List.setIfInBounds_toArray, List.set_cons_zero, List.set_cons_succ, List.getElem_toArray, List.getElem_cons_succ, List.getElem_cons_zero]
  refine wpAnyH_take (i := 8) (v := .agg ds.toArray) rfl (by kernel_rfl) (by kernel_rfl) (by kernel_rfl) (fun _ _ _ h => h) (yieldsIf_load_mid (by rfl) _ _ rfl ab ao rfl ds (.array 512 5) (fun V hV => hV.2.2.2.2.2) arr512 rfl HSD.out) hH ?_
  try simp only [Act.put, List.setIfInBounds_toArray, List.set_cons_zero, List.set_cons_succ, List.getElem_toArray, List.getElem_cons_succ, List.getElem_cons_zero]
  refine wpAnyH_ready (rs := [5]) (by kernel_rfl) (by simp) (AllReadyH.cons rfl (fun K hK => ?_) AllReadyH.nil)
  go_simp
  refine (imageOf p W.heap.size A1 p.body.length c1 _ (Bs.below (Own.low HO0.out) hb5w) hb5w.size HM.out).mono ?_
  rintro r w6 ⟨rfl, hb6⟩
  go_wp2_with fail
  refine hK.out _ _ (HK.out _ (hH.1.call hb6)) (fun hH' => ?_)
  clear hK K hH
  have hH := hH'
  clear hH'
  try simp only [Act.put, List.setIfInBounds_toArray, List.set_cons_zero, List.set_cons_succ, List.getElem_toArray, List.getElem_cons_succ, List.getElem_cons_zero]
  try rw [HCS.out]
  refine wpAnyH_take (i := 9) (v := .bool false) rfl (by kernel_rfl) (by kernel_rfl) (by kernel_rfl) (fun _ _ _ h => h) (Or.inl ⟨by rfl, ?_⟩) hH ?_
  · intro V hV; obtain ⟨_, h0, h1, h2, h3, _⟩ := hV; go_simp
  try simp only [Act.put, List.setIfInBounds_toArray, List.set_cons_zero, List.set_cons_succ, List.getElem_toArray, List.getElem_cons_succ, List.getElem_cons_zero]
  refine wpAnyH_take (i := 10) (v := .bool false) rfl (by kernel_rfl) (by kernel_rfl) (by kernel_rfl) (fun _ _ _ h => h) (Or.inl ⟨by rfl, ?_⟩) hH ?_
  · intro V hV; obtain ⟨_, h0, h1, h2, h3, _⟩ := hV; go_simp
  try simp only [Act.put, List.setIfInBounds_toArray, List.set_cons_zero, List.set_cons_succ, List.getElem_toArray, List.getElem_cons_succ, List.getElem_cons_zero]
  refine wpAnyH_done (by kernel_rfl) ?_ _
  obtain ⟨hF, k0, k1, k2, k3, _⟩ := hH
  have hR : Cel w6 w.heap.size 121 [.int .u32 0, .int .u32 0, .int .i64 0, .slice none 0 0] := HR0.out.below hF (by omega)
  have g0 := hR.cell 0
  have g1 := hR.cell 1
  have g2 := hR.cell 2
  have g3 := hR.cell 3
  have e0 := hR.free 0
  have e1 := hR.free 1
  have e2 := hR.free 2
  have e3 := hR.free 3
  have HR := Lib.hid hR
  have HF := Lib.hid hF
  clear hR hF
  go_wp2_with fail
  have hfr : Frm [w.heap.size] w6 ((((w6.setCell ⟨w.heap.size, 0, none⟩ (v32 p.epoch)).setCell ⟨w.heap.size, 1, none⟩ (v32 p.seq)).setCell ⟨w.heap.size, 2, none⟩ (.int .i64 p.flags)).setCell ⟨w.heap.size, 3, none⟩ (.slice A1 p.body.length c1)) := ((((Frm.refl _ _).set (by simp) _).set (by simp) _).set (by simp) _).set (by simp) _
  have hbF : Below w.heap.size w w6 := HW0.out.trans (Below.mono HF.out sW)
  rw [HP.out]
  refine bodyPost_ret (v := .tuple #[partV p.epoch p.seq p.flags A1 p.body.length c1, .int .i64 0]) ?_ rfl ⟨A1, c1, rfl, ?_, hbF.trans (hfr.below hbF.size (by simp))⟩
  · exact results_cell2 2 121 3 Tryz.results91 ⟨w.heap.size, 0, none⟩ rfl _ _ rfl (load_part ((((HR.out.set 0 (v32 p.epoch)).set 1 (v32 p.seq)).set 2 (.int .i64 p.flags)).set 3 (.slice A1 p.body.length c1)))
  · exact (Own.frm (own_up HO0.out HF.out) hfr (by simp)).base (Nat.le_succ _)

set_option maxRecDepth 100000 in
set_option maxHeartbeats 2000000 in
theorem get_ne (B : Nat) (A : Option Addr) (c : Nat) (bs : List (BitVec 8)) (w : World) (hbs : Bs w B A 512 bs) (hB : B ≤ w.heap.size) (hm : (parse bs).may = true) (hqs : sec (parse bs) ≠ bs) :
    Calls Tryz.prog 91 #[.slice A 512 c] w fun r w' => r = .returned (.tuple #[noPart, .int .i64 2]) ∧ Below w.heap.size w w' := by
  obtain ⟨ab, ao, rfl, hab, hrg⟩ := Bs.range hbs (by decide)
  have hlb : bs.length = 512 := hbs.len
  have hls : (sec (parse bs)).length = 512 := sec_length hm
  have hN := fun w : World => run_neq_bytes (P := Tryz.prog) w 157 5 512 arr512 Tryz.underlying5 cells8 (sec (parse bs)) bs hls hlb
  have hd : (!decide (sec (parse bs) = bs)) = true := by simp [hqs]
  simp only [hd] at hN
  have HN := Lib.hid hN
  clear hN hd hls hqs
  have HLB := Lib.hid hlb
  have HB := Lib.hid hbs
  have HM := Lib.hid hm
  have HRG := Lib.hid hrg
  clear hbs hm hrg hlb
  obtain ⟨hz, hsz⟩ := zero_of_info zero512
  have HSZ := Lib.hid hsz
  clear hsz hz
  have hc0 := Cel.new w 121 [.int .u32 0, .int .u32 0, .int .i64 0, .slice none 0 0]
  have HC0 := Lib.hid hc0
  clear hc0
  go_enter Tryz.func91, Tryz.ntmps91
  go_wp2_with fail
  refine (parse_walk B _ 512 c bs _ (HB.out.alloc hB _) (by simp; omega) (by decide)).mono ?_
  rintro r w1 ⟨A1, c1, rfl, ho1, hb1⟩
  have hb1' : Below w.heap.size w w1 := ((Below.refl _ _).alloc (Nat.le_refl _) _).trans (hb1.mono (by simp))
  have hc1 := HC0.out.below hb1 (by simp)
  have hv := Cel.new w1 121 [v32 (parse bs).epoch, v32 (parse bs).seq, .int .i64 (parse bs).flags, .slice A1 (parse bs).body.length c1]
  have hqw : w.heap.size < w1.heap.size := hc1.lt
  have O1 := Lib.hid ho1
  have HV := Lib.hid hv
  have HC1 := Lib.hid hc1
  have HB1 := Lib.hid hb1'
  clear hc1 hb1 hb1' ho1 hv HC0
  generalize hp : parse bs = p at *
  have HP := Lib.hid hp
  clear hp
  go_wp2_with fail
  have hw0 : Below w.heap.size w (w1.alloc (.cells #[v32 p.epoch, v32 p.seq, .int .i64 p.flags, .slice A1 p.body.length c1] 121)) := HB1.out.alloc HB1.out.size _
  have hr0 : Cel (w1.alloc (.cells #[v32 p.epoch, v32 p.seq, .int .i64 p.flags, .slice A1 p.body.length c1] 121)) w.heap.size 121 [.int .u32 0, .int .u32 0, .int .i64 0, .slice none 0 0] := HC1.out.alloc _
  have ho0 : Own (w1.alloc (.cells #[v32 p.epoch, v32 p.seq, .int .i64 p.flags, .slice A1 p.body.length c1] 121)) (w.heap.size + 1) A1 p.body.length c1 p.body := (Own.base O1.out (by simp)).alloc _
  have HW0 := Lib.hid hw0
  have HR0 := Lib.hid hr0
  have HO0 := Lib.hid ho0
  clear hw0 hr0 ho0 O1 HC1 HB1
  generalize w1.alloc (.cells #[v32 p.epoch, v32 p.seq, .int .i64 p.flags, .slice A1 p.body.length c1] 121) = W at *
  generalize w1.heap.size = q at *
  have k0 := HV.out.cell 0
  have k1 := HV.out.cell 1
  have k2 := HV.out.cell 2
  have k3 := HV.out.cell 3
  have hq := HV.out.lt
  have sW := HW0.out.size
  have habW : ab < W.heap.size := by omega
  have HK := Lib.hid (fun (V : World) (h : From W V) => held4 k0 k1 k2 k3 hq (range_below HRG.out HW0.out (Nat.lt_of_lt_of_le hab hB)) habW h)
  clear k0 k1 k2 k3
  have hs2a : ∀ V : World, (Instr.arrayAt 157 (.slice (some ⟨ab, ao, none⟩) 512 c)).run Tryz.prog V = .ok (.pointer (some ⟨ab, ao, none⟩)) V := fun V => by simp [Instr.arrayAt, run_underlying arr512]
  have hsizeD : (Tryz.prog.info? 157).map (·.size) = some (bs.map v8).length := by rw [List.length_map, HLB.out]; exact HSZ.out
  have HSD := Lib.hid hsizeD
  clear hsizeD
  have hgrd := eqGuard512
  have hN := HN.out
  clear HN
  generalize hcs : (sec p).map v8 = cs at hN
  have HCS := Lib.hid hcs
  clear hcs
  generalize hds : bs.map v8 = ds at *
  have HDS := Lib.hid hds
  clear hds
  refine wp_region_held_drew (S := fun w' => From W w' ∧ w'.cell? ⟨q, 0, none⟩ = some (v32 p.epoch) ∧ w'.cell? ⟨q, 1, none⟩ = some (v32 p.seq) ∧ w'.cell? ⟨q, 2, none⟩ = some (.int .i64 p.flags) ∧ w'.cell? ⟨q, 3, none⟩ = some (.slice A1 p.body.length c1) ∧ w'.rangeAt ab ao ds) (by kernel_rfl) (HK.out _ (From.self _).drew) (fun hH => ?_)
  refine wpAnyH_take (i := 0) (v := partV p.epoch p.seq p.flags A1 p.body.length c1) rfl (by kernel_rfl) (by kernel_rfl) (by kernel_rfl) (fun _ _ _ h => h) (Or.inl ⟨by rfl, ?_⟩) hH ?_
  · intro V hV; obtain ⟨_, h0, h1, h2, h3, _⟩ := hV; go_simp
  try simp only [Act.put, List.setIfInBounds_toArray, List.set_cons_zero, List.set_cons_succ, List.getElem_toArray, List.getElem_cons_succ, List.getElem_cons_zero]
  refine wpAnyH_ready (rs := [1]) (by kernel_rfl) (by simp) (AllReadyH.cons rfl (fun K hK => ?_) AllReadyH.nil)
  go_simp
  refine (isPart_yes _ _ _ _ _ _ _ HM.out).mono ?_
  rintro r w5 ⟨rfl, hb5⟩
  go_wp2_with fail
  refine hK.out _ _ (HK.out _ (hH.1.call hb5)) (fun hH' => ?_)
  have hb5w := (Below.refl W.heap.size W).drew.trans hb5
  clear hK K hH
  have hH := hH'
  clear hH'
  try simp only [Act.put, List.setIfInBounds_toArray, List.set_cons_zero, List.set_cons_succ, List.getElem_toArray, List.getElem_cons_succ, List.getElem_cons_zero]
  refine wpAnyH_take (i := 2) (v := .bool false) rfl (by kernel_rfl) (by kernel_rfl) (by kernel_rfl) (fun _ _ _ h => h) (Or.inl ⟨by rfl, ?_⟩) hH ?_
  · intro V hV; obtain ⟨_, h0, h1, h2, h3, _⟩ := hV; go_simp
  try simp only [Act.put, List.setIfInBounds_toArray, List.set_cons_zero, List.set_cons_succ, List.getElem_toArray, List.getElem_cons_succ, List.getElem_cons_zero]
  refine wpAnyH_take (i := 3) (v := .bool false) rfl (by kernel_rfl) (by kernel_rfl) (by kernel_rfl) (fun _ _ _ h => h) (Or.inl ⟨by rfl, ?_⟩) hH ?_
  · intro V hV; obtain ⟨_, h0, h1, h2, h3, _⟩ := hV; go_simp
  try simp only [Act.put, List.setIfInBounds_toArray, List.set_cons_zero, List.set_cons_succ, List.getElem_toArray, List.getElem_cons_succ, List.getElem_cons_zero]
  refine wpAnyH_take (i := 4) (v := partV p.epoch p.seq p.flags A1 p.body.length c1) rfl (by kernel_rfl) (by kernel_rfl) (by kernel_rfl) (fun _ _ _ h => h) (Or.inl ⟨by rfl, ?_⟩) hH ?_
  · intro V hV; obtain ⟨_, h0, h1, h2, h3, _⟩ := hV; go_simp
  try simp only [Act.put, List.setIfInBounds_toArray, List.set_cons_zero, List.set_cons_succ, List.getElem_toArray, List.getElem_cons_succ, List.getElem_cons_zero]
  refine wpAnyH_take (i := 6) (v := .slice (some ⟨ab, ao, none⟩) 512 c) rfl (by kernel_rfl) (by kernel_rfl) (by kernel_rfl) (fun _ _ _ h => h) (Or.inl ⟨by rfl, ?_⟩) hH ?_
  · intro V hV; obtain ⟨_, h0, h1, h2, h3, _⟩ := hV; go_simp
  try simp only [Act.put, List.setIfInBounds_toArray, List.set_cons_zero, List.set_cons_succ, List.getElem_toArray, List.getElem_cons_succ, List.getElem_cons_zero]
  refine wpAnyH_take (i := 7) (v := .pointer (some ⟨ab, ao, none⟩)) rfl (by kernel_rfl) (by kernel_rfl) (by kernel_rfl) (fun _ _ _ h => h) (Or.inl ⟨by rfl, ?_⟩) hH ?_
  · intro V hV; obtain ⟨_, h0, h1, h2, h3, _⟩ := hV; go_simp
  try simp only [Act.put, List.setIfInBounds_toArray, List.set_cons_zero, List.set_cons_succ, List.getElem_toArray, List.getElem_cons_succ, List.getElem_cons_zero]
  refine wpAnyH_take (i := 8) (v := .agg ds.toArray) rfl (by kernel_rfl) (by kernel_rfl) (by kernel_rfl) (fun _ _ _ h => h) (yieldsIf_load_mid (by rfl) _ _ rfl ab ao rfl ds (.array 512 5) (fun V hV => hV.2.2.2.2.2) arr512 rfl HSD.out) hH ?_
  try simp only [Act.put, List.setIfInBounds_toArray, List.set_cons_zero, List.set_cons_succ, List.getElem_toArray, List.getElem_cons_succ, List.getElem_cons_zero]
  refine wpAnyH_ready (rs := [5]) (by kernel_rfl) (by simp) (AllReadyH.cons rfl (fun K hK => ?_) AllReadyH.nil)
  go_simp
  refine (imageOf p W.heap.size A1 p.body.length c1 _ (Bs.below (Own.low HO0.out) hb5w) hb5w.size HM.out).mono ?_
  rintro r w6 ⟨rfl, hb6⟩
  go_wp2_with fail
  refine hK.out _ _ (HK.out _ (hH.1.call hb6)) (fun hH' => ?_)
  clear hK K hH
  have hH := hH'
  clear hH'
  try simp only [Act.put, List.setIfInBounds_toArray, List.set_cons_zero, List.set_cons_succ, List.getElem_toArray, List.getElem_cons_succ, List.getElem_cons_zero]
  try rw [HCS.out]
  refine wpAnyH_take (i := 9) (v := .bool true) rfl (by kernel_rfl) (by kernel_rfl) (by kernel_rfl) (fun _ _ _ h => h) (Or.inl ⟨by rfl, ?_⟩) hH ?_
  · intro V hV; obtain ⟨_, h0, h1, h2, h3, _⟩ := hV; go_simp
  try simp only [Act.put, List.setIfInBounds_toArray, List.set_cons_zero, List.set_cons_succ, List.getElem_toArray, List.getElem_cons_succ, List.getElem_cons_zero]
  refine wpAnyH_take (i := 10) (v := .bool true) rfl (by kernel_rfl) (by kernel_rfl) (by kernel_rfl) (fun _ _ _ h => h) (Or.inl ⟨by rfl, ?_⟩) hH ?_
  · intro V hV; obtain ⟨_, h0, h1, h2, h3, _⟩ := hV; go_simp
  try simp only [Act.put, List.setIfInBounds_toArray, List.set_cons_zero, List.set_cons_succ, List.getElem_toArray, List.getElem_cons_succ, List.getElem_cons_zero]
  refine wpAnyH_done (by kernel_rfl) ?_ _
  obtain ⟨hF, k0, k1, k2, k3, _⟩ := hH
  have hR : Cel w6 w.heap.size 121 [.int .u32 0, .int .u32 0, .int .i64 0, .slice none 0 0] := HR0.out.below hF (by omega)
  have g0 := hR.cell 0
  have g1 := hR.cell 1
  have g2 := hR.cell 2
  have g3 := hR.cell 3
  have e0 := hR.free 0
  have e1 := hR.free 1
  have e2 := hR.free 2
  have e3 := hR.free 3
  have HR := Lib.hid hR
  have HF := Lib.hid hF
  clear hR hF
  go_wp2_with fail
  have hfr : Frm [w.heap.size] w6 ((((w6.setCell ⟨w.heap.size, 0, none⟩ (.int .u32 0)).setCell ⟨w.heap.size, 1, none⟩ (.int .u32 0)).setCell ⟨w.heap.size, 2, none⟩ (.int .i64 0)).setCell ⟨w.heap.size, 3, none⟩ (.slice none 0 0)) := ((((Frm.refl _ _).set (by simp) _).set (by simp) _).set (by simp) _).set (by simp) _
  have hbF : Below w.heap.size w w6 := HW0.out.trans (Below.mono HF.out sW)
  refine bodyPost_ret (v := .tuple #[noPart, .int .i64 2]) ?_ rfl ⟨rfl, hbF.trans (hfr.below hbF.size (by simp))⟩
  exact results_cell2 2 121 3 Tryz.results91 ⟨w.heap.size, 0, none⟩ rfl _ _ rfl (load_part ((((HR.out.set 0 (.int .u32 0)).set 1 (.int .u32 0)).set 2 (.int .i64 0)).set 3 (.slice none 0 0)))
/-- What sector.Get comes to: the part whose sector the bytes are .. -/
theorem get_yes (B : Nat) (A : Option Addr) (n c : Nat) (bs : List (BitVec 8)) (w : World) (hbs : Bs w B A n bs) (hB : B ≤ w.heap.size) (p : Pt) (hg : get bs = some p) :
    Calls Tryz.prog 91 #[.slice A n c] w fun r w' => ∃ A' c', r = .returned (.tuple #[partV p.epoch p.seq p.flags A' p.body.length c', .int .i64 0]) ∧ Own w' w.heap.size A' p.body.length c' p.body ∧ Below w.heap.size w w' := by
  obtain ⟨h1, h2, h3⟩ := get_some hg
  have hl : n = 512 := by rw [← hbs.len, ← h2, sec_length h1]
  subst hl
  rw [← h3] at h1 h2 ⊢
  exact get_eq B A c bs w hbs hB h1 h2
/-- .. or none. -/
theorem get_not (B : Nat) (A : Option Addr) (n c : Nat) (bs : List (BitVec 8)) (w : World) (hbs : Bs w B A n bs) (hB : B ≤ w.heap.size) (hm : n ≤ maxLen) (hg : get bs = none) :
    Calls Tryz.prog 91 #[.slice A n c] w fun r w' => r = .returned (.tuple #[noPart, .int .i64 2]) ∧ Below w.heap.size w w' := by
  by_cases hl : n = 512
  · subst hl
    cases h1 : (parse bs).may
    · exact get_no B A c bs w hbs hB h1
    · refine get_ne B A c bs w hbs hB h1 fun h2 => ?_
      rw [get, if_pos ⟨hbs.len, h1, h2⟩] at hg
      cases hg
  · exact get_len A n c w hl hm
end Go.Proofs.YtdaknfepcbooeaaGreat.Sector
