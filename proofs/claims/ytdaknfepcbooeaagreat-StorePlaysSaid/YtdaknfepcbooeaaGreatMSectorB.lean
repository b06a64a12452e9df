/-
  What the document's own Get of layer 3 (sector) comes to.
  What the document's Get says of any bytes.
-/
import Derived.Test.YtdaknfepcbooeaaGreatMBase
import Derived.Test.YtdaknfepcbooeaaGreatMSectorRef
import Derived.Deep.DeepCutAuto
section
namespace Go.Proofs.YtdaknfepcbooeaaGreat.Sector
open Go.RowKit Go.Proofs.YtdaknfepcbooeaaGreat.Pack
set_option linter.unusedVariables false
set_option linter.unusedSimpArgs false

/-- What the document's Get answers of bytes. -/
def RefSays (w : World) (bs : List (BitVec 8)) (r : Ending) (w' : World) : Prop :=
  ((∃ p A' c', get bs = some p ∧ r = .returned (.tuple #[partV p.epoch p.seq p.flags A' p.body.length c', .bool true]) ∧ By w' A' p.body.length p.body) ∨
    (get bs = none ∧ ∃ e s f A' n' c', r = .returned (.tuple #[partV e s f A' n' c', .bool false]))) ∧ Below w.heap.size w w'
theorem RefSays.no {w w' : World} {bs : List (BitVec 8)} (hl : bs.length = 512) (h : ¬ RefOk bs (readAll (some (bs.take 508)))) (hb : Below w.heap.size w w') : RefSays w bs (.returned (.tuple #[noPart, .bool false])) w' := by
  refine ⟨.inr ⟨?_, 0#32, 0#32, 0, none, 0, 0, rfl⟩, hb⟩
  cases hg : get bs with
  | none => rfl
  | some p => exact absurd ((ref_get bs hl p).2 hg).1 h
theorem get_of_len {bs : List (BitVec 8)} (h : bs.length ≠ 512) : get bs = none := by rw [get, if_neg (fun hc => h hc.1)]

set_option maxRecDepth 100000 in
set_option maxHeartbeats 1000000 in
theorem refGet_len (A : Option Addr) (n c : Nat) (w : World) (bs : List (BitVec 8)) (hbs : bs.length = n) (hn : n ≠ 512) (hm : n ≤ maxLen) :
    Calls Tryz.prog 61 #[.slice A n c] w (RefSays w bs) := by
  have HG := Lib.hid (get_of_len (bs := bs) (by omega))
  clear hbs
  have d1 : ((n : Int) != 512) = true := by rw [bne_iff_ne]; omega
  have hc := Cel.new w 100 [.int .u32 0, .int .u32 0, .int .i64 0, .slice none 0 0]
  have HC := Lib.hid hc
  clear hn hm hc
  go_enter Tryz.func61, Tryz.ntmps61
  go_wp2_with fail
  refine bodyPost_ret (v := .tuple #[noPart, .bool false]) ?_ rfl ⟨.inr ⟨HG.out, 0#32, 0#32, 0, none, 0, 0, rfl⟩, (Below.refl _ _).alloc (Nat.le_refl _) _⟩
  exact results_cell2 2 100 3 Tryz.results61 ⟨w.heap.size, 0, none⟩ rfl _ _ rfl (load_ref HC.out)

/-- While the document's Get runs: its reader at block g, the result's variable at block b = w.heap.size. -/
structure RS (w w' : World) (g : Nat) (st : St) : Prop where
  rm : Rm w' (· < w.heap.size) g st
  res : Cel w' w.heap.size 100 [.int .u32 0, .int .u32 0, .int .i64 0, .slice none 0 0]
  low : Below w.heap.size w w'
  gb : w.heap.size < g
theorem RS.frm {w w1 w2 : World} {g : Nat} {st st' : St} (h : RS w w1 g st) (hr : Rm w2 (· < w.heap.size) g st') (hf : Frm [g] w1 w2) : RS w w2 g st' := by
  have hg := h.gb
  exact ⟨hr, h.res.frm hf (by simp; omega), h.low.trans (hf.below h.low.size (by simp; omega)), hg⟩

def Zeros (rs : List (BitVec 8)) (k : Nat) : Prop := ∀ j, j < k → rs.getD j 0#8 = 0#8
theorem Zeros.step {rs : List (BitVec 8)} {k : Nat} (h : Zeros rs k) (h0 : rs.getD k 0#8 = 0#8) : Zeros rs (k + 1) := fun j hj => by
  by_cases e : j = k
  · subst e; exact h0
  · exact h j (by omega)
theorem Zeros.all {rs : List (BitVec 8)} (h : Zeros rs rs.length) : ∀ b ∈ rs, b = 0#8 := fun b hb => by
  obtain ⟨i, hi, rfl⟩ := List.getElem_of_mem hb
  have := h i hi
  rwa [List.getD_eq_getElem?_getD, List.getElem?_eq_getElem hi] at this
theorem leVal_step (bs : List (BitVec 8)) (k : Nat) (hl : bs.length = 512) (hk : k < 4) : leVal (bs.drop (512 - (k + 1))) = 256#32 * leVal (bs.drop (512 - k)) + (bs.getD (511 - k) 0#8).setWidth 32 := by
  have e1 : 512 - (k + 1) = 511 - k := by omega
  have e2 : 512 - k = 511 - k + 1 := by omega
  rw [e1, e2, List.drop_eq_getElem_cons (by omega), List.getD_eq_getElem?_getD, List.getElem?_eq_getElem (by omega)]
  rfl
theorem mul32 (s : BitVec 32) (b : BitVec 8) : (256 : Int) * (s.toNat : Int) % 4294967296 + (b.toNat : Int) = ((256#32 * s + b.setWidth 32).toNat : Int) := by
  rw [BitVec.toNat_add, BitVec.toNat_mul, BitVec.toNat_setWidth]
  have e256 : (256#32).toNat = 256 := rfl
  have hb := b.isLt
  rw [e256]
  omega

/-- Zeros over the result's variable. -/
theorem RS.zero {w w1 : World} {g : Nat} {st : St} (h : RS w w1 g st) :
    Cel ((((w1.setCell ⟨w.heap.size, 0, none⟩ (.int .u32 0)).setCell ⟨w.heap.size, 1, none⟩ (.int .u32 0)).setCell ⟨w.heap.size, 2, none⟩ (.int .i64 0)).setCell ⟨w.heap.size, 3, none⟩ (.slice none 0 0)) w.heap.size 100 [.int .u32 0, .int .u32 0, .int .i64 0, .slice none 0 0] ∧
    Below w.heap.size w ((((w1.setCell ⟨w.heap.size, 0, none⟩ (.int .u32 0)).setCell ⟨w.heap.size, 1, none⟩ (.int .u32 0)).setCell ⟨w.heap.size, 2, none⟩ (.int .i64 0)).setCell ⟨w.heap.size, 3, none⟩ (.slice none 0 0)) :=
  ⟨(((h.res.set 0 _).set 1 _).set 2 _).set 3 _, (((h.low.setCell (Nat.le_refl _) _).setCell (Nat.le_refl _) _).setCell (Nat.le_refl _) _).setCell (Nat.le_refl _) _⟩

set_option maxRecDepth 100000 in
set_option maxHeartbeats 2000000 in
theorem refGet_512 (A : Option Addr) (c : Nat) (bs : List (BitVec 8)) (w : World) (hbs : Bs w w.heap.size A 512 bs) (hc1 : 512 ≤ c) (hc2 : c ≤ maxLen) :
    Calls Tryz.prog 61 #[.slice A 512 c] w (RefSays w bs) := by
  have hrm0 : RS w ((w.alloc (.cells #[.int .u32 0, .int .u32 0, .int .i64 0, .slice none 0 0] 100)).alloc (.cells #[.slice A 508 c, .bool false] 139)) (w.heap.size + 1) (some (bs.take 508)) := by
    have hbl : Below w.heap.size w ((w.alloc (.cells #[.int .u32 0, .int .u32 0, .int .i64 0, .slice none 0 0] 100)).alloc (.cells #[.slice A 508 c, .bool false] 139)) := ((Below.refl _ _).alloc (Nat.le_refl _) _).alloc (by simp) _
    have hr := Cel.new (w.alloc (.cells #[.int .u32 0, .int .u32 0, .int .i64 0, .slice none 0 0] 100)) 139 [.slice A 508 c, .bool false]
    simp only [World.size_alloc] at hr
    exact ⟨⟨A, 508, c, hr, fun r hr => by injection hr with hr; subst hr; exact (hbs.bp.take (by decide)).below hbl (fun _ h => h), by omega, hc2⟩, (Cel.new w _ _).alloc _, hbl, Nat.lt_succ_self _⟩
  have H0 := Lib.hid hrm0
  have HB := Lib.hid hbs
  have hlb : bs.length = 512 := hbs.len
  have HLB := Lib.hid hlb
  obtain ⟨x, hx⟩ : ∃ x, readAll (some (bs.take 508)) = x := ⟨_, rfl⟩
  have HR := Lib.hid hx
  simp only [readAll] at hx
  have HX := Lib.hid hx
  clear hx
  clear hbs hrm0 hlb
  unfold maxLen at hc2
  go_enter Tryz.func61, Tryz.ntmps61
  go_wp2_with fail
  generalize (w.alloc (.cells #[.int .u32 0, .int .u32 0, .int .i64 0, .slice none 0 0] 100)).alloc (.cells #[.slice A 508 c, .bool false] 139) = W at *
  generalize hg : w.heap.size + 1 = g at *
  have hgw : ¬ g < w.heap.size := by omega
  have hgw2 : w.heap.size < g := by omega
  clear hg
  generalize hst0 : some (bs.take 508) = st0 at *
  have ST0 := Lib.hid hst0
  clear hst0
  refine (mNumber _ g _ _ _ H0.out.rm hgw).mono ?_
  rintro r w1 ⟨rfl, hr1, hf1⟩
  have H1 := Lib.hid (H0.out.frm hr1 hf1)
  clear H0 hr1 hf1
  generalize hX1 : (rnum 4 st0).1 = X1 at *
  generalize hst1 : (rnum 4 st0).2 = st1 at *
  have HX1 := Lib.hid hX1
  clear hX1 hst1
  go_wp2_with fail
  refine (mNumber _ g _ _ _ H1.out.rm hgw).mono ?_
  rintro r w2 ⟨rfl, hr2, hf2⟩
  have H2 := Lib.hid (H1.out.frm hr2 hf2)
  clear H1 hr2 hf2
  generalize hX2 : (rnum 4 st1).1 = X2 at *
  generalize hst2 : (rnum 4 st1).2 = st2 at *
  clear hX2 hst2
  go_wp2_with fail
  refine (mNumber _ g _ _ _ H2.out.rm hgw).mono ?_
  rintro r w3 ⟨rfl, hr3, hf3⟩
  have H3 := Lib.hid (H2.out.frm hr3 hf3)
  clear H2 hr3 hf3
  generalize hX3 : (rnum 4 st2).1 = X3 at *
  generalize hst3 : (rnum 4 st2).2 = st3 at *
  clear hX3 hst3
  go_wp2_with fail
  refine (mNumber _ g _ _ _ H3.out.rm hgw).mono ?_
  rintro r w4 ⟨rfl, hr4, hf4⟩
  have H4 := Lib.hid (H3.out.frm hr4 hf4)
  clear H3 hr4 hf4
  have hX4l := rnum_small 1 st3 (by decide) (by decide)
  generalize hX4 : (rnum 1 st3).1 = X4 at *
  generalize hst4 : (rnum 1 st3).2 = st4 at *
  clear hX4 hst4
  go_wp2_with fail
  refine (mText _ g _ _ H4.out.rm hgw (fun k hk => Nat.lt_of_lt_of_le hk H4.out.low.size)).mono ?_
  rintro r w5 ⟨A5, c5, rfl, ho5, hr5, hf5⟩
  have H5 := Lib.hid (H4.out.frm hr5 hf5)
  have s4 := H4.out.low.size
  have s5 := hf5.size
  have O5 := Lib.hid ho5
  clear H4 hr5 hf5 ho5
  generalize hX5 : (rtext st4).1 = X5 at *
  generalize hst5 : (rtext st4).2 = st5 at *
  clear hX5 hst5
  have hxe : readAll (some (bs.take 508)) = (X1, ⟨X2.setWidth 32, X3.setWidth 32, (X4.toNat : Int), X5⟩, st5) := by
    rw [ST0.out, HR.out, HX.out]
  have HXE := Lib.hid hxe
  clear hxe HX HR HX1
  have g0 := H5.out.res.cell 0
  have g1 := H5.out.res.cell 1
  have g2 := H5.out.res.cell 2
  have g3 := H5.out.res.cell 3
  have e0 := H5.out.res.free 0
  have e1 := H5.out.res.free 1
  have e2 := H5.out.res.free 2
  have e3 := H5.out.res.free 3
  have HZ := Lib.hid H5.out.zero
  obtain ⟨AR, nR, cR, hR, hRb, hRn, hRm⟩ := H5.out.rm
  have r0 := hR.cell 0
  have r1 := hR.cell 1
  have HRC := Lib.hid hR
  clear hR
  have h4 : X4.toNat < 256 := by simpa using hX4l
  clear hX4l
  cases st5 with
  | none =>
    clear hRb
    go_wp2_with fail
    refine bodyPost_ret (v := .tuple #[noPart, .bool false]) ?_ rfl (RefSays.no HLB.out (by rw [HXE.out]; rintro ⟨r, h, _⟩; cases h) HZ.out.2)
    exact results_cell2 2 100 3 Tryz.results61 ⟨w.heap.size, 0, none⟩ rfl _ _ rfl (load_ref HZ.out.1)
  | some rs =>
    have hrs := hRb rs rfl
    have hrl := hrs.len
    have HRS := Lib.hid hrs
    have HRL := Lib.hid hrl
    clear hRb hrs hrl
    by_cases hm1 : X1 = 1146508337#64
    · have d1 : ((X1.toNat : Int) != 1146508337) = false := by subst hm1; rfl
      have HM1 := Lib.hid hm1
      clear hm1
      by_cases hm4 : 3 < X4.toNat
      · have d4 : decide ((3 : Int) < (X4.toNat : Int)) = true := by simp; omega
        go_wp2_with fail
        refine bodyPost_ret (v := .tuple #[noPart, .bool false]) ?_ rfl (RefSays.no HLB.out (by rw [HXE.out]; rintro ⟨r, _, _, h, _⟩; simp only at h; omega) HZ.out.2)
        exact results_cell2 2 100 3 Tryz.results61 ⟨w.heap.size, 0, none⟩ rfl _ _ rfl (load_ref HZ.out.1)
      · have d4 : decide ((3 : Int) < (X4.toNat : Int)) = false := by simp; omega
        by_cases hm5 : 493 < X5.length
        · have d5 : decide ((493 : Int) < (X5.length : Int)) = true := by simp; omega
          go_wp2_with fail
          refine bodyPost_ret (v := .tuple #[noPart, .bool false]) ?_ rfl (RefSays.no HLB.out (by rw [HXE.out]; rintro ⟨r, _, _, _, h, _⟩; simp only at h; omega) HZ.out.2)
          exact results_cell2 2 100 3 Tryz.results61 ⟨w.heap.size, 0, none⟩ rfl _ _ rfl (load_ref HZ.out.1)
        · have d5 : decide ((493 : Int) < (X5.length : Int)) = false := by simp; omega
          unfold maxLen at hRm
          go_wp2_with fail
          have HG := Lib.hid (And.intro g0 (And.intro g1 (And.intro g2 g3)))
          go_loop [10] (fun i => ∃ k : Nat, k ≤ nR ∧ i = .int .i64 (k : Int) ∧ Zeros rs k) (fun i => nR - (intOf i).toNat)
          case atStart => exact ⟨0, Nat.zero_le _, rfl, fun j hj => absurd hj (by omega)⟩
          case round =>
            obtain ⟨k, hk, rfl, hzs⟩ := hrel
            have ZS := Lib.hid hzs
            clear hzs
            by_cases hlt : k < nR
            · obtain ⟨ad, rfl, _, hcell⟩ := HRS.out.at_ hlt
              generalize hY : rs.getD k 0#8 = Y at hcell
              by_cases hy0 : Y = 0#8
              · have dy : ((Y.toNat : Int) != 0) = false := by subst hy0; rfl
                have HY := Lib.hid (hY.trans hy0)
                clear hY hy0
                go_wp2_with fail
                go_round
                case rel => exact ⟨k + 1, by omega, by go_num, ZS.out.step HY.out⟩
                case measure => simp [intOf]; omega
              · have dy : ((Y.toNat : Int) != 0) = true := by
                  rw [bne_iff_ne]
                  intro h
                  exact hy0 (BitVec.eq_of_toNat_eq (by show Y.toNat = 0; omega))
                have HY := Lib.hid hY
                have HY0 := Lib.hid hy0
                clear hY hy0
                go_wp2_with fail
                refine bodyPost_ret (v := .tuple #[noPart, .bool false]) ?_ rfl (RefSays.no HLB.out ?_ HZ.out.2)
                · exact results_cell2 2 100 3 Tryz.results61 ⟨w.heap.size, 0, none⟩ rfl _ _ rfl (load_ref HZ.out.1)
                · rw [HXE.out]
                  rintro ⟨r, hr, _, _, _, hz, _⟩
                  simp only [Option.some.injEq] at hr
                  subst hr
                  refine HY0.out ?_
                  rw [← HY.out, List.getD_eq_getElem?_getD, List.getElem?_eq_getElem (by rw [HRL.out]; exact hlt)]
                  exact hz _ (List.getElem_mem _)
            · have hkn : k = nR := by omega
              subst hkn
              have hcap := Lib.hid (HB.out.below H5.out.low)
              go_wp2_with fail
              go_loop [11, 12] (fun s i => ∃ k : Nat, k ≤ 4 ∧ i = .int .i64 (511 - (k : Int)) ∧ s = v32 (leVal (bs.drop (512 - k)))) (fun _ i => (intOf i - 507).toNat)
              case atStart => exact ⟨0, by omega, by simp, by rw [List.drop_eq_nil_of_le (by rw [HLB.out]; exact Nat.le_refl _)]; rfl⟩
              case round =>
                obtain ⟨k, hk4, rfl, rfl⟩ := hrel
                by_cases hlt4 : k < 4
                · obtain ⟨ad, rfl, _, hcell⟩ := hcap.out.at_ (k := 511 - k) (by omega)
                  have hst := Lib.hid (leVal_step bs k HLB.out hlt4)
                  generalize hY : bs.getD (511 - k) 0#8 = Y at hcell hst
                  generalize hS : leVal (bs.drop (512 - k)) = S at hst ⊢
                  have hnat : ((511 : Int) - (k : Int)).toNat = 511 - k := by omega
                  have h0 : (0 : Int) ≤ 511 - (k : Int) := by omega
                  have h1 : (511 : Int) - (k : Int) < 512 := by omega
                  have h2 : (508 : Int) ≤ 511 - (k : Int) := by omega
                  clear hY hS
                  go_wp2_with fail
                  refine ⟨⟨k + 1, by omega, by go_num, ?_⟩, by simp [intOf]; omega⟩
                  rw [mul32, hst.out]
                · have hk44 : k = 4 := by omega
                  subst hk44
                  have hS : leVal (bs.drop (512 - 4)) = leVal (bs.drop 508) := rfl
                  rw [hS]
                  generalize hX6 : leVal (bs.drop 508) = X6
                  have HX6 := Lib.hid hX6
                  clear hS hX6
                  go_wp2_with ((at_builtin; refine wpList_append_new _ rfl _ _ 44 rfl 5 bytesT rfl w5.heap.size A5 X5.length c5 X5 rfl (Own.low O5.out) (Nat.le_refl _) (by omega) ?_; intro A7 c7 w7 o7 hb7; have O7 := Lib.hid o7; clear o7))
                  rw [narrow32, narrow32]
                  generalize hE2 : X2.setWidth 32 = E2 at *
                  generalize hE3 : X3.setWidth 32 = E3 at *
                  clear hE2 hE3
                  have hzr : ∀ b ∈ rs, b = 0#8 := Zeros.all (by rw [HRL.out]; exact ZS.out)
                  have HZR := Lib.hid hzr
                  clear hzr
                  have hL7 : Below w.heap.size w w7 := H5.out.low.trans (hb7.mono H5.out.low.size)
                  have hR7 := H5.out.res.below hb7 H5.out.res.lt
                  have hL8 : Below w.heap.size w (w7.alloc (.cells #[v32 E2, v32 E3, .int .i64 (X4.toNat : Int), .slice A7 X5.length c7] 100)) := hL7.alloc hL7.size _
                  have hR8 := hR7.alloc (.cells #[v32 E2, v32 E3, .int .i64 (X4.toNat : Int), .slice A7 X5.length c7] 100)
                  have hV8 := Cel.new w7 100 [v32 E2, v32 E3, .int .i64 (X4.toNat : Int), .slice A7 X5.length c7]
                  have hO8 : Own (w7.alloc (.cells #[v32 E2, v32 E3, .int .i64 (X4.toNat : Int), .slice A7 X5.length c7] 100)) (w.heap.size + 1) A7 X5.length c7 X5 := (Own.base O7.out (Nat.succ_le_of_lt H5.out.res.lt)).alloc _
                  have HL8 := Lib.hid hL8
                  have HR8 := Lib.hid hR8
                  have HV8 := Lib.hid hV8
                  have HO8 := Lib.hid hO8
                  clear hL7 hR7 hL8 hR8 hV8 hO8 O7 hb7 HG HZ g0 g1 g2 g3 e0 e1 e2 e3 r0 r1 HRC hcap
                  generalize w7.alloc (.cells #[v32 E2, v32 E3, .int .i64 (X4.toNat : Int), .slice A7 X5.length c7] 100) = W8 at *
                  generalize w7.heap.size = v at *
                  have HBT := Lib.hid (((HB.out.below HL8.out).bp.take (k := 508) (by decide)).low)
                  have v0 := HV8.out.cell 0
                  have v1 := HV8.out.cell 1
                  have v2 := HV8.out.cell 2
                  have v3 := HV8.out.cell 3
                  have g0 := HR8.out.cell 0
                  have g1 := HR8.out.cell 1
                  have g2 := HR8.out.cell 2
                  have g3 := HR8.out.cell 3
                  have e0 := HR8.out.free 0
                  have e1 := HR8.out.free 1
                  have e2 := HR8.out.free 2
                  have e3 := HR8.out.free 3
                  have hfr : Below w.heap.size w (((((W8.setCell ⟨w.heap.size, 0, none⟩ (v32 E2)).setCell ⟨w.heap.size, 1, none⟩ (v32 E3)).setCell ⟨w.heap.size, 2, none⟩ (.int .i64 (X4.toNat : Int))).setCell ⟨w.heap.size, 3, none⟩ (.slice A7 X5.length c7)).drew) := ((((HL8.out.setCell (Nat.le_refl _) _).setCell (Nat.le_refl _) _).setCell (Nat.le_refl _) _).setCell (Nat.le_refl _) _).drew
                  have hcf : Cel (((((W8.setCell ⟨w.heap.size, 0, none⟩ (v32 E2)).setCell ⟨w.heap.size, 1, none⟩ (v32 E3)).setCell ⟨w.heap.size, 2, none⟩ (.int .i64 (X4.toNat : Int))).setCell ⟨w.heap.size, 3, none⟩ (.slice A7 X5.length c7)).drew) w.heap.size 100 [v32 E2, v32 E3, .int .i64 (X4.toNat : Int), .slice A7 X5.length c7] := (((HR8.out.set 0 _).set 1 _).set 2 _).set 3 _
                  have hfo : Frm [w.heap.size] W8 (((((W8.setCell ⟨w.heap.size, 0, none⟩ (v32 E2)).setCell ⟨w.heap.size, 1, none⟩ (v32 E3)).setCell ⟨w.heap.size, 2, none⟩ (.int .i64 (X4.toNat : Int))).setCell ⟨w.heap.size, 3, none⟩ (.slice A7 X5.length c7)).drew) := (((((Frm.refl _ _).set (by simp) _).set (by simp) _).set (by simp) _).set (by simp) _).drew
                  have HFR := Lib.hid hfr
                  have HCF := Lib.hid hcf
                  have HLO := Lib.hid (By.of_own (HO8.out.frm hfo (by simp)))
                  clear hfr hcf hfo
                  by_cases hE : X6 = Crc.sum (bs.take 508)
                  · have dE : ((X6.toNat : Int) == ((Crc.sum (bs.take 508)).toNat : Int)) = true := by rw [hE]; exact beq_self_eq_true _
                    have HE := Lib.hid hE
                    clear hE
                    go_region_with (first
                      | (go_at_call 96; refine (Crc.refSum _ A 508 _ (bs.take 508) _ (Bs.drew HBT.out) (by decide)).mono ?_; rintro r w9 ⟨rfl, rfl⟩))
                    all_goals
                      go_wp2_with fail
                      refine bodyPost_ret (v := .tuple #[partV E2 E3 (X4.toNat : Int) A7 X5.length c7, .bool true]) ?_ rfl ⟨.inl ⟨⟨E2, E3, (X4.toNat : Int), X5⟩, A7, c7, ?_, rfl, HLO.out⟩, HFR.out⟩
                      · exact results_cell2 2 100 3 Tryz.results61 ⟨w.heap.size, 0, none⟩ rfl _ _ rfl (load_ref HCF.out)
                      · refine (ref_get bs HLB.out _).1 ⟨?_, by rw [HXE.out]⟩
                        rw [HXE.out]
                        exact ⟨rs, rfl, HM1.out, by show (X4.toNat : Int) ≤ 3; omega, by show X5.length ≤ 493; omega, HZR.out, by rw [HX6.out]; exact HE.out⟩
                  · have dE : ((X6.toNat : Int) == ((Crc.sum (bs.take 508)).toNat : Int)) = false := by
                      rw [beq_eq_false_iff_ne]
                      intro h
                      exact hE (BitVec.eq_of_toNat_eq (by omega))
                    have HE := Lib.hid hE
                    clear hE
                    go_region_with (first
                      | (go_at_call 96; refine (Crc.refSum _ A 508 _ (bs.take 508) _ (Bs.drew HBT.out) (by decide)).mono ?_; rintro r w9 ⟨rfl, rfl⟩))
                    all_goals
                      go_wp2_with fail
                      refine bodyPost_ret (v := .tuple #[partV E2 E3 (X4.toNat : Int) A7 X5.length c7, .bool false]) ?_ rfl ⟨.inr ⟨?_, E2, E3, (X4.toNat : Int), A7, X5.length, c7, rfl⟩, HFR.out⟩
                      · exact results_cell2 2 100 3 Tryz.results61 ⟨w.heap.size, 0, none⟩ rfl _ _ rfl (load_ref HCF.out)
                      · cases hg : get bs with
                        | none => rfl
                        | some p =>
                          obtain ⟨⟨r, _, _, _, _, _, h6⟩, _⟩ := (ref_get bs HLB.out p).2 hg
                          exact absurd (by rw [← HX6.out]; exact h6) HE.out
    · have d1 : ((X1.toNat : Int) != 1146508337) = true := by
        rw [bne_iff_ne]
        intro h
        exact hm1 (BitVec.eq_of_toNat_eq (by show X1.toNat = 1146508337; omega))
      have HM1 := Lib.hid hm1
      clear hm1
      go_wp2_with fail
      refine bodyPost_ret (v := .tuple #[noPart, .bool false]) ?_ rfl (RefSays.no HLB.out (by rw [HXE.out]; rintro ⟨r, _, h, _⟩; exact HM1.out h) HZ.out.2)
      exact results_cell2 2 100 3 Tryz.results61 ⟨w.heap.size, 0, none⟩ rfl _ _ rfl (load_ref HZ.out.1)
end Go.Proofs.YtdaknfepcbooeaaGreat.Sector
end

section
namespace Go.Proofs.YtdaknfepcbooeaaGreat.Sector
open Go.RowKit Go.Proofs.YtdaknfepcbooeaaGreat.Pack
set_option linter.unusedVariables false
set_option linter.unusedSimpArgs false

theorem refGet (A : Option Addr) (n c : Nat) (bs : List (BitVec 8)) (w : World) (hbs : Lo w A n bs) (hc1 : n ≤ c) (hc2 : c ≤ maxLen) : Calls Tryz.prog 61 #[.slice A n c] w (RefSays w bs) := by
  by_cases hn : n = 512
  · subst hn; exact refGet_512 A c bs w hbs hc1 hc2
  · exact refGet_len A n c w bs hbs.len hn (by omega)
theorem refGet_by (A : Option Addr) (n c : Nat) (bs : List (BitVec 8)) (p : Pt) (w : World) (hg : get bs = some p) (hbs : Lo w A n bs) (hc1 : n ≤ c) (hc2 : c ≤ maxLen) :
    Calls Tryz.prog 61 #[.slice A n c] w fun r w' => ∃ A' c', r = .returned (.tuple #[partV p.epoch p.seq p.flags A' p.body.length c', .bool true]) ∧ By w' A' p.body.length p.body ∧ Below w.heap.size w w' := by
  refine (refGet A n c bs w hbs hc1 hc2).mono fun r w' h => ?_
  rcases h with ⟨⟨q, A', c', h1, h2, h3⟩ | ⟨h1, _⟩, hb⟩
  · rw [hg] at h1; injection h1 with h1; subst h1; exact ⟨A', c', h2, h3, hb⟩
  · rw [hg] at h1; cases h1
theorem refGet_yes (A : Option Addr) (n c : Nat) (bs : List (BitVec 8)) (p : Pt) (w : World) (hg : get bs = some p) (hbs : Lo w A n bs) (hc1 : n ≤ c) (hc2 : c ≤ maxLen) :
    Calls Tryz.prog 61 #[.slice A n c] w fun r w' => ∃ A' c', r = .returned (.tuple #[partV p.epoch p.seq p.flags A' p.body.length c', .bool true]) ∧ Lo w' A' p.body.length p.body ∧ Below w.heap.size w w' := by
  refine (refGet A n c bs w hbs hc1 hc2).mono fun r w' h => ?_
  rcases h with ⟨⟨q, A', c', h1, h2, h3⟩ | ⟨h1, _⟩, hb⟩
  · rw [hg] at h1; injection h1 with h1; subst h1; exact ⟨A', c', h2, h3.rd, hb⟩
  · rw [hg] at h1; cases h1
theorem refGet_not (A : Option Addr) (n c : Nat) (bs : List (BitVec 8)) (w : World) (hg : get bs = none) (hbs : Lo w A n bs) (hc1 : n ≤ c) (hc2 : c ≤ maxLen) :
    Calls Tryz.prog 61 #[.slice A n c] w fun r w' => ∃ e s f A' n' c', r = .returned (.tuple #[partV e s f A' n' c', .bool false]) ∧ Below w.heap.size w w' := by
  refine (refGet A n c bs w hbs hc1 hc2).mono fun r w' h => ?_
  rcases h with ⟨⟨q, A', c', h1, _⟩ | ⟨_, e, s, f, A', n', c', h2⟩, hb⟩
  · rw [hg] at h1; cases h1
  · exact ⟨e, s, f, A', n', c', h2, hb⟩
end Go.Proofs.YtdaknfepcbooeaaGreat.Sector
end
