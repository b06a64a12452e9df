/-
  What the document's own Join comes to; the bytes of a string.
-/
import Derived.Test.YtdaknfepcbooeaaGreatMFragB
import Derived.Test.YtdaknfepcbooeaaGreatMFragC
import Derived.Test.YtdaknfepcbooeaaGreatMBaseB
import Derived.Laws.IdiomStrings
namespace Go.Proofs.YtdaknfepcbooeaaGreat.Frag
open Go.RowKit
set_option linter.unusedVariables false
set_option linter.unusedSimpArgs false

theorem str_len (b : List (BitVec 8)) : (str b).size = b.length := by simp [str, ByteArray.size]
/-- '[]byte(s)': the bytes, in a block of the call's own. -/
theorem bytes_of_str (w : World) (b : List (BitVec 8)) (hb : b.length ≤ maxLen) : ∃ c W, (convert 9 44 (.string (str b))).run Tryz.prog w = .ok (.slice (some ⟨w.heap.size, 0, none⟩) b.length c) W ∧
    b.length ≤ c ∧ c ≤ maxLen ∧ By W (some ⟨w.heap.size, 0, none⟩) b.length b ∧ Below w.heap.size w W := by
  have hrun := run_bytes_of_string (P := Tryz.prog) w 9 44 5 (str b) Tryz.underlying9 Tryz.underlying44 Tryz.underlying5
  rw [str_len] at hrun
  refine ⟨_, _, hrun, grownCap_ge _ _ _ _, grownCap_le_maxLen _ _ _ _ hb, ⟨rfl, fun h0 => ⟨_, rfl, ⟨_, _, Array.getElem?_push_size⟩, fun j hj => ?_⟩⟩, (Below.refl _ _).drew.alloc (Nat.le_refl _) _⟩
  rw [Addr.add_lit, Nat.zero_add]
  have hnew : (w.drew.alloc (.cells (bytesRow (str b) (grownCap w b.length 0 5)) 5 ((bytesRow (str b) (grownCap w b.length 0 5)).size, (bytesRow (str b) (grownCap w b.length 0 5)).size + 1))).heap[w.heap.size]? = some (.cells (bytesRow (str b) (grownCap w b.length 0 5)) 5 ((bytesRow (str b) (grownCap w b.length 0 5)).size, (bytesRow (str b) (grownCap w b.length 0 5)).size + 1)) := Array.getElem?_push_size
  unfold World.cell?
  rw [hnew]
  dsimp only
  rw [if_neg (by simp)]
  unfold bytesRow
  rw [Array.getElem?_append_left (by simp [str]; omega)]
  simp [str, hj, v8]
theorem Pr.more {w : World} {B B' n : Nat} {A : Option Addr} {xs : List Pv} (h : Pr w B A n xs) (hB : B ≤ B') : Pr w B' A n xs :=
  ⟨h.len, fun hn => by
    obtain ⟨ad, e, hl, hc⟩ := h.cells hn
    exact ⟨ad, e, by omega, hc⟩, fun x hx => (h.bodies x hx).more hB⟩
theorem src_cell (w : World) (t : TypeId) (v : Value) : Src (w.alloc (.cells #[v] t)) (some ⟨w.heap.size, 0, none⟩) 1 [v] := fun _ => ⟨_, rfl, fun q u hu => by
  rw [Addr.add_lit, Nat.zero_add]
  have := (Cel.new w t [v]).cell q
  rw [hu] at this
  exact this⟩

theorem one_mod {f : Int} (h : fits f) : (f.tmod 2 == 1) = one f := by
  have h0 := h.1
  unfold one
  rw [Int.tmod_eq_emod_of_nonneg h0]
  rw [Bool.eq_iff_iff]
  simp
theorem two_mod {f : Int} (h : fits f) : ((wrap64 (f.tdiv 2)).tmod 2 == 1) = two f := by
  have h0 := h.1
  have h1 := h.2
  have hw : wrap64 (f.tdiv 2) = f.tdiv 2 := by rw [Int.tdiv_eq_ediv_of_nonneg h0]; unfold wrap64; omega
  rw [hw]
  unfold two
  rw [Int.tdiv_eq_ediv_of_nonneg h0, Int.tmod_eq_emod_of_nonneg (by omega)]
  rw [Bool.eq_iff_iff]
  simp
/-- What one says of the parts. -/
def OneSays (w : World) (xs : List Pv) (r : Ending) (w' : World) : Prop :=
  ∃ A' n' c', r = .returned (.tuple #[.slice A' n' c', .int .i64 ((lead true (xs.map (·.p)) : Nat) : Int)]) ∧ (0 < lead true (xs.map (·.p)) → n' = (whole (xs.take (lead true (xs.map (·.p))))).length ∧ By w' A' n' (whole (xs.take (lead true (xs.map (·.p)))))) ∧ Below w.heap.size w w'
set_option maxRecDepth 100000 in
set_option maxHeartbeats 2000000 in
theorem refOne (A : Option Addr) (n c : Nat) (xs : List Pv) (w : World) (h : Pr w w.heap.size A n xs) (hm : n ≤ 4096) (hf : ∀ x ∈ xs, fits x.p.flags) (hw : (whole xs).length ≤ 140737488355328) :
    Calls Tryz.prog 97 #[.slice A n c] w (OneSays w xs) := by
  have H := Lib.hid h
  have HF := Lib.hid hf
  have HW := Lib.hid hw
  unfold OneSays
  have HL := Lib.hid (leadAt_zero (xs.map (·.p)))
  generalize lead true (xs.map (·.p)) = L at *
  clear h hf hw
  go_enter Tryz.func97, Tryz.ntmps97
  go_wp2_with fail
  go_loopw [4, 5] (fun v i wr => ∃ k : Nat, k ≤ n ∧ i = .int .i64 (k : Int) ∧ (∃ A' c', v = .slice A' (whole (xs.take k)).length c') ∧ wr.ownsRow w.heap.size 5 1 v (whole (xs.take k)).length ((whole (xs.take k)).map v8) ∧ Below w.heap.size w wr ∧ Hid (leadAt k (xs.map (·.p)) = L)) (fun _ i _ => n - (intOf i).toNat)
  case atStart => exact ⟨0, Nat.zero_le _, rfl, ⟨none, 0, rfl⟩, World.ownsRow_nil _ _ _ _, Below.refl _ _, HL⟩
  case round =>
    obtain ⟨k, hk, rfl, ⟨A', c', rfl⟩, ho, hb, HK⟩ := hrel
    have sb := hb.size
    have hkm : k ≤ 4096 := by omega
    by_cases hlt : k < n
    · obtain ⟨ad, x, rfl, hx, hxb, hl, c0, c1, c2, c3⟩ := (H.out.below hb).at_ hlt
      have hfx := HF.out x (List.mem_of_getElem? hx)
      have hpx : (xs.map (·.p))[k]? = some x.p := by rw [List.getElem?_map, hx]; rfl
      have HT := Lib.hid (whole_take hx)
      have hle := whole_le xs (k + 1)
      rw [HT.out, List.length_append] at hle
      have HLE := Lib.hid (Nat.le_trans hle HW.out)
      obtain ⟨⟨e, s, f, bs⟩, xA, xc⟩ := x
      dsimp only at *
      have HBL := Lib.hid hxb
      have HPX := Lib.hid hpx
      have HO := Lib.hid ho
      have HB := Lib.hid hb
      have h1 := one_mod hfx
      have h2 := two_mod hfx
      generalize hone : one f = o1 at *
      generalize htwo : two f = o2 at *
      have HT2 := Lib.hid htwo
      clear hx hxb hb ho hle hfx hpx htwo
      have hlw : ad.block < w.heap.size := hl
      clear hl
      generalize whole (xs.take k) = T at *
      generalize hTn : T.length = m at *
      have HM := Lib.hid hTn
      clear hTn
      by_cases hk0 : k = 0
      · have dk : ((k : Int) == 0) = true := by subst hk0; rfl
        have HK0 := Lib.hid hk0
        clear hk0
        cases o1 with
        | false =>
          have HQ := Lib.hid (show ¬ one f = (k == 0) from by rw [hone, HK0.out]; decide)
          clear hone
          go_wp2_with fail
          go_ret2
          have hL0 : L = 0 := by rw [← HK.out, leadAt_no HPX.out HQ.out]
          subst hL0
          exact ⟨_, _, _, rfl, fun h => absurd h (Nat.lt_irrefl 0), HB.out⟩
        | true =>
          have HQ := Lib.hid (show one f = (k == 0) from by rw [hone, HK0.out]; rfl)
          clear hone
          cases o2 with
          | true =>
            go_wp2_with (at_builtin; refine wpList_append_bs _ rfl _ _ 44 rfl w.heap.size 5 bytesT (.slice A' m c') m T rfl HO.out w.heap.size xA bs.length xc bs rfl HBL.out (m + bs.length) (T ++ bs) rfl rfl HLE.out sb ?_; intro A3 c3' w3 o3 g3 _; have O3 := Lib.hid o3; have b3 := HB.out.grown g3 sb (own_base HO.out); have B3 := Lib.hid b3; have hk3 : ∀ (a : Addr) (v : Value), a.block < w.heap.size → wr.cell? a = some v → w3.cell? a = some v := fun a v ha hv => (b3.cell ha).trans ((HB.out.cell ha).symm.trans hv); have c2' := hk3 _ _ (by rw [add_block]; exact hlw) c2; clear o3 g3 b3 hk3)
            go_ret2
            have hLL : L = k + 1 := by rw [← HK.out, leadAt_last HPX.out HQ.out HT2.out]
            subst hLL
            refine ⟨A3, m + bs.length, c3', rfl, fun _ => ⟨?_, ?_⟩, B3.out⟩
            · rw [HT.out, List.length_append, HM.out]
            · rw [HT.out]
              exact By.of_own O3.out
          | false =>
            go_wp2_with (at_builtin; refine wpList_append_bs _ rfl _ _ 44 rfl w.heap.size 5 bytesT (.slice A' m c') m T rfl HO.out w.heap.size xA bs.length xc bs rfl HBL.out (m + bs.length) (T ++ bs) rfl rfl HLE.out sb ?_; intro A3 c3' w3 o3 g3 _; have O3 := Lib.hid o3; have b3 := HB.out.grown g3 sb (own_base HO.out); have B3 := Lib.hid b3; have hk3 : ∀ (a : Addr) (v : Value), a.block < w.heap.size → wr.cell? a = some v → w3.cell? a = some v := fun a v ha hv => (b3.cell ha).trans ((HB.out.cell ha).symm.trans hv); have c2' := hk3 _ _ (by rw [add_block]; exact hlw) c2; clear o3 g3 b3 hk3)
            go_roundw
            case rel =>
              refine ⟨k + 1, by omega, by go_num, ⟨A3, c3', ?_⟩, ?_, B3.out, Lib.hid ((leadAt_on HPX.out HQ.out HT2.out).symm.trans HK.out)⟩
              · rw [HT.out, List.length_append, HM.out]
              · rw [HT.out, List.length_append, HM.out]; exact O3.out
            case measure => simp [intOf]; omega
      · have dk : ((k : Int) == 0) = false := by simp; omega
        have HK0 := Lib.hid hk0
        clear hk0
        cases o1 with
        | true =>
          have HQ := Lib.hid (show ¬ one f = (k == 0) from by rw [hone]; have := HK0.out; simp; omega)
          clear hone
          go_wp2_with fail
          go_ret2
          have hL0 : L = 0 := by rw [← HK.out, leadAt_no HPX.out HQ.out]
          subst hL0
          exact ⟨_, _, _, rfl, fun h => absurd h (Nat.lt_irrefl 0), HB.out⟩
        | false =>
          have HQ := Lib.hid (show one f = (k == 0) from by rw [hone]; have := HK0.out; symm; simpa using this)
          clear hone
          cases o2 with
          | true =>
            go_wp2_with (at_builtin; refine wpList_append_bs _ rfl _ _ 44 rfl w.heap.size 5 bytesT (.slice A' m c') m T rfl HO.out w.heap.size xA bs.length xc bs rfl HBL.out (m + bs.length) (T ++ bs) rfl rfl HLE.out sb ?_; intro A3 c3' w3 o3 g3 _; have O3 := Lib.hid o3; have b3 := HB.out.grown g3 sb (own_base HO.out); have B3 := Lib.hid b3; have hk3 : ∀ (a : Addr) (v : Value), a.block < w.heap.size → wr.cell? a = some v → w3.cell? a = some v := fun a v ha hv => (b3.cell ha).trans ((HB.out.cell ha).symm.trans hv); have c2' := hk3 _ _ (by rw [add_block]; exact hlw) c2; clear o3 g3 b3 hk3)
            go_ret2
            have hLL : L = k + 1 := by rw [← HK.out, leadAt_last HPX.out HQ.out HT2.out]
            subst hLL
            refine ⟨A3, m + bs.length, c3', rfl, fun _ => ⟨?_, ?_⟩, B3.out⟩
            · rw [HT.out, List.length_append, HM.out]
            · rw [HT.out]
              exact By.of_own O3.out
          | false =>
            go_wp2_with (at_builtin; refine wpList_append_bs _ rfl _ _ 44 rfl w.heap.size 5 bytesT (.slice A' m c') m T rfl HO.out w.heap.size xA bs.length xc bs rfl HBL.out (m + bs.length) (T ++ bs) rfl rfl HLE.out sb ?_; intro A3 c3' w3 o3 g3 _; have O3 := Lib.hid o3; have b3 := HB.out.grown g3 sb (own_base HO.out); have B3 := Lib.hid b3; have hk3 : ∀ (a : Addr) (v : Value), a.block < w.heap.size → wr.cell? a = some v → w3.cell? a = some v := fun a v ha hv => (b3.cell ha).trans ((HB.out.cell ha).symm.trans hv); have c2' := hk3 _ _ (by rw [add_block]; exact hlw) c2; clear o3 g3 b3 hk3)
            go_roundw
            case rel =>
              refine ⟨k + 1, by omega, by go_num, ⟨A3, c3', ?_⟩, ?_, B3.out, Lib.hid ((leadAt_on HPX.out HQ.out HT2.out).symm.trans HK.out)⟩
              · rw [HT.out, List.length_append, HM.out]
              · rw [HT.out, List.length_append, HM.out]; exact O3.out
            case measure => simp [intOf]; omega
    · obtain rfl : k = n := by omega
      have HE := Lib.hid (show leadAt k (xs.map (·.p)) = 0 from by
        have := leadAt_end (xs.map (·.p))
        rwa [List.length_map, H.out.len] at this)
      go_wp2_with fail
      go_ret2
      have hL0 : L = 0 := by rw [← HK.out, HE.out]
      subst hL0
      exact ⟨_, _, _, rfl, fun h => absurd h (Nat.lt_irrefl 0), hb⟩

/-- What Join says of the parts: their records, in a row of the call's own. -/
def JoinSays (w : World) (ps : List Pt) (r : Ending) (w' : World) : Prop :=
  ∃ (A' : Option Addr) (c' : Nat) (rs : List Rv) (u : Int), r = .returned (.tuple #[.slice A' rs.length c', .int .i64 u]) ∧ rs.map (·.bs) = (grp ps).map (fun g => g.flatMap (·.body)) ∧
    w'.ownsRow w.heap.size 44 1 (.slice A' rs.length c') rs.length (rs.map Rv.val) ∧ (∀ x ∈ rs, By w' x.A x.bs.length x.bs) ∧ Below w.heap.size w w'
theorem undRecs : Tryz.prog.underlying 30 = some (.slice 44) := by kernel_rfl
theorem rowsT : ElemRow Tryz.prog 30 44 1 24 := ElemRow.mk' undRecs infoRec rfl (by decide)
theorem whole_flat (xs : List Pv) : (xs.map (·.p)).flatMap (·.body) = whole xs := by rw [whole, List.flatMap_map]
theorem whole_drop (xs : List Pv) (k : Nat) : (whole (xs.drop k)).length ≤ (whole xs).length := by
  conv => rhs; rw [← List.take_append_drop k xs]
  rw [whole, whole, List.flatMap_append, List.length_append]
  omega
set_option maxRecDepth 100000 in
set_option maxHeartbeats 2000000 in
theorem refJoin (A : Option Addr) (n c : Nat) (xs : List Pv) (w : World) (h : Pr w w.heap.size A n xs) (hnc : n ≤ c) (hm : n ≤ 4096) (hf : ∀ x ∈ xs, fits x.p.flags) (hw : (whole xs).length ≤ 140737488355328) :
    Calls Tryz.prog 62 #[.slice A n c] w (JoinSays w (xs.map (·.p))) := by
  have H := Lib.hid h
  have HF := Lib.hid hf
  have HW := Lib.hid hw
  clear h hf hw
  go_enter Tryz.func62, Tryz.ntmps62
  go_wp2_with fail
  go_loopw [4, 5] (fun v i wr => ∃ k : Nat, k ≤ n ∧ i = .int .i64 (k : Int) ∧ ∃ (Av : Option Addr) (cv : Nat) (rs : List Rv), v = .slice Av rs.length cv ∧ rs.length ≤ k ∧ wr.ownsRow w.heap.size 44 1 (.slice Av rs.length cv) rs.length (rs.map Rv.val) ∧ (∀ x ∈ rs, By wr x.A x.bs.length x.bs) ∧ Below w.heap.size w wr ∧
      (grp (xs.map (·.p))).map (fun g => g.flatMap (·.body)) = rs.map (·.bs) ++ (grp ((xs.drop k).map (·.p))).map (fun g => g.flatMap (·.body))) (fun _ i _ => n - (intOf i).toNat)
  case atStart => exact ⟨0, Nat.zero_le _, rfl, none, 0, [], rfl, Nat.le_refl _, World.ownsRow_nil _ _ _ _, by simp, Below.refl _ _, rfl⟩
  case round =>
    obtain ⟨k, hk, rfl, Av, cv, rs, rfl, hrk, ho, hby, hb, hg⟩ := hrel
    have sb := hb.size
    have hkm : k ≤ 4096 := by omega
    have hpr := (H.out.below hb).drop hk hnc
    have con := refOne _ (n - k) (c - k) (xs.drop k) wr (hpr.more sb) (by omega) (fun x hx => HF.out x (List.mem_of_mem_drop hx)) (Nat.le_trans (whole_drop xs k) HW.out)
    have HO := Lib.hid ho
    have HBY := Lib.hid hby
    have HB := Lib.hid hb
    have HG := Lib.hid hg
    clear ho hby hb hg hpr
    by_cases hck : c = k
    · rw [if_pos hck] at con
      have hkc := hck.symm
      subst hkc
      rw [Nat.sub_self, show n - k = 0 by omega] at con
      have CON := Lib.hid con
      clear con
      go_wp2_with fail
      refine CON.out.mono ?_
      clear CON
      rintro r w1 ⟨A1, n1, c1, rfl, hone, hb1⟩
      have hle := lead_le true ((xs.drop k).map (·.p))
      rw [List.length_map, List.length_drop, H.out.len] at hle
      have hB1 : Below w.heap.size w w1 := HB.out.trans (hb1.mono sb)
      have sb1 := hB1.size
      have HB1 := Lib.hid hB1
      have O1 := Lib.hid (World.ownsRow.alloc (own_below HO.out hb1) (.cells #[.slice A1 n1 c1] 44))
      have BY1 := Lib.hid (fun x hx => ((HBY.out x hx).below hb1).alloc (.cells #[.slice A1 n1 c1] 44))
      have HONE := Lib.hid hone
      obtain ⟨L, hL⟩ : ∃ L, lead true ((xs.drop k).map (·.p)) = L := ⟨_, rfl⟩
      rw [hL] at hle HONE ⊢
      have HL := Lib.hid hL
      have HBB := Lib.hid hb1
      clear hone hL hB1 hb1
      by_cases hl0 : L = 0
      · subst hl0
        go_wp2_with fail
        go_ret2
        refine ⟨Av, cv, rs, _, rfl, ?_, own_below HO.out HBB.out, fun x hx => (HBY.out x hx).below HBB.out, HB1.out⟩
        rw [HG.out, grp_none HL.out]
        simp
      · exact absurd hle (by omega)
    · rw [if_neg hck] at con
      have CON := Lib.hid con
      clear con
      go_wp2_with fail
      refine CON.out.mono ?_
      clear CON
      rintro r w1 ⟨A1, n1, c1, rfl, hone, hb1⟩
      have hle := lead_le true ((xs.drop k).map (·.p))
      rw [List.length_map, List.length_drop, H.out.len] at hle
      have hB1 : Below w.heap.size w w1 := HB.out.trans (hb1.mono sb)
      have sb1 := hB1.size
      have HB1 := Lib.hid hB1
      have O1 := Lib.hid (World.ownsRow.alloc (own_below HO.out hb1) (.cells #[.slice A1 n1 c1] 44))
      have BY1 := Lib.hid (fun x hx => ((HBY.out x hx).below hb1).alloc (.cells #[.slice A1 n1 c1] 44))
      have HONE := Lib.hid hone
      obtain ⟨L, hL⟩ : ∃ L, lead true ((xs.drop k).map (·.p)) = L := ⟨_, rfl⟩
      rw [hL] at hle HONE ⊢
      have HL := Lib.hid hL
      have HBB := Lib.hid hb1
      clear hone hL hB1 hb1
      by_cases hl0 : L = 0
      · subst hl0
        go_wp2_with fail
        go_ret2
        refine ⟨Av, cv, rs, _, rfl, ?_, own_below HO.out HBB.out, fun x hx => (HBY.out x hx).below HBB.out, HB1.out⟩
        rw [HG.out, grp_none HL.out]
        simp
      · have dl : ((L : Int) == 0) = false := beq_eq_false_iff_ne.2 (by omega)
        obtain ⟨hn1, hby1⟩ := HONE.out (by omega)
        have HN1 := Lib.hid hn1
        have HBY1 := Lib.hid hby1
        clear hn1 hby1
        go_wp2_with (at_builtin; refine wpList_append_any _ rfl (.tmp 19) (.tmp 21) 30 rfl w.heap.size 44 rowsT _ rs.length (rs.map Rv.val) rfl O1.out (some ⟨w1.heap.size, 0, none⟩) 1 1 [.slice A1 n1 c1] rfl rfl (src_cell w1 _ _) (by simp [Value.oneCell']) (rs.length + 1) _ rfl rfl (by unfold maxLen; omega) (by omega) (by simp; omega) ?_; intro A3 c3 w3 o3 g3 _; have O3 := Lib.hid o3; have G3 := Lib.hid g3; clear o3 g3)
        have hnb := not_bytes O1.out (by decide)
        have hD : (xs.drop k).drop L = xs.drop (k + L) := by rw [List.drop_drop]
        have hb3 : Below w.heap.size w w3 := (HB1.out.alloc sb1 _).grown G3.out (by simp; omega) (own_base O1.out)
        go_roundw
        case rel =>
          refine ⟨k + L, by omega, by go_num, A3, c3, rs ++ [⟨whole ((xs.drop k).take L), A1, c1⟩], by rw [List.length_append]; rfl, by rw [List.length_append]; show rs.length + 1 ≤ _; omega, ?_, ?_, hb3, ?_⟩
          · rw [List.length_append, List.map_append]
            show w3.ownsRow _ _ _ _ _ (_ ++ [.slice A1 (whole ((xs.drop k).take L)).length c1])
            rw [← HN1.out]
            exact O3.out
          · intro x hx
            rcases List.mem_append.1 hx with hx | hx
            · exact (BY1.out x hx).grown G3.out hnb
            · rw [List.mem_singleton.1 hx]
              dsimp only
              rw [← HN1.out]
              exact (HBY1.out.alloc _).grown G3.out hnb
          · rw [HG.out, grp_more (by rw [HL.out]; omega), HL.out, List.map_cons, List.map_append, List.map_cons, List.map_nil, List.append_assoc]
            rw [← List.map_take, ← List.map_drop, hD, whole_flat]
            rfl
        case measure => simp [intOf]; omega
end Go.Proofs.YtdaknfepcbooeaaGreat.Frag
