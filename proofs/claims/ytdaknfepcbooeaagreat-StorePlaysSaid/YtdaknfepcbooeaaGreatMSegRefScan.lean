/-
  The document's reading of sectors: Scan.
-/
import Derived.Test.YtdaknfepcbooeaaGreatMPure
import Derived.Test.YtdaknfepcbooeaaGreatMFragC
import Derived.Test.YtdaknfepcbooeaaGreatMStoE
import Derived.Test.YtdaknfepcbooeaaGreatMSegScan
import Derived.Test.YtdaknfepcbooeaaGreatMSectorB
import Derived.Test.YtdaknfepcbooeaaGreatMFragRefJoin
namespace Go.Proofs.YtdaknfepcbooeaaGreat.Segm
open Go.RowKit
open Go.Proofs.YtdaknfepcbooeaaGreat.Frag (Pv Rv flat Pr grp flat_append flat_one flat_length own_base JoinSays whole bytes_of_str fits)
open Go.Proofs.YtdaknfepcbooeaaGreat.Sector (partV)
set_option linter.unusedVariables false
set_option linter.unusedSimpArgs false

/-- A slice of strings: the sectors' bytes. -/
structure Sts (w : World) (A : Option Addr) (n : Nat) (L : List (List (BitVec 8))) : Prop where
  len : L.length = n
  at_ : ∀ i b, L[i]? = some b → ∃ ad, A = some ad ∧ ad.block < w.heap.size ∧ w.cell? (ad.add i) = some (.string (str b))
/-- While the sectors are considered: the parts xs lie in an own row. -/
structure Ldr (w : World) (v : Value) (wr : World) (xs : List Pv) : Prop where
  own : wr.ownsRow w.heap.size 100 4 v xs.length (flat xs)
  by_ : ∀ x ∈ xs, By wr x.A x.p.body.length x.p.body
  low : Below w.heap.size w wr
theorem Ldr.below {w wr w' : World} {v : Value} {xs : List Pv} (h : Ldr w v wr xs) (hb : Below wr.heap.size wr w') : Ldr w v w' xs :=
  ⟨Frag.own_below h.own hb, fun x hx => (h.by_ x hx).below hb, h.low.trans (hb.mono h.low.size)⟩
theorem own_low {w : World} {base base' e size n : Nat} {v : Value} {xs : List Value} (h : w.ownsRow base e size v n xs) (hb : base' ≤ base) : w.ownsRow base' e size v n xs := by
  refine ⟨h.1, h.2.imp id ?_⟩
  rintro ⟨g, cap, cur, h1, h2, h3⟩
  exact ⟨g, cap, cur, h1, Nat.le_trans hb h2, h3⟩
theorem _root_.Go.Proofs.YtdaknfepcbooeaaGreat.Frag.JoinSays.of {w wr : World} {ps qs : List Frag.Pt} {r : Ending} {w' : World} (h : JoinSays wr ps r w') (hb : Below w.heap.size w wr) (e : ps = qs) : JoinSays w qs r w' := by
  subst e
  obtain ⟨A, c, rs, u, h1, h2, h3, h4, h5⟩ := h
  exact ⟨A, c, rs, u, h1, h2, own_low h3 hb.size, h4, hb.trans (h5.mono hb.size)⟩
theorem whole_few {xs : List Pv} {l : List Frag.Pt} (h : ∀ x ∈ xs, (toS x.p).may = true) (hn : xs.length ≤ 200) : (whole xs).length ≤ 140737488355328 := by
  have h1 := bodies_le (xs.map (·.p)) (fun p hp => by obtain ⟨x, hx, rfl⟩ := List.mem_map.1 hp; exact h x hx)
  rw [Frag.whole_flat, List.length_map] at h1
  omega
theorem undParts3 : Tryz.prog.underlying 103 = some (.slice 100) := by kernel_rfl
theorem partsT3 : ElemRow Tryz.prog 103 100 4 40 := ElemRow.mk' undParts3 Frag.infoRef rfl (by decide)
theorem src_cells (w : World) (t : TypeId) (cs : List Value) : Src (w.alloc (.cells cs.toArray t)) (some ⟨w.heap.size, 0, none⟩) 1 cs := fun _ => ⟨_, rfl, fun q u hu => by
  rw [Addr.add_lit, Nat.zero_add]
  have := (Cel.new w t cs).cell q
  rw [hu] at this
  exact this⟩

set_option maxRecDepth 100000 in
set_option maxHeartbeats 2000000 in
theorem rscan_call (A : Option Addr) (n c : Nat) (ep : BitVec 32) (L : List (List (BitVec 8))) (w : World) (hL : Sts w A n L) (hm : ∀ b ∈ L, b.length ≤ maxLen) (hn : n ≤ 200) :
    Calls Tryz.prog 34 #[.slice A n c, v32 ep] w (JoinSays w (leads ep 0 L)) := by
  have HL := Lib.hid hL
  have HM := Lib.hid hm
  have HFT := Lib.hid (leads_fits ep 0 L)
  have HMY := Lib.hid (leads_may ep 0 L)
  clear hL hm
  go_enter Tryz.func34, Tryz.ntmps34
  go_wp2_with fail
  go_loopw [6, 7] (fun v i wr => ∃ k : Nat, k ≤ n ∧ i = .int .i64 (k : Int) ∧ ∃ Av cv xs, v = .slice Av xs.length cv ∧ Ldr w v wr xs ∧ xs.length = k ∧ leads ep 0 L = xs.map (·.p) ++ leads ep k (L.drop k)) (fun _ i _ => n - (intOf i).toNat)
  case atStart => exact ⟨0, Nat.zero_le _, rfl, none, 0, [], rfl, ⟨World.ownsRow_nil _ _ _ _, by simp, Below.refl _ _⟩, rfl, rfl⟩
  case round =>
    obtain ⟨k, hk, rfl, Av, cv, xs, rfl, hB, hxk, hlead⟩ := hrel
    have HB := Lib.hid hB
    have HLD := Lib.hid hlead
    have sb := hB.low.size
    have hcap := Frag.own_cap hB.own
    have hin : ∀ x ∈ xs, x.p ∈ leads ep 0 L := fun x hx => by rw [hlead]; exact List.mem_append_left _ (List.mem_map_of_mem hx)
    have HJ : Hid (∀ V, Below wr.heap.size wr V → Calls Tryz.prog 62 #[.slice Av k cv] V (JoinSays V (xs.map (·.p)))) := Lib.hid (fun V hV => by
      rw [← hxk]
      exact Frag.refJoin Av xs.length cv xs V (Frag.Pr.of_own (hB.below hV).own rfl fun x hx => ((hB.below hV).by_ x hx).rd) hcap.1 (by omega) (fun x hx => HFT.out _ (hin x hx)) (whole_few (l := []) (fun x hx => HMY.out _ (hin x hx)) (by omega)))
    clear hB hlead hcap hin
    by_cases hlt : k < n
    · obtain ⟨b, hb⟩ : ∃ b, L[k]? = some b := ⟨_, List.getElem?_eq_getElem (by rw [HL.out.len]; exact hlt)⟩
      obtain ⟨ad, rfl, hadl, hcell⟩ := HL.out.at_ k b hb
      have hcr : wr.cell? (ad.add k) = some (.string (str b)) := (HB.out.low.cell (by rw [add_block]; exact hadl)).trans hcell
      have hbm := HM.out b (List.mem_of_getElem? hb)
      have hdr : L.drop k = b :: L.drop (k + 1) := by
        rw [List.drop_eq_getElem_cons (by rw [HL.out.len]; exact hlt)]
        rw [List.getElem?_eq_getElem (by rw [HL.out.len]; exact hlt)] at hb
        injection hb with hb
        rw [hb]
      have HDR := Lib.hid hdr
      obtain ⟨c0, W1, hrun, hc1, hc2, hby, hb1⟩ := bytes_of_str wr b hbm
      have HB1 := Lib.hid hb1
      have hbyr : Sector.Lo W1 (some ⟨wr.heap.size, 0, none⟩) b.length b := hby.rd
      generalize str b = sb' at *
      obtain ⟨kb, hkb⟩ : ∃ kb, kb = BitVec.ofNat 32 k := ⟨_, rfl⟩
      have hcv := conv32' k kb hkb
      have s1 := hb1.size
      clear hcell hb hdr hb1 hby hbm
      cases hg : Sector.get b with
      | none =>
        have con := Sector.refGet_not _ b.length c0 b W1 hg hbyr hc1 hc2
        generalize b.length = bl at *
        go_wp2_with fail
        refine con.mono ?_
        clear con
        rintro r w2 ⟨e9, s9, f9, A9, n9, c9, rfl, hb2⟩
        simp only [partV]
        have hV : Below wr.heap.size wr (w2.alloc (.cells #[v32 e9, v32 s9, .int .i64 f9, .slice A9 n9 c9] 100)) := (HB1.out.trans (hb2.mono s1)).alloc (Nat.le_trans s1 hb2.size) _
        have con := HJ.out _ hV
        have HV := Lib.hid hV
        clear hb2 hV HJ
        go_wp2_with fail
        refine con.mono ?_
        clear con
        intro r w3 h3
        have h4 := h3.of (HB.out.low.trans (HV.out.mono sb)) (show _ = leads ep 0 L from by rw [HLD.out, HDR.out, leads_none _ _ _ _ hg, List.append_nil])
        obtain ⟨A4, c4, rs4, u4', rfl, h5⟩ := h4
        clear h3
        have H5 := Lib.hid h5
        clear h5
        go_wp2_with fail
        go_ret2
        exact ⟨A4, c4, rs4, u4', rfl, H5.out⟩
      | some p =>
        have HG := Lib.hid hg
        have con := Sector.refGet_by _ b.length c0 b p W1 hg hbyr hc1 hc2
        clear hg
        obtain ⟨pe, ps, pf, pb⟩ := p
        dsimp only at con
        generalize b.length = bl at *
        by_cases hpe : pe = ep
        · subst hpe
          by_cases hps : ps = kb
          · subst hps
            have HPS := Lib.hid hkb
            clear hkb
            go_wp2_with fail
            refine con.mono ?_
            clear con
            rintro r w2 ⟨A1, c1, rfl, hby2, hb2⟩
            simp only [partV]
            have k0 := (Cel.new w2 100 [v32 pe, v32 ps, .int .i64 pf, .slice A1 pb.length c1]).cell 0
            have k1 := (Cel.new w2 100 [v32 pe, v32 ps, .int .i64 pf, .slice A1 pb.length c1]).cell 1
            have k2 := (Cel.new w2 100 [v32 pe, v32 ps, .int .i64 pf, .slice A1 pb.length c1]).cell 2
            have k3 := (Cel.new w2 100 [v32 pe, v32 ps, .int .i64 pf, .slice A1 pb.length c1]).cell 3
            have hpre : Below wr.heap.size wr ((w2.alloc (.cells #[v32 pe, v32 ps, .int .i64 pf, .slice A1 pb.length c1] 100)).alloc (.cells #[v32 pe, v32 ps, .int .i64 pf, .slice A1 pb.length c1] 100)) := ((HB1.out.trans (hb2.mono s1)).alloc (Nat.le_trans s1 hb2.size) _).alloc (by have := hb2.size; simp; omega) _
            have hsr := src_cells (w2.alloc (.cells #[v32 pe, v32 ps, .int .i64 pf, .slice A1 pb.length c1] 100)) 100 [v32 pe, v32 ps, .int .i64 pf, .slice A1 pb.length c1]
            simp only [World.size_alloc] at hsr
            have hO1 := Lib.hid ((hby2.alloc (.cells #[v32 pe, v32 ps, .int .i64 pf, .slice A1 pb.length c1] 100)).alloc (.cells #[v32 pe, v32 ps, .int .i64 pf, .slice A1 pb.length c1] 100))
            have hB2 := HB.out.below hpre
            have hO2 := hB2.own
            have HO2 := Lib.hid hO2
            have HB2 := Lib.hid hB2
            have HSR := Lib.hid hsr
            have HS1 := Lib.hid (show w.heap.size ≤ w2.heap.size from by have := hb2.size; omega)
            clear hpre hB2 hsr hb2 hO2 HJ hby2
            go_wp2_with ((at_builtin; refine wpList_append_any _ rfl (.tmp 44) (.tmp 46) 103 rfl w.heap.size 100 partsT3 _ xs.length (flat xs) rfl HO2.out (some ⟨w2.heap.size + 1, 0, none⟩) 1 1 [v32 pe, v32 ps, .int .i64 pf, .slice A1 pb.length c1] rfl rfl HSR.out (by intro u hu; simp at hu; rcases hu with rfl | rfl | rfl | rfl <;> rfl) (k + 1) _ (by omega) rfl (by unfold maxLen; omega) (by omega) (by have := HS1.out; simp; omega) ?_; intro A8 c8 w8 ho8 hg8 _; have O8 := Lib.hid ho8; have G8 := Lib.hid hg8; clear ho8 hg8))
            have hnb := not_bytes HO2.out (by decide)
            go_roundw
            case rel =>
              refine ⟨k + 1, by omega, by go_num, A8, c8, xs ++ [⟨⟨pe, ps, pf, pb⟩, A1, c1⟩], by rw [List.length_append, hxk]; rfl, ⟨?_, ?_, ?_⟩, by rw [List.length_append, hxk]; rfl, ?_⟩
              · rw [List.length_append, hxk, flat_append]
                exact O8.out
              · intro z hz
                rcases List.mem_append.1 hz with hz | hz
                · exact (HB2.out.by_ z hz).grown G8.out hnb
                · rw [List.mem_singleton.1 hz]
                  exact hO1.out.grown G8.out hnb
              · exact HB2.out.low.grown G8.out HB2.out.low.size (own_base HO2.out)
              · rw [HLD.out, HDR.out, leads_more _ _ _ _ _ HG.out rfl HPS.out, List.map_append, List.append_assoc]
                rfl
            case measure => simp [intOf]; omega
          · have d2 : ((ps.toNat : Int) != (kb.toNat : Int)) = true := bne_iff_ne.2 fun h => hps (BitVec.eq_of_toNat_eq (by omega))
            have HPS := Lib.hid (show ps ≠ BitVec.ofNat 32 k from by rw [← hkb]; exact hps)
            clear hps hkb
            go_wp2_with fail
            refine con.mono ?_
            clear con
            rintro r w2 ⟨A1, c1, rfl, hby2, hb2⟩
            simp only [partV]
            have k0 := (Cel.new w2 100 [v32 pe, v32 ps, .int .i64 pf, .slice A1 pb.length c1]).cell 0
            have k1 := (Cel.new w2 100 [v32 pe, v32 ps, .int .i64 pf, .slice A1 pb.length c1]).cell 1
            have hV : Below wr.heap.size wr (w2.alloc (.cells #[v32 pe, v32 ps, .int .i64 pf, .slice A1 pb.length c1] 100)) := (HB1.out.trans (hb2.mono s1)).alloc (Nat.le_trans s1 hb2.size) _
            have con := HJ.out _ hV
            have HV := Lib.hid hV
            clear hb2 hV HJ hby2
            go_wp2_with fail
            refine con.mono ?_
            clear con
            intro r w3 h3
            have h4 := h3.of (HB.out.low.trans (HV.out.mono sb)) (show _ = leads pe 0 L from by rw [HLD.out, HDR.out, leads_other _ _ _ _ _ HG.out (fun h => HPS.out h.2), List.append_nil])
            obtain ⟨A4, c4, rs4, u4', rfl, h5⟩ := h4
            clear h3
            have H5 := Lib.hid h5
            clear h5
            go_wp2_with fail
            go_ret2
            exact ⟨A4, c4, rs4, u4', rfl, H5.out⟩
        · have d1 : ((pe.toNat : Int) != (ep.toNat : Int)) = true := bne_iff_ne.2 fun h => hpe (BitVec.eq_of_toNat_eq (by omega))
          have HPE := Lib.hid hpe
          clear hpe hkb
          go_wp2_with fail
          refine con.mono ?_
          clear con
          rintro r w2 ⟨A1, c1, rfl, hby2, hb2⟩
          simp only [partV]
          have k0 := (Cel.new w2 100 [v32 pe, v32 ps, .int .i64 pf, .slice A1 pb.length c1]).cell 0
          have k1 := (Cel.new w2 100 [v32 pe, v32 ps, .int .i64 pf, .slice A1 pb.length c1]).cell 1
          have hV : Below wr.heap.size wr (w2.alloc (.cells #[v32 pe, v32 ps, .int .i64 pf, .slice A1 pb.length c1] 100)) := (HB1.out.trans (hb2.mono s1)).alloc (Nat.le_trans s1 hb2.size) _
          have con := HJ.out _ hV
          have HV := Lib.hid hV
          clear hb2 hV HJ hby2
          go_wp2_with fail
          refine con.mono ?_
          clear con
          intro r w3 h3
          have h4 := h3.of (HB.out.low.trans (HV.out.mono sb)) (show _ = leads ep 0 L from by rw [HLD.out, HDR.out, leads_other _ _ _ _ _ HG.out (fun h => HPE.out h.1), List.append_nil])
          obtain ⟨A4, c4, rs4, u4', rfl, h5⟩ := h4
          clear h3
          have H5 := Lib.hid h5
          clear h5
          go_wp2_with fail
          go_ret2
          exact ⟨A4, c4, rs4, u4', rfl, H5.out⟩
    · obtain rfl : k = n := by omega
      have con := HJ.out wr (Below.refl _ _)
      clear HJ
      go_wp2_with fail
      refine con.mono ?_
      clear con
      intro r w3 h3
      have h4 := h3.of HB.out.low (show _ = leads ep 0 L from by rw [HLD.out, List.drop_of_length_le (by rw [HL.out.len]; exact Nat.le_refl _)]; simp [leads])
      obtain ⟨A4, c4, rs4, u4, rfl, h5⟩ := h4
      clear h3
      have H5 := Lib.hid h5
      clear h5
      go_wp2_with fail
      go_ret2
      exact ⟨A4, c4, rs4, u4, rfl, H5.out⟩
end Go.Proofs.YtdaknfepcbooeaaGreat.Segm
