/-
  The program's reading of sectors: leading and Scan.
-/
import Derived.Test.YtdaknfepcbooeaaGreatMPure
import Derived.Test.YtdaknfepcbooeaaGreatMSectorGet
import Derived.Test.YtdaknfepcbooeaaGreatMFragBack
import Derived.Deep.Onto
namespace Go.Proofs.YtdaknfepcbooeaaGreat.Segm
open Go.RowKit
open Go.Proofs.YtdaknfepcbooeaaGreat.Frag (Pv flat Rd Pr grp used flat_append flat_one flat_length wpList_append_row own_base)
open Go.Proofs.YtdaknfepcbooeaaGreat.Sector (partV)
set_option linter.unusedVariables false
set_option linter.unusedSimpArgs false

/-- While the sectors are considered: the parts xs lie in an own row. -/
structure Ld (w : World) (v : Value) (wr : World) (xs : List Pv) : Prop where
  own : wr.ownsRow w.heap.size 121 4 v xs.length (flat xs)
  by_ : ∀ x ∈ xs, By wr x.A x.p.body.length x.p.body
  low : Below w.heap.size w wr
theorem Ld.below {w wr w' : World} {v : Value} {xs : List Pv} (h : Ld w v wr xs) (hb : Below wr.heap.size wr w') : Ld w v w' xs :=
  ⟨Frag.own_below h.own hb, fun x hx => (h.by_ x hx).below hb, h.low.trans (hb.mono h.low.size)⟩
/-- What leading returns: the parts that lead, in an own row. -/
def LdSays (w : World) (ps : List Frag.Pt) (r : Ending) (w' : World) : Prop :=
  ∃ A' c' xs, r = .returned (.slice A' xs.length c') ∧ xs.map (·.p) = ps ∧ Ld w (.slice A' xs.length c') w' xs
theorem leads_none (ep : BitVec 32) (k : Nat) (b : List (BitVec 8)) (L : List (List (BitVec 8))) (h : Sector.get b = none) : leads ep k (b :: L) = [] := by
  unfold leads; rw [h]
theorem leads_other (ep : BitVec 32) (k : Nat) (b : List (BitVec 8)) (L : List (List (BitVec 8))) (p : Sector.Pt) (h : Sector.get b = some p) (hn : ¬ (p.epoch = ep ∧ p.seq = BitVec.ofNat 32 k)) : leads ep k (b :: L) = [] := by
  unfold leads; rw [h]; dsimp only; rw [if_neg hn]
theorem leads_more (ep : BitVec 32) (k : Nat) (b : List (BitVec 8)) (L : List (List (BitVec 8))) (p : Sector.Pt) (h : Sector.get b = some p) (he : p.epoch = ep) (hs : p.seq = BitVec.ofNat 32 k) : leads ep k (b :: L) = toF p :: leads ep (k + 1) L := by
  conv => lhs; unfold leads
  rw [h]; dsimp only; rw [if_pos ⟨he, hs⟩]
theorem own_by {w : World} {B : Nat} {A : Option Addr} {n c : Nat} {bs : List (BitVec 8)} (h : Pack.Own w B A n c bs) : By w A n bs := By.of_own h

set_option maxRecDepth 100000 in
set_option maxHeartbeats 2000000 in
theorem leading_call (A : Option Addr) (n c : Nat) (ep : BitVec 32) (L : List (List (BitVec 8))) (w : World) (hL : Rd w w.heap.size A n L) (hm : ∀ b ∈ L, b.length ≤ maxLen) (hn : n ≤ 200) :
    Calls Tryz.prog 93 #[.slice A n c, v32 ep] w (LdSays w (leads ep 0 L)) := by
  obtain ⟨i0, hi, hz0, hz1, hz2⟩ := info_parts Frag.infoPart
  have HL := Lib.hid hL
  have HM := Lib.hid hm
  clear hL hm
  go_enter Tryz.func93, Tryz.ntmps93
  go_wp2_with fail
  go_loopw [5, 12] (fun v i wr => ∃ k : Nat, k ≤ n ∧ i = .int .i64 (k : Int) ∧ ∃ Av cv xs, v = .slice Av xs.length cv ∧ Ld w v wr xs ∧ xs.length = k ∧ leads ep 0 L = xs.map (·.p) ++ leads ep k (L.drop k)) (fun _ i _ => n - (intOf i).toNat)
  case atStart => exact ⟨0, Nat.zero_le _, rfl, none, 0, [], rfl, ⟨World.ownsRow_nil _ _ _ _, by simp, Below.refl _ _⟩, rfl, rfl⟩
  case round =>
    obtain ⟨k, hk, rfl, Av, cv, xs, rfl, hB, hxk, hlead⟩ := hrel
    have HB := Lib.hid hB
    have HLD := Lib.hid hlead
    have sb := hB.low.size
    clear hB hlead
    by_cases hlt : k < n
    · obtain ⟨b, hb⟩ : ∃ b, L[k]? = some b := ⟨_, List.getElem?_eq_getElem (by rw [HL.out.len]; exact hlt)⟩
      obtain ⟨ad, Ai, ci, rfl, hadl, hcell, hbb⟩ := HL.out.at_ k b hb
      have hcr : wr.cell? (ad.add k) = some (.slice Ai b.length ci) := (HB.out.low.cell (by rw [add_block]; exact hadl)).trans hcell
      have HBB := Lib.hid ((hbb.below HB.out.low).more HB.out.low.size)
      have HBM := Lib.hid (HM.out b (List.mem_of_getElem? hb))
      have hdr : L.drop k = b :: L.drop (k + 1) := by
        rw [List.drop_eq_getElem_cons (by rw [HL.out.len]; exact hlt)]
        rw [List.getElem?_eq_getElem (by rw [HL.out.len]; exact hlt)] at hb
        injection hb with hb
        rw [hb]
      have HDR := Lib.hid hdr
      clear hcell hbb hb hdr
      generalize hbl : b.length = bl at *
      have HBL := Lib.hid hbl
      clear hbl
      cases hg : Sector.get b with
      | none =>
        go_wp2_with fail
        refine (Sector.get_not wr.heap.size Ai bl ci b _ HBB.out (Nat.le_refl _) HBM.out hg).mono ?_
        rintro r w1 ⟨rfl, hb1⟩
        go_wp2_with fail
        go_ret
        subst hxk
        exact ⟨Av, cv, xs, rfl, by rw [HLD.out, HDR.out, leads_none _ _ _ _ hg, List.append_nil], HB.out.below (hb1.alloc hb1.size _)⟩
      | some p =>
        have HG := Lib.hid hg
        have con := Sector.get_yes wr.heap.size Ai bl ci b wr HBB.out (Nat.le_refl _) p hg
        clear hg
        obtain ⟨pe, ps, pf, pb⟩ := p
        dsimp only at con
        have hps32 : ((ps.toNat : Int) == (k : Int)) = decide (ps = BitVec.ofNat 32 k) := by
          rw [Bool.eq_iff_iff]
          simp only [beq_iff_eq, decide_eq_true_eq]
          constructor
          · intro h
            apply BitVec.eq_of_toNat_eq
            rw [BitVec.toNat_ofNat, Nat.mod_eq_of_lt (by omega)]
            omega
          · rintro rfl
            rw [BitVec.toNat_ofNat, Nat.mod_eq_of_lt (by omega)]
        by_cases hpe : pe = ep
        · subst hpe
          by_cases hps : ps = BitVec.ofNat 32 k
          · have d2 : ((ps.toNat : Int) == (k : Int)) = true := by rw [hps32]; exact decide_eq_true hps
            have HPS := Lib.hid hps
            clear hps hps32
            go_wp2_with fail
            refine con.mono ?_
            clear con
            rintro r w1 ⟨A1, c1, rfl, ho1, hb1⟩
            have k0 := (Cel.new w1 121 [v32 pe, v32 ps, .int .i64 pf, .slice A1 pb.length c1]).cell 0
            have k1 := (Cel.new w1 121 [v32 pe, v32 ps, .int .i64 pf, .slice A1 pb.length c1]).cell 1
            have k2 := (Cel.new w1 121 [v32 pe, v32 ps, .int .i64 pf, .slice A1 pb.length c1]).cell 2
            have k3 := (Cel.new w1 121 [v32 pe, v32 ps, .int .i64 pf, .slice A1 pb.length c1]).cell 3
            have hpre : Below wr.heap.size wr ((w1.alloc (.cells #[v32 pe, v32 ps, .int .i64 pf, .slice A1 pb.length c1] 121)).alloc (.cells #[v32 pe, v32 ps, .int .i64 pf, .slice A1 pb.length c1] 121)) := (hb1.alloc hb1.size _).alloc (by have := hb1.size; simp; omega) _
            have HPR := Lib.hid hpre
            have HO1 := Lib.hid (((own_by ho1).alloc (.cells #[v32 pe, v32 ps, .int .i64 pf, .slice A1 pb.length c1] 121)).alloc (.cells #[v32 pe, v32 ps, .int .i64 pf, .slice A1 pb.length c1] 121))
            have hB2 := HB.out.below hpre
            have hO2 := hB2.own
            rw [hxk] at hO2
            have HO2 := Lib.hid hO2
            have HB2 := Lib.hid hB2
            have hcl : ∀ j u, ([v32 pe, v32 ps, .int .i64 pf, .slice A1 pb.length c1] : List Value)[j]? = some u → ((w1.alloc (.cells #[v32 pe, v32 ps, .int .i64 pf, .slice A1 pb.length c1] 121)).alloc (.cells #[v32 pe, v32 ps, .int .i64 pf, .slice A1 pb.length c1] 121)).cell? ((⟨w1.heap.size + 1, 0, none⟩ : Addr).add j) = some u := by
              intro j u hu
              rw [add_row]
              have := (Cel.new (w1.alloc (.cells #[v32 pe, v32 ps, .int .i64 pf, .slice A1 pb.length c1] 121)) 121 [v32 pe, v32 ps, .int .i64 pf, .slice A1 pb.length c1]).cell j
              simp only [World.size_alloc] at this
              exact this.trans hu
            have HCL := Lib.hid hcl
            have HS1 := Lib.hid hb1.size
            clear ho1 hpre hB2 hcl hb1 hO2
            go_wp2_with ((at_builtin; refine wpList_append_row _ rfl _ _ 116 rfl w.heap.size 121 i0 _ 4 40 Tryz.underlying116 hi hz0 hz1 hz2 rfl (by decide) (.slice Av k cv) k (flat xs) rfl HO2.out ⟨w1.heap.size + 1, 0, none⟩ 1 1 [v32 pe, v32 ps, .int .i64 pf, .slice A1 pb.length c1] rfl rfl HCL.out (by intro u hu; simp at hu; rcases hu with rfl | rfl | rfl | rfl <;> rfl) (by unfold maxLen; omega) (by omega) (by have := HS1.out; simp; omega) (by omega) ?_; intro A8 c8 w8 ho8 hg8))
            have hnb := not_bytes HO2.out (by decide)
            refine ⟨⟨k + 1, by omega, by go_num, A8, c8, xs ++ [⟨⟨pe, ps, pf, pb⟩, A1, c1⟩], by rw [List.length_append, hxk]; rfl, ⟨?_, ?_, ?_⟩, by rw [List.length_append, hxk]; rfl, ?_⟩, by simp [intOf]; omega⟩
            · rw [List.length_append, hxk, flat_append]
              exact ho8
            · intro z hz
              rcases List.mem_append.1 hz with hz | hz
              · exact (HB2.out.by_ z hz).grown hg8 hnb
              · rw [List.mem_singleton.1 hz]
                exact HO1.out.grown hg8 hnb
            · exact HB2.out.low.grown hg8 HB2.out.low.size (own_base HO2.out)
            · rw [HLD.out, HDR.out, leads_more _ _ _ _ _ HG.out rfl HPS.out, List.map_append, List.append_assoc]
              rfl
          · have d2 : ((ps.toNat : Int) == (k : Int)) = false := by rw [hps32]; exact decide_eq_false hps
            have HPS := Lib.hid hps
            clear hps hps32
            go_wp2_with fail
            refine con.mono ?_
            clear con
            rintro r w1 ⟨A1, c1, rfl, ho1, hb1⟩
            have k0 := (Cel.new w1 121 [v32 pe, v32 ps, .int .i64 pf, .slice A1 pb.length c1]).cell 0
            have k1 := (Cel.new w1 121 [v32 pe, v32 ps, .int .i64 pf, .slice A1 pb.length c1]).cell 1
            go_wp2_with fail
            go_ret
            subst hxk
            exact ⟨Av, cv, xs, rfl, by rw [HLD.out, HDR.out, leads_other _ _ _ _ _ HG.out (fun h => HPS.out h.2), List.append_nil], HB.out.below (hb1.alloc hb1.size _)⟩
        · have d1 : ((pe.toNat : Int) == (ep.toNat : Int)) = false := by rw [beq_eq_false_iff_ne]; intro h; exact hpe (BitVec.eq_of_toNat_eq (by omega))
          have HPE := Lib.hid hpe
          clear hpe hps32
          go_wp2_with fail
          refine con.mono ?_
          clear con
          rintro r w1 ⟨A1, c1, rfl, ho1, hb1⟩
          have k0 := (Cel.new w1 121 [v32 pe, v32 ps, .int .i64 pf, .slice A1 pb.length c1]).cell 0
          go_wp2_with fail
          go_ret
          subst hxk
          exact ⟨Av, cv, xs, rfl, by rw [HLD.out, HDR.out, leads_other _ _ _ _ _ HG.out (fun h => HPE.out h.1), List.append_nil], HB.out.below (hb1.alloc hb1.size _)⟩
    · obtain rfl : k = n := by omega
      go_wp2_with fail
      go_ret
      subst hxk
      exact ⟨Av, cv, xs, rfl, by rw [HLD.out, List.drop_of_length_le (by rw [HL.out.len]; exact Nat.le_refl _)]; simp [leads], HB.out⟩

/-- What Scan returns of the sectors. -/
def scanRecs (ep : BitVec 32) (L : List (List (BitVec 8))) : List (List (BitVec 8)) := (grp (leads ep 0 L)).map fun g => g.flatMap (·.body)
def scanUsed (ep : BitVec 32) (L : List (List (BitVec 8))) : Nat := used (grp (leads ep 0 L))

set_option maxRecDepth 100000 in
set_option maxHeartbeats 1000000 in
theorem scan_call (A : Option Addr) (n c : Nat) (ep : BitVec 32) (L : List (List (BitVec 8))) (w : World) (hL : Rd w w.heap.size A n L) (hm : ∀ b ∈ L, b.length ≤ maxLen) (hn : n ≤ 200) :
    Calls Tryz.prog 60 #[.slice A n c, v32 ep] w fun r w' => ∃ (A' : Option Addr) (c' : Nat) (rs : List Frag.Rv), r = .returned (.tuple #[.slice A' rs.length c', .int .i64 ((scanUsed ep L : Nat) : Int)]) ∧ rs.map (·.bs) = scanRecs ep L ∧
      w'.ownsRow w.heap.size 44 1 (.slice A' rs.length c') rs.length (rs.map Frag.Rv.val) ∧ (∀ x ∈ rs, By w' x.A x.bs.length x.bs) ∧ Below w.heap.size w w' := by
  have con := leading_call A n c ep L w hL hm hn
  have hll := hL.len
  have hle := leads_le ep 0 L
  have HFT := Lib.hid (leads_fits ep 0 L)
  have HBD := Lib.hid (leads_bodies ep 0 L (by rw [hll]; exact hn))
  clear hL hm
  go_enter Tryz.func60, Tryz.ntmps60
  go_wp2_with fail
  refine con.mono ?_
  clear con
  rintro r w1 ⟨A1, c1, xs, rfl, hxs, hL1⟩
  have hxl : xs.length ≤ 200 := by
    have := congrArg List.length hxs
    rw [List.length_map] at this
    omega
  have hcap := Frag.own_cap hL1.own
  have hpr := Frag.Pr.of_own hL1.own rfl fun x hx => (hL1.by_ x hx).rd
  have con := Frag.join_calls A1 xs.length c1 xs w1 hpr (by omega) hcap.1 hcap.2 (fun x hx => HFT.out _ (by rw [← hxs]; exact List.mem_map_of_mem hx)) (by rw [hxs]; exact HBD.out)
  rw [hxs] at con
  have HL1 := Lib.hid hL1.low
  clear hL1 hcap hpr hxs hll hle
  go_wp2_with fail
  refine con.mono ?_
  clear con
  rintro r w2 ⟨A2, m2, c2, rs, rfl, hrs, rfl, ho2, hby2, hb2⟩
  have HRS := Lib.hid hrs
  have HO2 := Lib.hid ho2
  have HBY := Lib.hid hby2
  have HB2 := Lib.hid hb2
  clear hrs ho2 hby2 hb2
  go_wp2_with fail
  go_ret2
  exact ⟨A2, c2, rs, rfl, HRS.out, HO2.out.mono HL1.out.size, HBY.out, HL1.out.trans (HB2.out.mono HL1.out.size)⟩
end Go.Proofs.YtdaknfepcbooeaaGreat.Segm
