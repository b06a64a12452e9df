/-
  The document's store: Epoch, Open.
  The document's store: beginning anew, Begin.
-/
import Derived.Test.YtdaknfepcbooeaaGreatMDiskE
import Derived.Test.YtdaknfepcbooeaaGreatMStoE
import Derived.Test.YtdaknfepcbooeaaGreatMStoB
import Derived.Test.YtdaknfepcbooeaaGreatMStoC
import Derived.Test.YtdaknfepcbooeaaGreatMSegRefScan
import Derived.Test.YtdaknfepcbooeaaGreatMSegPlayA
import Derived.BigQuiet
section
namespace Go.Proofs.YtdaknfepcbooeaaGreat.Sto
open Go.RowKit
open Go.Proofs.YtdaknfepcbooeaaGreat.Disk (M Sc Fk Chg Rob Rst rows there atI)
open Go.Proofs.YtdaknfepcbooeaaGreat.Segm (Gm Rg Sts at_fk atI_ge atI_lt Fk_off)
open Go.Proofs.YtdaknfepcbooeaaGreat.Sector (partV)
open Go.Proofs.YtdaknfepcbooeaaGreat.Frag (bytes_of_str JoinSays Rv)
set_option linter.unusedVariables false
set_option linter.unusedSimpArgs false

theorem _root_.Go.Proofs.YtdaknfepcbooeaaGreat.Segm.Sts.of_rst {w : World} {B : Nat} {A : Option Addr} {n c : Nat} {L : List (List (BitVec 8))} (h : Rst w B (.slice A n c) L) (hn : L.length = n) : Sts w A n L := by
  subst hn
  refine ⟨rfl, fun i b hi => ?_⟩
  have hil := (List.getElem?_eq_some_iff.1 hi).1
  obtain ⟨g, cap, hv, hg, hl⟩ := World.ownsRow.form (show w.ownsRow B 9 1 (.slice A L.length c) L.length (L.map fun b => Value.string (str b)) from h) (by omega)
  have hA : A = some ⟨g, 0, none⟩ := by injection hv
  subst hA
  exact ⟨_, rfl, hl, World.ownsRow.cells (show w.ownsRow B 9 1 (.slice (some ⟨g, 0, none⟩) L.length c) L.length (L.map fun b => Value.string (str b)) from h) (g := g) rfl i _ (by rw [List.getElem?_map, hi]; rfl)⟩
/-- What Epoch tells. -/
def ESays (w : World) (L : List (List (BitVec 8))) (r : Ending) (w' : World) : Prop :=
  ∃ (e : BitVec 32) (b : Bool), r = .returned (.tuple #[v32 e, .bool b]) ∧ (b = true → epOf L = e ∧ e ≠ 0#32) ∧ (b = false → epOf L = 0#32) ∧ Below w.heap.size w w'
theorem ESays.no {w w' : World} {L : List (List (BitVec 8))} (e : BitVec 32) (h : epOf L = 0#32) (hb : Below w.heap.size w w') : ESays w L (.returned (.tuple #[v32 e, .bool false])) w' :=
  ⟨e, false, rfl, fun h => (Bool.noConfusion h), fun _ => h, hb⟩
theorem Below.drewN7 {B : Nat} {a w : World} (h : Below B a w) (n : Nat) : Below B a (w.drewN n) := h.trans ⟨rfl, rfl, rfl, Nat.le_refl _, fun _ _ => rfl⟩
set_option maxRecDepth 100000 in
set_option maxHeartbeats 2000000 in
theorem repoch_call (w : World) (B d : Nat) (m : M) (hd : Fk w B d m) (h512 : ∀ b ∈ rowsB 0 m, b.length ≤ maxLen) :
    Calls Tryz.prog 33 #[.pointer (some ⟨d, 0, none⟩)] w (ESays w (rowsB 0 m)) := by
  have con := Disk.rread_ok w B d m 0 hd
  have hlen : (rowsB 0 m).length = (rows 0 m.l).length := List.length_map ..
  rw [show (rows 0 m.l).map Sc.b = rowsB 0 m from rfl, ← hlen] at con
  generalize rowsB 0 m = L at *
  clear hlen hd
  obtain ⟨n, hn⟩ : ∃ n, L.length = n := ⟨_, rfl⟩
  rw [hn] at con
  have HN := Lib.hid hn
  have H512 := Lib.hid h512
  clear hn h512
  go_enter Tryz.func33, Tryz.ntmps33
  go_wp2_with fail
  refine con.mono ?_
  clear con
  rintro r w1 ⟨A1, c1, rfl, hst, hb1⟩
  have HST := Lib.hid (Segm.Sts.of_rst hst HN.out)
  have HB1 := Lib.hid hb1
  clear hst hb1
  by_cases h1 : n = 1
  · subst h1
    obtain ⟨b, rfl⟩ : ∃ b, L = [b] := List.length_eq_one_iff.1 HN.out
    obtain ⟨ad, rfl, hadl, hcell⟩ := HST.out.at_ 0 b rfl
    have hbm := H512.out b (by simp)
    have k0 : w1.cell? ad = some (.string (str b)) := by rw [show ad.add 0 = ad from by unfold Addr.add; exact if_pos rfl] at hcell; exact hcell
    obtain ⟨c0, W1, hrun, hc1, hc2, hby, hbw⟩ := bytes_of_str w1 b hbm
    have hbyr : Sector.Lo W1 (some ⟨w1.heap.size, 0, none⟩) b.length b := hby.rd
    have HBW := Lib.hid (HB1.out.trans (hbw.mono HB1.out.size))
    have s1 := HBW.out.size
    generalize str b = sb' at *
    clear hcell hby hbw hbm hadl HST
    cases hg : Sector.get b with
    | none =>
      have con := Sector.refGet_not _ b.length c0 b W1 hg hbyr hc1 hc2
      have HE := Lib.hid (epOf_bad hg)
      generalize b.length = bl at *
      clear hg hbyr
      go_wp2_with fail
      refine con.mono ?_
      clear con
      rintro r w2 ⟨e9, s9, f9, A9, n9, c9, rfl, hb2⟩
      simp only [partV]
      have HB2 := Lib.hid ((HBW.out.trans (hb2.mono s1)).alloc (Nat.le_trans s1 hb2.size) (.cells #[v32 e9, v32 s9, .int .i64 f9, .slice A9 n9 c9] 100))
      have k0 := (Cel.new w2 100 [v32 e9, v32 s9, .int .i64 f9, .slice A9 n9 c9]).cell 0
      clear hb2
      go_wp2_with fail
      go_quiet (fail)
      go_wp2_with fail
      go_ret2
      exact ESays.no e9 HE.out (Below.drewN7 HB2.out _)
    | some p =>
      have con := Sector.refGet_by _ b.length c0 b p W1 hg hbyr hc1 hc2
      have HE := Lib.hid (epOf_good hg)
      generalize b.length = bl at *
      clear hg hbyr
      obtain ⟨pe, ps, pf, pb⟩ := p
      rw [partEp_nat] at HE
      dsimp only at con HE
      generalize pb.length = pl at *
      go_wp2_with fail
      refine con.mono ?_
      clear con
      rintro r w2 ⟨A9, c9, rfl, -, hb2⟩
      simp only [partV]
      have HB2 := Lib.hid ((HBW.out.trans (hb2.mono s1)).alloc (Nat.le_trans s1 hb2.size) (.cells #[v32 pe, v32 ps, .int .i64 pf, .slice A9 pl c9] 100))
      have k0 := (Cel.new w2 100 [v32 pe, v32 ps, .int .i64 pf, .slice A9 pl c9]).cell 0
      have k1 := (Cel.new w2 100 [v32 pe, v32 ps, .int .i64 pf, .slice A9 pl c9]).cell 1
      have k2 := (Cel.new w2 100 [v32 pe, v32 ps, .int .i64 pf, .slice A9 pl c9]).cell 2
      have k3 := (Cel.new w2 100 [v32 pe, v32 ps, .int .i64 pf, .slice A9 pl c9]).cell 3
      clear hb2
      have hpel := pe.isLt
      have hpsl := ps.isLt
      by_cases h0 : 0 < pe.toNat
      · have g0 : decide (0 < pe.toNat) = true := decide_eq_true h0
        by_cases h1 : ps.toNat = 0
        · have g1 : ((ps.toNat : Int) == 0) = true := by rw [beq_iff_eq]; omega
          by_cases h2 : pf = 3
          · have g2 : (pf == 3) = true := by rw [beq_iff_eq]; exact h2
            by_cases h3 : pl = 0
            · have g3 : ((pl : Int) == 0) = true := by rw [beq_iff_eq]; omega
              have HY := Lib.hid (show epOf [b] = pe ∧ pe ≠ 0#32 from ⟨by rw [HE.out, if_pos ⟨h1, h2, h3⟩], fun e => by rw [e] at h0; exact absurd h0 (by decide)⟩)
              clear h0 h1 h2 h3
              go_wp2_with fail
              go_quiet (fail)
              go_wp2_with fail
              go_ret2
              exact ⟨pe, true, rfl, fun _ => HY.out, fun h => (Bool.noConfusion h), Below.drewN7 HB2.out _⟩
            · have g3 : ((pl : Int) == 0) = false := beq_eq_false_iff_ne.2 (by omega)
              have HY := Lib.hid (show epOf [b] = 0#32 from by rw [HE.out, if_neg (fun h => h3 h.2.2)])
              clear h0 h1 h2 h3
              go_wp2_with fail
              go_quiet (fail)
              go_wp2_with fail
              go_ret2
              exact ESays.no pe HY.out (Below.drewN7 HB2.out _)
          · have g2 : (pf == 3) = false := beq_eq_false_iff_ne.2 h2
            have HY := Lib.hid (show epOf [b] = 0#32 from by rw [HE.out, if_neg (fun h => h2 h.2.1)])
            clear h0 h1 h2
            go_wp2_with fail
            go_quiet (fail)
            go_wp2_with fail
            go_ret2
            exact ESays.no pe HY.out (Below.drewN7 HB2.out _)
        · have g1 : ((ps.toNat : Int) == 0) = false := beq_eq_false_iff_ne.2 (by omega)
          have HY := Lib.hid (show epOf [b] = 0#32 from by rw [HE.out, if_neg (fun h => h1 h.1)])
          clear h0 h1
          go_wp2_with fail
          go_quiet (fail)
          go_wp2_with fail
          go_ret2
          exact ESays.no pe HY.out (Below.drewN7 HB2.out _)
      · have g0 : decide (0 < pe.toNat) = false := decide_eq_false h0
        have HY := Lib.hid (show epOf [b] = 0#32 from by
          have he : pe = 0#32 := BitVec.eq_of_toNat_eq (by rw [show pe.toNat = 0 by omega]; rfl)
          rw [HE.out, he, ite_self])
        clear h0
        go_wp2_with fail
        go_quiet (fail)
        go_wp2_with fail
        go_ret2
        exact ESays.no pe HY.out (Below.drewN7 HB2.out _)
  · have d1 : (((n : Nat) : Int) != 1) = true := bne_iff_ne.2 (by omega)
    have HE := Lib.hid (epOf_not (L := L) (by rw [HN.out]; exact h1))
    clear h1
    go_wp2_with fail
    go_ret2
    exact ESays.no 0#32 HE.out HB1.out

/-- What Open returns. -/
def ROSays (w : World) (B d : Nat) (x : Int × BitVec 32 × List (List (BitVec 8))) (r : Ending) (w' : World) : Prop :=
  (x.1 ≠ 0 → r = .returned (.tuple #[.pointer none, .slice none 0 0, .int .i64 x.1]) ∧ Below w.heap.size w w') ∧
  (x.1 = 0 → ∃ q A c rs, w.heap.size ≤ q ∧ r = .returned (.tuple #[.pointer (some ⟨q, 0, none⟩), .slice A rs.length c, .int .i64 0]) ∧ rs.map (·.bs) = x.2.2 ∧ Own7 w w' A c rs ∧ Rt w' B q d ⟨x.2.1, none, false⟩)
theorem ROSays.bad {w w' : World} {B d : Nat} {x : Int × BitVec 32 × List (List (BitVec 8))} {e : Int} (hx : x = (e, 0#32, [])) (he : e ≠ 0) (hb : Below w.heap.size w w') : ROSays w B d x (.returned (.tuple #[.pointer none, .slice none 0 0, .int .i64 e])) w' := by
  subst hx
  exact ⟨fun _ => ⟨rfl, hb⟩, fun h => absurd h he⟩
set_option maxRecDepth 100000 in
set_option maxHeartbeats 2000000 in
theorem ropen_call (w : World) (B d : Nat) (m : M) (hd : Fk w B d m) (hr : ∀ f, (rows f m.l).length ≤ 200) :
    Calls Tryz.prog 9 #[.pointer (some ⟨d, 0, none⟩)] w (ROSays w B d (openT m)) := by
  have h512 : ∀ f, ∀ b ∈ rowsB f m, b.length ≤ maxLen := by
    obtain ⟨_, _, _, _, _, h⟩ := hd
    intro f x hx
    obtain ⟨y, hy, rfl⟩ := List.mem_map.1 hx
    rw [h.inv.r512 f y hy]
    decide
  have hrl : ∀ f, (rowsB f m).length ≤ 200 := fun f => by unfold rowsB; rw [List.length_map]; exact hr f
  have k3 := Fk_off hd
  have HD := Lib.hid hd
  obtain ⟨T, hT⟩ : ∃ T, openT m = T := ⟨_, rfl⟩
  rw [hT]
  unfold openT at hT
  cases ho : m.off
  · rw [ho] at k3 hT
    rw [if_neg (by decide)] at hT
    have con := at_fk hd 0
    by_cases hf : (0 : Int) ∈ m.files
    · have d1 := atI_ge 0 m.files hf
      rw [if_neg (by simpa using hf)] at hT
      have d2 : decide (atI 0 m.files < 0) = false := by
        have : 0 ≤ atI 0 m.files := of_decide_eq_true d1
        simp; omega
      clear d1
      generalize atI 0 m.files = ai at *
      have con2 := repoch_call w B d m hd (h512 0)
      have H512 := Lib.hid h512
      have HRL := Lib.hid hrl
      have HT := Lib.hid hT
      clear hd hr hT h512 hrl hf ho
      go_enter Tryz.func9, Tryz.ntmps9
      go_wp2_with ((go_at_call 32; refine con.mono ?_; rintro e w' ⟨rfl, rfl⟩))
      refine con2.mono ?_
      clear con con2
      rintro r w1 ⟨ep, b, rfl, hy, hn, hb1⟩
      have HB1 := Lib.hid hb1
      clear hb1
      cases b
      · have hT := HT.out
        rw [if_pos (hn rfl)] at hT
        have HT2 := Lib.hid hT
        clear hT HT hy hn
        go_wp2_with fail
        go_ret3
        exact ROSays.bad HT2.out.symm (by decide) HB1.out
      · obtain ⟨he, hne⟩ := hy rfl
        have hT := HT.out
        rw [he, if_neg hne] at hT
        have HT2 := Lib.hid hT
        clear hT HT hy hn he hne
        have con1 := rfile_call w1 ep
        generalize fileOf ep = f at *
        have hL5 := H512.out f
        have hLr := HRL.out f
        have con2 := Disk.rread_ok w1 B d m f (HD.out.below HB1.out)
        have hlen : (rowsB f m).length = (rows f m.l).length := List.length_map ..
        rw [show (rows f m.l).map Sc.b = rowsB f m from rfl, ← hlen] at con2
        clear hlen H512 HRL
        generalize rowsB f m = L at *
        obtain ⟨n, hn⟩ : ∃ n, L.length = n := ⟨_, rfl⟩
        rw [hn] at con2 hLr
        have HN := Lib.hid hn
        clear hn
        go_wp2_with ((go_at_call 36; refine con1.mono ?_; rintro e w' ⟨rfl, rfl⟩))
        refine con2.mono ?_
        clear con1 con2
        rintro r w2 ⟨A2, c2, rfl, hst, hb2⟩
        have con := Segm.rscan_call A2 n c2 ep L w2 (Segm.Sts.of_rst hst HN.out) hL5 hLr
        have HB2 := Lib.hid (HB1.out.trans (hb2.mono HB1.out.size))
        clear hst hb2 hL5
        go_wp2_with fail
        refine con.mono ?_
        clear con
        rintro r w3 ⟨A3, c3, rs, u3, rfl, hrs, ho3, hby3, hb3⟩
        have hO : Own7 w w3 A3 c3 rs := ⟨own_lower ho3 HB2.out.size, hby3, HB2.out.trans (hb3.mono HB2.out.size)⟩
        have HO := Lib.hid hO
        have HRS := Lib.hid (show rs.map (·.bs) = recsOf ep L from hrs)
        clear ho3 hby3 hb3 hO hrs
        generalize recsOf ep L = recs at *
        by_cases hn0 : rs.length = 0
        · have hr0 : rs = [] := List.eq_nil_of_length_eq_zero hn0
          subst hr0
          have hTT := HT2.out
          rw [if_pos (by rw [← HRS.out]; rfl)] at hTT
          have HTT := Lib.hid hTT
          clear hTT HT2 hn0
          go_wp2_with fail
          go_ret3
          exact ROSays.bad HTT.out.symm (by decide) HO.out.low
        · have d3 : ((rs.length : Int) == 0) = false := beq_eq_false_iff_ne.2 (by omega)
          have hTT := HT2.out
          rw [if_neg (by rw [← HRS.out]; intro e; apply hn0; have := congrArg List.length e; rw [List.length_map] at this; exact this)] at hTT
          have HTT := Lib.hid hTT
          clear hTT hn0 HT2
          have hc1 := Cel.new w3 60 [.pointer (some ⟨d, 0, none⟩), v32 ep, .pointer none, .bool false]
          have hb1 : Below w3.heap.size w3 (w3.alloc (.cells #[.pointer (some ⟨d, 0, none⟩), v32 ep, .pointer none, .bool false] 60)) := (Below.refl _ _).alloc (Nat.le_refl _) _
          have HC1 := Lib.hid hc1
          have HB9 := Lib.hid hb1
          clear hc1 hb1
          go_wp2_with fail
          go_ret3
          rw [← HTT.out]
          exact ⟨fun h => absurd rfl h, fun _ => ⟨w3.heap.size, A3, c3, rs, HO.out.low.size, rfl, HRS.out, ⟨Frag.own_below HO.out.own HB9.out, fun x hx => (HO.out.by_ x hx).below HB9.out, HO.out.low.trans (HB9.out.mono HO.out.low.size)⟩, _, HC1.out, rfl⟩⟩
    · have d1 := atI_lt 0 m.files hf
      rw [if_pos (by simpa using hf)] at hT
      rw [d1] at con
      have HT := Lib.hid hT
      have hc1 := Cel.new w 60 [.pointer (some ⟨d, 0, none⟩), v32 0#32, .pointer none, .bool false]
      have hb1 : Below w.heap.size w (w.alloc (.cells #[.pointer (some ⟨d, 0, none⟩), v32 0#32, .pointer none, .bool false] 60)) := (Below.refl _ _).alloc (Nat.le_refl _) _
      have HC1 := Lib.hid hc1
      have HB9 := Lib.hid hb1
      clear hc1 hb1 hd hr hT h512 hrl hf ho d1
      go_enter Tryz.func9, Tryz.ntmps9
      go_wp2_with ((go_at_call 32; refine con.mono ?_; rintro e w' ⟨rfl, rfl⟩))
      go_ret3
      rw [← HT.out]
      exact ⟨fun h => absurd rfl h, fun _ => ⟨w.heap.size, none, 0, [], Nat.le_refl _, rfl, rfl, ⟨World.ownsRow_nil _ _ _ _, by simp, HB9.out⟩, _, HC1.out, rfl⟩⟩
  · rw [ho] at k3 hT
    rw [if_pos rfl] at hT
    have HT := Lib.hid hT
    clear hd hr hT h512 hrl ho
    go_enter Tryz.func9, Tryz.ntmps9
    go_wp2_with fail
    go_ret3
    exact ROSays.bad HT.out.symm (by decide) (Below.refl _ _)
end Go.Proofs.YtdaknfepcbooeaaGreat.Sto
end

section
namespace Go.Proofs.YtdaknfepcbooeaaGreat.Sto
open Go.RowKit
open Go.Proofs.YtdaknfepcbooeaaGreat.Disk (M Sc Fk Chg Rob append sync remove rename there atI Ok Inv)
open Go.Proofs.YtdaknfepcbooeaaGreat.Segm (Gm Rg QobE at_fk atI_ge atI_lt appendS syncS beginS)
open Go.Proofs.YtdaknfepcbooeaaGreat.Sector (partV)
open Go.Proofs.YtdaknfepcbooeaaGreat.Ord
set_option linter.unusedVariables false
set_option linter.unusedSimpArgs false

theorem rinv {w : World} {B d : Nat} {m : M} (h : Fk w B d m) : Inv m := by obtain ⟨_, _, _, _, _, h⟩ := h; exact h.inv
theorem run7_one {ep : BitVec 32} {b : List (BitVec 8)} {i : Nat} {m : M} {g : Option Gm} : run7 ep b 1 i m g = stp ep b i m g := by
  by_cases h : (stp ep b i m g).1 = 0
  · rw [run7_goes h, run7, ← h]
  · exact run7_stops h
theorem append_off {m : M} {f : Int} {b : List (BitVec 8)} (h : m.off = true) : append m f b = (8, m) := by unfold append; rw [h]; rfl
theorem there_in {m : M} {f : Int} (h : f ∈ m.files) : there m f ≠ 4 := by
  unfold there
  rw [if_pos h]
  split <;> decide
theorem remove_in {m : M} {f : Int} (h : f ∈ m.files) : (remove m f).1 ≠ 4 := by
  have h1 := there_in h
  unfold remove
  split
  · exact h1
  · split
    · show (8 : Int) ≠ 4; decide
    · show (0 : Int) ≠ 4; decide
theorem remove_out {m : M} {f : Int} (h : f ∉ m.files) (ho : m.off = false) : remove m f = (4, m) := by
  have h4 : there m f = 4 := by unfold there; rw [ho, if_neg (by simp), if_neg h]
  rw [Disk.remove_not (by rw [h4]; decide), h4]
theorem remove_off {m : M} {f : Int} (ho : m.off = true) : remove m f = (8, m) := by
  have h8 : there m f = 8 := by unfold there; rw [ho, if_pos rfl]
  rw [Disk.remove_not (by rw [h8]; decide), h8]
/-- What beginning anew comes to. -/
def RStp (w : World) (B d : Nat) (ep : BitVec 32) (x : Int × M × Option Gm) (r : Ending) (w' : World) : Prop :=
  Fk w' B d x.2.1 ∧ Chg B (QobE ep) w w' ∧ ∃ p, r = .returned (.tuple #[.pointer p, .int .i64 x.1]) ∧ (x.1 = 0 → ∃ t g, p = some ⟨t, 0, none⟩ ∧ B ≤ t ∧ x.2.2 = some g ∧ Rg w' t d g)
set_option maxRecDepth 100000 in
set_option maxHeartbeats 4000000 in
theorem rsteps_call (w : World) (B q d : Nat) (s : St) (m : M) (ep : BitVec 32) (A : Option Addr) (n c : Nat) (b : List (BitVec 8)) (hd : Fk w B d m) (hs : Rt w B q d s) (hB : B ≤ w.heap.size) (hb : By w A n b) (hnc : n ≤ c) (hc : c ≤ maxLen) (hok : Ok m) :
    Calls Tryz.prog 41 #[.pointer (some ⟨q, 0, none⟩), .slice A n c, v32 ep] w (RStp w B d ep (anew m ep b)) := by
  obtain ⟨v, hcel, -⟩ := hs
  have hcl : ∀ W, Chg B (QobE ep) w W → W.cell? ⟨q, 0, none⟩ = some (.pointer (some ⟨d, 0, none⟩)) := fun W hW =>
    (Disk.Cel.chg hcel hW (by rintro (h | h | ⟨h, -⟩) <;> revert h <;> decide)).cell 0
  have HBY := Lib.hid (fun (W : World) (hW : Chg B (QobE ep) w W) => (hb.keep fun k cs fz hk => by
    rw [hk]; exact hW.block _ _ hk (.inr (by rintro (h | h | ⟨h, -⟩) <;> revert h <;> decide)) : By W A n b))
  have con := Segm.rbegin_seg w.drew B d m (fileOf ep) ep (hd.below (Below.refl _ _).drew) hB (rinv hd) hok
  obtain ⟨T, hT⟩ : ∃ T, anew m ep b = T := ⟨_, rfl⟩
  rw [hT]
  have hst0 : stp ep b 0 m none = ((beginS m (fileOf ep)).1, (beginS m (fileOf ep)).2.2, if (beginS m (fileOf ep)).2.1 then some ⟨fileOf ep, ep, 0, false⟩ else none) := rfl
  have hz := begin_zero (m := m) (f := fileOf ep)
  have hsm := begin_some (m := m) (f := fileOf ep)
  have hk0 := Segm.beginS_keeps m (fileOf ep) hok
  generalize beginS m (fileOf ep) = x0 at *
  obtain ⟨e0, ok0, m0⟩ := x0
  dsimp only at hst0 hz hsm hk0
  have HT0 := Lib.hid (show run7 ep b 7 0 m none = T from hT)
  have HST0 := Lib.hid hst0
  have HZ := Lib.hid hz
  have HSM := Lib.hid hsm
  have HK0 := Lib.hid hk0
  have HC := Lib.hid hc
  have HBS := Lib.hid hB
  have hff : -9223372036854775808 ≤ fileOf ep ∧ fileOf ep < 9223372036854775808 := by rcases fileOf_or ep with h | h <;> rw [h] <;> decide
  have HFF := Lib.hid hff
  have k0 := hcl w (Chg.refl _ _ _)
  clear hd hcel hb hok hT hst0 hz hsm hk0 hc hff hB
  go_enter Tryz.func41, Tryz.ntmps41
  go_wp2_with fail
  refine wp_region_N [] (Chg B Rob w) (by kernel_rfl) ?_
  have hH : Chg B Rob w w.drew := (Chg.refl B Rob w).drew
  refine wpAnyN_take (i := 0) (v := .pointer (some ⟨q, 0, none⟩)) [] (by kernel_rfl) rfl (by kernel_rfl) (by kernel_rfl) (by kernel_rfl) (fun _ _ _ h => h) (Or.inl ⟨by rfl, ?_⟩) hH ?_
  · intro V hV; go_simp
  try simp only [Act.put, List.setIfInBounds_toArray, List.set_cons_zero, List.set_cons_succ, List.getElem_toArray, List.getElem_cons_succ, List.getElem_cons_zero]
  refine wpAnyN_take (i := 1) (v := .pointer (some ⟨q, 0, none⟩)) [] (by kernel_rfl) rfl (by kernel_rfl) (by kernel_rfl) (by kernel_rfl) (fun _ _ _ h => h) (Or.inl ⟨by rfl, ?_⟩) hH ?_
  · intro V hV; go_simp
  try simp only [Act.put, List.setIfInBounds_toArray, List.set_cons_zero, List.set_cons_succ, List.getElem_toArray, List.getElem_cons_succ, List.getElem_cons_zero]
  refine wpAnyN_take (i := 2) (v := .pointer (some ⟨q, 0, none⟩)) [] (by kernel_rfl) rfl (by kernel_rfl) (by kernel_rfl) (by kernel_rfl) (fun _ _ _ h => h) (Or.inl ⟨by rfl, ?_⟩) hH ?_
  · intro V hV; go_simp
  try simp only [Act.put, List.setIfInBounds_toArray, List.set_cons_zero, List.set_cons_succ, List.getElem_toArray, List.getElem_cons_succ, List.getElem_cons_zero]
  refine wpAnyN_take (i := 3) (v := .pointer (some ⟨d, 0, none⟩)) [] (by kernel_rfl) rfl (by kernel_rfl) (by kernel_rfl) (by kernel_rfl) (fun _ _ _ h => h) (Or.inl ⟨by rfl, ?_⟩) hH ?_
  · intro V hV; have k0 := hcl V (hV.mono (Nat.le_refl _) Segm.rob_qobE); go_simp
  try simp only [Act.put, List.setIfInBounds_toArray, List.set_cons_zero, List.set_cons_succ, List.getElem_toArray, List.getElem_cons_succ, List.getElem_cons_zero]
  refine wpAnyN_take (i := 4) (v := v32 ep) [] (by kernel_rfl) rfl (by kernel_rfl) (by kernel_rfl) (by kernel_rfl) (fun _ _ _ h => h) (Or.inl ⟨by rfl, ?_⟩) hH ?_
  · intro V hV; go_simp
  try simp only [Act.put, List.setIfInBounds_toArray, List.set_cons_zero, List.set_cons_succ, List.getElem_toArray, List.getElem_cons_succ, List.getElem_cons_zero]
  refine wpAnyN_take (i := 6) (v := v32 ep) [] (by kernel_rfl) rfl (by kernel_rfl) (by kernel_rfl) (by kernel_rfl) (fun _ _ _ h => h) (Or.inl ⟨by rfl, ?_⟩) hH ?_
  · intro V hV; go_simp
  try simp only [Act.put, List.setIfInBounds_toArray, List.set_cons_zero, List.set_cons_succ, List.getElem_toArray, List.getElem_cons_succ, List.getElem_cons_zero]
  refine wpAnyN_one (i := 5) (by kernel_rfl) rfl (fun K hK => ?_)
  go_simp
  refine (rfile_call _ ep).mono ?_
  rintro r w1 ⟨rfl, rfl⟩
  go_wp2_with fail
  refine hK.out _ _ (.inr hH) ?_
  clear hK K
  try simp only [Act.put, List.setIfInBounds_toArray, List.set_cons_zero, List.set_cons_succ, List.getElem_toArray, List.getElem_cons_succ, List.getElem_cons_zero]
  refine wpAnyN_one (i := 7) (by kernel_rfl) rfl (fun K hK => ?_)
  go_simp
  refine con.mono ?_
  clear con
  rintro r w1 hbd
  cases ok0
  · obtain ⟨rfl, hd1, hc1'⟩ := hbd.2 rfl
    dsimp only at hd1
    have hc1 : Chg B Rob w w1 := (Chg.refl B Rob w).drew.trans hc1'
    have HFK := Lib.hid hd1
    have HCH := Lib.hid (hc1.mono (Nat.le_refl _) (Segm.rob_qobE (ep := ep)))
    have he0 : e0 ≠ 0 := fun h => Bool.noConfusion (HSM.out h)
    have d0 : (e0 != 0) = true := bne_iff_ne.2 he0
    have HX := Lib.hid (show T = (e0, m0, none) from by
      rw [← HT0.out, run7_stops (show (stp ep b 0 m none).1 ≠ 0 from by rw [HST0.out]; exact he0), HST0.out]
      rfl)
    clear hbd hd1 hc1' hH
    dsimp only
    go_wp2_with fail
    refine hK.out _ _ (.inr hc1) ?_
    clear hK K
    try simp only [Act.put, List.setIfInBounds_toArray, List.set_cons_zero, List.set_cons_succ, List.getElem_toArray, List.getElem_cons_succ, List.getElem_cons_zero]
    refine wpAnyN_one (i := 8) (by kernel_rfl) rfl (fun K hK => ?_)
    go_simp
    refine hK.out _ _ (.inr hc1) ?_
    clear hK K
    try simp only [Act.put, List.setIfInBounds_toArray, List.set_cons_zero, List.set_cons_succ, List.getElem_toArray, List.getElem_cons_succ, List.getElem_cons_zero]
    have hH := hc1
    refine wpAnyN_take (i := 9) (v := .pointer none) [] (by kernel_rfl) rfl (by kernel_rfl) (by kernel_rfl) (by kernel_rfl) (fun _ _ _ h => h) (Or.inl ⟨by rfl, ?_⟩) hH ?_
    · intro V hV; go_simp
    try simp only [Act.put, List.setIfInBounds_toArray, List.set_cons_zero, List.set_cons_succ, List.getElem_toArray, List.getElem_cons_succ, List.getElem_cons_zero]
    refine wpAnyN_take (i := 10) (v := .int .i64 e0) [] (by kernel_rfl) rfl (by kernel_rfl) (by kernel_rfl) (by kernel_rfl) (fun _ _ _ h => h) (Or.inl ⟨by rfl, ?_⟩) hH ?_
    · intro V hV; go_simp
    try simp only [Act.put, List.setIfInBounds_toArray, List.set_cons_zero, List.set_cons_succ, List.getElem_toArray, List.getElem_cons_succ, List.getElem_cons_zero]
    refine wpAnyN_one (i := 11) (by kernel_rfl) rfl (fun K hK => ?_)
    go_simp
    refine hK.out _ _ (.inr hc1) ?_
    clear hK K
    try simp only [Act.put, List.setIfInBounds_toArray, List.set_cons_zero, List.set_cons_succ, List.getElem_toArray, List.getElem_cons_succ, List.getElem_cons_zero]
    refine wpAnyN_one (i := 12) (by kernel_rfl) rfl (fun K hK => ?_)
    go_simp
    refine hK.out _ _ (.inr hc1) ?_
    clear hK K
    try simp only [Act.put, List.setIfInBounds_toArray, List.set_cons_zero, List.set_cons_succ, List.getElem_toArray, List.getElem_cons_succ, List.getElem_cons_zero]
    refine wpAnyN_done (by kernel_rfl) ?_ _
    simp only [Exit.then]
    clear hc1
    go_wp2_with fail
    go_ret2
    rw [HX.out]
    exact ⟨HFK.out, HCH.out, _, rfl, fun h => absurd h he0⟩
  · obtain ⟨t, ht, rfl, hd1, hg1, hc1'⟩ := hbd.1 rfl
    dsimp only at hd1
    have hc1 : Chg B Rob w w1 := (Chg.refl B Rob w).drew.trans hc1'
    have HFK1 := Lib.hid hd1
    have HRG1 := Lib.hid hg1
    have HCH1 := Lib.hid (hc1.mono (Nat.le_refl _) (Segm.rob_qobE (ep := ep)))
    obtain rfl : e0 = 0 := HZ.out rfl
    have htB : B ≤ t := Nat.le_trans HBS.out ht
    have HT1 := Lib.hid (show run7 ep b 6 1 m0 (some ⟨fileOf ep, ep, 0, false⟩) = T from by
      rw [← HT0.out, run7_goes (show (stp ep b 0 m none).1 = 0 from by rw [HST0.out]), HST0.out]
      rfl)
    clear hbd hd1 hg1 hc1' hH ht HZ HSM HST0 HT0
    go_wp2_with fail
    refine hK.out _ _ (.inr hc1) ?_
    clear hK K
    try simp only [Act.put, List.setIfInBounds_toArray, List.set_cons_zero, List.set_cons_succ, List.getElem_toArray, List.getElem_cons_succ, List.getElem_cons_zero]
    refine wpAnyN_one (i := 8) (by kernel_rfl) rfl (fun K hK => ?_)
    go_simp
    refine hK.out _ _ (.inr hc1) ?_
    clear hK K
    try simp only [Act.put, List.setIfInBounds_toArray, List.set_cons_zero, List.set_cons_succ, List.getElem_toArray, List.getElem_cons_succ, List.getElem_cons_zero]
    have hH := hc1
    refine wpAnyN_take (i := 9) (v := .pointer (some ⟨t, 0, none⟩)) [] (by kernel_rfl) rfl (by kernel_rfl) (by kernel_rfl) (by kernel_rfl) (fun _ _ _ h => h) (Or.inl ⟨by rfl, ?_⟩) hH ?_
    · intro V hV; go_simp
    try simp only [Act.put, List.setIfInBounds_toArray, List.set_cons_zero, List.set_cons_succ, List.getElem_toArray, List.getElem_cons_succ, List.getElem_cons_zero]
    refine wpAnyN_take (i := 10) (v := .int .i64 0) [] (by kernel_rfl) rfl (by kernel_rfl) (by kernel_rfl) (by kernel_rfl) (fun _ _ _ h => h) (Or.inl ⟨by rfl, ?_⟩) hH ?_
    · intro V hV; go_simp
    try simp only [Act.put, List.setIfInBounds_toArray, List.set_cons_zero, List.set_cons_succ, List.getElem_toArray, List.getElem_cons_succ, List.getElem_cons_zero]
    refine wpAnyN_one (i := 11) (by kernel_rfl) rfl (fun K hK => ?_)
    go_simp
    refine hK.out _ _ (.inr hc1) ?_
    clear hK K
    try simp only [Act.put, List.setIfInBounds_toArray, List.set_cons_zero, List.set_cons_succ, List.getElem_toArray, List.getElem_cons_succ, List.getElem_cons_zero]
    refine wpAnyN_one (i := 12) (by kernel_rfl) rfl (fun K hK => ?_)
    go_simp
    refine hK.out _ _ (.inr hc1) ?_
    clear hK K
    try simp only [Act.put, List.setIfInBounds_toArray, List.set_cons_zero, List.set_cons_succ, List.getElem_toArray, List.getElem_cons_succ, List.getElem_cons_zero]
    refine wpAnyN_done (by kernel_rfl) ?_ _
    simp only [Exit.then]
    clear hc1
    have con := Segm.rappend_segE w1 B t d m0 ⟨fileOf ep, ep, 0, false⟩ A n c b HFK1.out HRG1.out (Nat.le_trans HBS.out HCH1.out.size) htB HFF.out.2 (show (0 : Nat) < 8000000000000000000 by decide) (HBY.out w1 HCH1.out) hnc HC.out HK0.out
    have hk1 := Segm.appendS_keeps m0 ⟨fileOf ep, ep, 0, false⟩ b HK0.out
    have hep1 := appendS_ep m0 ⟨fileOf ep, ep, 0, false⟩ b
    have hst1 : stp ep b 1 m0 (some ⟨fileOf ep, ep, 0, false⟩) = ((appendS m0 ⟨fileOf ep, ep, 0, false⟩ b).1, (appendS m0 ⟨fileOf ep, ep, 0, false⟩ b).2.1, some (appendS m0 ⟨fileOf ep, ep, 0, false⟩ b).2.2) := rfl
    generalize appendS m0 ⟨fileOf ep, ep, 0, false⟩ b = x1 at *
    obtain ⟨e1, m1, g1⟩ := x1
    dsimp only at hk1 hep1 hst1
    replace con : Calls Tryz.prog 44 #[.pointer (some ⟨t, 0, none⟩), .slice A n c] w1 fun r w' => r = .returned (.int .i64 e1) ∧ Fk w' B d m1 ∧ Rg w' t d g1 ∧ Chg B (QobE g1.ep) w1 w' := con
    rw [hep1] at con
    have HK1 := Lib.hid hk1
    have HST1 := Lib.hid hst1
    have HEP1 := Lib.hid hep1
    clear hk1 hst1 hep1
    go_wp2_with fail
    refine con.mono ?_
    clear con
    rintro r w2 ⟨rfl, hd2, hg2, hc2⟩
    have HFK2 := Lib.hid hd2
    have HRG2 := Lib.hid hg2
    have HCH2 := Lib.hid (HCH1.out.trans hc2)
    clear hd2 hg2 hc2 HFK1 HRG1 HCH1
    by_cases he1 : e1 = 0
    · subst he1
      have HT2 := Lib.hid (show run7 ep b 5 2 m1 (some g1) = T from by
        rw [← HT1.out, run7_goes (show (stp ep b 1 m0 (some ⟨fileOf ep, ep, 0, false⟩)).1 = 0 from by rw [HST1.out]), HST1.out])
      clear HST1 HT1
      have con := Segm.rsync_segE w2 B t d m1 g1 HFK2.out HRG2.out (Nat.le_trans HBS.out HCH2.out.size) htB (by rw [HK1.out.2.1]; exact HFF.out) HK1.out.1 (rinv HFK2.out)
      have hk2 := Segm.syncS_keeps m1 g1 HK1.out.1
      have hep2 := syncS_ep m1 g1
      have hst2 : stp ep b 2 m1 (some g1) = ((syncS m1 g1).1, (syncS m1 g1).2.1, some (syncS m1 g1).2.2) := rfl
      generalize syncS m1 g1 = x2 at *
      obtain ⟨e2, m2, g2⟩ := x2
      dsimp only at hk2 hep2 hst2
      replace con : Calls Tryz.prog 46 #[.pointer (some ⟨t, 0, none⟩)] w2 fun r w' => r = .returned (.int .i64 e2) ∧ Fk w' B d m2 ∧ Rg w' t d g2 ∧ Chg B (QobE g2.ep) w2 w' := con
      rw [hep2, HEP1.out] at con
      have HK2 := Lib.hid hk2
      have HST2 := Lib.hid hst2
      clear hk2 hst2 hep2
      go_wp2_with fail
      refine con.mono ?_
      clear con
      rintro r w3 ⟨rfl, hd3, hg3, hc3⟩
      have HFK3 := Lib.hid hd3
      have HRG3 := Lib.hid hg3
      have HCH3 := Lib.hid (HCH2.out.trans hc3)
      clear hd3 hg3 hc3 HFK2 HRG2 HCH2
      by_cases he2 : e2 = 0
      · subst he2
        have HT3 := Lib.hid (show run7 ep b 4 3 m2 (some g2) = T from by
          rw [← HT2.out, run7_goes (show (stp ep b 2 m1 (some g1)).1 = 0 from by rw [HST2.out]), HST2.out])
        have hst3 : stp ep b 3 m2 (some g2) = (if (remove m2 1).1 = 4 then 0 else (remove m2 1).1, (remove m2 1).2, some g2) := rfl
        have HST3 := Lib.hid hst3
        clear HST2 HT2 hst3
        have k3 := hcl w3 HCH3.out
        have con := at_fk HFK3.out 1
        by_cases hin : (1 : Int) ∈ m2.files
        · have d1 := atI_ge 1 m2.files hin
          have HN4 := Lib.hid (remove_in hin)
          generalize atI 1 m2.files = ai at *
          clear hin
          have con2 := Disk.rremove_ok w3 B d m2 1 HFK3.out (Nat.le_trans HBS.out HCH3.out.size) (rinv HFK3.out) HK2.out.1
          obtain ⟨e3, he3⟩ : ∃ e, (remove m2 1).1 = e := ⟨_, rfl⟩
          obtain ⟨m3, hm3⟩ : ∃ m, (remove m2 1).2 = m := ⟨_, rfl⟩
          rw [he3, hm3] at con2
          have HX3 := Lib.hid (show remove m2 1 = (e3, m3) from by rw [← he3, ← hm3])
          have HOK := Lib.hid (show Ok m3 from by rw [← hm3]; exact Disk.ok_remove HK2.out.1 _)
          clear he3 hm3
          go_wp2_with ((go_at_call 32; refine con.mono ?_; rintro e w' ⟨rfl, rfl⟩))
          refine con2.mono ?_
          clear con con2
          rintro r w4 ⟨rfl, hd4, hc4⟩
          have HFK := Lib.hid hd4
          have HRG := Lib.hid (HRG3.out.rob hc4)
          have HCH := Lib.hid (HCH3.out.trans (hc4.mono (Nat.le_refl _) (Segm.rob_qobE (ep := ep))))
          clear hd4 hc4 k3 HFK3 HRG3 HCH3
          have k4 := hcl w4 HCH.out
          by_cases he3 : e3 = 0
          · subst he3
            have HT := Lib.hid (show run7 ep b 3 4 m3 (some g2) = T from by
              rw [← HT3.out, run7_goes (show (stp ep b 3 m2 (some g2)).1 = 0 from by rw [HST3.out, HX3.out]; rfl), HST3.out, HX3.out])
            clear HT3 HST3 HX3
            go_wp2_with fail
            refine wp_region_N [] (Chg B Rob w4) (by kernel_rfl) ?_
            have hH : Chg B Rob w4 (w4).drew := (Chg.refl B Rob w4).drew
            refine wpAnyN_take (i := 0) (v := .pointer (some ⟨q, 0, none⟩)) [] (by kernel_rfl) rfl (by kernel_rfl) (by kernel_rfl) (by kernel_rfl) (fun _ _ _ h => h) (Or.inl ⟨by rfl, ?_⟩) hH ?_
            · intro V hV; go_simp
            try simp only [Act.put, List.setIfInBounds_toArray, List.set_cons_zero, List.set_cons_succ, List.getElem_toArray, List.getElem_cons_succ, List.getElem_cons_zero]
            refine wpAnyN_take (i := 1) (v := .pointer (some ⟨q, 0, none⟩)) [] (by kernel_rfl) rfl (by kernel_rfl) (by kernel_rfl) (by kernel_rfl) (fun _ _ _ h => h) (Or.inl ⟨by rfl, ?_⟩) hH ?_
            · intro V hV; go_simp
            try simp only [Act.put, List.setIfInBounds_toArray, List.set_cons_zero, List.set_cons_succ, List.getElem_toArray, List.getElem_cons_succ, List.getElem_cons_zero]
            refine wpAnyN_take (i := 2) (v := .pointer (some ⟨q, 0, none⟩)) [] (by kernel_rfl) rfl (by kernel_rfl) (by kernel_rfl) (by kernel_rfl) (fun _ _ _ h => h) (Or.inl ⟨by rfl, ?_⟩) hH ?_
            · intro V hV; go_simp
            try simp only [Act.put, List.setIfInBounds_toArray, List.set_cons_zero, List.set_cons_succ, List.getElem_toArray, List.getElem_cons_succ, List.getElem_cons_zero]
            refine wpAnyN_take (i := 3) (v := .pointer (some ⟨d, 0, none⟩)) [] (by kernel_rfl) rfl (by kernel_rfl) (by kernel_rfl) (by kernel_rfl) (fun _ _ _ h => h) (Or.inl ⟨by rfl, ?_⟩) hH ?_
            · intro V hV; have k0 := hcl V (HCH.out.trans (hV.mono (Nat.le_refl _) Segm.rob_qobE)); go_simp
            try simp only [Act.put, List.setIfInBounds_toArray, List.set_cons_zero, List.set_cons_succ, List.getElem_toArray, List.getElem_cons_succ, List.getElem_cons_zero]
            refine wpAnyN_take (i := 4) (v := v32 ep) [] (by kernel_rfl) rfl (by kernel_rfl) (by kernel_rfl) (by kernel_rfl) (fun _ _ _ h => h) (Or.inl ⟨by rfl, ?_⟩) hH ?_
            · intro V hV; go_simp
            try simp only [Act.put, List.setIfInBounds_toArray, List.set_cons_zero, List.set_cons_succ, List.getElem_toArray, List.getElem_cons_succ, List.getElem_cons_zero]
            refine wpAnyN_one (i := 5) (by kernel_rfl) rfl (fun K hK => ?_)
            go_simp
            refine hK.out _ _ (.inr hH) ?_
            clear hK K
            try simp only [Act.put, List.setIfInBounds_toArray, List.set_cons_zero, List.set_cons_succ, List.getElem_toArray, List.getElem_cons_succ, List.getElem_cons_zero]
            refine wpAnyN_one (i := 6) (by kernel_rfl) rfl (fun K hK => ?_)
            go_simp
            refine (Sector.refPut (headP ep) 0 none 0 0 (w4).drew ⟨rfl, fun h => absurd h (Nat.lt_irrefl 0)⟩ (Nat.zero_le _) (head_may ep)).mono ?_
            rintro r w5 ⟨A3, c3, rfl, ho3, hb3⟩
            have hH5 : Chg B Rob w4 w5 := (Chg.refl B Rob w4).drew.trans (Chg.of_below hb3)
            have qs := Disk.toStr (Pack.Own.low ho3) c3
            have HD5 := Lib.hid ((HFK.out.below (Below.refl _ _).drew).below hb3)
            have con := Disk.rappend_ok w5 B d m3 1 (headSec ep) HD5.out (Nat.le_trans (Nat.le_trans HBS.out HCH.out.size) hH5.size) (by decide) (by rw [headSec_len]; decide) HOK.out
            rw [show Sector.sec (headP ep) = headSec ep from rfl] at qs
            clear ho3 hb3
            go_wp2_with fail
            refine hK.out _ _ (.inr hH5) ?_
            clear hK K
            try simp only [Act.put, List.setIfInBounds_toArray, List.set_cons_zero, List.set_cons_succ, List.getElem_toArray, List.getElem_cons_succ, List.getElem_cons_zero]
            refine wpAnyN_one (i := 7) (by kernel_rfl) rfl (fun K hK => ?_)
            go_simp
            refine hK.out _ _ (.inr hH5) ?_
            clear hK K qs
            try simp only [Act.put, List.setIfInBounds_toArray, List.set_cons_zero, List.set_cons_succ, List.getElem_toArray, List.getElem_cons_succ, List.getElem_cons_zero]
            obtain ⟨e4, he4⟩ : ∃ e, (append m3 1 (headSec ep)).1 = e := ⟨_, rfl⟩
            obtain ⟨m4, hm4⟩ : ∃ m, (append m3 1 (headSec ep)).2 = m := ⟨_, rfl⟩
            rw [he4, hm4] at con
            have HX4 := Lib.hid (show append m3 1 (headSec ep) = (e4, m4) from by rw [← he4, ← hm4])
            have HK4 := Lib.hid (show Ok m4 from by rw [← hm4]; exact Disk.ok_append HOK.out _ _)
            clear he4 hm4
            refine wpAnyN_one (i := 8) (by kernel_rfl) rfl (fun K hK => ?_)
            go_simp
            refine con.mono ?_
            clear con
            rintro r w6 ⟨rfl, hd6, hc6⟩
            have hc56 : Chg B Rob w4 w6 := hH5.trans hc6
            have HC6 := Lib.hid (HCH.out.trans (hc56.mono (Nat.le_refl _) (Segm.rob_qobE (ep := ep))))
            have HFK6 := Lib.hid hd6
            have HRG6 := Lib.hid (HRG.out.rob hc56)
            clear hd6 hc6 hH5 hH HD5
            go_wp2_with fail
            refine hK.out _ _ (.inr hc56) ?_
            clear hK K
            try simp only [Act.put, List.setIfInBounds_toArray, List.set_cons_zero, List.set_cons_succ, List.getElem_toArray, List.getElem_cons_succ, List.getElem_cons_zero]
            refine wpAnyN_one (i := 9) (by kernel_rfl) rfl (fun K hK => ?_)
            go_simp
            refine hK.out _ _ (.inr hc56) ?_
            clear hK K
            try simp only [Act.put, List.setIfInBounds_toArray, List.set_cons_zero, List.set_cons_succ, List.getElem_toArray, List.getElem_cons_succ, List.getElem_cons_zero]
            refine wpAnyN_done (by kernel_rfl) ?_ _
            clear hc56
            simp only [Exit.then]
            have k6 := hcl _ HC6.out
            by_cases he4 : e4 = 0
            · subst he4
              have HT5 := Lib.hid (show run7 ep b 2 5 m4 (some g2) = T from by
                rw [← HT.out, run7_goes (show (stp ep b 4 m3 (some g2)).1 = 0 from by show (append m3 1 (headSec ep)).1 = 0; rw [HX4.out])]
                show _ = run7 ep b 2 5 (append m3 1 (headSec ep)).2 (some g2)
                rw [HX4.out])
              have con := Disk.rsync_ok w6 B d m4 1 HFK6.out (Nat.le_trans HBS.out HC6.out.size) (rinv HFK6.out) HK4.out
              obtain ⟨e5, he5⟩ : ∃ e, (sync m4 1).1 = e := ⟨_, rfl⟩
              obtain ⟨m5, hm5⟩ : ∃ m, (sync m4 1).2 = m := ⟨_, rfl⟩
              rw [he5, hm5] at con
              have HX5 := Lib.hid (show sync m4 1 = (e5, m5) from by rw [← he5, ← hm5])
              have HK5 := Lib.hid (show Ok m5 from by rw [← hm5]; exact Disk.ok_sync HK4.out _)
              clear he5 hm5
              go_wp2_with fail
              refine con.mono ?_
              clear con
              rintro r w7 ⟨rfl, hd7, hc7⟩
              have HC7 := Lib.hid (HC6.out.trans (hc7.mono (Nat.le_refl _) (Segm.rob_qobE (ep := ep))))
              have HFK7 := Lib.hid hd7
              have HRG7 := Lib.hid (HRG6.out.rob hc7)
              clear hd7 hc7 k6
              have k7 := hcl _ HC7.out
              by_cases he5 : e5 = 0
              · subst he5
                have HT6 := Lib.hid (show stp ep b 6 m5 (some g2) = T from by
                  rw [← HT5.out, run7_goes (show (stp ep b 5 m4 (some g2)).1 = 0 from by show (sync m4 1).1 = 0; rw [HX5.out])]
                  show _ = run7 ep b 1 6 (sync m4 1).2 (some g2)
                  rw [HX5.out, run7_one])
                have con := Disk.rrename_ok w7 B d m5 1 0 HFK7.out (Nat.le_trans HBS.out HC7.out.size) (rinv HFK7.out) (by decide) HK5.out
                obtain ⟨e6, he6⟩ : ∃ e, (rename m5 1 0).1 = e := ⟨_, rfl⟩
                obtain ⟨m6, hm6⟩ : ∃ m, (rename m5 1 0).2 = m := ⟨_, rfl⟩
                rw [he6, hm6] at con
                have HX6 := Lib.hid (show stp ep b 6 m5 (some g2) = (e6, m6, some g2) from by show ((rename m5 1 0).1, (rename m5 1 0).2, some g2) = _; rw [he6, hm6])
                clear he6 hm6
                go_wp2_with fail
                refine con.mono ?_
                clear con
                rintro r w8 ⟨rfl, hd8, hc8⟩
                have HC8 := Lib.hid (HC7.out.trans (hc8.mono (Nat.le_refl _) (Segm.rob_qobE (ep := ep))))
                have HFK8 := Lib.hid hd8
                have HRG8 := Lib.hid (HRG7.out.rob hc8)
                clear hd8 hc8 k7
                go_wp2_with fail
                go_ret2
                rw [← HT6.out, HX6.out]
                exact ⟨HFK8.out, HC8.out, _, rfl, fun _ => ⟨t, g2, rfl, htB, rfl, HRG8.out⟩⟩
              · have d5 : (e5 != 0) = true := bne_iff_ne.2 he5
                have HX := Lib.hid (show T = (e5, m5, some g2) from by
                  rw [← HT5.out, run7_stops (show (stp ep b 5 m4 (some g2)).1 ≠ 0 from by show (sync m4 1).1 ≠ 0; rw [HX5.out]; exact he5)]
                  show ((sync m4 1).1, (sync m4 1).2, some g2) = _
                  rw [HX5.out])
                go_wp2_with fail
                go_ret2
                rw [HX.out]
                exact ⟨HFK7.out, HC7.out, _, rfl, fun h => absurd h he5⟩
            · have d4 : (e4 != 0) = true := bne_iff_ne.2 he4
              have HX := Lib.hid (show T = (e4, m4, some g2) from by
                rw [← HT.out, run7_stops (show (stp ep b 4 m3 (some g2)).1 ≠ 0 from by show (append m3 1 (headSec ep)).1 ≠ 0; rw [HX4.out]; exact he4)]
                show ((append m3 1 (headSec ep)).1, (append m3 1 (headSec ep)).2, some g2) = _
                rw [HX4.out])
              go_wp2_with fail
              go_ret2
              rw [HX.out]
              exact ⟨HFK6.out, HC6.out, _, rfl, fun h => absurd h he4⟩
          · have d3 : (e3 != 0) = true := bne_iff_ne.2 he3
            have HX := Lib.hid (show T = (e3, m3, some g2) from by
              have h4 : e3 ≠ 4 := by have := HN4.out; rw [HX3.out] at this; exact this
              have h5 : stp ep b 3 m2 (some g2) = (e3, m3, some g2) := by rw [HST3.out, HX3.out]; dsimp only; rw [if_neg h4]
              rw [← HT3.out, run7_stops (by rw [h5]; exact he3), h5])
            go_wp2_with fail
            go_ret2
            rw [HX.out]
            exact ⟨HFK.out, HCH.out, _, rfl, fun h => absurd h he3⟩
        · have d1 := atI_lt 1 m2.files hin
          rw [d1] at con
          have HFK := HFK3
          have HRG := HRG3
          have HCH := HCH3
          have HOK := Lib.hid HK2.out.1
          cases hoff : m2.off
          · have HT := Lib.hid (show run7 ep b 3 4 m2 (some g2) = T from by
              have hr := remove_out hin hoff
              rw [← HT3.out, run7_goes (show (stp ep b 3 m2 (some g2)).1 = 0 from by rw [HST3.out, hr]; rfl), HST3.out, hr])
            clear HT3 HST3 hin hoff d1
            go_wp2_with ((go_at_call 32; refine con.mono ?_; rintro e w' ⟨rfl, rfl⟩))
            clear con
            refine wp_region_N [] (Chg B Rob w3) (by kernel_rfl) ?_
            have hH : Chg B Rob w3 (w3).drew := (Chg.refl B Rob w3).drew
            refine wpAnyN_take (i := 0) (v := .pointer (some ⟨q, 0, none⟩)) [] (by kernel_rfl) rfl (by kernel_rfl) (by kernel_rfl) (by kernel_rfl) (fun _ _ _ h => h) (Or.inl ⟨by rfl, ?_⟩) hH ?_
            · intro V hV; go_simp
            try simp only [Act.put, List.setIfInBounds_toArray, List.set_cons_zero, List.set_cons_succ, List.getElem_toArray, List.getElem_cons_succ, List.getElem_cons_zero]
            refine wpAnyN_take (i := 1) (v := .pointer (some ⟨q, 0, none⟩)) [] (by kernel_rfl) rfl (by kernel_rfl) (by kernel_rfl) (by kernel_rfl) (fun _ _ _ h => h) (Or.inl ⟨by rfl, ?_⟩) hH ?_
            · intro V hV; go_simp
            try simp only [Act.put, List.setIfInBounds_toArray, List.set_cons_zero, List.set_cons_succ, List.getElem_toArray, List.getElem_cons_succ, List.getElem_cons_zero]
            refine wpAnyN_take (i := 2) (v := .pointer (some ⟨q, 0, none⟩)) [] (by kernel_rfl) rfl (by kernel_rfl) (by kernel_rfl) (by kernel_rfl) (fun _ _ _ h => h) (Or.inl ⟨by rfl, ?_⟩) hH ?_
            · intro V hV; go_simp
            try simp only [Act.put, List.setIfInBounds_toArray, List.set_cons_zero, List.set_cons_succ, List.getElem_toArray, List.getElem_cons_succ, List.getElem_cons_zero]
            refine wpAnyN_take (i := 3) (v := .pointer (some ⟨d, 0, none⟩)) [] (by kernel_rfl) rfl (by kernel_rfl) (by kernel_rfl) (by kernel_rfl) (fun _ _ _ h => h) (Or.inl ⟨by rfl, ?_⟩) hH ?_
            · intro V hV; have k0 := hcl V (HCH.out.trans (hV.mono (Nat.le_refl _) Segm.rob_qobE)); go_simp
            try simp only [Act.put, List.setIfInBounds_toArray, List.set_cons_zero, List.set_cons_succ, List.getElem_toArray, List.getElem_cons_succ, List.getElem_cons_zero]
            refine wpAnyN_take (i := 4) (v := v32 ep) [] (by kernel_rfl) rfl (by kernel_rfl) (by kernel_rfl) (by kernel_rfl) (fun _ _ _ h => h) (Or.inl ⟨by rfl, ?_⟩) hH ?_
            · intro V hV; go_simp
            try simp only [Act.put, List.setIfInBounds_toArray, List.set_cons_zero, List.set_cons_succ, List.getElem_toArray, List.getElem_cons_succ, List.getElem_cons_zero]
            refine wpAnyN_one (i := 5) (by kernel_rfl) rfl (fun K hK => ?_)
            go_simp
            refine hK.out _ _ (.inr hH) ?_
            clear hK K
            try simp only [Act.put, List.setIfInBounds_toArray, List.set_cons_zero, List.set_cons_succ, List.getElem_toArray, List.getElem_cons_succ, List.getElem_cons_zero]
            refine wpAnyN_one (i := 6) (by kernel_rfl) rfl (fun K hK => ?_)
            go_simp
            refine (Sector.refPut (headP ep) 0 none 0 0 (w3).drew ⟨rfl, fun h => absurd h (Nat.lt_irrefl 0)⟩ (Nat.zero_le _) (head_may ep)).mono ?_
            rintro r w5 ⟨A3, c3, rfl, ho3, hb3⟩
            have hH5 : Chg B Rob w3 w5 := (Chg.refl B Rob w3).drew.trans (Chg.of_below hb3)
            have qs := Disk.toStr (Pack.Own.low ho3) c3
            have HD5 := Lib.hid ((HFK.out.below (Below.refl _ _).drew).below hb3)
            have con := Disk.rappend_ok w5 B d m2 1 (headSec ep) HD5.out (Nat.le_trans (Nat.le_trans HBS.out HCH.out.size) hH5.size) (by decide) (by rw [headSec_len]; decide) HOK.out
            rw [show Sector.sec (headP ep) = headSec ep from rfl] at qs
            clear ho3 hb3
            go_wp2_with fail
            refine hK.out _ _ (.inr hH5) ?_
            clear hK K
            try simp only [Act.put, List.setIfInBounds_toArray, List.set_cons_zero, List.set_cons_succ, List.getElem_toArray, List.getElem_cons_succ, List.getElem_cons_zero]
            refine wpAnyN_one (i := 7) (by kernel_rfl) rfl (fun K hK => ?_)
            go_simp
            refine hK.out _ _ (.inr hH5) ?_
            clear hK K qs
            try simp only [Act.put, List.setIfInBounds_toArray, List.set_cons_zero, List.set_cons_succ, List.getElem_toArray, List.getElem_cons_succ, List.getElem_cons_zero]
            obtain ⟨e4, he4⟩ : ∃ e, (append m2 1 (headSec ep)).1 = e := ⟨_, rfl⟩
            obtain ⟨m4, hm4⟩ : ∃ m, (append m2 1 (headSec ep)).2 = m := ⟨_, rfl⟩
            rw [he4, hm4] at con
            have HX4 := Lib.hid (show append m2 1 (headSec ep) = (e4, m4) from by rw [← he4, ← hm4])
            have HK4 := Lib.hid (show Ok m4 from by rw [← hm4]; exact Disk.ok_append HOK.out _ _)
            clear he4 hm4
            refine wpAnyN_one (i := 8) (by kernel_rfl) rfl (fun K hK => ?_)
            go_simp
            refine con.mono ?_
            clear con
            rintro r w6 ⟨rfl, hd6, hc6⟩
            have hc56 : Chg B Rob w3 w6 := hH5.trans hc6
            have HC6 := Lib.hid (HCH.out.trans (hc56.mono (Nat.le_refl _) (Segm.rob_qobE (ep := ep))))
            have HFK6 := Lib.hid hd6
            have HRG6 := Lib.hid (HRG.out.rob hc56)
            clear hd6 hc6 hH5 hH HD5
            go_wp2_with fail
            refine hK.out _ _ (.inr hc56) ?_
            clear hK K
            try simp only [Act.put, List.setIfInBounds_toArray, List.set_cons_zero, List.set_cons_succ, List.getElem_toArray, List.getElem_cons_succ, List.getElem_cons_zero]
            refine wpAnyN_one (i := 9) (by kernel_rfl) rfl (fun K hK => ?_)
            go_simp
            refine hK.out _ _ (.inr hc56) ?_
            clear hK K
            try simp only [Act.put, List.setIfInBounds_toArray, List.set_cons_zero, List.set_cons_succ, List.getElem_toArray, List.getElem_cons_succ, List.getElem_cons_zero]
            refine wpAnyN_done (by kernel_rfl) ?_ _
            clear hc56
            simp only [Exit.then]
            have k6 := hcl _ HC6.out
            by_cases he4 : e4 = 0
            · subst he4
              have HT5 := Lib.hid (show run7 ep b 2 5 m4 (some g2) = T from by
                rw [← HT.out, run7_goes (show (stp ep b 4 m2 (some g2)).1 = 0 from by show (append m2 1 (headSec ep)).1 = 0; rw [HX4.out])]
                show _ = run7 ep b 2 5 (append m2 1 (headSec ep)).2 (some g2)
                rw [HX4.out])
              have con := Disk.rsync_ok w6 B d m4 1 HFK6.out (Nat.le_trans HBS.out HC6.out.size) (rinv HFK6.out) HK4.out
              obtain ⟨e5, he5⟩ : ∃ e, (sync m4 1).1 = e := ⟨_, rfl⟩
              obtain ⟨m5, hm5⟩ : ∃ m, (sync m4 1).2 = m := ⟨_, rfl⟩
              rw [he5, hm5] at con
              have HX5 := Lib.hid (show sync m4 1 = (e5, m5) from by rw [← he5, ← hm5])
              have HK5 := Lib.hid (show Ok m5 from by rw [← hm5]; exact Disk.ok_sync HK4.out _)
              clear he5 hm5
              go_wp2_with fail
              refine con.mono ?_
              clear con
              rintro r w7 ⟨rfl, hd7, hc7⟩
              have HC7 := Lib.hid (HC6.out.trans (hc7.mono (Nat.le_refl _) (Segm.rob_qobE (ep := ep))))
              have HFK7 := Lib.hid hd7
              have HRG7 := Lib.hid (HRG6.out.rob hc7)
              clear hd7 hc7 k6
              have k7 := hcl _ HC7.out
              by_cases he5 : e5 = 0
              · subst he5
                have HT6 := Lib.hid (show stp ep b 6 m5 (some g2) = T from by
                  rw [← HT5.out, run7_goes (show (stp ep b 5 m4 (some g2)).1 = 0 from by show (sync m4 1).1 = 0; rw [HX5.out])]
                  show _ = run7 ep b 1 6 (sync m4 1).2 (some g2)
                  rw [HX5.out, run7_one])
                have con := Disk.rrename_ok w7 B d m5 1 0 HFK7.out (Nat.le_trans HBS.out HC7.out.size) (rinv HFK7.out) (by decide) HK5.out
                obtain ⟨e6, he6⟩ : ∃ e, (rename m5 1 0).1 = e := ⟨_, rfl⟩
                obtain ⟨m6, hm6⟩ : ∃ m, (rename m5 1 0).2 = m := ⟨_, rfl⟩
                rw [he6, hm6] at con
                have HX6 := Lib.hid (show stp ep b 6 m5 (some g2) = (e6, m6, some g2) from by show ((rename m5 1 0).1, (rename m5 1 0).2, some g2) = _; rw [he6, hm6])
                clear he6 hm6
                go_wp2_with fail
                refine con.mono ?_
                clear con
                rintro r w8 ⟨rfl, hd8, hc8⟩
                have HC8 := Lib.hid (HC7.out.trans (hc8.mono (Nat.le_refl _) (Segm.rob_qobE (ep := ep))))
                have HFK8 := Lib.hid hd8
                have HRG8 := Lib.hid (HRG7.out.rob hc8)
                clear hd8 hc8 k7
                go_wp2_with fail
                go_ret2
                rw [← HT6.out, HX6.out]
                exact ⟨HFK8.out, HC8.out, _, rfl, fun _ => ⟨t, g2, rfl, htB, rfl, HRG8.out⟩⟩
              · have d5 : (e5 != 0) = true := bne_iff_ne.2 he5
                have HX := Lib.hid (show T = (e5, m5, some g2) from by
                  rw [← HT5.out, run7_stops (show (stp ep b 5 m4 (some g2)).1 ≠ 0 from by show (sync m4 1).1 ≠ 0; rw [HX5.out]; exact he5)]
                  show ((sync m4 1).1, (sync m4 1).2, some g2) = _
                  rw [HX5.out])
                go_wp2_with fail
                go_ret2
                rw [HX.out]
                exact ⟨HFK7.out, HC7.out, _, rfl, fun h => absurd h he5⟩
            · have d4 : (e4 != 0) = true := bne_iff_ne.2 he4
              have HX := Lib.hid (show T = (e4, m4, some g2) from by
                rw [← HT.out, run7_stops (show (stp ep b 4 m2 (some g2)).1 ≠ 0 from by show (append m2 1 (headSec ep)).1 ≠ 0; rw [HX4.out]; exact he4)]
                show ((append m2 1 (headSec ep)).1, (append m2 1 (headSec ep)).2, some g2) = _
                rw [HX4.out])
              go_wp2_with fail
              go_ret2
              rw [HX.out]
              exact ⟨HFK6.out, HC6.out, _, rfl, fun h => absurd h he4⟩
          · have HOFF := Lib.hid hoff
            have HT8 := Lib.hid (show T = (8, m2, some g2) from by
              have hr := remove_off (f := 1) hoff
              have h5 : stp ep b 3 m2 (some g2) = (8, m2, some g2) := by rw [HST3.out, hr]; rfl
              rw [← HT3.out, run7_stops (by rw [h5]; show (8 : Int) ≠ 0; decide), h5])
            clear HT3 HST3 hin hoff d1
            go_wp2_with ((go_at_call 32; refine con.mono ?_; rintro e w' ⟨rfl, rfl⟩))
            clear con
            refine wp_region_N [] (Chg B Rob w3) (by kernel_rfl) ?_
            have hH : Chg B Rob w3 (w3).drew := (Chg.refl B Rob w3).drew
            refine wpAnyN_take (i := 0) (v := .pointer (some ⟨q, 0, none⟩)) [] (by kernel_rfl) rfl (by kernel_rfl) (by kernel_rfl) (by kernel_rfl) (fun _ _ _ h => h) (Or.inl ⟨by rfl, ?_⟩) hH ?_
            · intro V hV; go_simp
            try simp only [Act.put, List.setIfInBounds_toArray, List.set_cons_zero, List.set_cons_succ, List.getElem_toArray, List.getElem_cons_succ, List.getElem_cons_zero]
            refine wpAnyN_take (i := 1) (v := .pointer (some ⟨q, 0, none⟩)) [] (by kernel_rfl) rfl (by kernel_rfl) (by kernel_rfl) (by kernel_rfl) (fun _ _ _ h => h) (Or.inl ⟨by rfl, ?_⟩) hH ?_
            · intro V hV; go_simp
            try simp only [Act.put, List.setIfInBounds_toArray, List.set_cons_zero, List.set_cons_succ, List.getElem_toArray, List.getElem_cons_succ, List.getElem_cons_zero]
            refine wpAnyN_take (i := 2) (v := .pointer (some ⟨q, 0, none⟩)) [] (by kernel_rfl) rfl (by kernel_rfl) (by kernel_rfl) (by kernel_rfl) (fun _ _ _ h => h) (Or.inl ⟨by rfl, ?_⟩) hH ?_
            · intro V hV; go_simp
            try simp only [Act.put, List.setIfInBounds_toArray, List.set_cons_zero, List.set_cons_succ, List.getElem_toArray, List.getElem_cons_succ, List.getElem_cons_zero]
            refine wpAnyN_take (i := 3) (v := .pointer (some ⟨d, 0, none⟩)) [] (by kernel_rfl) rfl (by kernel_rfl) (by kernel_rfl) (by kernel_rfl) (fun _ _ _ h => h) (Or.inl ⟨by rfl, ?_⟩) hH ?_
            · intro V hV; have k0 := hcl V (HCH.out.trans (hV.mono (Nat.le_refl _) Segm.rob_qobE)); go_simp
            try simp only [Act.put, List.setIfInBounds_toArray, List.set_cons_zero, List.set_cons_succ, List.getElem_toArray, List.getElem_cons_succ, List.getElem_cons_zero]
            refine wpAnyN_take (i := 4) (v := v32 ep) [] (by kernel_rfl) rfl (by kernel_rfl) (by kernel_rfl) (by kernel_rfl) (fun _ _ _ h => h) (Or.inl ⟨by rfl, ?_⟩) hH ?_
            · intro V hV; go_simp
            try simp only [Act.put, List.setIfInBounds_toArray, List.set_cons_zero, List.set_cons_succ, List.getElem_toArray, List.getElem_cons_succ, List.getElem_cons_zero]
            refine wpAnyN_one (i := 5) (by kernel_rfl) rfl (fun K hK => ?_)
            go_simp
            refine hK.out _ _ (.inr hH) ?_
            clear hK K
            try simp only [Act.put, List.setIfInBounds_toArray, List.set_cons_zero, List.set_cons_succ, List.getElem_toArray, List.getElem_cons_succ, List.getElem_cons_zero]
            refine wpAnyN_one (i := 6) (by kernel_rfl) rfl (fun K hK => ?_)
            go_simp
            refine (Sector.refPut (headP ep) 0 none 0 0 (w3).drew ⟨rfl, fun h => absurd h (Nat.lt_irrefl 0)⟩ (Nat.zero_le _) (head_may ep)).mono ?_
            rintro r w5 ⟨A3, c3, rfl, ho3, hb3⟩
            have hH5 : Chg B Rob w3 w5 := (Chg.refl B Rob w3).drew.trans (Chg.of_below hb3)
            have qs := Disk.toStr (Pack.Own.low ho3) c3
            have HD5 := Lib.hid ((HFK.out.below (Below.refl _ _).drew).below hb3)
            have con := Disk.rappend_ok w5 B d m2 1 (headSec ep) HD5.out (Nat.le_trans (Nat.le_trans HBS.out HCH.out.size) hH5.size) (by decide) (by rw [headSec_len]; decide) HOK.out
            rw [show Sector.sec (headP ep) = headSec ep from rfl] at qs
            clear ho3 hb3
            go_wp2_with fail
            refine hK.out _ _ (.inr hH5) ?_
            clear hK K
            try simp only [Act.put, List.setIfInBounds_toArray, List.set_cons_zero, List.set_cons_succ, List.getElem_toArray, List.getElem_cons_succ, List.getElem_cons_zero]
            refine wpAnyN_one (i := 7) (by kernel_rfl) rfl (fun K hK => ?_)
            go_simp
            refine hK.out _ _ (.inr hH5) ?_
            clear hK K qs
            try simp only [Act.put, List.setIfInBounds_toArray, List.set_cons_zero, List.set_cons_succ, List.getElem_toArray, List.getElem_cons_succ, List.getElem_cons_zero]
            obtain ⟨e4, he4⟩ : ∃ e, (append m2 1 (headSec ep)).1 = e := ⟨_, rfl⟩
            obtain ⟨m4, hm4⟩ : ∃ m, (append m2 1 (headSec ep)).2 = m := ⟨_, rfl⟩
            rw [he4, hm4] at con
            have HX4 := Lib.hid (show append m2 1 (headSec ep) = (e4, m4) from by rw [← he4, ← hm4])
            have HK4 := Lib.hid (show Ok m4 from by rw [← hm4]; exact Disk.ok_append HOK.out _ _)
            clear he4 hm4
            refine wpAnyN_one (i := 8) (by kernel_rfl) rfl (fun K hK => ?_)
            go_simp
            refine con.mono ?_
            clear con
            rintro r w6 ⟨rfl, hd6, hc6⟩
            have hc56 : Chg B Rob w3 w6 := hH5.trans hc6
            have HC6 := Lib.hid (HCH.out.trans (hc56.mono (Nat.le_refl _) (Segm.rob_qobE (ep := ep))))
            have HFK6 := Lib.hid hd6
            have HRG6 := Lib.hid (HRG.out.rob hc56)
            clear hd6 hc6 hH5 hH HD5
            go_wp2_with fail
            refine hK.out _ _ (.inr hc56) ?_
            clear hK K
            try simp only [Act.put, List.setIfInBounds_toArray, List.set_cons_zero, List.set_cons_succ, List.getElem_toArray, List.getElem_cons_succ, List.getElem_cons_zero]
            refine wpAnyN_one (i := 9) (by kernel_rfl) rfl (fun K hK => ?_)
            go_simp
            refine hK.out _ _ (.inr hc56) ?_
            clear hK K
            try simp only [Act.put, List.setIfInBounds_toArray, List.set_cons_zero, List.set_cons_succ, List.getElem_toArray, List.getElem_cons_succ, List.getElem_cons_zero]
            refine wpAnyN_done (by kernel_rfl) ?_ _
            clear hc56
            simp only [Exit.then]
            have hap : append m2 1 (headSec ep) = (8, m2) := append_off HOFF.out
            rw [HX4.out] at hap
            injection hap with e1 e2
            subst e1 e2
            go_wp2_with fail
            go_ret2
            rw [HT8.out]
            exact ⟨HFK6.out, HC6.out, _, rfl, fun h => absurd h (show ¬ (8 : Int) = 0 by decide)⟩
      · have d2 : (e2 != 0) = true := bne_iff_ne.2 he2
        have HX := Lib.hid (show T = (e2, m2, some g2) from by
          rw [← HT2.out, run7_stops (show (stp ep b 2 m1 (some g1)).1 ≠ 0 from by rw [HST2.out]; exact he2), HST2.out])
        go_wp2_with fail
        go_ret2
        rw [HX.out]
        exact ⟨HFK3.out, HCH3.out, _, rfl, fun h => absurd h he2⟩
    · have d1 : (e1 != 0) = true := bne_iff_ne.2 he1
      have HX := Lib.hid (show T = (e1, m1, some g1) from by
        rw [← HT1.out, run7_stops (show (stp ep b 1 m0 (some ⟨fileOf ep, ep, 0, false⟩)).1 ≠ 0 from by rw [HST1.out]; exact he1), HST1.out])
      go_wp2_with fail
      go_ret2
      rw [HX.out]
      exact ⟨HFK2.out, HCH2.out, _, rfl, fun h => absurd h he1⟩
/-- A segment of another epoch stays as it is. -/
theorem Rv7.qobE {ep : BitVec 32} {B d : Nat} {g : Option Gm} {v : Value} {w w' : World} (h : Rv7 w B d g v) (hc : Chg B (QobE ep) w w') (hne : ∀ g', g = some g' → g'.ep ≠ ep) : Rv7 w' B d g v := by
  cases g with
  | none => exact h
  | some g =>
    obtain ⟨t, h1, h2, h3⟩ := h
    refine ⟨t, h1, h2, Disk.Cel.chg h3 hc ?_⟩
    rintro (h | h | ⟨-, h⟩)
    · revert h; decide
    · revert h; decide
    · exact hne g rfl (v32_inj (Option.some.inj h))
theorem rcel_qobE {ep : BitVec 32} {B g : Nat} {w w' : World} {cs : List Value} (h : Cel w g 60 cs) (hc : Chg B (QobE ep) w w') : Cel w' g 60 cs :=
  Disk.Cel.chg h hc (by rintro (h | h | ⟨h, -⟩) <;> revert h <;> decide)
set_option maxRecDepth 100000 in
set_option maxHeartbeats 2000000 in
/-- The document's Begin. -/
theorem rbegin_call (w : World) (B q d : Nat) (s : St) (m : M) (A : Option Addr) (n c : Nat) (b : List (BitVec 8)) (hd : Fk w B d m) (hs : Rt w B q d s) (hB : B ≤ w.heap.size) (hq : B ≤ q) (hb : By w A n b) (hnc : n ≤ c) (hc : c ≤ maxLen) (hok : Ok m) (hf : ∀ g, s.g = some g → g.ep = s.ep) :
    Calls Tryz.prog 12 #[.pointer (some ⟨q, 0, none⟩), .slice A n c] w (UDid w B q d (beginT m s b)) := by
  have hcel := hs
  obtain ⟨v, hcel, hv⟩ := hcel
  have k1 : w.cell? ⟨q, 1, none⟩ = some (v32 s.ep) := hcel.cell 1
  have k3 : w.cell? ⟨q, 3, none⟩ = some (.bool s.broken) := hcel.cell 3
  have hbl : b.length = n := hb.len
  have hnm : n ≤ maxLen := Nat.le_trans hnc hc
  unfold maxLen at hnm
  cases hbr : s.broken
  · rw [hbr] at k3
    by_cases hl : n ≤ 9860
    · have dl : decide ((9860 : Int) < (n : Int)) = false := by simp; omega
      by_cases hm : s.ep = 4294967295#32
      · have e1 : beginT m s b = (3, m, s) := by unfold beginT; rw [if_neg (by rw [hbr]; decide), if_pos (.inr hm)]
        rw [e1]
        have k1' : w.cell? ⟨q, 1, none⟩ = some (.int .u32 4294967295) := by rw [k1, hm]; rfl
        have HD := Lib.hid hd
        have HS := Lib.hid hs
        clear hd hs k1 hf hb hc hok e1 hm hbr hcel hv
        go_enter Tryz.func12, Tryz.ntmps12
        go_wp2_with fail
        go_ret
        exact ⟨rfl, HD.out, HS.out, Chg.refl _ _ _⟩
      · have hne : ((s.ep.toNat : Int) == 4294967295) = false := beq_eq_false_iff_ne.2 fun e => hm (BitVec.eq_of_toNat_eq (by
          have : s.ep.toNat = 4294967295 := by omega
          rw [this]; rfl))
        have e1 : beginT m s b = if (anew m (s.ep + 1#32) b).1 = 0 then (0, (anew m (s.ep + 1#32) b).2.1, ⟨s.ep + 1#32, (anew m (s.ep + 1#32) b).2.2, false⟩) else ((anew m (s.ep + 1#32) b).1, (anew m (s.ep + 1#32) b).2.1, ⟨s.ep, s.g, true⟩) := by
          unfold beginT
          rw [if_neg (by rw [hbr]; decide), if_neg (by rintro (h | h); omega; exact hm h)]
        rw [e1]
        have hnx : ∀ g', s.g = some g' → g'.ep ≠ s.ep + 1#32 := fun g' e h => next_ne s.ep ((hf g' e).symm.trans h)
        have hx : ((s.ep.toNat : Int) + 1) % 4294967296 = ((s.ep + 1#32).toNat : Int) := by
          have := s.ep.isLt
          simp [BitVec.toNat_add]
        have con := rsteps_call w B q d s m (s.ep + 1#32) A n c b hd hs hB hb hnc hc hok
        obtain ⟨ep, g, br⟩ := s
        dsimp only at hbr con hnx hx hne k1 hcel hv
        subst hbr
        generalize ep + 1#32 = ep' at *
        generalize anew m ep' b = x at *
        obtain ⟨e, m2, g2⟩ := x
        have HCEL := Lib.hid hcel
        have HV := Lib.hid hv
        have HNX := Lib.hid hnx
        obtain ⟨T, hT⟩ : ∃ T : Int × M × St, T = if e = 0 then (0, m2, ⟨ep', g2, false⟩) else (e, m2, ⟨ep, g, true⟩) := ⟨_, rfl⟩
        dsimp only
        rw [← hT]
        have HT := Lib.hid hT
        clear hd hs hf hb hc hok e1 hm hcel hv hnx hT
        have k0 : ∀ W, Chg B (QobE ep') w W → W.cell? ⟨q, 1, none⟩ = some (v32 ep) ∧ W.cell? ⟨q, 2, none⟩ = some v ∧ W.cell? ⟨q, 3, none⟩ = some (.bool false) ∧ (∀ i, W.frozen? ⟨q, i, none⟩ = false) := fun W hW =>
          have h := rcel_qobE HCEL.out hW
          ⟨h.cell 1, h.cell 2, h.cell 3, fun i => h.free i⟩
        go_enter Tryz.func12, Tryz.ntmps12
        go_wp2_with fail
        refine con.mono ?_
        clear con
        rintro r w1 ⟨hd1, hc1, p, rfl, hp⟩
        dsimp only at hd1 hp
        obtain ⟨k1', k2', k3', kf⟩ := k0 w1 hc1
        have f1 := kf 1
        have f2 := kf 2
        have f3 := kf 3
        have HD1 := Lib.hid hd1
        have HC1 := Lib.hid hc1
        have HP := Lib.hid hp
        clear hd1 hp k0 kf
        by_cases he0 : e = 0
        · subst he0
          obtain ⟨t, g', rfl, htB, rfl, hg'⟩ := HP.out rfl
          have c1 := rcel_qobE HCEL.out hc1
          have c2 := c1.set 1 (v32 ep')
          have c3 := c2.set 2 (.pointer (some ⟨t, 0, none⟩))
          have h5 : Chg B Uob w1 (w1.setCell ⟨q, 1, none⟩ (v32 ep')) := (Chg.refl B Uob w1).set (p := ⟨q, 1, none⟩) _ (.inr ⟨hq, _, (show w1.heap[q]? = _ from c1), rfl⟩)
          have h6 : Chg B Uob w1 ((w1.setCell ⟨q, 1, none⟩ (v32 ep')).setCell ⟨q, 2, none⟩ (.pointer (some ⟨t, 0, none⟩))) := h5.set (p := ⟨q, 2, none⟩) _ (.inr ⟨hq, _, (show (w1.setCell ⟨q, 1, none⟩ (v32 ep')).heap[q]? = _ from c2), rfl⟩)
          have H3 := Lib.hid c3
          have H6 := Lib.hid h6
          have HG := Lib.hid hg'
          clear c1 c2 c3 h5 h6 hg' hc1
          go_wp2_with fail
          go_ret
          rw [HT.out, if_pos (by first | rfl | trivial)]
          exact ⟨rfl, Fk_uob HD1.out H6.out, ⟨_, H3.out, Rv7_uob (g := some g') ⟨t, htB, rfl, HG.out⟩ H6.out⟩, (HC1.out.mono (Nat.le_refl _) qobE_utb).trans (H6.out.mono (Nat.le_refl _) uob_utb)⟩
        · have d0 : (e != 0) = true := bne_iff_ne.2 he0
          have c1 := rcel_qobE HCEL.out hc1
          have c2 := c1.set 3 (.bool true)
          have h5 : Chg B Uob w1 (w1.setCell ⟨q, 3, none⟩ (.bool true)) := (Chg.refl B Uob w1).set (p := ⟨q, 3, none⟩) _ (.inr ⟨hq, _, (show w1.heap[q]? = _ from c1), rfl⟩)
          have H2 := Lib.hid c2
          have H5 := Lib.hid h5
          clear c1 c2 h5 hc1
          go_wp2_with fail
          go_ret
          rw [HT.out, if_neg he0]
          exact ⟨rfl, Fk_uob HD1.out H5.out, ⟨v, H2.out, Rv7_uob (HV.out.qobE HC1.out HNX.out) H5.out⟩, (HC1.out.mono (Nat.le_refl _) qobE_utb).trans (H5.out.mono (Nat.le_refl _) uob_utb)⟩
    · have dl : decide ((9860 : Int) < (n : Int)) = true := by simp; omega
      have e1 : beginT m s b = (3, m, s) := by unfold beginT; rw [if_neg (by rw [hbr]; decide), if_pos (.inl (by omega))]
      rw [e1]
      have HD := Lib.hid hd
      have HS := Lib.hid hs
      clear hd hs hf hb hc hok e1 hbr hcel hv k1
      go_enter Tryz.func12, Tryz.ntmps12
      go_wp2_with fail
      go_ret
      exact ⟨rfl, HD.out, HS.out, Chg.refl _ _ _⟩
  · rw [hbr] at k3
    have e1 : beginT m s b = (8, m, s) := by unfold beginT; rw [if_pos (by rw [hbr])]
    rw [e1]
    have HD := Lib.hid hd
    have HS := Lib.hid hs
    clear hd hs hf hb hc hok e1 hbr hcel hv k1
    go_enter Tryz.func12, Tryz.ntmps12
    go_wp2_with fail
    go_ret
    exact ⟨rfl, HD.out, HS.out, Chg.refl _ _ _⟩
end Go.Proofs.YtdaknfepcbooeaaGreat.Sto
end
