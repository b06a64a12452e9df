/-
  The program's store: Open.
  The program's store: the journal that is on a disk; Open.
-/
import Derived.Test.YtdaknfepcbooeaaGreatMSegScan
import Derived.Test.YtdaknfepcbooeaaGreatMStoB
section
namespace Go.Proofs.YtdaknfepcbooeaaGreat.Sto
open Go.RowKit
open Go.Proofs.YtdaknfepcbooeaaGreat.Disk (M Sc Dk Rs Chg Dob rows there)
open Go.Proofs.YtdaknfepcbooeaaGreat.Segm (Gm Sg Sob scanRecs scanUsed read_any)
open Go.Proofs.YtdaknfepcbooeaaGreat.Frag (Rd Rv)
set_option linter.unusedVariables false
set_option linter.unusedSimpArgs false

theorem epOf_not {L : List (List (BitVec 8))} (h : L.length ≠ 1) : epOf L = 0#32 := by
  unfold epOf
  split
  · exact absurd rfl h
  · rfl
theorem epOf_bad {b : List (BitVec 8)} (h : Sector.get b = none) : epOf [b] = 0#32 := by
  unfold epOf
  dsimp only
  rw [h]
theorem epOf_good {b : List (BitVec 8)} {p : Sector.Pt} (h : Sector.get b = some p) : epOf [b] = partEp p := by
  unfold epOf
  dsimp only
  rw [h]
theorem partEp_nat (p : Sector.Pt) : partEp p = if p.seq.toNat = 0 ∧ p.flags = 3 ∧ p.body.length = 0 then p.epoch else 0#32 := by
  have hiff : (p.seq = 0#32 ∧ p.flags = 3 ∧ p.body = []) ↔ (p.seq.toNat = 0 ∧ p.flags = 3 ∧ p.body.length = 0) := by
    rw [List.length_eq_zero_iff]
    exact and_congr ⟨fun h => by rw [h]; rfl, fun h => BitVec.eq_of_toNat_eq (by rw [h]; rfl)⟩ Iff.rfl
  unfold partEp
  by_cases h : p.seq = 0#32 ∧ p.flags = 3 ∧ p.body = []
  · rw [if_pos h, if_pos (hiff.1 h)]
  · rw [if_neg h, if_neg (fun x => h (hiff.2 x))]
/-- An epoch, and no memory changed. -/
def EpIs (w : World) (ep : BitVec 32) (r : Ending) (w' : World) : Prop := r = .returned (v32 ep) ∧ Below w.heap.size w w'
set_option maxRecDepth 100000 in
set_option maxHeartbeats 1000000 in
theorem epochOf_call (w : World) (A : Option Addr) (n c : Nat) (L : List (List (BitVec 8))) (hL : Rd w w.heap.size A n L) (hm : ∀ b ∈ L, b.length ≤ maxLen) (hn : n ≤ maxLen) :
    Calls Tryz.prog 58 #[.slice A n c] w (EpIs w (epOf L)) := by
  have hlen := hL.len
  unfold maxLen at hn
  by_cases h1 : n = 1
  · subst h1
    obtain ⟨b, rfl⟩ : ∃ b, L = [b] := List.length_eq_one_iff.1 hlen
    obtain ⟨ad, Ai, ci, rfl, hadl, hcell, hbb⟩ := hL.at_ 0 b rfl
    have hbm := hm b (by simp)
    have k0 : w.cell? ad = some (.slice Ai b.length ci) := by rw [show ad.add 0 = ad from by unfold Addr.add; exact if_pos rfl] at hcell; exact hcell
    clear hL hm hcell hlen
    generalize hbl : b.length = bl at *
    cases hg : Sector.get b with
    | none =>
      rw [epOf_bad hg]
      have con := Sector.get_not w.heap.size Ai bl ci b w hbb (Nat.le_refl _) hbm hg
      clear hbb hg hbl hbm
      go_enter Tryz.func58, Tryz.ntmps58
      go_wp2_with fail
      refine con.mono ?_
      rintro r w1 ⟨rfl, hb1⟩
      have HB1 := Lib.hid hb1
      clear hb1
      go_wp2_with fail
      have HB2 := Lib.hid (HB1.out.alloc HB1.out.size (.cells #[.int .u32 0, .int .u32 0, .int .i64 0, .slice none 0 0] 121))
      go_ret
      exact ⟨rfl, HB2.out⟩
    | some p =>
      rw [epOf_good hg]
      have con := Sector.get_yes w.heap.size Ai bl ci b w hbb (Nat.le_refl _) p hg
      have hml := Sector.may_body (Sector.get_some hg).1
      clear hbb hg hbl hbm
      obtain ⟨pe, ps, pf, pb⟩ := p
      dsimp only at con hml
      rw [partEp_nat]
      dsimp only
      have hpsl := ps.isLt
      generalize pb.length = pl at *
      by_cases h1 : ps.toNat = 0 ∧ pf = 3 ∧ pl = 0
      · rw [if_pos h1]
        obtain ⟨h1, rfl, rfl⟩ := h1
        obtain rfl : ps = 0#32 := BitVec.eq_of_toNat_eq (by rw [h1]; rfl)
        clear h1
        go_enter Tryz.func58, Tryz.ntmps58
        go_wp2_with fail
        refine con.mono ?_
        clear con
        rintro r w1 ⟨A1, c1, rfl, ho1, hb1⟩
        have k0 := (Cel.new w1 121 [v32 pe, .int .u32 0, .int .i64 3, .slice A1 0 c1]).cell 0
        have k1 := (Cel.new w1 121 [v32 pe, .int .u32 0, .int .i64 3, .slice A1 0 c1]).cell 1
        have k2 := (Cel.new w1 121 [v32 pe, .int .u32 0, .int .i64 3, .slice A1 0 c1]).cell 2
        have k3 := (Cel.new w1 121 [v32 pe, .int .u32 0, .int .i64 3, .slice A1 0 c1]).cell 3
        have HB1 := Lib.hid (hb1.alloc hb1.size (.cells #[v32 pe, .int .u32 0, .int .i64 3, .slice A1 0 c1] 121))
        clear hb1 ho1
        go_wp2_with fail
        go_ret
        exact ⟨rfl, HB1.out⟩
      · rw [if_neg h1]
        by_cases h2 : ps.toNat = 0
        · obtain rfl : ps = 0#32 := BitVec.eq_of_toNat_eq (by rw [h2]; rfl)
          by_cases h3 : pf = 3
          · subst h3
            have d3 : ((pl : Int) == 0) = false := beq_eq_false_iff_ne.2 (fun e => h1 ⟨h2, rfl, by omega⟩)
            clear h1 h2
            go_enter Tryz.func58, Tryz.ntmps58
            go_wp2_with fail
            refine con.mono ?_
            clear con
            rintro r w1 ⟨A1, c1, rfl, ho1, hb1⟩
            have k0 := (Cel.new w1 121 [v32 pe, .int .u32 0, .int .i64 3, .slice A1 pl c1]).cell 0
            have k1 := (Cel.new w1 121 [v32 pe, .int .u32 0, .int .i64 3, .slice A1 pl c1]).cell 1
            have k2 := (Cel.new w1 121 [v32 pe, .int .u32 0, .int .i64 3, .slice A1 pl c1]).cell 2
            have k3 := (Cel.new w1 121 [v32 pe, .int .u32 0, .int .i64 3, .slice A1 pl c1]).cell 3
            have HB1 := Lib.hid (hb1.alloc hb1.size (.cells #[v32 pe, .int .u32 0, .int .i64 3, .slice A1 pl c1] 121))
            clear hb1 ho1
            go_wp2_with fail
            go_ret
            exact ⟨rfl, HB1.out⟩
          · have d2 : (pf == 3) = false := beq_eq_false_iff_ne.2 h3
            clear h1 h2 h3
            go_enter Tryz.func58, Tryz.ntmps58
            go_wp2_with fail
            refine con.mono ?_
            clear con
            rintro r w1 ⟨A1, c1, rfl, ho1, hb1⟩
            have k0 := (Cel.new w1 121 [v32 pe, .int .u32 0, .int .i64 pf, .slice A1 pl c1]).cell 0
            have k1 := (Cel.new w1 121 [v32 pe, .int .u32 0, .int .i64 pf, .slice A1 pl c1]).cell 1
            have k2 := (Cel.new w1 121 [v32 pe, .int .u32 0, .int .i64 pf, .slice A1 pl c1]).cell 2
            have k3 := (Cel.new w1 121 [v32 pe, .int .u32 0, .int .i64 pf, .slice A1 pl c1]).cell 3
            have HB1 := Lib.hid (hb1.alloc hb1.size (.cells #[v32 pe, .int .u32 0, .int .i64 pf, .slice A1 pl c1] 121))
            clear hb1 ho1
            go_wp2_with fail
            go_ret
            exact ⟨rfl, HB1.out⟩
        · have d1 : ((ps.toNat : Int) != 0) = true := bne_iff_ne.2 (by omega)
          clear h1 h2
          go_enter Tryz.func58, Tryz.ntmps58
          go_wp2_with fail
          refine con.mono ?_
          clear con
          rintro r w1 ⟨A1, c1, rfl, ho1, hb1⟩
          have k0 := (Cel.new w1 121 [v32 pe, v32 ps, .int .i64 pf, .slice A1 pl c1]).cell 0
          have k1 := (Cel.new w1 121 [v32 pe, v32 ps, .int .i64 pf, .slice A1 pl c1]).cell 1
          have k2 := (Cel.new w1 121 [v32 pe, v32 ps, .int .i64 pf, .slice A1 pl c1]).cell 2
          have k3 := (Cel.new w1 121 [v32 pe, v32 ps, .int .i64 pf, .slice A1 pl c1]).cell 3
          have HB1 := Lib.hid (hb1.alloc hb1.size (.cells #[v32 pe, v32 ps, .int .i64 pf, .slice A1 pl c1] 121))
          clear hb1 ho1
          go_wp2_with fail
          go_ret
          exact ⟨rfl, HB1.out⟩
  · rw [epOf_not (by rw [hlen]; exact h1)]
    have d1 : (((n : Nat) : Int) == 1) = false := beq_eq_false_iff_ne.2 (by omega)
    clear hL hm hlen h1
    go_enter Tryz.func58, Tryz.ntmps58
    go_wp2_with fail
    go_ret
    exact ⟨rfl, Below.refl _ _⟩
end Go.Proofs.YtdaknfepcbooeaaGreat.Sto
end

section
namespace Go.Proofs.YtdaknfepcbooeaaGreat.Sto
open Go.RowKit
open Go.Proofs.YtdaknfepcbooeaaGreat.Disk (M Sc Dk Rs Chg Dob rows there)
open Go.Proofs.YtdaknfepcbooeaaGreat.Segm (Gm Sg Sob scanRecs scanUsed read_any)
open Go.Proofs.YtdaknfepcbooeaaGreat.Frag (Rd Rv)
set_option linter.unusedVariables false
set_option linter.unusedSimpArgs false

theorem own_lower {w : World} {base base' e size n : Nat} {v : Value} {xs : List Value} (h : w.ownsRow base e size v n xs) (hb : base' ≤ base) : w.ownsRow base' e size v n xs := by
  refine ⟨h.1, h.2.imp id ?_⟩
  rintro ⟨g, cap, cur, h1, h2, h3⟩
  exact ⟨g, cap, cur, h1, Nat.le_trans hb h2, h3⟩
/-- Records in a row of the call's own. -/
structure Own7 (w w' : World) (A : Option Addr) (c : Nat) (rs : List Rv) : Prop where
  own : w'.ownsRow w.heap.size 44 1 (.slice A rs.length c) rs.length (rs.map Rv.val)
  by_ : ∀ x ∈ rs, By w' x.A x.bs.length x.bs
  low : Below w.heap.size w w'
theorem Own7.none (w : World) : Own7 w w Option.none 0 [] := ⟨World.ownsRow_nil _ _ _ _, by simp, Below.refl _ _⟩
/-- What is read of a journal. -/
def JSays (w : World) (x : Int × BitVec 32 × List (List (BitVec 8))) (r : Ending) (w' : World) : Prop :=
  ∃ A c rs, r = .returned (.tuple #[v32 x.2.1, .slice A rs.length c, .int .i64 x.1]) ∧ rs.map (·.bs) = x.2.2 ∧ Own7 w w' A c rs
theorem JSays.nil {w w' : World} {x : Int × BitVec 32 × List (List (BitVec 8))} {e : Int} (hx : x = (e, 0#32, [])) (hb : Below w.heap.size w w') : JSays w x (.returned (.tuple #[.int .u32 0, .slice none 0 0, .int .i64 e])) w' := by
  subst hx
  exact ⟨none, 0, [], rfl, rfl, World.ownsRow_nil _ _ _ _, by simp, hb⟩
theorem fileOf_fit7 (ep : BitVec 32) : -9223372036854775808 ≤ fileOf ep ∧ fileOf ep < 9223372036854775808 := by
  rcases fileOf_or ep with h | h <;> rw [h] <;> decide
set_option maxRecDepth 100000 in
set_option maxHeartbeats 1000000 in
theorem journalOn_call (w : World) (B d : Nat) (m : M) (hd : Dk w B d m) (hr : ∀ f, (rows f m.l).length ≤ 200) :
    Calls Tryz.prog 31 #[.pointer (some ⟨d, 0, none⟩)] w (JSays w (openT m)) := by
  have h512 : ∀ f, ∀ b ∈ (rows f m.l).map Sc.b, b.length ≤ maxLen := by
    obtain ⟨b, vs, kv, h⟩ := hd
    intro f x hx
    obtain ⟨y, hy, rfl⟩ := List.mem_map.1 hx
    rw [h.inv.r512 f y hy]
    decide
  have hrl : ∀ f, ((rows f m.l).map Sc.b).length ≤ 200 := fun f => by rw [List.length_map]; exact hr f
  by_cases h0 : there m 0 = 0
  · have hon : m.off = false := by
      cases ho : m.off
      · rfl
      · unfold there at h0; rw [ho, if_pos rfl] at h0; exact absurd h0 (by decide)
    have hf : (0 : Int) ∈ m.files := by
      unfold there at h0
      rw [hon, if_neg (by decide)] at h0
      by_cases hf : (0 : Int) ∈ m.files
      · exact hf
      · rw [if_neg hf] at h0; exact absurd h0 (by decide)
    have e1 : openT m = if epOf (rowsB 0 m) = 0#32 then (7, 0#32, []) else if recsOf (epOf (rowsB 0 m)) (rowsB (fileOf (epOf (rowsB 0 m))) m) = [] then (7, 0#32, []) else (0, epOf (rowsB 0 m), recsOf (epOf (rowsB 0 m)) (rowsB (fileOf (epOf (rowsB 0 m))) m)) := by
      unfold openT
      rw [hon, if_neg (by decide), if_neg (by simpa using hf)]
    have con := Disk.read_ok w B d m 0 (by decide) hd h0
    have h512L := h512 0
    obtain ⟨L0, hL0⟩ : ∃ L0, (rows 0 m.l).map Sc.b = L0 := ⟨_, rfl⟩
    rw [hL0] at con h512L
    rw [show rowsB 0 m = L0 from hL0] at e1
    have HL5 := Lib.hid h512L
    clear h512L hL0
    obtain ⟨T, hT⟩ : ∃ T, openT m = T := ⟨_, rfl⟩
    rw [e1] at hT
    rw [e1, hT]
    have HT := Lib.hid hT
    have HD := Lib.hid hd
    have H512 := Lib.hid h512
    have HRL := Lib.hid hrl
    have HON := Lib.hid hon
    clear hT hd h512 hrl hr h0 hf e1 hon
    go_enter Tryz.func31, Tryz.ntmps31
    go_wp2_with fail
    refine con.mono ?_
    clear con
    rintro r w1 ⟨v, rfl, hrs, hb1⟩
    obtain ⟨A1, c1, rfl, hnc1, hc1⟩ := Segm.Rs.form hrs
    have hrd := Segm.Rs.rd hrs
    have con := epochOf_call w1 A1 L0.length c1 L0 hrd HL5.out (Nat.le_trans hnc1 hc1)
    have HB1 := Lib.hid hb1
    clear hrs hb1 hrd hnc1 hc1
    go_wp2_with fail
    refine con.mono ?_
    clear con
    rintro r w2 ⟨rfl, hb2⟩
    have hB2 : Below w.heap.size w w2 := HB1.out.trans (hb2.mono HB1.out.size)
    have HB2 := Lib.hid hB2
    clear hb2 hB2 HB1
    generalize epOf L0 = ep at *
    by_cases he : ep = 0#32
    · subst he
      go_wp2_with fail
      go_ret3
      have hTT := HT.out
      rw [if_pos (by first | rfl | trivial)] at hTT
      exact JSays.nil hTT.symm HB2.out
    · have hel := ep.isLt
      have d1 : ((ep.toNat : Int) == 0) = false := beq_eq_false_iff_ne.2 fun e => he (BitVec.eq_of_toNat_eq (by
        have : ep.toNat = 0 := by omega
        rw [this]; rfl))
      have hT2 := HT.out
      rw [if_neg he] at hT2
      have con := fileOf_call w2 ep
      have hff := fileOf_fit7 ep
      generalize fileOf ep = f at *
      have hL5 := H512.out f
      have hLr := HRL.out f
      have con2 := read_any w2 B d m f hff (HD.out.below HB2.out) HON.out
      rw [show rowsB f m = (rows f m.l).map Sc.b from rfl] at hT2
      generalize (rows f m.l).map Sc.b = L at *
      have HT2 := Lib.hid hT2
      have HL := Lib.hid hL5
      clear hT2 HT he hel hL5 H512 HRL HD HON hff
      go_wp2_with ((go_at_call 59; refine con.mono ?_; rintro e w' ⟨rfl, rfl⟩))
      refine con2.mono ?_
      clear con con2
      rintro r w3 ⟨A3, c3, x3, rfl, hrd3, hm3, hb3⟩
      have hB3 : Below w.heap.size w w3 := HB2.out.trans (hb3.mono HB2.out.size)
      have con := Segm.scan_call A3 L.length c3 ep L w3 hrd3 hm3 hLr
      have HB3 := Lib.hid hB3
      clear hrd3 hm3 hb3 hB3 HB2
      have hsr : scanRecs ep L = recsOf ep L := rfl
      rw [hsr] at con
      clear hsr
      generalize recsOf ep L = recs at *
      generalize scanUsed ep L = ul at *
      generalize L.length = ll at *
      go_wp2_with fail
      refine con.mono ?_
      clear con
      rintro r w4 ⟨A4, c4, rs, rfl, hrs, ho4, hby4, hb4⟩
      have hO : Own7 w w4 A4 c4 rs := ⟨own_lower ho4 HB3.out.size, hby4, HB3.out.trans (hb4.mono HB3.out.size)⟩
      have HO := Lib.hid hO
      have HRS := Lib.hid hrs
      clear ho4 hby4 hb4 hO
      by_cases hn : rs.length = 0
      · have hr0 : rs = [] := List.eq_nil_of_length_eq_zero hn
        subst hr0
        go_wp2_with fail
        go_ret3
        have hTT := HT2.out
        rw [if_pos (by rw [← HRS.out]; rfl)] at hTT
        exact JSays.nil hTT.symm HO.out.low
      · have d2 : ((rs.length : Int) == 0) = false := beq_eq_false_iff_ne.2 (by omega)
        have hTT := HT2.out
        rw [if_neg (by rw [← HRS.out]; intro e; apply hn; have := congrArg List.length e; rw [List.length_map] at this; exact this)] at hTT
        have HTT := Lib.hid hTT
        clear hTT hn HT2 hrs
        go_wp2_with fail
        go_ret3
        rw [← HTT.out]
        exact ⟨A4, c4, rs, rfl, HRS.out, HO.out⟩
  · have con := Disk.read_not w B d m 0 (by decide) hd h0
    rcases Segm.there_err m 0 with h1 | h1 | h1
    · exact absurd h1 h0
    · have e1 : openT m = (0, 0#32, []) := by
        rcases Disk.there_cases h0 with ⟨_, h2⟩ | ⟨h2, h3, _⟩
        · rw [h1] at h2; exact absurd h2 (by decide)
        · unfold openT; rw [h2, if_neg (by decide), if_pos h3]
      rw [e1]
      rw [h1] at con
      clear hd h512 hrl hr h0 e1 h1
      go_enter Tryz.func31, Tryz.ntmps31
      go_wp2_with fail
      refine con.mono ?_
      rintro r w1 ⟨rfl, rfl⟩
      go_wp2_with fail
      go_ret3
      exact JSays.nil rfl (Below.refl _ _)
    · have e1 : openT m = (8, 0#32, []) := by
        rcases Disk.there_cases h0 with ⟨h2, _⟩ | ⟨_, _, h2⟩
        · unfold openT; rw [h2, if_pos rfl]
        · rw [h1] at h2; exact absurd h2 (by decide)
      rw [e1]
      rw [h1] at con
      clear hd h512 hrl hr h0 e1 h1
      go_enter Tryz.func31, Tryz.ntmps31
      go_wp2_with fail
      refine con.mono ?_
      rintro r w1 ⟨rfl, rfl⟩
      go_wp2_with fail
      go_ret3
      exact JSays.nil rfl (Below.refl _ _)
/-- What Open returns. -/
def OSays (w : World) (B d : Nat) (x : Int × BitVec 32 × List (List (BitVec 8))) (r : Ending) (w' : World) : Prop :=
  (x.1 ≠ 0 → r = .returned (.tuple #[.pointer none, .slice none 0 0, .int .i64 x.1]) ∧ Below w.heap.size w w') ∧
  (x.1 = 0 → ∃ q A c rs, w.heap.size ≤ q ∧ r = .returned (.tuple #[.pointer (some ⟨q, 0, none⟩), .slice A rs.length c, .int .i64 0]) ∧ rs.map (·.bs) = x.2.2 ∧ Own7 w w' A c rs ∧ Ss w' B q d ⟨x.2.1, none, false⟩)
set_option maxRecDepth 100000 in
set_option maxHeartbeats 1000000 in
theorem open_call (w : World) (B d : Nat) (m : M) (hd : Dk w B d m) (hr : ∀ f, (rows f m.l).length ≤ 200) :
    Calls Tryz.prog 8 #[.pointer (some ⟨d, 0, none⟩)] w (OSays w B d (openT m)) := by
  have con := journalOn_call w B d m hd hr
  clear hd hr
  generalize openT m = x at *
  obtain ⟨e, ep, recs⟩ := x
  by_cases he : e = 0
  · subst he
    go_enter Tryz.func8, Tryz.ntmps8
    go_wp2_with fail
    refine con.mono ?_
    clear con
    rintro r w1 ⟨A, c, rs, rfl, hrs, hO⟩
    have hc1 := Cel.new w1 70 [.pointer (some ⟨d, 0, none⟩), v32 ep, .pointer none, .bool false]
    have hb1 : Below w1.heap.size w1 (w1.alloc (.cells #[.pointer (some ⟨d, 0, none⟩), v32 ep, .pointer none, .bool false] 70)) := (Below.refl _ _).alloc (Nat.le_refl _) _
    have HC1 := Lib.hid hc1
    have HB1 := Lib.hid hb1
    have HO := Lib.hid hO
    have HRS := Lib.hid hrs
    clear hc1 hb1 hO hrs
    go_wp2_with fail
    go_ret3
    exact ⟨fun h => absurd rfl h, fun _ => ⟨w1.heap.size, A, c, rs, HO.out.low.size, rfl, HRS.out, ⟨Frag.own_below HO.out.own HB1.out, fun x hx => (HO.out.by_ x hx).below HB1.out, HO.out.low.trans (HB1.out.mono HO.out.low.size)⟩, _, HC1.out, rfl⟩⟩
  · have d0 : (e == 0) = false := beq_eq_false_iff_ne.2 he
    go_enter Tryz.func8, Tryz.ntmps8
    go_wp2_with fail
    refine con.mono ?_
    clear con
    rintro r w1 ⟨A, c, rs, rfl, hrs, hO⟩
    have HO := Lib.hid hO
    clear hO hrs
    go_wp2_with fail
    go_ret3
    exact ⟨fun _ => ⟨rfl, HO.out.low⟩, fun h => absurd h he⟩
end Go.Proofs.YtdaknfepcbooeaaGreat.Sto
end
