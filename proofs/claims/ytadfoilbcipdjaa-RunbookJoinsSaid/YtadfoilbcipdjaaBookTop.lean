/-
  The program's runbook (layer 12): the arms, the steps, the book; Parse.
-/
import Derived.Test.YtadfoilbcipdjaaBookEnds
namespace Go.Proofs.Ytadfoilbcipdjaa.Book
open Go.RowKit
open Go.Proofs.Ytadfoilbcipdjaa.Lex (Tok Tk B cut Tv Tx tflat Cr cr_ry Ptk hmf pcut PcSays)
set_option linter.unusedVariables false
set_option linter.unusedSimpArgs false

section
variable {W : World} {g : Nat}
def armPs : List (Nat × Pf) := [(55, fBeginA), (56, fPat), (57, fAs), (58, fGo), (59, fEndA)]
theorem armPts : Pts W g (fun _ => true) armPs where
  con := fun i q h => by
    match i, h with
    | 0, h => obtain rfl := Option.some.inj h; exact beginArm_
    | 1, h => obtain rfl := Option.some.inj h; exact takePattern_
    | 2, h => obtain rfl := Option.some.inj h; exact takeAs_
    | 3, h => obtain rfl := Option.some.inj h; exact takeGo_
    | 4, h => obtain rfl := Option.some.inj h; exact endArm_
    | n + 5, h => simp [armPs] at h
  ent := fun q hq => by
    simp only [armPs, List.mem_cons, List.not_mem_nil, or_false] at hq
    rcases hq with rfl | rfl | rfl | rfl | rfl
    · exact beginArm_e
    · exact takePattern_e
    · exact takeAs_e
    · exact takeGo_e
    · exact endArm_e
  cn := fun i q h hi => by
    match i, h with
    | 0, h => obtain rfl := Option.some.inj h; exact cn_beginA
    | 1, h => obtain rfl := Option.some.inj h; exact cn_pat
    | 2, h => obtain rfl := Option.some.inj h; exact cn_as
    | 3, h => obtain rfl := Option.some.inj h; exact cn_go
    | n + 4, h => have : armPs.length = 5 := rfl; omega
set_option maxRecDepth 100000 in
set_option maxHeartbeats 1000000 in
theorem takeArms_ : Contract W g true true 36 fArms := by
  intro w s h hj
  obtain ⟨K, x, h⟩ := h
  have hb1 : Below w.heap.size w (w.alloc (.cells (armPs.map fun q => mv q.1 g).toArray 64)) := (Below.refl _ _).alloc (Nat.le_refl _) _
  have con := (many_ (W := W) (n := 5) (c := 5) armPts cn_arm ⟨K, x, h.below hb1⟩ rfl hj.ii (Cel.new w 64 (armPs.map fun q => mv q.1 g)) rfl (by decide) wOn _ rfl).mono fun e w' hh => hh.of (Chp.of_below hb1)
  rw [show str wOn = ByteArray.mk #[111, 110] from rfl, show fMany wOn (fAll (armPs.map (·.2))) (s.l.length + 1) s = fArms s from rfl] at con
  have hm := hmf
  simp only [armPs, List.map_cons, List.map_nil] at con
  clear h hj hb1
  go_enter Try.func36, Try.ntmps36
  go_wp2_with fail
  refine con.mono ?_
  clear con
  rintro e w2 h2
  have HT := Lib.hid h2
  obtain ⟨b, rfl, _⟩ := h2.bool
  clear h2
  go_wp2_with fail
  go_ret
  exact HT.out
theorem takeArms_e : Enters 36 := enters_of Try.func36 (by kernel_rfl) rfl
def stepPs : List (Nat × Pf) := [(32, fBegin), (33, fName), (34, fTag), (35, fSend), (36, fArms), (37, fTime), (38, fTries), (39, fElse), (40, fEnd)]
def stepFl : Nat → Bool
  | 0 => false
  | 9 => false
  | _ => true
theorem stepPts : Pts W g stepFl stepPs where
  con := fun i q h => by
    match i, h with
    | 0, h => obtain rfl := Option.some.inj h; exact beginStep_
    | 1, h => obtain rfl := Option.some.inj h; exact takeName_
    | 2, h => obtain rfl := Option.some.inj h; exact takeTag_
    | 3, h => obtain rfl := Option.some.inj h; exact takeSend_
    | 4, h => obtain rfl := Option.some.inj h; exact takeArms_
    | 5, h => obtain rfl := Option.some.inj h; exact takeTime_
    | 6, h => obtain rfl := Option.some.inj h; exact takeTries_
    | 7, h => obtain rfl := Option.some.inj h; exact takeElse_
    | 8, h => obtain rfl := Option.some.inj h; exact endStep_
    | n + 9, h => simp [stepPs] at h
  ent := fun q hq => by
    simp only [stepPs, List.mem_cons, List.not_mem_nil, or_false] at hq
    rcases hq with rfl | rfl | rfl | rfl | rfl | rfl | rfl | rfl | rfl
    · exact beginStep_e
    · exact takeName_e
    · exact takeTag_e
    · exact takeSend_e
    · exact takeArms_e
    · exact takeTime_e
    · exact takeTries_e
    · exact takeElse_e
    · exact endStep_e
  cn := fun i q h hi => by
    match i, h with
    | 0, h => obtain rfl := Option.some.inj h; exact cn_begin
    | 1, h => obtain rfl := Option.some.inj h; exact cn_name
    | 2, h => obtain rfl := Option.some.inj h; exact cn_tag
    | 3, h => obtain rfl := Option.some.inj h; exact cn_send
    | 4, h => obtain rfl := Option.some.inj h; exact cn_arms
    | 5, h => obtain rfl := Option.some.inj h; exact cn_time
    | 6, h => obtain rfl := Option.some.inj h; exact cn_tries
    | 7, h => obtain rfl := Option.some.inj h; exact cn_else
    | n + 8, h => have : stepPs.length = 9 := rfl; omega
set_option maxRecDepth 100000 in
set_option maxHeartbeats 1000000 in
theorem takeSteps_ : Contract W g false false 14 fSteps := by
  intro w s h hj
  obtain ⟨K, x, h⟩ := h
  have hb1 : Below w.heap.size w (w.alloc (.cells (stepPs.map fun q => mv q.1 g).toArray 64)) := (Below.refl _ _).alloc (Nat.le_refl _) _
  have con := (many_ (W := W) (n := 9) (c := 9) stepPts (fun s s' h => by obtain ⟨a, b, c⟩ := cn_step s s' h; exact ⟨a, by omega, c⟩) ⟨K, x, h.below hb1⟩ rfl hj.ii (Cel.new w 64 (stepPs.map fun q => mv q.1 g)) rfl (by decide) wStep _ rfl).mono fun e w' hh => hh.of (Chp.of_below hb1)
  rw [show str wStep = ByteArray.mk #[115, 116, 101, 112] from rfl, show fMany wStep (fAll (stepPs.map (·.2))) (s.l.length + 1) s = fSteps s from rfl, show stepFl 0 = false from rfl] at con
  have hm := hmf
  simp only [stepPs, List.map_cons, List.map_nil] at con
  clear h hj hb1
  go_enter Try.func14, Try.ntmps14
  go_wp2_with fail
  refine con.mono ?_
  clear con
  rintro e w2 h2
  have HT := Lib.hid h2
  obtain ⟨b, rfl, _⟩ := h2.bool
  clear h2
  go_wp2_with fail
  go_ret
  exact HT.out
theorem takeSteps_e : Enters 14 := enters_of Try.func14 (by kernel_rfl) rfl
theorem PtSays.weak {w w' : World} {o : Bool} {r : Except T Ps} {e : Ending} (h : PtSays W w g o r e w') : PtSays W w g false r e w' := by
  unfold PtSays at h ⊢
  cases r with
  | error m => exact h
  | ok s' => exact ⟨h.1, h.2.1, h.2.2.weak⟩
def bookPs : List (Nat × Pf) := [(13, fLimit), (14, fSteps)]
def bookFl : Nat → Bool
  | 0 => true
  | _ => false
theorem bookPts : Pts W g bookFl bookPs where
  con := fun i q h => by
    match i, h with
    | 0, h => obtain rfl := Option.some.inj h; exact fun w s hp hj => (takeLimit_ w s hp hj).mono fun e w' hh => hh.weak
    | 1, h => obtain rfl := Option.some.inj h; exact takeSteps_
    | n + 2, h => simp [bookPs] at h
  ent := fun q hq => by
    simp only [bookPs, List.mem_cons, List.not_mem_nil, or_false] at hq
    rcases hq with rfl | rfl
    · exact takeLimit_e
    · exact takeSteps_e
  cn := fun i q h hi => by
    match i, h with
    | 0, h => obtain rfl := Option.some.inj h; exact cn_limit
    | n + 1, h => have : bookPs.length = 2 := rfl; omega
set_option maxRecDepth 100000 in
set_option maxHeartbeats 1000000 in
theorem takeBook_ : Contract W g true false 7 fBook := by
  intro w s h hj
  obtain ⟨K, x, h⟩ := h
  have hb1 : Below w.heap.size w (w.alloc (.cells (bookPs.map fun q => mv q.1 g).toArray 64)) := (Below.refl _ _).alloc (Nat.le_refl _) _
  have con := (inOrder_ (W := W) (n := 2) (c := 2) bookPts ⟨K, x, h.below hb1⟩ hj (Cel.new w 64 (bookPs.map fun q => mv q.1 g)) rfl (by decide)).mono fun e w' hh => hh.of (Chp.of_below hb1)
  rw [show fAll (bookPs.map (·.2)) s = fBook s from rfl, show bookFl 2 = false from rfl] at con
  have hm := hmf
  simp only [bookPs, List.map_cons, List.map_nil] at con
  clear h hj hb1
  go_enter Try.func7, Try.ntmps7
  go_wp2_with fail
  refine con.mono ?_
  clear con
  rintro e w2 h2
  have HT := Lib.hid h2
  obtain ⟨b, rfl, _⟩ := h2.bool
  clear h2
  go_wp2_with fail
  go_ret
  exact HT.out
/-- The steps of a book, that can be read. -/
structure Pbk (w : World) (A : Option Addr) (vs : List Bv) : Prop where
  ry : Cr w A (s9flat vs)
  send : ∀ v ∈ vs, Tx w 0 v.A4 v.s.send
  arms : ∀ v ∈ vs, Cr w v.A5 (aflat v.avs) ∧ v.avs.map (·.a) = v.s.arms
  pats : ∀ v ∈ vs, ∀ u ∈ v.avs, Tx w 0 u.A u.a.pat
theorem Pbk.below {w w' : World} {A : Option Addr} {vs : List Bv} (h : Pbk w A vs) (hb : Below w.heap.size w w') : Pbk w' A vs :=
  ⟨h.ry.below hb, fun v hv => (h.send v hv).below (Nat.zero_le _) hb, fun v hv => ⟨(h.arms v hv).1.below hb, (h.arms v hv).2⟩, fun v hv u hu => (h.pats v hv u hu).below (Nat.zero_le _) hb⟩
/-- What Parse returns. -/
def PpSays (w : World) (r : Except (Nat × Nat) Book) (e : Ending) (w' : World) : Prop := Below w.heap.size w w' ∧ match r with
  | .error (p, bad) => bad ≠ 0 ∧ e = .returned (.tuple #[.agg #[.int .i64 0, .slice none 0 0], .int .i64 (p : Int), .int .i64 (bad : Int)])
  | .ok b => ∃ A' c' vs, e = .returned (.tuple #[.agg #[.int .i64 b.most, .slice A' b.steps.length c'], .int .i64 0, .int .i64 0]) ∧ Pbk w' A' vs ∧ vs.map (·.s) = b.steps ∧ b.steps.length ≤ 3000
theorem load_bookP {w : World} {g : Nat} {x0 x1 : Value} (h : Cel w g 26 [x0, x1]) : (loadVar 26 ⟨g, 0, none⟩).run Try.prog w = .ok (.agg #[x0, x1]) w :=
  run_loadVar_mid (P := Try.prog) w g 0 26 [x0, x1] _ (fun j v hv => by rw [Nat.zero_add, h.cell j, hv]) Try.underlying26 rfl (by kernel_rfl)
/-- The book, where the result's variable is written. -/
theorem Pw.out {W w w' : World} {g K r : Nat} {o : Bool} {s : Ps} {x : Px} {cs : List Value} (h : Pw W w g K o s x) (hr : Cel w r 26 cs) (hf : Frm [r] w w') : Pbk w' x.A3 x.bvs ∧ x.bvs.map (·.s) = s.steps := by
  have tx : ∀ {A : Option Addr} {t : List (BitVec 8)}, Tx W 0 A t → Tx w' 0 A t := fun ht => Tx.frm (ht.below (Nat.zero_le _) h.bel) hf fun k hk => by
    rw [List.mem_singleton.1 hk]
    exact ⟨Nat.zero_le _, Cel.not_ty hr (by decide)⟩
  refine ⟨⟨cr_ry ((Ry.of_own h.stps.own (by decide)).frm hf fun k hk => ?_), fun v hv => tx (h.stps.tx v hv), fun v hv => ⟨((h.stps.ar v hv).1.keep fun k o fz _ hk => hf.block k (Array.getElem?_eq_some_iff.1 hk).1 fun hm => ?_).cr, (h.stps.ar v hv).2.1⟩, fun v hv u hu => tx ((h.stps.ar v hv).2.2 u hu)⟩, h.stps.st⟩
  · rw [List.mem_singleton.1 hk]; exact Cel.not_ty hr (by decide)
  · rw [List.mem_singleton.1 hm] at hk
    exact Cel.not_ty hr (by decide) _ _ hk
theorem stop_bad {s : Ps} {y : Tok} {m : T} (h : s.l = y :: m) : stop (.ok s) = .error (y :: m) := by unfold stop; dsimp only; rw [if_neg (by rw [h]; simp), h]
theorem stop_ok {s : Ps} (h : s.l = []) : stop (.ok s) = .ok ⟨s.most, s.steps⟩ := by unfold stop; dsimp only; rw [if_pos h]
set_option maxRecDepth 100000 in
set_option maxHeartbeats 1000000 in
theorem pparse (w : World) (B : Nat) (A : Option Addr) (n c : Nat) (s : List (BitVec 8)) (hs : Bs w B A n s) (hB : B ≤ w.heap.size) (hn : n ≤ 100000) :
    Calls Try.prog 5 #[.slice A n c] w (PpSays w (bookOf s)) := by
  have hsl := hs.len
  obtain ⟨w1, hw1⟩ : ∃ w1, w1 = w.alloc (.cells #[.int .i64 0, .slice none 0 0] 26) := ⟨_, rfl⟩
  have hb1 : Below w.heap.size w w1 := by rw [hw1]; exact (Below.refl _ _).alloc (Nat.le_refl _) _
  have hc1 : Cel w1 w.heap.size 26 [.int .i64 0, .slice none 0 0] := by rw [hw1]; exact Cel.new w _ _
  have con := pcut w1 B A n c s (hs.below (hb1.mono hB)) (Nat.le_trans hB hb1.size) hn
  have HSL := Lib.hid hsl
  have HC1 := Lib.hid hc1
  have HB1 := Lib.hid hb1
  clear hs hsl hb1 hc1
  go_enter Try.func5, Try.ntmps5
  go_wp2_with fail
  rw [← hw1]
  clear hw1
  refine con.mono ?_
  clear con
  rintro e w2 ⟨hb2, hr⟩
  have HC2 := Lib.hid (show Cel w2 w.heap.size 26 [.int .i64 0, .slice none 0 0] from (hb2.block _ HC1.out.lt).trans HC1.out)
  have HB2 := Lib.hid (show Below w.heap.size w w2 from HB1.out.trans (hb2.mono HB1.out.size))
  clear hb2
  cases hcut : cut s with
  | error pb =>
    obtain ⟨p, bad⟩ := pb
    rw [hcut] at hr
    obtain ⟨hbad, rfl⟩ := hr
    have HE := Lib.hid (show bookOf s = .error (p, bad) by unfold bookOf; rw [hcut])
    have HBAD := Lib.hid hbad
    have hbi : ((bad : Int) == 0) = false := by simp; omega
    have r0 := HC2.out.cell 0
    have r1 := HC2.out.cell 1
    have l0 := HC2.out.free 0
    have l1 := HC2.out.free 1
    clear hcut hbad
    go_wp2_with fail
    refine bodyPost_ret (v := .tuple #[.agg #[.int .i64 0, .slice none 0 0], .int .i64 (p : Int), .int .i64 (bad : Int)]) (Lex.results_at3 2 26 3 4 Try.results5 ⟨w.heap.size, 0, none⟩ rfl _ _ _ rfl rfl (load_bookP ((HC2.out.set 0 _).set 1 _))) rfl ?_
    refine ⟨HB2.out.trans (Frm.below (l := [w.heap.size]) (((Frm.refl _ w2).set (p := ⟨w.heap.size, 0, none⟩) (by simp) _).set (p := ⟨w.heap.size, 1, none⟩) (by simp) _) HB2.out.size (by simp)), ?_⟩
    rw [HE.out]
    exact ⟨HBAD.out, rfl⟩
  | ok ts =>
    rw [hcut] at hr
    obtain ⟨A', c', vs, rfl, hptk, hvs, hlen⟩ := hr
    have HT := Lib.hid hvs
    have HBO := Lib.hid (show bookOf s = asText n (bookR ts) by rw [← HSL.out]; exact bookOf_cut hcut)
    have hfew := cut_few hcut
    obtain ⟨w3, hw3⟩ : ∃ w3, w3 = w2.alloc (.cells (pcells (ps0 ts) ⟨A', c', none, 0, none, 0, none, 0, none, 0, vs, [], []⟩).toArray 41) := ⟨_, rfl⟩
    have hb3 : Below w2.heap.size w2 w3 := by rw [hw3]; exact (Below.refl _ _).alloc (Nat.le_refl _) _
    have h0 : Cel w3 w2.heap.size 41 (pcells (ps0 ts) ⟨A', c', none, 0, none, 0, none, 0, none, 0, vs, [], []⟩) := by rw [hw3]; exact Cel.new w2 _ _
    have hvl : vs.length = ts.length := by rw [← hvs, List.length_map]
    have hcap : vs.length ≤ c' := by omega
    have hP : Pb w2 w3 w2.heap.size true (ps0 ts) := ⟨w2.heap.size, ⟨A', c', none, 0, none, 0, none, 0, none, 0, vs, [], []⟩, hb3, Nat.le_refl _, h0, ⟨hptk 0, hvs, hcap⟩, tx_nil w2, tx_nil w2, Nat.le_refl _, hb3.size, fun _ => ⟨World.ownsRow_nil _ _ _ _, rfl, fun v hv => (by cases hv)⟩, ⟨World.ownsRow_nil _ _ _ _, rfl, fun v hv => (by cases hv), fun v hv => (by cases hv)⟩⟩
    have hj : Jj (ps0 ts) := ⟨by show ts.length + 0 + 1 ≤ 3000; omega, by show ts.length + 0 ≤ 3000; omega⟩
    have con := takeBook_ w3 (ps0 ts) hP hj
    have HSB := Lib.hid (sim_book ts (by omega))
    have HIJ := Lib.hid (show ∀ s', fBook (ps0 ts) = .ok s' → s'.l.length + s'.steps.length ≤ 3000 from fun s' hs => by
      have h1 := cn_then cn_limit (cn_then cn_steps cn_ok) (ps0 ts) s' hs
      have := hj.2
      omega)
    simp only [pcells, ps0, step0, arm0, List.length_nil] at hw3
    clear hcut h0 hP hj hb3 hptk hvs hfew hlen hcap hvl
    go_wp2_with fail
    have hw3' : w3 = w2.alloc (.cells #[.slice A' ts.length c', .int .i64 0, .int .i64 100, .slice none 0 0, .int .i64 0, .string ⟨#[]⟩, .int .i64 0, .bool false, .slice none 0 0, .slice none 0 0, .int .i64 0, .int .i64 0, .string ⟨#[]⟩, .int .i64 0, .slice none 0 0, .string ⟨#[]⟩, .string ⟨#[]⟩] 41) := hw3
    rw [← hw3']
    clear hw3 hw3'
    refine con.mono ?_
    clear con
    rintro e w4 h4
    obtain ⟨b, rfl, ⟨s', hF, rfl, K, x, hp⟩ | ⟨m, s', hF, rfl, hm, K, x, hp⟩⟩ := h4.bool
    · cases hsl : s'.l with
      | nil =>
        have HE := Lib.hid (show bookOf s = .ok ⟨s'.most, s'.steps⟩ by rw [HBO.out, ← HSB.out, hF, stop_ok hsl]; rfl)
        have hlen := HIJ.out s' hF
        have k0 : w4.cell? ⟨w2.heap.size, 0, none⟩ = some (.slice x.A0 0 x.c0) := by have := hp.c 0; rw [this]; show some (Value.slice x.A0 s'.l.length x.c0) = _; rw [hsl]; rfl
        have k2 : w4.cell? ⟨w2.heap.size, 2, none⟩ = some (.int .i64 s'.most) := hp.c 2
        have k3 : w4.cell? ⟨w2.heap.size, 3, none⟩ = some (.slice x.A3 s'.steps.length x.c3) := hp.c 3
        have hr : Cel w4 w.heap.size 26 [.int .i64 0, .slice none 0 0] := (hp.bel.block _ HC2.out.lt).trans HC2.out
        have r0 := hr.cell 0
        have r1 := hr.cell 1
        have l0 := hr.free 0
        have l1 := hr.free 1
        have HR := Lib.hid hr
        have HP := Lib.hid hp
        have HL := Lib.hid hlen
        clear h4 hF hsl hp hr hlen
        generalize hsn : s'.steps.length = sn at *
        have HSN := Lib.hid hsn
        clear hsn
        go_wp2_with fail
        refine bodyPost_ret (v := .tuple #[.agg #[.int .i64 s'.most, .slice x.A3 sn x.c3], .int .i64 0, .int .i64 0]) (Lex.results_at3 2 26 3 4 Try.results5 ⟨w.heap.size, 0, none⟩ rfl _ _ _ rfl rfl (load_bookP ((HR.out.set 0 _).set 1 _))) rfl ?_
        have hf : Frm [w.heap.size] w4 ((w4.setCell ⟨w.heap.size, 0, none⟩ (.int .i64 s'.most)).setCell ⟨w.heap.size, 1, none⟩ (.slice x.A3 sn x.c3)) := ((Frm.refl _ w4).set (p := ⟨w.heap.size, 0, none⟩) (by simp) _).set (p := ⟨w.heap.size, 1, none⟩) (by simp) _
        refine ⟨(HB2.out.trans (HP.out.bel.mono HB2.out.size)).trans (hf.below (Nat.le_trans HB2.out.size HP.out.bel.size) (by simp)), ?_⟩
        rw [HE.out]
        obtain ⟨q1, q2⟩ := HP.out.out HR.out hf
        refine ⟨x.A3, x.c3, x.bvs, ?_, q1, q2, ?_⟩
        · rw [show ({ most := s'.most, steps := s'.steps } : Book).steps.length = sn from HSN.out]
        · show s'.steps.length ≤ 3000
          rw [HSN.out]
          have := HL.out
          omega
      | cons y m =>
        have HE := Lib.hid (show bookOf s = .error (y.at_, 2) by rw [HBO.out, ← HSB.out, hF, stop_bad hsl]; rfl)
        have k0 : w4.cell? ⟨w2.heap.size, 0, none⟩ = some (.slice x.A0 (m.length + 1) x.c0) := by have := hp.c 0; rw [this]; show some (Value.slice x.A0 s'.l.length x.c0) = _; rw [hsl]; rfl
        have hr : Cel w4 w.heap.size 26 [.int .i64 0, .slice none 0 0] := (hp.bel.block _ HC2.out.lt).trans HC2.out
        have con := reached_ hp n
        rw [hsl] at con
        change Calls _ _ _ _ (fun e w' => e = .returned (.int .i64 (y.at_ : Int)) ∧ w' = w4) at con
        have r0 := hr.cell 0
        have r1 := hr.cell 1
        have l0 := hr.free 0
        have l1 := hr.free 1
        have hml : (((m.length : Nat) : Int) + 1 == 0) = false := by simp; omega
        have HR := Lib.hid hr
        have HP := Lib.hid hp.bel
        clear h4 hF hsl hp hr
        generalize m.length = ml at *
        go_wp2_with fail
        refine con.mono ?_
        clear con
        rintro e w5 ⟨rfl, rfl⟩
        go_wp2_with fail
        refine bodyPost_ret (v := .tuple #[.agg #[.int .i64 0, .slice none 0 0], .int .i64 (y.at_ : Int), .int .i64 2]) (Lex.results_at3 2 26 3 4 Try.results5 ⟨w.heap.size, 0, none⟩ rfl _ _ _ rfl rfl (load_bookP ((HR.out.set 0 _).set 1 _))) rfl ?_
        refine ⟨(HB2.out.trans (HP.out.mono HB2.out.size)).trans (Frm.below (l := [w.heap.size]) (((Frm.refl _ _).set (p := ⟨w.heap.size, 0, none⟩) (by simp) _).set (p := ⟨w.heap.size, 1, none⟩) (by simp) _) (Nat.le_trans HB2.out.size HP.out.size) (by simp)), ?_⟩
        rw [HE.out]
        exact ⟨by decide, rfl⟩
    · have HE := Lib.hid (show bookOf s = .error (headAt n m, 2) by rw [HBO.out, ← HSB.out, hF]; cases m <;> rfl)
      have hr : Cel w4 w.heap.size 26 [.int .i64 0, .slice none 0 0] := (hp.bel.block _ HC2.out.lt).trans HC2.out
      have con := reached_ hp n
      rw [hm] at con
      generalize headAt n m = p at con HE
      have r0 := hr.cell 0
      have r1 := hr.cell 1
      have l0 := hr.free 0
      have l1 := hr.free 1
      have HR := Lib.hid hr
      have HP := Lib.hid hp.bel
      clear h4 hF hm hp hr
      go_wp2_with fail
      refine con.mono ?_
      clear con
      rintro e w5 ⟨rfl, rfl⟩
      go_wp2_with fail
      refine bodyPost_ret (v := .tuple #[.agg #[.int .i64 0, .slice none 0 0], .int .i64 (p : Int), .int .i64 2]) (Lex.results_at3 2 26 3 4 Try.results5 ⟨w.heap.size, 0, none⟩ rfl _ _ _ rfl rfl (load_bookP ((HR.out.set 0 _).set 1 _))) rfl ?_
      refine ⟨(HB2.out.trans (HP.out.mono HB2.out.size)).trans (Frm.below (l := [w.heap.size]) (((Frm.refl _ _).set (p := ⟨w.heap.size, 0, none⟩) (by simp) _).set (p := ⟨w.heap.size, 1, none⟩) (by simp) _) (Nat.le_trans HB2.out.size HP.out.size) (by simp)), ?_⟩
      rw [HE.out]
      exact ⟨by decide, rfl⟩
end
end Go.Proofs.Ytadfoilbcipdjaa.Book
