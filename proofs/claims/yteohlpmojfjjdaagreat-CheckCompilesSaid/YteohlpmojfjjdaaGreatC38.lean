/-
Texts: BookTop BookKnows ChkKnows
-/
import Derived.Test.YteohlpmojfjjdaaGreatC0
import Derived.Test.YteohlpmojfjjdaaGreatC1
import Derived.Test.YteohlpmojfjjdaaGreatC2
import Derived.Test.YteohlpmojfjjdaaGreatC3
import Derived.Test.YteohlpmojfjjdaaGreatC7
import Derived.Test.YteohlpmojfjjdaaGreatC8
import Derived.Test.YteohlpmojfjjdaaGreatC9
import Derived.Test.YteohlpmojfjjdaaGreatC16
import Derived.Test.YteohlpmojfjjdaaGreatC19
import Derived.Test.YteohlpmojfjjdaaGreatC21
import Derived.Test.YteohlpmojfjjdaaGreatC22
import Derived.Test.YteohlpmojfjjdaaGreatC23
import Derived.Test.YteohlpmojfjjdaaGreatC31
import Derived.Test.YteohlpmojfjjdaaGreatC35
import Derived.Test.YteohlpmojfjjdaaGreatC36
import Derived.Test.YteohlpmojfjjdaaGreatC37
import Derived.Lib.SlBytesConst
set_option linter.unusedVariables false
set_option linter.unusedSimpArgs false
set_option maxRecDepth 100000
set_option maxHeartbeats 4000000
section
namespace Go.Proofs.YteohlpmojfjjdaaGreat.Book
open Go.RowKit
open Lex (Tok Tk B cut Tv Tx tflat Cr cr_ry Ptk hmf pcut PcSays)
section
variable {W : World} {g : Nat}
def armPs : List (Nat × Pf) := [(127, fBeginA), (128, fPat), (129, fAs), (130, fGo), (131, fEndA)]
theorem armPts : Pts W g (fun _ => true) armPs where
 con := fun i q h => by
  match i, h with
  | 0, h => obtain rfl := Option.some.inj h; exact beginArm_
  | 1, h => obtain rfl := Option.some.inj h; exact takePattern_
  | 2, h => obtain rfl := Option.some.inj h; exact takeAs_
  | 3, h => obtain rfl := Option.some.inj h; exact takeGo_
  | 4, h => obtain rfl := Option.some.inj h; exact endArm_
  | n + 5, h => simp [armPs] at h
 ent := fun q hq => by
  simp only [armPs, List.mem_cons, List.not_mem_nil, or_false] at hq
  rcases hq with rfl | rfl | rfl | rfl | rfl
  ·exact beginArm_e
  ·exact takePattern_e
  ·exact takeAs_e
  ·exact takeGo_e
  ·exact endArm_e
 cn := fun i q h hi => by
  match i, h with
  | 0, h => obtain rfl := Option.some.inj h; exact cn_beginA
  | 1, h => obtain rfl := Option.some.inj h; exact cn_pat
  | 2, h => obtain rfl := Option.some.inj h; exact cn_as
  | 3, h => obtain rfl := Option.some.inj h; exact cn_go
  | n + 4, h => have : armPs.length = 5 := rfl; omega
theorem takeArms_ : Contract W g true true 94 fArms := by
 intro w s h hj
 obtain ⟨K, x, h⟩ := h
 have hb1 : Below w.heap.size w (w.alloc (.cells (armPs.map fun q => mv q.1 g).toArray 142)) := (Below.refl _ _).alloc (Nat.le_refl _) _
 have con := (many_ (W := W) (n := 5) (c := 5) armPts cn_arm ⟨K, x, h.below hb1⟩ rfl hj.ii (Cel.new w 142 (armPs.map fun q => mv q.1 g)) rfl (by decide) wOn _ rfl).mono fun e w' hh => hh.of (Chp.of_below hb1)
 rw [show str wOn = ByteArray.mk #[111, 110] from rfl, show fMany wOn (fAll (armPs.map (·.2))) (s.l.length + 1) s = fArms s from rfl] at con
 have hm := hmf
 simp only [armPs, List.map_cons, List.map_nil] at con
 clear h hj hb1
 go_enter Tryz.func94, Tryz.ntmps94
 go_wp2_with fail
 refine con.mono ?_
 clear con
 rintro e w2 h2
 have HT := Lib.hid h2
 obtain ⟨b, rfl, _⟩ := h2.bool
 clear h2
 go_wp2_with fail
 go_ret
 exact HT.out
theorem takeArms_e : Enters 94 := enters_of Tryz.func94 (by kernel_rfl) rfl
def stepPs : List (Nat × Pf) := [(90, fBegin), (91, fName), (92, fTag), (93, fSend), (94, fArms), (95, fTime), (96, fTries), (97, fElse), (98, fEnd)]
def stepFl : Nat → Bool
 | 0 => false
 | 9 => false
 | _ => true
theorem stepPts : Pts W g stepFl stepPs where
 con := fun i q h => by
  match i, h with
  | 0, h => obtain rfl := Option.some.inj h; exact beginStep_
  | 1, h => obtain rfl := Option.some.inj h; exact takeName_
  | 2, h => obtain rfl := Option.some.inj h; exact takeTag_
  | 3, h => obtain rfl := Option.some.inj h; exact takeSend_
  | 4, h => obtain rfl := Option.some.inj h; exact takeArms_
  | 5, h => obtain rfl := Option.some.inj h; exact takeTime_
  | 6, h => obtain rfl := Option.some.inj h; exact takeTries_
  | 7, h => obtain rfl := Option.some.inj h; exact takeElse_
  | 8, h => obtain rfl := Option.some.inj h; exact endStep_
  | n + 9, h => simp [stepPs] at h
 ent := fun q hq => by
  simp only [stepPs, List.mem_cons, List.not_mem_nil, or_false] at hq
  rcases hq with rfl | rfl | rfl | rfl | rfl | rfl | rfl | rfl | rfl
  ·exact beginStep_e
  ·exact takeName_e
  ·exact takeTag_e
  ·exact takeSend_e
  ·exact takeArms_e
  ·exact takeTime_e
  ·exact takeTries_e
  ·exact takeElse_e
  ·exact endStep_e
 cn := fun i q h hi => by
  match i, h with
  | 0, h => obtain rfl := Option.some.inj h; exact cn_begin
  | 1, h => obtain rfl := Option.some.inj h; exact cn_name
  | 2, h => obtain rfl := Option.some.inj h; exact cn_tag
  | 3, h => obtain rfl := Option.some.inj h; exact cn_send
  | 4, h => obtain rfl := Option.some.inj h; exact cn_arms
  | 5, h => obtain rfl := Option.some.inj h; exact cn_time
  | 6, h => obtain rfl := Option.some.inj h; exact cn_tries
  | 7, h => obtain rfl := Option.some.inj h; exact cn_else
  | n + 8, h => have : stepPs.length = 9 := rfl; omega
theorem takeSteps_ : Contract W g false false 38 fSteps := by
 intro w s h hj
 obtain ⟨K, x, h⟩ := h
 have hb1 : Below w.heap.size w (w.alloc (.cells (stepPs.map fun q => mv q.1 g).toArray 142)) := (Below.refl _ _).alloc (Nat.le_refl _) _
 have con := (many_ (W := W) (n := 9) (c := 9) stepPts (fun s s' h => by obtain ⟨a, b, c⟩ := cn_step s s' h; exact ⟨a, by omega, c⟩) ⟨K, x, h.below hb1⟩ rfl hj.ii (Cel.new w 142 (stepPs.map fun q => mv q.1 g)) rfl (by decide) wStep _ rfl).mono fun e w' hh => hh.of (Chp.of_below hb1)
 rw [show str wStep = ByteArray.mk #[115, 116, 101, 112] from rfl, show fMany wStep (fAll (stepPs.map (·.2))) (s.l.length + 1) s = fSteps s from rfl, show stepFl 0 = false from rfl] at con
 have hm := hmf
 simp only [stepPs, List.map_cons, List.map_nil] at con
 clear h hj hb1
 go_enter Tryz.func38, Tryz.ntmps38
 go_wp2_with fail
 refine con.mono ?_
 clear con
 rintro e w2 h2
 have HT := Lib.hid h2
 obtain ⟨b, rfl, _⟩ := h2.bool
 clear h2
 go_wp2_with fail
 go_ret
 exact HT.out
theorem takeSteps_e : Enters 38 := enters_of Tryz.func38 (by kernel_rfl) rfl
theorem PtSays.weak {w w' : World} {o : Bool} {r : Except T Ps} {e : Ending} (h : PtSays W w g o r e w') : PtSays W w g false r e w' := by
 unfold PtSays at h ⊢
 cases r with
 | error m => exact h
 | ok s' => exact ⟨h.1, h.2.1, h.2.2.weak⟩
def bookPs : List (Nat × Pf) := [(37, fLimit), (38, fSteps)]
def bookFl : Nat → Bool
 | 0 => true
 | _ => false
theorem bookPts : Pts W g bookFl bookPs where
 con := fun i q h => by
  match i, h with
  | 0, h => obtain rfl := Option.some.inj h; exact fun w s hp hj => (takeLimit_ w s hp hj).mono fun e w' hh => hh.weak
  | 1, h => obtain rfl := Option.some.inj h; exact takeSteps_
  | n + 2, h => simp [bookPs] at h
 ent := fun q hq => by
  simp only [bookPs, List.mem_cons, List.not_mem_nil, or_false] at hq
  rcases hq with rfl | rfl
  ·exact takeLimit_e
  ·exact takeSteps_e
 cn := fun i q h hi => by
  match i, h with
  | 0, h => obtain rfl := Option.some.inj h; exact cn_limit
  | n + 1, h => have : bookPs.length = 2 := rfl; omega
theorem takeBook_ : Contract W g true false 22 fBook := by
 intro w s h hj
 obtain ⟨K, x, h⟩ := h
 have hb1 : Below w.heap.size w (w.alloc (.cells (bookPs.map fun q => mv q.1 g).toArray 142)) := (Below.refl _ _).alloc (Nat.le_refl _) _
 have con := (inOrder_ (W := W) (n := 2) (c := 2) bookPts ⟨K, x, h.below hb1⟩ hj (Cel.new w 142 (bookPs.map fun q => mv q.1 g)) rfl (by decide)).mono fun e w' hh => hh.of (Chp.of_below hb1)
 rw [show fAll (bookPs.map (·.2)) s = fBook s from rfl, show bookFl 2 = false from rfl] at con
 have hm := hmf
 simp only [bookPs, List.map_cons, List.map_nil] at con
 clear h hj hb1
 go_enter Tryz.func22, Tryz.ntmps22
 go_wp2_with fail
 refine con.mono ?_
 clear con
 rintro e w2 h2
 have HT := Lib.hid h2
 obtain ⟨b, rfl, _⟩ := h2.bool
 clear h2
 go_wp2_with fail
 go_ret
 exact HT.out
structure Pbk (w : World) (A : Option Addr) (vs : List Bv) : Prop where
 ry : Cr w A (s9flat vs)
 send : ∀ v ∈ vs, Tc w 0 v.A4 v.c4 v.s.send
 arms : ∀ v ∈ vs, Cr w v.A5 (aflat v.avs) ∧ v.avs.map (·.a) = v.s.arms
 pats : ∀ v ∈ vs, ∀ u ∈ v.avs, Tx w 0 u.A u.a.pat
def PpSays (w : World) (r : Except (Nat × Nat) Book) (e : Ending) (w' : World) : Prop := Below w.heap.size w w' ∧ match r with
 | .error (p, bad) => bad ≠ 0 ∧ e = .returned (.tuple #[.agg #[.int .i64 0, .slice none 0 0], .int .i64 (p : Int), .int .i64 (bad : Int)])
 | .ok b => ∃ A' c' vs, e = .returned (.tuple #[.agg #[.int .i64 b.most, .slice A' b.steps.length c'], .int .i64 0, .int .i64 0]) ∧ Pbk w' A' vs ∧ vs.map (·.s) = b.steps ∧ b.steps.length ≤ 3000
theorem load_bookP {w : World} {g : Nat} {x0 x1 : Value} (h : Cel w g 24 [x0, x1]) : (loadVar 24 ⟨g, 0, none⟩).run Tryz.prog w = .ok (.agg #[x0, x1]) w :=
 run_loadVar_mid (P := Tryz.prog) w g 0 24 [x0, x1] _ (fun j v hv => by rw [Nat.zero_add, h.cell j, hv]) Tryz.underlying24 rfl (by kernel_rfl)
theorem Pw.out {W w w' : World} {g K r : Nat} {o : Bool} {s : Ps} {x : Px} {cs : List Value} (h : Pw W w g K o s x) (hr : Cel w r 24 cs) (hf : Frm [r] w w') : Pbk w' x.A3 x.bvs ∧ x.bvs.map (·.s) = s.steps := by
 have tx : ∀ {A : Option Addr} {t : List (BitVec 8)}, Tx W 0 A t → Tx w' 0 A t := fun ht => Tx.frm (ht.below (Nat.zero_le _) h.bel) hf fun k hk => by
  rw [List.mem_singleton.1 hk]
  exact ⟨Nat.zero_le _, Cel.not_ty hr (by decide)⟩
 refine ⟨⟨cr_ry ((Ry.of_own h.stps.own (by decide)).frm hf fun k hk => ?_), fun v hv => ⟨tx (h.stps.tx v hv).1, (h.stps.tx v hv).2⟩, fun v hv => ⟨((h.stps.ar v hv).1.keep fun k o fz _ hk => hf.block k (Array.getElem?_eq_some_iff.1 hk).1 fun hm => ?_).cr, (h.stps.ar v hv).2.1⟩, fun v hv u hu => tx ((h.stps.ar v hv).2.2 u hu)⟩, h.stps.st⟩
 ·rw [List.mem_singleton.1 hk]; exact Cel.not_ty hr (by decide)
 ·rw [List.mem_singleton.1 hm] at hk
  exact Cel.not_ty hr (by decide) _ _ hk
theorem stop_bad {s : Ps} {y : Tok} {m : T} (h : s.l = y :: m) : stop (.ok s) = .error (y :: m) := by unfold stop; dsimp only; rw [if_neg (by rw [h]; simp), h]
theorem stop_ok {s : Ps} (h : s.l = []) : stop (.ok s) = .ok ⟨s.most, s.steps⟩ := by unfold stop; dsimp only; rw [if_pos h]
theorem pparse (w : World) (B : Nat) (A : Option Addr) (n c : Nat) (s : List (BitVec 8)) (hs : Bs w B A n s) (hB : B ≤ w.heap.size) (hn : n ≤ 100000) :
  Calls Tryz.prog 12 #[.slice A n c] w (PpSays w (bookOf s)) := by
 have hsl := hs.len
 obtain ⟨w1, hw1⟩ : ∃ w1, w1 = w.alloc (.cells #[.int .i64 0, .slice none 0 0] 24) := ⟨_, rfl⟩
 have hb1 : Below w.heap.size w w1 := by rw [hw1]; exact (Below.refl _ _).alloc (Nat.le_refl _) _
 have hc1 : Cel w1 w.heap.size 24 [.int .i64 0, .slice none 0 0] := by rw [hw1]; exact Cel.new w _ _
 have con := pcut w1 B A n c s (hs.below (hb1.mono hB)) (Nat.le_trans hB hb1.size) hn
 have HSL := Lib.hid hsl
 have HC1 := Lib.hid hc1
 have HB1 := Lib.hid hb1
 clear hs hsl hb1 hc1
 go_enter Tryz.func12, Tryz.ntmps12
 go_wp2_with fail
 rw [← hw1]
 clear hw1
 refine con.mono ?_
 clear con
 rintro e w2 ⟨hb2, hr⟩
 have HC2 := Lib.hid (show Cel w2 w.heap.size 24 [.int .i64 0, .slice none 0 0] from (hb2.block _ HC1.out.lt).trans HC1.out)
 have HB2 := Lib.hid (show Below w.heap.size w w2 from HB1.out.trans (hb2.mono HB1.out.size))
 clear hb2
 cases hcut : cut s with
 | error pb =>
  obtain ⟨p, bad⟩ := pb
  rw [hcut] at hr
  obtain ⟨hbad, rfl⟩ := hr
  have HE := Lib.hid (show bookOf s = .error (p, bad) by unfold bookOf; rw [hcut])
  have HBAD := Lib.hid hbad
  have hbi : ((bad : Int) == 0) = false := by simp; omega
  have r0 := HC2.out.cell 0
  have r1 := HC2.out.cell 1
  have l0 := HC2.out.free 0
  have l1 := HC2.out.free 1
  clear hcut hbad
  go_wp2_with fail
  refine bodyPost_ret (v := .tuple #[.agg #[.int .i64 0, .slice none 0 0], .int .i64 (p : Int), .int .i64 (bad : Int)]) (Lex.results_at3 2 24 3 4 Tryz.results12 ⟨w.heap.size, 0, none⟩ rfl _ _ _ rfl rfl (load_bookP ((HC2.out.set 0 _).set 1 _))) rfl ?_
  refine ⟨HB2.out.trans (Frm.below (l := [w.heap.size]) (((Frm.refl _ w2).set (p := ⟨w.heap.size, 0, none⟩) (by simp) _).set (p := ⟨w.heap.size, 1, none⟩) (by simp) _) HB2.out.size (by simp)), ?_⟩
  rw [HE.out]
  exact ⟨HBAD.out, rfl⟩
 | ok ts =>
  rw [hcut] at hr
  obtain ⟨A', c', vs, rfl, hptk, hvs, hlen, hcps⟩ := hr
  have HT := Lib.hid hvs
  have HBO := Lib.hid (show bookOf s = asText n (bookR ts) by rw [← HSL.out]; exact bookOf_cut hcut)
  have hfew := cut_few hcut
  obtain ⟨w3, hw3⟩ : ∃ w3, w3 = w2.alloc (.cells (pcells (ps0 ts) ⟨A', c', none, 0, none, 0, none, 0, none, 0, vs, [], []⟩).toArray 77) := ⟨_, rfl⟩
  have hb3 : Below w2.heap.size w2 w3 := by rw [hw3]; exact (Below.refl _ _).alloc (Nat.le_refl _) _
  have h0 : Cel w3 w2.heap.size 77 (pcells (ps0 ts) ⟨A', c', none, 0, none, 0, none, 0, none, 0, vs, [], []⟩) := by rw [hw3]; exact Cel.new w2 _ _
  have hvl : vs.length = ts.length := by rw [← hvs, List.length_map]
  have hcap : vs.length ≤ c' := by omega
  have hP : Pb w2 w3 w2.heap.size true (ps0 ts) := ⟨w2.heap.size, ⟨A', c', none, 0, none, 0, none, 0, none, 0, vs, [], []⟩, hb3, Nat.le_refl _, h0, ⟨hptk 0, hvs, hcap, hcps⟩, tc_nil w2, tx_nil w2, Nat.le_refl _, hb3.size, fun _ => ⟨World.ownsRow_nil _ _ _ _, rfl, fun v hv => (by cases hv)⟩, ⟨World.ownsRow_nil _ _ _ _, rfl, fun v hv => (by cases hv), fun v hv => (by cases hv)⟩⟩
  have hj : Jj (ps0 ts) := ⟨by show ts.length + 0 + 1 ≤ 3000; omega, by show ts.length + 0 ≤ 3000; omega⟩
  have con := takeBook_ w3 (ps0 ts) hP hj
  have HSB := Lib.hid (sim_book ts (by omega))
  have HIJ := Lib.hid (show ∀ s', fBook (ps0 ts) = .ok s' → s'.l.length + s'.steps.length ≤ 3000 from fun s' hs => by
   have h1 := cn_then cn_limit (cn_then cn_steps cn_ok) (ps0 ts) s' hs
   have := hj.2
   omega)
  simp only [pcells, ps0, step0, arm0, List.length_nil] at hw3
  clear hcut h0 hP hj hb3 hptk hvs hfew hlen hcap hvl hcps
  go_wp2_with fail
  have hw3' : w3 = w2.alloc (.cells #[.slice A' ts.length c', .int .i64 0, .int .i64 100, .slice none 0 0, .int .i64 0, .string ⟨#[]⟩, .int .i64 0, .bool false, .slice none 0 0, .slice none 0 0, .int .i64 0, .int .i64 0, .string ⟨#[]⟩, .int .i64 0, .slice none 0 0, .string ⟨#[]⟩, .string ⟨#[]⟩] 77) := hw3
  rw [← hw3']
  clear hw3 hw3'
  refine con.mono ?_
  clear con
  rintro e w4 h4
  obtain ⟨b, rfl, ⟨s', hF, rfl, K, x, hp⟩ | ⟨m, s', hF, rfl, hm, K, x, hp⟩⟩ := h4.bool
  ·cases hsl : s'.l with
   | nil =>
    have HE := Lib.hid (show bookOf s = .ok ⟨s'.most, s'.steps⟩ by rw [HBO.out, ← HSB.out, hF, stop_ok hsl]; rfl)
    have hlen := HIJ.out s' hF
    have k0 : w4.cell? ⟨w2.heap.size, 0, none⟩ = some (.slice x.A0 0 x.c0) := by have := hp.c 0; rw [this]; show some (Value.slice x.A0 s'.l.length x.c0) = _; rw [hsl]; rfl
    have k2 : w4.cell? ⟨w2.heap.size, 2, none⟩ = some (.int .i64 s'.most) := hp.c 2
    have k3 : w4.cell? ⟨w2.heap.size, 3, none⟩ = some (.slice x.A3 s'.steps.length x.c3) := hp.c 3
    have hr : Cel w4 w.heap.size 24 [.int .i64 0, .slice none 0 0] := (hp.bel.block _ HC2.out.lt).trans HC2.out
    have r0 := hr.cell 0
    have r1 := hr.cell 1
    have l0 := hr.free 0
    have l1 := hr.free 1
    have HR := Lib.hid hr
    have HP := Lib.hid hp
    have HL := Lib.hid hlen
    clear h4 hF hsl hp hr hlen
    generalize hsn : s'.steps.length = sn at *
    have HSN := Lib.hid hsn
    clear hsn
    go_wp2_with fail
    refine bodyPost_ret (v := .tuple #[.agg #[.int .i64 s'.most, .slice x.A3 sn x.c3], .int .i64 0, .int .i64 0]) (Lex.results_at3 2 24 3 4 Tryz.results12 ⟨w.heap.size, 0, none⟩ rfl _ _ _ rfl rfl (load_bookP ((HR.out.set 0 _).set 1 _))) rfl ?_
    have hf : Frm [w.heap.size] w4 ((w4.setCell ⟨w.heap.size, 0, none⟩ (.int .i64 s'.most)).setCell ⟨w.heap.size, 1, none⟩ (.slice x.A3 sn x.c3)) := ((Frm.refl _ w4).set (p := ⟨w.heap.size, 0, none⟩) (by simp) _).set (p := ⟨w.heap.size, 1, none⟩) (by simp) _
    refine ⟨(HB2.out.trans (HP.out.bel.mono HB2.out.size)).trans (hf.below (Nat.le_trans HB2.out.size HP.out.bel.size) (by simp)), ?_⟩
    rw [HE.out]
    obtain ⟨q1, q2⟩ := HP.out.out HR.out hf
    refine ⟨x.A3, x.c3, x.bvs, ?_, q1, q2, ?_⟩
    ·rw [show ({ most := s'.most, steps := s'.steps } : Book).steps.length = sn from HSN.out]
    ·show s'.steps.length ≤ 3000
     rw [HSN.out]
     have := HL.out
     omega
   | cons y m =>
    have HE := Lib.hid (show bookOf s = .error (y.at_, 2) by rw [HBO.out, ← HSB.out, hF, stop_bad hsl]; rfl)
    have k0 : w4.cell? ⟨w2.heap.size, 0, none⟩ = some (.slice x.A0 (m.length + 1) x.c0) := by have := hp.c 0; rw [this]; show some (Value.slice x.A0 s'.l.length x.c0) = _; rw [hsl]; rfl
    have hr : Cel w4 w.heap.size 24 [.int .i64 0, .slice none 0 0] := (hp.bel.block _ HC2.out.lt).trans HC2.out
    have con := reached_ hp n
    rw [hsl] at con
    change Calls _ _ _ _ (fun e w' => e = .returned (.int .i64 (y.at_ : Int)) ∧ w' = w4) at con
    have r0 := hr.cell 0
    have r1 := hr.cell 1
    have l0 := hr.free 0
    have l1 := hr.free 1
    have hml : (((m.length : Nat) : Int) + 1 == 0) = false := by simp; omega
    have HR := Lib.hid hr
    have HP := Lib.hid hp.bel
    clear h4 hF hsl hp hr
    generalize m.length = ml at *
    go_wp2_with fail
    refine con.mono ?_
    clear con
    rintro e w5 ⟨rfl, rfl⟩
    go_wp2_with fail
    refine bodyPost_ret (v := .tuple #[.agg #[.int .i64 0, .slice none 0 0], .int .i64 (y.at_ : Int), .int .i64 2]) (Lex.results_at3 2 24 3 4 Tryz.results12 ⟨w.heap.size, 0, none⟩ rfl _ _ _ rfl rfl (load_bookP ((HR.out.set 0 _).set 1 _))) rfl ?_
    refine ⟨(HB2.out.trans (HP.out.mono HB2.out.size)).trans (Frm.below (l := [w.heap.size]) (((Frm.refl _ _).set (p := ⟨w.heap.size, 0, none⟩) (by simp) _).set (p := ⟨w.heap.size, 1, none⟩) (by simp) _) (Nat.le_trans HB2.out.size HP.out.size) (by simp)), ?_⟩
    rw [HE.out]
    exact ⟨by decide, rfl⟩
  ·have HE := Lib.hid (show bookOf s = .error (headAt n m, 2) by rw [HBO.out, ← HSB.out, hF]; cases m <;> rfl)
   have hr : Cel w4 w.heap.size 24 [.int .i64 0, .slice none 0 0] := (hp.bel.block _ HC2.out.lt).trans HC2.out
   have con := reached_ hp n
   rw [hm] at con
   generalize headAt n m = p at con HE
   have r0 := hr.cell 0
   have r1 := hr.cell 1
   have l0 := hr.free 0
   have l1 := hr.free 1
   have HR := Lib.hid hr
   have HP := Lib.hid hp.bel
   clear h4 hF hm hp hr
   go_wp2_with fail
   refine con.mono ?_
   clear con
   rintro e w5 ⟨rfl, rfl⟩
   go_wp2_with fail
   refine bodyPost_ret (v := .tuple #[.agg #[.int .i64 0, .slice none 0 0], .int .i64 (p : Int), .int .i64 2]) (Lex.results_at3 2 24 3 4 Tryz.results12 ⟨w.heap.size, 0, none⟩ rfl _ _ _ rfl rfl (load_bookP ((HR.out.set 0 _).set 1 _))) rfl ?_
   refine ⟨(HB2.out.trans (HP.out.mono HB2.out.size)).trans (Frm.below (l := [w.heap.size]) (((Frm.refl _ _).set (p := ⟨w.heap.size, 0, none⟩) (by simp) _).set (p := ⟨w.heap.size, 1, none⟩) (by simp) _) (Nat.le_trans HB2.out.size HP.out.size) (by simp)), ?_⟩
   rw [HE.out]
   exact ⟨by decide, rfl⟩
end
end Go.Proofs.YteohlpmojfjjdaaGreat.Book
end
section
namespace Go.Proofs.YteohlpmojfjjdaaGreat.Book
open Go.RowKit
open Lex (Tok Tk B cut Tv Tx tflat Cr cr_ry Ptk add_at4)
def k10 : List (BitVec 8) := [115#8, 116#8, 101#8, 112#8, 32#8, 97#8, 32#8, 101#8, 110#8, 100#8]
end Go.Proofs.YteohlpmojfjjdaaGreat.Book
end
section
namespace Go.Proofs.YteohlpmojfjjdaaGreat.Chk
open Go.RowKit
open Lex (Tx Cr cr_ry)
open Vars (scell)
open Book (pparse bookOf Pbk Bv Av)
theorem Tx.up {w : World} {B B' : Nat} {A : Option Addr} {t : List (BitVec 8)} (h : Tx w B A t) (hB : B ≤ B') : Tx w B' A t := h.imp (fun h => h.more hB) id
theorem of_pbk {w : World} {T : Nat} {A : Option Addr} {vs : List Bv} (h : Pbk w A vs) : Gbk w T A (vs.map ofBv) ∧ (vs.map ofBv).map (·.g) = (vs.map (·.s)).map gStep := by
 refine ⟨⟨by rw [gsflat_of]; exact h.ry, fun v hv => ?_, fun v hv => ?_, fun v hv u hu => ?_⟩, by simp [ofBv]⟩
 ·obtain ⟨x, hx, rfl⟩ := List.mem_map.1 hv
  exact Tx.up (h.send x hx).1 (Nat.zero_le _)
 ·obtain ⟨x, hx, rfl⟩ := List.mem_map.1 hv
  refine ⟨?_, ?_⟩
  ·show Cr w x.A5 (gaflat (x.avs.map ofAv))
   rw [gaflat_of]; exact (h.arms x hx).1
  ·show (x.avs.map ofAv).map (·.g) = x.s.arms.map gArm
   rw [← (h.arms x hx).2]; simp [ofAv]
 ·obtain ⟨x, hx, rfl⟩ := List.mem_map.1 hv
  obtain ⟨y, hy, rfl⟩ := List.mem_map.1 (show u ∈ x.avs.map ofAv from hu)
  exact Tx.up (h.pats x hx y hy) (Nat.zero_le _)
theorem szs_pbk {w : World} {A : Option Addr} {vs : List Bv} {s : List B} {b : Book.Book} (h : Pbk w A vs) (hv : vs.map (·.s) = b.steps) (hb : bookOf s = .ok b) : (∀ v ∈ vs.map ofBv, Szs v) ∧ (∀ v ∈ vs.map ofBv, Pzs v) ∧ sumA (vs.map ofBv) ≤ 50000 := by
 obtain ⟨f1, f2, f3⟩ := Book.few_book hb
 have ht := Book.txt_book hb
 have hm : ∀ x ∈ vs, x.s ∈ b.steps := fun x hx => by rw [← hv]; exact List.mem_map_of_mem hx
 have ha : ∀ x ∈ vs, ∀ y ∈ x.avs, y.a ∈ x.s.arms := fun x hx y hy => by rw [← (h.arms x hx).2]; exact List.mem_map_of_mem hy
 refine ⟨fun v hv => ?_, fun v hv => ?_, ?_⟩
 ·obtain ⟨x, hx, rfl⟩ := List.mem_map.1 hv
  obtain ⟨t1, t2, t3⟩ := ht x.s (hm x hx)
  have hf := f1 x.s (hm x hx)
  refine ⟨by show x.s.name.length ≤ _; omega, by show x.s.els.length ≤ _; omega, by show x.s.send.length ≤ _; omega, (h.send x hx).2, by show (x.s.arms.map gArm).length ≤ _; rw [List.length_map]; omega, fun a haa => ?_⟩
  obtain ⟨y, hy, rfl⟩ := List.mem_map.1 (show a ∈ x.avs.map ofAv from haa)
  obtain ⟨q1, q2, q3⟩ := t3 y.a (ha x hx y hy)
  exact ⟨by show y.a.as_.length ≤ _; omega, by show y.a.go.length ≤ _; omega⟩
 ·obtain ⟨x, hx, rfl⟩ := List.mem_map.1 hv
  obtain ⟨t1, t2, t3⟩ := ht x.s (hm x hx)
  intro a haa
  obtain ⟨y, hy, rfl⟩ := List.mem_map.1 (show a ∈ x.avs.map ofAv from haa)
  obtain ⟨q1, q2, q3⟩ := t3 y.a (ha x hx y hy)
  show y.a.pat.length ≤ _; omega
 ·have : sumA (vs.map ofBv) = Book.sumS (vs.map (·.s)) := by
   unfold sumA Book.sumS
   rw [List.map_map, List.map_map]
   congr 1
   exact List.map_congr_left fun x _ => by show (x.s.arms.map gArm).length = x.s.arms.length; rw [List.length_map]
  rw [this, hv]; omega
def k46 : List (BitVec 8) := [115#8, 116#8, 101#8, 112#8, 32#8, 97#8, 32#8, 111#8, 110#8, 32#8, 34#8, 120#8, 34#8, 32#8, 97#8, 115#8, 32#8, 118#8, 32#8, 103#8, 111#8, 32#8, 97#8, 32#8, 119#8, 105#8, 116#8, 104#8, 105#8, 110#8, 32#8, 53#8, 32#8, 101#8, 108#8, 115#8, 101#8, 32#8, 102#8, 97#8, 105#8, 108#8, 32#8, 101#8, 110#8, 100#8]
def step46 : Book.Step := ⟨0, [97#8], 0, false, [], [⟨7, [120#8], [118#8], [97#8]⟩], 5, 0, [102#8, 97#8, 105#8, 108#8]⟩
theorem book_k46 : bookOf k46 = .ok ⟨100, [step46]⟩ := by kernel_rfl
def cstep46 : CStep := ⟨[97#8], 0, [], [⟨[120#8], 0, 0⟩], 5, 0, -2⟩
theorem comp_k46 : compile (gBook ⟨100, [step46]⟩) = .ok ⟨[cstep46], [[118#8]], 100⟩ := by kernel_rfl
theorem comp_none : compile ⟨1, []⟩ = .error (4, 0) := by kernel_rfl
theorem one_cs {l : List Cs} {x : CStep} (h : l.map (·.s) = [x]) : ∃ a, l = [a] ∧ a.s = x := by
 rcases l with _ | ⟨v0, _ | ⟨v1, l⟩⟩ <;> simp at h
 exact ⟨v0, rfl, h⟩
theorem one_ca {l : List Ca} {x : CArm} (h : l.map (·.c) = [x]) : ∃ a, l = [a] ∧ a.c = x := by
 rcases l with _ | ⟨v0, _ | ⟨v1, l⟩⟩ <;> simp at h
 exact ⟨v0, rfl, h⟩
theorem knows14 (w : World) : Calls Tryz.prog 7 #[] w fun e w' => e = .returned (.bool true) ∧ Below w.heap.size w w' := by
 have kc := fun (w : World) (C : Array Value) (n c : Nat) => Lib.run_convert_bytes_const (P := Tryz.prog) w 41 5 C n c Tryz.underlying41 Tryz.underlying5
 go_enter Tryz.func7, Tryz.ntmps7
 go_wp2_with fail
 obtain ⟨W1, hW1⟩ : ∃ W1, W1 = w.alloc (.cells #[.int .u8 115, .int .u8 116, .int .u8 101, .int .u8 112, .int .u8 32, .int .u8 97, .int .u8 32, .int .u8 111, .int .u8 110, .int .u8 32, .int .u8 34, .int .u8 120, .int .u8 34, .int .u8 32, .int .u8 97, .int .u8 115, .int .u8 32, .int .u8 118, .int .u8 32, .int .u8 103, .int .u8 111, .int .u8 32, .int .u8 97, .int .u8 32, .int .u8 119, .int .u8 105, .int .u8 116, .int .u8 104, .int .u8 105, .int .u8 110, .int .u8 32, .int .u8 53, .int .u8 32, .int .u8 101, .int .u8 108, .int .u8 115, .int .u8 101, .int .u8 32, .int .u8 102, .int .u8 97, .int .u8 105, .int .u8 108, .int .u8 32, .int .u8 101, .int .u8 110, .int .u8 100] 5 (46, 47)) := ⟨_, rfl⟩
 have hb1 : Below w.heap.size w W1 := by rw [hW1]; exact (Below.refl _ _).alloc (Nat.le_refl _) _
 have b1 := Bs.lit w 5 (46, 47) #[.int .u8 115, .int .u8 116, .int .u8 101, .int .u8 112, .int .u8 32, .int .u8 97, .int .u8 32, .int .u8 111, .int .u8 110, .int .u8 32, .int .u8 34, .int .u8 120, .int .u8 34, .int .u8 32, .int .u8 97, .int .u8 115, .int .u8 32, .int .u8 118, .int .u8 32, .int .u8 103, .int .u8 111, .int .u8 32, .int .u8 97, .int .u8 32, .int .u8 119, .int .u8 105, .int .u8 116, .int .u8 104, .int .u8 105, .int .u8 110, .int .u8 32, .int .u8 53, .int .u8 32, .int .u8 101, .int .u8 108, .int .u8 115, .int .u8 101, .int .u8 32, .int .u8 102, .int .u8 97, .int .u8 105, .int .u8 108, .int .u8 32, .int .u8 101, .int .u8 110, .int .u8 100] k46 rfl 46 rfl
 have con := pparse W1 (w.heap.size + 1) (some ⟨w.heap.size, 0, none⟩) 46 46 k46 (by rw [hW1]; exact b1) (by rw [hW1]; simp) (by decide)
 rw [book_k46] at con
 rw [← hW1]
 refine con.mono ?_
 clear con b1 hW1 kc
 rintro e w2 ⟨hb2, A, c, vs, rfl, hp, hvs, _⟩
 have hbw2 := hb1.trans (hb2.mono hb1.size)
 obtain ⟨z1, z2, z3⟩ := szs_pbk hp hvs book_k46
 obtain ⟨W2, hW2⟩ : ∃ W2, W2 = w2.alloc (.cells #[.int .i64 100, .slice A 1 c] 24) := ⟨_, rfl⟩
 have hb22 : Below w2.heap.size w2 W2 := by rw [hW2]; exact (Below.refl _ _).alloc (Nat.le_refl _) _
 obtain ⟨hg, hgs⟩ := of_pbk (T := 0) hp
 rw [hvs] at hgs
 have hl1 : (vs.map ofBv).length = 1 := by have := congrArg List.length hgs; simpa using this
 have con := pcompile_ W2 0 (gBook ⟨100, [step46]⟩) A 1 c (vs.map ofBv) (hg.below (Nat.zero_le _) hb22) (Nat.zero_le _) hl1 (by decide) z3 z1 z2 100 rfl hgs.symm
 rw [comp_k46] at con
 have HB2 := Lib.hid (hbw2.trans (hb22.mono hbw2.size))
 rw [hW2] at con
 clear hb1 hb2 hp hvs hbw2 z1 z2 z3 hg hgs hl1 hb22
 go_wp2_with fail
 rw [← hW2] at con ⊢
 refine con.mono ?_
 clear con hW2
 rintro e w3 ⟨hb3, As, cs, A1, c1, us, rfl, hcb, hus, hry⟩
 obtain ⟨v, rfl, hv⟩ := one_cs hus
 have HB3 := Lib.hid (HB2.out.trans (hb3.mono HB2.out.size))
 clear hb3 HB2 hus
 obtain ⟨W3, hW3⟩ : ∃ W3, W3 = w3.alloc (.cells #[.slice As 1 cs, .slice A1 1 c1, .int .i64 100] 30) := ⟨_, rfl⟩
 have hb33 : Below w3.heap.size w3 W3 := by rw [hW3]; exact (Below.refl _ _).alloc (Nat.le_refl _) _
 have HX := Lib.hid (show Cel W3 w3.heap.size 30 [.slice As 1 cs, .slice A1 1 c1, .int .i64 100] by rw [hW3]; exact Cel.new w3 30 [.slice As 1 cs, .slice A1 1 c1, .int .i64 100])
 have HCB := Lib.hid (hcb.cgk.below (Nat.zero_le _) hb33)
 have HBW := Lib.hid (HB3.out.trans (hb33.mono HB3.out.size))
 have con := pcompile_ W3 0 ⟨1, []⟩ none 0 0 [] ⟨fun h => absurd rfl h, by simp, by simp, by simp⟩ (Nat.zero_le _) rfl (by decide) (by simp [sumA]) (by simp) (by simp) 1 rfl rfl
 rw [comp_none] at con
 have HV := Lib.hid hv
 rw [hW3] at con
 clear hcb hb33 hry hv
 go_wp2_with fail
 rw [← hW3] at con ⊢
 refine con.mono ?_
 clear con hW3
 rintro e w4 ⟨hb4, _, rfl⟩
 have HB4 := Lib.hid (HBW.out.trans (hb4.mono HBW.out.size))
 have hc := HCB.out.below (Nat.zero_le _) hb4
 have hx := (hb4.block _ HX.out.lt).trans HX.out
 replace hx : Cel w4 w3.heap.size 30 [.slice As 1 cs, .slice A1 1 c1, .int .i64 100] := hx
 have lx := hx.lt
 have k0 := hx.cell 0
 have k1 := hx.cell 1
 obtain ⟨ad, rfl, s0, s1, s2, s3, s4, s5, s6⟩ := hc.step (i := 0) (v := v) rfl
 rw [Nat.zero_mul] at s3 s6
 have hs := HV.out
 obtain ⟨a, ha, haa⟩ : ∃ a, v.cas = [a] ∧ a.c = ⟨[120#8], 0, 0⟩ := by
  have h1 := (hc.arms v (by simp)).2
  rw [hs] at h1
  exact one_ca h1
 obtain ⟨bd, h5, d0, d1, d2⟩ := hc.arm (v := v) (by simp) (j := 0) (a := a) (by rw [ha]; rfl)
 rw [Nat.zero_mul] at d2
 have add0 : ∀ x : Addr, (⟨(x.add 0).block, (x.add 0).off, none⟩ : Addr) = ⟨x.block, x.off, none⟩ := fun x => by unfold Addr.add; rw [if_pos rfl]
 have ab : ∀ x : Addr, (x.add 0).block = x.block ∧ (x.add 0).off = x.off := fun x => by unfold Addr.add; rw [if_pos rfl]; exact ⟨rfl, rfl⟩
 rw [(ab ad).1, (ab ad).2] at s3 s6
 rw [(ab bd).1, (ab bd).2] at d2
 rw [hs] at s3 s6
 rw [haa] at d2
 rw [h5] at s3
 change _ = some (Value.int .i64 (-2)) at s6
 change _ = some (Value.slice (some bd) 1 v.k3) at s3
 change _ = some (Value.int .i64 0) at d2
 have l3 : ad.block < w4.heap.size := by have := cell_lt (p := ⟨ad.block, ad.off + 3, none⟩) s3; exact this
 have l5 : bd.block < w4.heap.size := by have := cell_lt (p := ⟨bd.block, bd.off + 2, none⟩) d2; exact this
 clear hc hx s0 s1 s2 s4 s5 hs ha haa h5 d0 d1 hb4 HX HCB HBW HV add0 ab
 go_wp2_with fail
 go_ret
 exact ⟨rfl, HB4.out.trans (((Below.refl w4.heap.size w4).alloc (Nat.le_refl _) _).mono HB4.out.size)⟩
end Go.Proofs.YteohlpmojfjjdaaGreat.Chk
end
