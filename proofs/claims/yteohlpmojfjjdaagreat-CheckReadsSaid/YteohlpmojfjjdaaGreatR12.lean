/-
The document's runbook (layer 12): a step.
-/
import Derived.Test.YteohlpmojfjjdaaGreatR0
import Derived.Test.YteohlpmojfjjdaaGreatR1
import Derived.Test.YteohlpmojfjjdaaGreatR2
import Derived.Test.YteohlpmojfjjdaaGreatR7
import Derived.Test.YteohlpmojfjjdaaGreatR8
import Derived.Test.YteohlpmojfjjdaaGreatR9
import Derived.Test.YteohlpmojfjjdaaGreatR10
import Derived.Test.YteohlpmojfjjdaaGreatR11
set_option linter.unusedVariables false
set_option linter.unusedSimpArgs false
set_option maxRecDepth 100000
set_option maxHeartbeats 4000000
namespace Go.Proofs.YteohlpmojfjjdaaGreat.Book
open Go.RowKit
open Lex (Tok Tk B cut Tv Ttk Tx Rtk tflat lbelow_drew b_ne CtSays results_at3)
theorem arms_on {f : Nat} {s : Step} {vs : List Tv} {q : Nat} {v : Tv} (hv : vs[q]? = some v) (h : wd wOn ((toks vs).drop q) = true) : armsR (f + 1) s ((toks vs).drop q) = match armR v.t.at_ ((toks vs).drop (q + 1)) with
  | .error e => .error e
  | .ok (a, m2) => armsR f { s with arms := s.arms ++ [a] } m2 := may_yes hv h
theorem arms_off {f : Nat} {s : Step} {l : T} (h : wd wOn l = false) : armsR f s l = tailR s l := by
 cases f with
 | zero => rfl
 | succ f => exact may_no h
theorem step_ (w : World) (B : Nat) (A : Option Addr) (n c : Nat) (vs : List Tv) (h : Ttk w B A vs) (hcp : Lex.Caps vs) (hB : B ≤ w.heap.size) (hl : vs.length = n) (hn : n ≤ 2000) (p : Nat) (v : Tv) (hv : vs[p]? = some v) :
  Calls Tryz.prog 42 #[.slice A n c, .int .i64 (p : Int)] w (SpSays w B vs (stepR 2001 v.t.at_ ((toks vs).drop (p + 1)))) := by
 have HCPS := Lib.hid hcp
 clear hcp
 have H := Lib.hid h
 have hp : p < n := by rw [← hl]; exact (List.getElem?_eq_some_iff.1 hv).1
 obtain ⟨w1, hw1⟩ : ∃ w1, w1 = w.alloc (.cells #[.int .i64 0, .string ⟨#[]⟩, .int .i64 0, .bool false, .slice none 0 0, .slice none 0 0, .int .i64 0, .int .i64 0, .string ⟨#[]⟩] 67) := ⟨_, rfl⟩
 have hb1 : Below w.heap.size w w1 := by rw [hw1]; exact (Below.refl _ _).alloc (Nat.le_refl _) _
 have hc1 : Cel w1 w.heap.size 67 zero9 := by rw [hw1]; exact Cel.new w _ zero9
 obtain ⟨ad, rfl, k0, k1, k2, k3⟩ := (h.below hB hb1).at_ hv
 have HB1 := Lib.hid hb1
 have HC1 := Lib.hid hc1
 rw [hw1] at k1
 obtain ⟨⟨⟨vk, vn, vt⟩, va⟩, vA, vc⟩ := v
 dsimp only at *
 have HL := Lib.hid hl
 have HV := Lib.hid hv
 clear h hb1 hc1 k0 k2 k3 hl hv
 obtain ⟨s0, hs0⟩ : ∃ s0 : Step, s0 = ⟨va, [], 0, false, [], [], 0, 0, []⟩ := ⟨_, rfl⟩
 obtain ⟨w2, hw2⟩ : ∃ w2, w2 = w1.alloc (.cells #[.int .i64 (va : Int), .string ⟨#[]⟩, .int .i64 0, .bool false, .slice none 0 0, .slice none 0 0, .int .i64 0, .int .i64 0, .string ⟨#[]⟩] 67) := ⟨_, rfl⟩
 have SX2 := Lib.hid (show Sx w w2 B s0 none 0 none 0 [] by
  have hs : w1.heap.size = w.heap.size + 1 := by rw [hw1]; simp
  have hb2 : Below w1.heap.size w1 w2 := by rw [hw2]; exact (Below.refl _ _).alloc (Nat.le_refl _) _
  have hc2 : Cel w2 (w.heap.size + 1) 67 (cells9 s0 none 0 none 0) := by rw [hw2, ← hs, hs0]; exact Cel.new w1 _ _
  subst hs0
  exact ⟨(hb2.block _ HC1.out.lt).trans HC1.out, hc2, HB1.out.trans (hb2.mono HB1.out.size), ⟨.inl Bs.nil_, Nat.le_refl _⟩, World.ownsRow_nil _ _ _ _, rfl, by simp⟩)
 rw [hw1] at hw2
 clear hw1
 have HS0 := Lib.hid hs0
 obtain ⟨R, hR⟩ : ∃ R, R = stepR 2001 va ((toks vs).drop (p + 1)) := ⟨_, rfl⟩
 rw [← hR]
 have HR := Lib.hid hR
 clear hs0 hR
 have hBw2 : B ≤ w2.heap.size := Nat.le_trans hB SX2.out.bel.size
 obtain ⟨b1, hb1⟩ : ∃ b1, b1 = kd 1 ((toks vs).drop (p + 1)) := ⟨_, rfl⟩
 have con := kind_ w2 B (some ad) n c vs (H.out.below hB SX2.out.bel) HL.out (by omega) (p + 1) (by omega) 1
 rw [show ((p + 1 : Nat) : Int) = ((p : Int) + 1) by omega, ← hb1] at con
 have Hb1 := Lib.hid hb1
 clear hb1
 go_enter Tryz.func42, Tryz.ntmps42
 go_wp2_with fail
 rw [← hw2]
 clear hw2
 refine con.mono ?_
 rintro e w' ⟨rfl, rfl⟩
 clear con k1
 cases b1
 ·have HE := Lib.hid (show R = .error ((toks vs).drop (p + 1)) by rw [HR.out]; exact want_no Hb1.out.symm)
  obtain ⟨k0, k1, k2, k3, k4, k5, k6, k7, k8⟩ := SX2.out.at_
  obtain ⟨r0, r1, r2, r3, r4, r5, r6, r7, r8⟩ := SX2.out.rs
  obtain ⟨l0, l1, l2, l3, l4, l5, l6, l7, l8⟩ := SX2.out.ls
  have HO := Lib.hid (SX2.out.out (a := .int .i64 (s0.at_ : Int)) (b := .string (str s0.name)) (c := .int .i64 s0.tag) (d := .bool s0.sends) (e := .slice none s0.send.length 0) (f := .slice none s0.arms.length 0) (x := .int .i64 s0.time) (y := .int .i64 s0.try_) (z := .string (str s0.els)) hB)
  unfold fw9 at HO
  go_wp2_with fail
  refine bodyPost_ret (v := .tuple #[.agg #[.int .i64 (s0.at_ : Int), .string (str s0.name), .int .i64 s0.tag, .bool s0.sends, .slice none s0.send.length 0, .slice none s0.arms.length 0, .int .i64 s0.time, .int .i64 s0.try_, .string (str s0.els)], .int .i64 ((p : Int) + 1), .bool false]) (results_at3 4 67 5 6 Tryz.results42 ⟨w.heap.size, 0, none⟩ rfl _ _ _ rfl rfl (load_step HO.out.1)) rfl ?_
  refine ⟨HO.out.2.1, ?_⟩
  rw [HE.out]
  exact ⟨_, _, _, _, _, _, _, _, _, _, _, _, _, p + 1, by rw [show ((p + 1 : Nat) : Int) = ((p : Int) + 1) by omega], by rw [HL.out]; omega, rfl⟩
 ·obtain ⟨v1, hv1⟩ := there (c := kd 1) rfl (Hb1.out.symm)
  obtain ⟨ad', had, _, _, _, j3⟩ := (H.out.below hB SX2.out.bel).at_ hv1
  cases had
  have TXv1 := Lib.hid (H.out.tx v1 (List.mem_of_getElem? hv1))
  have Lv1 := (List.getElem?_eq_some_iff.1 hv1).1
  rw [HL.out] at Lv1
  have s1 : (convert 41 9 (.slice v1.A v1.t.t.text.length v1.c)).run Tryz.prog w2 = .ok (.string (str v1.t.t.text)) w2 := (Bs.bp ((TXv1.out.below hB SX2.out.bel).bs hBw2)).string v1.c Tryz.underlying41 Tryz.underlying5 Tryz.underlying9
  have k1' := SX2.out.x.cell 1
  have f1' := SX2.out.x.free 1
  obtain ⟨sN, hsN⟩ : ∃ sN : Step, sN = { s0 with name := v1.t.t.text } := ⟨_, rfl⟩
  obtain ⟨w3, hw3⟩ : ∃ w3, w3 = w2.setCell ⟨w.heap.size + 1, 1, none⟩ (.string (str v1.t.t.text)) := ⟨_, rfl⟩
  have SX3 := Lib.hid (show Sx w w3 B sN none 0 none 0 [] by rw [hw3, hsN]; exact SX2.out.name hB _)
  have HM1 := Lib.hid (show R = may (wd wOnce) (fun _ => sendR 2001 { sN with tag := 1 }) (may (wd wIdem) (fun _ => sendR 2001 { sN with tag := 2 }) (sendR 2001 { sN with tag := 0 })) ((toks vs).drop (p + 1 + 1)) by
   rw [HR.out, hsN, HS0.out]; exact want_yes hv1 Hb1.out.symm)
  have HT0 := Lib.hid (show sN = { sN with tag := 0 } by rw [hsN, HS0.out])
  have HA0 := Lib.hid (show sN.arms = [] by rw [hsN, HS0.out])
  clear hsN
  have hBw3 : B ≤ w3.heap.size := Nat.le_trans hB SX3.out.bel.size
  obtain ⟨b2, hb2⟩ : ∃ b2, b2 = wd wOnce ((toks vs).drop (p + 1 + 1)) := ⟨_, rfl⟩
  have con := is_ w3 B (some ad) n c vs (H.out.below hB SX3.out.bel) hBw3 HL.out (by omega) (p + 1 + 1) (by omega) wOnce
  rw [show ((p + 1 + 1 : Nat) : Int) = ((p : Int) + 1 + 1) by omega, ← hb2] at con
  rw [show str wOnce = ByteArray.mk #[111, 110, 99, 101] from rfl] at con
  have Hb2 := Lib.hid hb2
  clear hb2
  go_wp2_with fail
  try rw [← hw3]
  clear hw3 s1 k1' f1' j3
  refine con.mono ?_
  clear con
  rintro e w4 ⟨rfl, hb4⟩
  have SX4 := Lib.hid (SX3.out.below hB hb4)
  clear hb4
  go_upto_if 36 with fail
  go_cut [1] from 37 to 46 (fun s1 wx => ∃ (q : Nat) (tg : Int), s1 = .int .i64 (q : Int) ∧ q ≤ n ∧ Sx w wx B { sN with tag := tg } none 0 none 0 [] ∧ Hid (R = sendR 2001 { sN with tag := tg } ((toks vs).drop q)))
  case first =>
   cases b2
   ·have HM2 := Lib.hid (show R = may (wd wIdem) (fun _ => sendR 2001 { sN with tag := 2 }) (sendR 2001 { sN with tag := 0 }) ((toks vs).drop (p + 1 + 1)) by rw [HM1.out]; exact may_no Hb2.out.symm)
    have hBw4 : B ≤ w4.heap.size := Nat.le_trans hB SX4.out.bel.size
    obtain ⟨b3, hb3⟩ : ∃ b3, b3 = wd wIdem ((toks vs).drop (p + 1 + 1)) := ⟨_, rfl⟩
    have con := is_ w4 B (some ad) n c vs (H.out.below hB SX4.out.bel) hBw4 HL.out (by omega) (p + 1 + 1) (by omega) wIdem
    rw [show ((p + 1 + 1 : Nat) : Int) = ((p : Int) + 1 + 1) by omega, ← hb3] at con
    rw [show str wIdem = ByteArray.mk #[105, 100, 101, 109] from rfl] at con
    have Hb3 := Lib.hid hb3
    clear hb3
    go_wp2_with fail
    refine con.mono ?_
    clear con
    rintro e w5 ⟨rfl, hb5⟩
    have SX5 := Lib.hid (SX4.out.below hB hb5)
    clear hb5
    cases b3
    ·have HM3 := Lib.hid (show R = sendR 2001 { sN with tag := 0 } ((toks vs).drop (p + 1 + 1)) by rw [HM2.out]; exact may_no Hb3.out.symm)
     go_wp2_with fail
     go_meet
     case rel => exact ⟨p + 1 + 1, 0, by rw [show ((p + 1 + 1 : Nat) : Int) = ((p : Int) + 1 + 1) by omega], by omega, by rw [← HT0.out]; exact SX5.out, HM3⟩
    ·obtain ⟨v3, hv3⟩ := there (c := wd wIdem) rfl (Hb3.out.symm)
     have Lv3 := (List.getElem?_eq_some_iff.1 hv3).1
     rw [HL.out] at Lv3
     have HM3 := Lib.hid (show R = sendR 2001 { sN with tag := 2 } ((toks vs).drop (p + 1 + 1 + 1)) by rw [HM2.out]; exact may_yes hv3 Hb3.out.symm)
     have k2' := SX5.out.x.cell 2
     have f2' := SX5.out.x.free 2
     have SX6 := Lib.hid (SX5.out.tag hB 2)
     go_wp2_with fail
     go_meet
     case rel => exact ⟨p + 1 + 1 + 1, 2, by rw [show ((p + 1 + 1 + 1 : Nat) : Int) = ((p : Int) + 1 + 1 + 1) by omega], by omega, SX6.out, HM3⟩
   ·obtain ⟨v2, hv2⟩ := there (c := wd wOnce) rfl (Hb2.out.symm)
    have Lv2 := (List.getElem?_eq_some_iff.1 hv2).1
    rw [HL.out] at Lv2
    have HM3 := Lib.hid (show R = sendR 2001 { sN with tag := 1 } ((toks vs).drop (p + 1 + 1 + 1)) by rw [HM1.out]; exact may_yes hv2 Hb2.out.symm)
    have k2' := SX4.out.x.cell 2
    have f2' := SX4.out.x.free 2
    have SX6 := Lib.hid (SX4.out.tag hB 1)
    go_wp2_with fail
    go_meet
    case rel => exact ⟨p + 1 + 1 + 1, 1, by rw [show ((p + 1 + 1 + 1 : Nat) : Int) = ((p : Int) + 1 + 1 + 1) by omega], by omega, SX6.out, HM3⟩
  case rest =>
   obtain ⟨q, tg, rfl, hq, hsx, HM4⟩ := hcut
   obtain ⟨W4, hW4⟩ : ∃ W4, W4 = wc := ⟨_, rfl⟩
   rw [← hW4] at hsx ⊢
   clear hW4
   obtain ⟨sT, hsT⟩ : ∃ sT : Step, sT = { sN with tag := tg } := ⟨_, rfl⟩
   rw [← hsT] at hsx HM4
   have HAT := Lib.hid (show sT.arms = [] by rw [hsT]; exact HA0.out)
   have SXT := Lib.hid hsx
   clear hsx hsT HT0 HA0 SX4 SX2 HM1 HS0 Hb2 Hb1
   have hBW4 : B ≤ W4.heap.size := Nat.le_trans hB SXT.out.bel.size
   obtain ⟨b4, hb4⟩ : ∃ b4, b4 = wd wSend ((toks vs).drop q) := ⟨_, rfl⟩
   have con := is_ W4 B (some ad) n c vs (H.out.below hB SXT.out.bel) hBW4 HL.out (by omega) q (by omega) wSend
   rw [← hb4] at con
   rw [show str wSend = ByteArray.mk #[115, 101, 110, 100] from rfl] at con
   have Hb4 := Lib.hid hb4
   clear hb4
   go_wp2_with fail
   refine con.mono ?_
   clear con
   rintro e w5 ⟨rfl, hb5⟩
   have SX5 := Lib.hid (SXT.out.below hB hb5)
   clear hb5
   cases b4
   ·have HM5 := Lib.hid (show R = armsR (2001 - 0) sT ((toks vs).drop q) by rw [HM4.out]; exact may_no Hb4.out.symm)
    go_wp2_with fail
    try rw [← hw7]
    go_loopw [1] (fun v1 wr => ∃ (r k : Nat) (s : Step) (A4 : Option Addr) (c4 : Nat) (A5 : Option Addr) (c5 : Nat) (avs : List Av), v1 = .int .i64 (r : Int) ∧ r ≤ n ∧ k ≤ r ∧ s.arms.length ≤ k ∧ Sx w wr B s A4 c4 A5 c5 avs ∧ Hid (R = armsR (2001 - k) s ((toks vs).drop r))) (fun v1 _ => n - (intOf v1).toNat)
    case atStart => exact ⟨q, 0, sT, none, 0, none, 0, [], rfl, by omega, Nat.zero_le _, by rw [HAT.out]; exact Nat.le_refl _, SX5.out, HM5⟩
    case round =>
     obtain ⟨r, k, s, A4, c4, A5, c5, avs, rfl, hr, hkr, hsk, hsx, HK⟩ := hrel
     obtain ⟨W6, hW6⟩ : ∃ W6, W6 = wr := ⟨_, rfl⟩
     rw [← hW6] at hsx ⊢
     clear hW6
     have SX6 := Lib.hid hsx
     have hB6 : B ≤ W6.heap.size := Nat.le_trans hB hsx.bel.size
     obtain ⟨b6, hb6⟩ : ∃ b6, b6 = wd wOn ((toks vs).drop r) := ⟨_, rfl⟩
     have con := is_ W6 B (some ad) n c vs (H.out.below hB SX6.out.bel) hB6 HL.out (by omega) r (by omega) wOn
     rw [← hb6] at con
     rw [show str wOn = ByteArray.mk #[111, 110] from rfl] at con
     have Hb6 := Lib.hid hb6
     clear hb6 hsx
     go_wp2_with fail
     refine con.mono ?_
     clear con
     rintro e w8 ⟨rfl, hb8⟩
     have SX8 := Lib.hid (SX6.out.below hB hb8)
     have hB8 : B ≤ w8.heap.size := Nat.le_trans hB SX8.out.bel.size
     clear hb8
     cases b6
     ·have HM9 := Lib.hid (show R = tailR s ((toks vs).drop r) by rw [HK.out]; exact arms_off Hb6.out.symm)
      have con := tail_ w8 B (some ad) n c vs (H.out.below hB SX8.out.bel) hB8 HL.out (by omega) r hr (s.at_ : Int) (str s.name) s.tag s.sends A4 s.send.length c4 A5 s.arms.length c5 s
      obtain ⟨k0, k1, k2, k3, k4, k5, k6, k7, k8⟩ := SX8.out.at_
      go_wp2_with fail
      refine con.mono ?_
      clear con k0 k1 k2 k3 k4 k5 k6 k7 k8
      intro e w9 htl
      cases ht : tailR s ((toks vs).drop r) with
      | error m =>
       rw [ht] at htl
       obtain ⟨hb9, tt, ty, tl, r9, rfl, hr9, hd9⟩ := htl
       have SX9 := Lib.hid (SX8.out.below hB hb9)
       have HE := Lib.hid (show R = .error m by rw [HM9.out, ht])
       have HD := Lib.hid hd9
       clear hb9 hd9 ht
       obtain ⟨r0, r1, r2, r3, r4, r5, r6, r7, r8⟩ := SX9.out.rs
       obtain ⟨l0, l1, l2, l3, l4, l5, l6, l7, l8⟩ := SX9.out.ls
       have HO := Lib.hid (SX9.out.out (a := .int .i64 (s.at_ : Int)) (b := .string (str s.name)) (c := .int .i64 s.tag) (d := .bool s.sends) (e := .slice A4 s.send.length c4) (f := .slice A5 s.arms.length c5) (x := .int .i64 tt) (y := .int .i64 ty) (z := .string tl) hB)
       unfold fw9 at HO
       go_wp2_with fail
       refine bodyPost_ret (v := .tuple #[.agg #[.int .i64 (s.at_ : Int), .string (str s.name), .int .i64 s.tag, .bool s.sends, .slice A4 s.send.length c4, .slice A5 s.arms.length c5, .int .i64 tt, .int .i64 ty, .string tl], .int .i64 (r9 : Int), .bool false]) (results_at3 4 67 5 6 Tryz.results42 ⟨w.heap.size, 0, none⟩ rfl _ _ _ rfl rfl (load_step HO.out.1)) rfl ?_
       refine ⟨HO.out.2.1, ?_⟩
       rw [HE.out]
       exact ⟨_, _, _, _, _, _, _, _, _, _, _, _, _, r9, rfl, hr9, HD.out⟩
      | ok sm =>
       obtain ⟨s', m⟩ := sm
       rw [ht] at htl
       obtain ⟨hb9, r9, rfl, hr9, hd9⟩ := htl
       have SX9 := Lib.hid (SX8.out.below hB hb9)
       have HE := Lib.hid (show R = .ok (s', m) by rw [HM9.out, ht])
       obtain ⟨q1, q2, q3, q4, q5, q6⟩ := kp_tail s _ s' m ht
       have HD := Lib.hid hd9
       have HQ := Lib.hid (show Alike s s' from ⟨q1, q2, q3, q4, q5, q6⟩)
       clear hb9 hd9 ht q1 q2 q3 q4 q5 q6
       obtain ⟨r0, r1, r2, r3, r4, r5, r6, r7, r8⟩ := SX9.out.rs
       obtain ⟨l0, l1, l2, l3, l4, l5, l6, l7, l8⟩ := SX9.out.ls
       have HO := Lib.hid (SX9.out.out (a := .int .i64 (s.at_ : Int)) (b := .string (str s.name)) (c := .int .i64 s.tag) (d := .bool s.sends) (e := .slice A4 s.send.length c4) (f := .slice A5 s.arms.length c5) (x := .int .i64 s'.time) (y := .int .i64 s'.try_) (z := .string (str s'.els)) hB)
       unfold fw9 at HO
       go_wp2_with fail
       refine bodyPost_ret (v := .tuple #[.agg #[.int .i64 (s.at_ : Int), .string (str s.name), .int .i64 s.tag, .bool s.sends, .slice A4 s.send.length c4, .slice A5 s.arms.length c5, .int .i64 s'.time, .int .i64 s'.try_, .string (str s'.els)], .int .i64 (r9 : Int), .bool true]) (results_at3 4 67 5 6 Tryz.results42 ⟨w.heap.size, 0, none⟩ rfl _ _ _ rfl rfl (load_step HO.out.1)) rfl ?_
       refine ⟨HO.out.2.1, ?_⟩
       rw [HE.out]
       obtain ⟨q1, q2, q3, q4, q5, q6⟩ := HQ.out
       refine ⟨A4, c4, A5, c5, r9, avs, ?_, hr9, HD.out, by rw [q5]; exact HO.out.2.2.1, HO.out.2.2.2.1, by rw [q6]; exact SX9.out.am, HO.out.2.2.2.2⟩
       unfold cells9
       rw [q1, q2, q3, q4, q5, q6]
     ·obtain ⟨vo, hvo⟩ := there (c := wd wOn) rfl (Hb6.out.symm)
      have Lvo := (List.getElem?_eq_some_iff.1 hvo).1
      rw [HL.out] at Lvo
      have con := arm_ w8 B (some ad) n c vs (H.out.below hB SX8.out.bel) hB8 HL.out (by omega) r vo hvo
      obtain ⟨f, hf⟩ : ∃ f, 2001 - k = f + 1 := ⟨2000 - k, by omega⟩
      have HM8 := Lib.hid (show R = match armR vo.t.at_ ((toks vs).drop (r + 1)) with
       | .error e => .error e
       | .ok (a, m2) => armsR f { s with arms := s.arms ++ [a] } m2 by rw [HK.out, hf]; exact arms_on hvo Hb6.out.symm)
      have HF := Lib.hid (show f = 2001 - (k + 1) by omega)
      clear hf hvo
      go_wp2_with fail
      refine con.mono ?_
      clear con
      intro e w9 har
      cases ha : armR vo.t.at_ ((toks vs).drop (r + 1)) with
      | error m =>
       rw [ha] at har
       obtain ⟨hb9, a0, a1, n1, c1, a2, a3, r9, rfl, hr9, hd9⟩ := har
       have hb10 : Below w9.heap.size w9 (w9.alloc (.cells #[.int .i64 a0, .slice a1 n1 c1, .string a2, .string a3] 70)) := (Below.refl _ _).alloc (Nat.le_refl _) _
       have SX9 := Lib.hid ((SX8.out.below hB hb9).below hB hb10)
       have HE := Lib.hid (show R = .error m by rw [HM8.out, ha])
       have HD := Lib.hid hd9
       clear hb9 hd9 ha hb10
       obtain ⟨k0, k1, k2, k3, k4, k5, k6, k7, k8⟩ := SX9.out.at_
       obtain ⟨r0, r1, r2, r3, r4, r5, r6, r7, r8⟩ := SX9.out.rs
       obtain ⟨l0, l1, l2, l3, l4, l5, l6, l7, l8⟩ := SX9.out.ls
       have HO := Lib.hid (SX9.out.out (a := .int .i64 (s.at_ : Int)) (b := .string (str s.name)) (c := .int .i64 s.tag) (d := .bool s.sends) (e := .slice A4 s.send.length c4) (f := .slice A5 s.arms.length c5) (x := .int .i64 s.time) (y := .int .i64 s.try_) (z := .string (str s.els)) hB)
       unfold fw9 at HO
       go_wp2_with fail
       refine bodyPost_ret (v := .tuple #[.agg #[.int .i64 (s.at_ : Int), .string (str s.name), .int .i64 s.tag, .bool s.sends, .slice A4 s.send.length c4, .slice A5 s.arms.length c5, .int .i64 s.time, .int .i64 s.try_, .string (str s.els)], .int .i64 (r9 : Int), .bool false]) (results_at3 4 67 5 6 Tryz.results42 ⟨w.heap.size, 0, none⟩ rfl _ _ _ rfl rfl (load_step HO.out.1)) rfl ?_
       refine ⟨HO.out.2.1, ?_⟩
       rw [HE.out]
       exact ⟨_, _, _, _, _, _, _, _, _, _, _, _, _, r9, rfl, hr9, HD.out⟩
      | ok am =>
       obtain ⟨a, m⟩ := am
       rw [ha] at har
       obtain ⟨hb9, A1, c1, r9, rfl, hr9, htx, hd9⟩ := har
       have hless : r < r9 := by
        have h1 := les_arm _ _ _ _ ha
        rw [← hd9, List.length_drop, List.length_drop, show (toks vs).length = n by unfold toks; rw [List.length_map]; exact HL.out] at h1
        omega
       have HM10 := Lib.hid (show R = armsR (2001 - (k + 1)) { s with arms := s.arms ++ [a] } ((toks vs).drop r9) by rw [HM8.out, ha, hd9, ← HF.out])
       have SX9 := Lib.hid (SX8.out.below hB hb9)
       have hB9 : B ≤ w9.heap.size := Nat.le_trans hB SX9.out.bel.size
       have hb10 : Below w9.heap.size w9 ((w9.alloc (.cells #[.int .i64 (a.at_ : Int), .slice A1 a.pat.length c1, .string (str a.as_), .string (str a.go)] 70)).alloc (.cells #[.int .i64 (a.at_ : Int), .slice A1 a.pat.length c1, .string (str a.as_), .string (str a.go)] 70)) := ((Below.refl _ _).alloc (Nat.le_refl _) _).alloc (by simp) _
       have hb11 : Below w9.heap.size w9 (w9.alloc (.cells #[.int .i64 (a.at_ : Int), .slice A1 a.pat.length c1, .string (str a.as_), .string (str a.go)] 70)) := (Below.refl _ _).alloc (Nat.le_refl _) _
       have SX10 := Lib.hid (SX9.out.below hB hb10)
       have k5' := (SX9.out.below hB hb11).x.cell 5
       change _ = some (Value.slice A5 s.arms.length c5) at k5'
       have HTX := Lib.hid ((htx.below hB8 hb9).below hB9 hb10)
       have hc3 := Cel.new (w9.alloc (.cells #[.int .i64 (a.at_ : Int), .slice A1 a.pat.length c1, .string (str a.as_), .string (str a.go)] 70)) 70 [.int .i64 (a.at_ : Int), .slice A1 a.pat.length c1, .string (str a.as_), .string (str a.go)]
       rw [show (w9.alloc (.cells #[.int .i64 (a.at_ : Int), .slice A1 a.pat.length c1, .string (str a.as_), .string (str a.go)] 70)).heap.size = w9.heap.size + 1 by simp] at hc3
       have HSRC := Lib.hid (Ry.src (m := 1) (Ry.of_cel hc3) (by simp))
       have hs10 := SX10.out.bel.size
       clear hb9 hd9 ha hb10 hb11 htx hc3
       go_wp2_with ((at_builtin; refine wpList_append_any _ rfl _ _ 65 rfl w.heap.size 70 rowArm (.slice A5 s.arms.length c5) s.arms.length (aflat avs) rfl SX10.out.own (some ⟨w9.heap.size + 1, 0, none⟩) 1 1 [.int .i64 (a.at_ : Int), .slice A1 a.pat.length c1, .string (str a.as_), .string (str a.go)] rfl rfl HSRC.out (by intro u hu; simp at hu; rcases hu with rfl | rfl | rfl | rfl <;> rfl) (s.arms.length + 1) _ rfl rfl (by unfold maxLen; omega) (by omega) hs10 ?_; intro A8 c8 w11 ho8 hg8 _; obtain ⟨hx11, hsx11⟩ := SX10.out.arm hB (v := ⟨a, A1, c1⟩) HTX.out hg8 ho8; have SX11 := Lib.hid hsx11; have k5'' := hx11.cell 5; have f5'' := hx11.free 5; clear ho8 hg8 hx11 hsx11))
       exact ⟨⟨r9, k + 1, _, A4, c4, A8, c8, _, rfl, by rw [← HL.out]; exact hr9, by omega, by simp; omega, SX11.out, HM10⟩, by simp [intOf]; have := HL.out; omega⟩
   ·obtain ⟨v5, hv5⟩ := there (c := wd wSend) rfl (Hb4.out.symm)
    have Lv5 := (List.getElem?_eq_some_iff.1 hv5).1
    rw [HL.out] at Lv5
    have HM5 := Lib.hid (show R = want (kd 3) (fun t => armsR 2001 { sT with sends := true, send := t.t.text }) ((toks vs).drop (q + 1)) by rw [HM4.out]; exact may_yes hv5 Hb4.out.symm)
    obtain ⟨b5, hb5⟩ : ∃ b5, b5 = kd 3 ((toks vs).drop (q + 1)) := ⟨_, rfl⟩
    have con := kind_ w5 B (some ad) n c vs (H.out.below hB SX5.out.bel) HL.out (by omega) (q + 1) (by omega) 3
    rw [show ((q + 1 : Nat) : Int) = ((q : Int) + 1) by omega, ← hb5] at con
    have Hb5 := Lib.hid hb5
    clear hb5
    go_wp2_with fail
    refine con.mono ?_
    rintro e w' ⟨rfl, rfl⟩
    clear con
    cases b5
    ·have HE := Lib.hid (show R = .error ((toks vs).drop (q + 1)) by rw [HM5.out]; exact want_no Hb5.out.symm)
     obtain ⟨k0, k1, k2, k3, k4, k5, k6, k7, k8⟩ := SX5.out.at_
     obtain ⟨r0, r1, r2, r3, r4, r5, r6, r7, r8⟩ := SX5.out.rs
     obtain ⟨l0, l1, l2, l3, l4, l5, l6, l7, l8⟩ := SX5.out.ls
     have HO := Lib.hid (SX5.out.out (a := .int .i64 (sT.at_ : Int)) (b := .string (str sT.name)) (c := .int .i64 sT.tag) (d := .bool sT.sends) (e := .slice none sT.send.length 0) (f := .slice none sT.arms.length 0) (x := .int .i64 sT.time) (y := .int .i64 sT.try_) (z := .string (str sT.els)) hB)
     unfold fw9 at HO
     go_wp2_with fail
     refine bodyPost_ret (v := .tuple #[.agg #[.int .i64 (sT.at_ : Int), .string (str sT.name), .int .i64 sT.tag, .bool sT.sends, .slice none sT.send.length 0, .slice none sT.arms.length 0, .int .i64 sT.time, .int .i64 sT.try_, .string (str sT.els)], .int .i64 ((q : Int) + 1), .bool false]) (results_at3 4 67 5 6 Tryz.results42 ⟨w.heap.size, 0, none⟩ rfl _ _ _ rfl rfl (load_step HO.out.1)) rfl ?_
     refine ⟨HO.out.2.1, ?_⟩
     rw [HE.out]
     exact ⟨_, _, _, _, _, _, _, _, _, _, _, _, _, q + 1, by rw [show ((q + 1 : Nat) : Int) = ((q : Int) + 1) by omega], by rw [HL.out]; omega, rfl⟩
    ·obtain ⟨v6, hv6⟩ := there (c := kd 3) rfl (Hb5.out.symm)
     have Lv6 := (List.getElem?_eq_some_iff.1 hv6).1
     rw [HL.out] at Lv6
     have k3' := SX5.out.x.cell 3
     have f3' := SX5.out.x.free 3
     obtain ⟨w6, hw6⟩ : ∃ w6, w6 = w5.setCell ⟨w.heap.size + 1, 3, none⟩ (.bool true) := ⟨_, rfl⟩
     have SXA := Lib.hid (show Sx w w6 B { sT with sends := true } none 0 none 0 [] by rw [hw6]; exact SX5.out.sends hB)
     obtain ⟨ad', had, _, _, _, j3⟩ := (H.out.below hB SXA.out.bel).at_ hv6
     cases had
     have k4' := SXA.out.x.cell 4
     have f4' := SXA.out.x.free 4
     have TX6 := Lib.hid ((H.out.tx v6 (List.mem_of_getElem? hv6)).below hB SXA.out.bel)
     obtain ⟨w7, hw7⟩ : ∃ w7, w7 = w6.setCell ⟨w.heap.size + 1, 4, none⟩ (.slice v6.A v6.t.t.text.length v6.c) := ⟨_, rfl⟩
     have SXB := Lib.hid (show Sx w w7 B { sT with sends := true, send := v6.t.t.text } v6.A v6.c none 0 [] by rw [hw7]; exact SXA.out.send_ hB _ _ _ TX6.out (HCPS.out v6 (List.mem_of_getElem? hv6)))
     have HM6 := Lib.hid (show R = armsR (2001 - 0) { sT with sends := true, send := v6.t.t.text } ((toks vs).drop (q + 1 + 1)) by rw [HM5.out]; exact want_yes hv6 Hb5.out.symm)
     rw [hw6] at j3 k4' f4' hw7
     go_wp2_with fail
     try rw [← hw7]
     go_loopw [1] (fun v1 wr => ∃ (r k : Nat) (s : Step) (A4 : Option Addr) (c4 : Nat) (A5 : Option Addr) (c5 : Nat) (avs : List Av), v1 = .int .i64 (r : Int) ∧ r ≤ n ∧ k ≤ r ∧ s.arms.length ≤ k ∧ Sx w wr B s A4 c4 A5 c5 avs ∧ Hid (R = armsR (2001 - k) s ((toks vs).drop r))) (fun v1 _ => n - (intOf v1).toNat)
     case atStart => exact ⟨q + 1 + 1, 0, { sT with sends := true, send := v6.t.t.text }, v6.A, v6.c, none, 0, [], by rw [show ((q + 1 + 1 : Nat) : Int) = ((q : Int) + 1 + 1) by omega], by omega, Nat.zero_le _, by show sT.arms.length ≤ 0; rw [HAT.out]; exact Nat.le_refl _, SXB.out, HM6⟩
     case round =>
      obtain ⟨r, k, s, A4, c4, A5, c5, avs, rfl, hr, hkr, hsk, hsx, HK⟩ := hrel
      obtain ⟨W6, hW6⟩ : ∃ W6, W6 = wr := ⟨_, rfl⟩
      rw [← hW6] at hsx ⊢
      clear hW6
      have SX6 := Lib.hid hsx
      have hB6 : B ≤ W6.heap.size := Nat.le_trans hB hsx.bel.size
      obtain ⟨b6, hb6⟩ : ∃ b6, b6 = wd wOn ((toks vs).drop r) := ⟨_, rfl⟩
      have con := is_ W6 B (some ad) n c vs (H.out.below hB SX6.out.bel) hB6 HL.out (by omega) r (by omega) wOn
      rw [← hb6] at con
      rw [show str wOn = ByteArray.mk #[111, 110] from rfl] at con
      have Hb6 := Lib.hid hb6
      clear hb6 hsx
      go_wp2_with fail
      refine con.mono ?_
      clear con
      rintro e w8 ⟨rfl, hb8⟩
      have SX8 := Lib.hid (SX6.out.below hB hb8)
      have hB8 : B ≤ w8.heap.size := Nat.le_trans hB SX8.out.bel.size
      clear hb8
      cases b6
      ·have HM9 := Lib.hid (show R = tailR s ((toks vs).drop r) by rw [HK.out]; exact arms_off Hb6.out.symm)
       have con := tail_ w8 B (some ad) n c vs (H.out.below hB SX8.out.bel) hB8 HL.out (by omega) r hr (s.at_ : Int) (str s.name) s.tag s.sends A4 s.send.length c4 A5 s.arms.length c5 s
       obtain ⟨k0, k1, k2, k3, k4, k5, k6, k7, k8⟩ := SX8.out.at_
       go_wp2_with fail
       refine con.mono ?_
       clear con k0 k1 k2 k3 k4 k5 k6 k7 k8
       intro e w9 htl
       cases ht : tailR s ((toks vs).drop r) with
       | error m =>
        rw [ht] at htl
        obtain ⟨hb9, tt, ty, tl, r9, rfl, hr9, hd9⟩ := htl
        have SX9 := Lib.hid (SX8.out.below hB hb9)
        have HE := Lib.hid (show R = .error m by rw [HM9.out, ht])
        have HD := Lib.hid hd9
        clear hb9 hd9 ht
        obtain ⟨r0, r1, r2, r3, r4, r5, r6, r7, r8⟩ := SX9.out.rs
        obtain ⟨l0, l1, l2, l3, l4, l5, l6, l7, l8⟩ := SX9.out.ls
        have HO := Lib.hid (SX9.out.out (a := .int .i64 (s.at_ : Int)) (b := .string (str s.name)) (c := .int .i64 s.tag) (d := .bool s.sends) (e := .slice A4 s.send.length c4) (f := .slice A5 s.arms.length c5) (x := .int .i64 tt) (y := .int .i64 ty) (z := .string tl) hB)
        unfold fw9 at HO
        go_wp2_with fail
        refine bodyPost_ret (v := .tuple #[.agg #[.int .i64 (s.at_ : Int), .string (str s.name), .int .i64 s.tag, .bool s.sends, .slice A4 s.send.length c4, .slice A5 s.arms.length c5, .int .i64 tt, .int .i64 ty, .string tl], .int .i64 (r9 : Int), .bool false]) (results_at3 4 67 5 6 Tryz.results42 ⟨w.heap.size, 0, none⟩ rfl _ _ _ rfl rfl (load_step HO.out.1)) rfl ?_
        refine ⟨HO.out.2.1, ?_⟩
        rw [HE.out]
        exact ⟨_, _, _, _, _, _, _, _, _, _, _, _, _, r9, rfl, hr9, HD.out⟩
       | ok sm =>
        obtain ⟨s', m⟩ := sm
        rw [ht] at htl
        obtain ⟨hb9, r9, rfl, hr9, hd9⟩ := htl
        have SX9 := Lib.hid (SX8.out.below hB hb9)
        have HE := Lib.hid (show R = .ok (s', m) by rw [HM9.out, ht])
        obtain ⟨q1, q2, q3, q4, q5, q6⟩ := kp_tail s _ s' m ht
        have HD := Lib.hid hd9
        have HQ := Lib.hid (show Alike s s' from ⟨q1, q2, q3, q4, q5, q6⟩)
        clear hb9 hd9 ht q1 q2 q3 q4 q5 q6
        obtain ⟨r0, r1, r2, r3, r4, r5, r6, r7, r8⟩ := SX9.out.rs
        obtain ⟨l0, l1, l2, l3, l4, l5, l6, l7, l8⟩ := SX9.out.ls
        have HO := Lib.hid (SX9.out.out (a := .int .i64 (s.at_ : Int)) (b := .string (str s.name)) (c := .int .i64 s.tag) (d := .bool s.sends) (e := .slice A4 s.send.length c4) (f := .slice A5 s.arms.length c5) (x := .int .i64 s'.time) (y := .int .i64 s'.try_) (z := .string (str s'.els)) hB)
        unfold fw9 at HO
        go_wp2_with fail
        refine bodyPost_ret (v := .tuple #[.agg #[.int .i64 (s.at_ : Int), .string (str s.name), .int .i64 s.tag, .bool s.sends, .slice A4 s.send.length c4, .slice A5 s.arms.length c5, .int .i64 s'.time, .int .i64 s'.try_, .string (str s'.els)], .int .i64 (r9 : Int), .bool true]) (results_at3 4 67 5 6 Tryz.results42 ⟨w.heap.size, 0, none⟩ rfl _ _ _ rfl rfl (load_step HO.out.1)) rfl ?_
        refine ⟨HO.out.2.1, ?_⟩
        rw [HE.out]
        obtain ⟨q1, q2, q3, q4, q5, q6⟩ := HQ.out
        refine ⟨A4, c4, A5, c5, r9, avs, ?_, hr9, HD.out, by rw [q5]; exact HO.out.2.2.1, HO.out.2.2.2.1, by rw [q6]; exact SX9.out.am, HO.out.2.2.2.2⟩
        unfold cells9
        rw [q1, q2, q3, q4, q5, q6]
      ·obtain ⟨vo, hvo⟩ := there (c := wd wOn) rfl (Hb6.out.symm)
       have Lvo := (List.getElem?_eq_some_iff.1 hvo).1
       rw [HL.out] at Lvo
       have con := arm_ w8 B (some ad) n c vs (H.out.below hB SX8.out.bel) hB8 HL.out (by omega) r vo hvo
       obtain ⟨f, hf⟩ : ∃ f, 2001 - k = f + 1 := ⟨2000 - k, by omega⟩
       have HM8 := Lib.hid (show R = match armR vo.t.at_ ((toks vs).drop (r + 1)) with
        | .error e => .error e
        | .ok (a, m2) => armsR f { s with arms := s.arms ++ [a] } m2 by rw [HK.out, hf]; exact arms_on hvo Hb6.out.symm)
       have HF := Lib.hid (show f = 2001 - (k + 1) by omega)
       clear hf hvo
       go_wp2_with fail
       refine con.mono ?_
       clear con
       intro e w9 har
       cases ha : armR vo.t.at_ ((toks vs).drop (r + 1)) with
       | error m =>
        rw [ha] at har
        obtain ⟨hb9, a0, a1, n1, c1, a2, a3, r9, rfl, hr9, hd9⟩ := har
        have hb10 : Below w9.heap.size w9 (w9.alloc (.cells #[.int .i64 a0, .slice a1 n1 c1, .string a2, .string a3] 70)) := (Below.refl _ _).alloc (Nat.le_refl _) _
        have SX9 := Lib.hid ((SX8.out.below hB hb9).below hB hb10)
        have HE := Lib.hid (show R = .error m by rw [HM8.out, ha])
        have HD := Lib.hid hd9
        clear hb9 hd9 ha hb10
        obtain ⟨k0, k1, k2, k3, k4, k5, k6, k7, k8⟩ := SX9.out.at_
        obtain ⟨r0, r1, r2, r3, r4, r5, r6, r7, r8⟩ := SX9.out.rs
        obtain ⟨l0, l1, l2, l3, l4, l5, l6, l7, l8⟩ := SX9.out.ls
        have HO := Lib.hid (SX9.out.out (a := .int .i64 (s.at_ : Int)) (b := .string (str s.name)) (c := .int .i64 s.tag) (d := .bool s.sends) (e := .slice A4 s.send.length c4) (f := .slice A5 s.arms.length c5) (x := .int .i64 s.time) (y := .int .i64 s.try_) (z := .string (str s.els)) hB)
        unfold fw9 at HO
        go_wp2_with fail
        refine bodyPost_ret (v := .tuple #[.agg #[.int .i64 (s.at_ : Int), .string (str s.name), .int .i64 s.tag, .bool s.sends, .slice A4 s.send.length c4, .slice A5 s.arms.length c5, .int .i64 s.time, .int .i64 s.try_, .string (str s.els)], .int .i64 (r9 : Int), .bool false]) (results_at3 4 67 5 6 Tryz.results42 ⟨w.heap.size, 0, none⟩ rfl _ _ _ rfl rfl (load_step HO.out.1)) rfl ?_
        refine ⟨HO.out.2.1, ?_⟩
        rw [HE.out]
        exact ⟨_, _, _, _, _, _, _, _, _, _, _, _, _, r9, rfl, hr9, HD.out⟩
       | ok am =>
        obtain ⟨a, m⟩ := am
        rw [ha] at har
        obtain ⟨hb9, A1, c1, r9, rfl, hr9, htx, hd9⟩ := har
        have hless : r < r9 := by
         have h1 := les_arm _ _ _ _ ha
         rw [← hd9, List.length_drop, List.length_drop, show (toks vs).length = n by unfold toks; rw [List.length_map]; exact HL.out] at h1
         omega
        have HM10 := Lib.hid (show R = armsR (2001 - (k + 1)) { s with arms := s.arms ++ [a] } ((toks vs).drop r9) by rw [HM8.out, ha, hd9, ← HF.out])
        have SX9 := Lib.hid (SX8.out.below hB hb9)
        have hB9 : B ≤ w9.heap.size := Nat.le_trans hB SX9.out.bel.size
        have hb10 : Below w9.heap.size w9 ((w9.alloc (.cells #[.int .i64 (a.at_ : Int), .slice A1 a.pat.length c1, .string (str a.as_), .string (str a.go)] 70)).alloc (.cells #[.int .i64 (a.at_ : Int), .slice A1 a.pat.length c1, .string (str a.as_), .string (str a.go)] 70)) := ((Below.refl _ _).alloc (Nat.le_refl _) _).alloc (by simp) _
        have hb11 : Below w9.heap.size w9 (w9.alloc (.cells #[.int .i64 (a.at_ : Int), .slice A1 a.pat.length c1, .string (str a.as_), .string (str a.go)] 70)) := (Below.refl _ _).alloc (Nat.le_refl _) _
        have SX10 := Lib.hid (SX9.out.below hB hb10)
        have k5' := (SX9.out.below hB hb11).x.cell 5
        change _ = some (Value.slice A5 s.arms.length c5) at k5'
        have HTX := Lib.hid ((htx.below hB8 hb9).below hB9 hb10)
        have hc3 := Cel.new (w9.alloc (.cells #[.int .i64 (a.at_ : Int), .slice A1 a.pat.length c1, .string (str a.as_), .string (str a.go)] 70)) 70 [.int .i64 (a.at_ : Int), .slice A1 a.pat.length c1, .string (str a.as_), .string (str a.go)]
        rw [show (w9.alloc (.cells #[.int .i64 (a.at_ : Int), .slice A1 a.pat.length c1, .string (str a.as_), .string (str a.go)] 70)).heap.size = w9.heap.size + 1 by simp] at hc3
        have HSRC := Lib.hid (Ry.src (m := 1) (Ry.of_cel hc3) (by simp))
        have hs10 := SX10.out.bel.size
        clear hb9 hd9 ha hb10 hb11 htx hc3
        go_wp2_with ((at_builtin; refine wpList_append_any _ rfl _ _ 65 rfl w.heap.size 70 rowArm (.slice A5 s.arms.length c5) s.arms.length (aflat avs) rfl SX10.out.own (some ⟨w9.heap.size + 1, 0, none⟩) 1 1 [.int .i64 (a.at_ : Int), .slice A1 a.pat.length c1, .string (str a.as_), .string (str a.go)] rfl rfl HSRC.out (by intro u hu; simp at hu; rcases hu with rfl | rfl | rfl | rfl <;> rfl) (s.arms.length + 1) _ rfl rfl (by unfold maxLen; omega) (by omega) hs10 ?_; intro A8 c8 w11 ho8 hg8 _; obtain ⟨hx11, hsx11⟩ := SX10.out.arm hB (v := ⟨a, A1, c1⟩) HTX.out hg8 ho8; have SX11 := Lib.hid hsx11; have k5'' := hx11.cell 5; have f5'' := hx11.free 5; clear ho8 hg8 hx11 hsx11))
        exact ⟨⟨r9, k + 1, _, A4, c4, A8, c8, _, rfl, by rw [← HL.out]; exact hr9, by omega, by simp; omega, SX11.out, HM10⟩, by simp [intOf]; have := HL.out; omega⟩
end Go.Proofs.YteohlpmojfjjdaaGreat.Book
