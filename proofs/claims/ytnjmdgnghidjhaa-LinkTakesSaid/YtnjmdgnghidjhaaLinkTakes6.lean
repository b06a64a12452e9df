/-
Texts: PeerPfeed LinkPcells
-/
import Derived.Test.YtnjmdgnghidjhaaLinkTakes0
import Derived.Test.YtnjmdgnghidjhaaLinkTakes1
import Derived.Test.YtnjmdgnghidjhaaLinkTakes2
import Derived.Test.YtnjmdgnghidjhaaLinkTakes4
import Derived.Test.YtnjmdgnghidjhaaLinkTakes5
set_option linter.unusedVariables false
set_option linter.unusedSimpArgs false
set_option maxRecDepth 100000
set_option maxHeartbeats 4000000
namespace Go.Proofs.Ytnjmdgnghidjhaa.Ord
end Go.Proofs.Ytnjmdgnghidjhaa.Ord
section
namespace Go.Proofs.Ytnjmdgnghidjhaa.Peer
open Go.RowKit Go.Proofs.Ytnjmdgnghidjhaa.Ord
open Lex (Tx fw4 fw4_cel fw4_frm)
open Rec (Vt Tvs Trow txt)
theorem Fd.device {w : World} {K g T nR cR : Nat} {AR : Option Addr} {p : Pe} {f : Fv} (h : Fd w K g AR nR cR p f) : Dok w T ⟨p.state, p.part, p.log, f.us, f.PA, f.pc, f.LA, f.lc, f.A, f.c⟩ := by
 have hl : f.us.length = p.lines.length := by rw [← h.tx]; unfold txt; rw [List.length_map]
 refine ⟨.inr (By.of_own h.pt), .inr (By.of_own h.lg), ⟨fun i u hi => ?_, fun u hu => ⟨.inr ?_, ?_⟩⟩, Rec.trow_own h.ls⟩
 ·have hlt := (List.getElem?_eq_some_iff.1 hi).1
  obtain ⟨q, cap, hv, _, _⟩ := h.ls.form (by have h1 : i < f.us.length := hlt; omega)
  have hA : f.A = some ⟨q, 0, none⟩ := by injection hv
  refine ⟨_, hA, ?_⟩
  have ho := h.ls
  rw [hA] at ho
  exact ho.cells (g := q) rfl i _ (by rw [List.getElem?_map, hi]; rfl)
 ·refine ⟨rfl, fun hn => ?_⟩
  obtain ⟨ad, e, ⟨_, _, _, cs, fz, d⟩, hc⟩ := (h.by_ u hu).1.2 hn
  exact ⟨ad, e, ⟨cs, fz, d⟩, hc⟩
 ·have := (h.by_ u hu).2
  unfold maxLen
  omega
def Rown (w : World) (K : Nat) (v : Dvm) : Prop := Bp w (Bq w K none none) v.PA v.pt.length v.pt ∧ ∀ u ∈ v.ls, Bp w (Bq w K none none) u.A u.t.length u.t ∧ u.t.length ≤ 400
theorem bq_more {w : World} {K K' n : Nat} {PA LA A : Option Addr} {bs : List B} (h : Bp w (Bq w K PA LA) A n bs) (hK : K' ≤ K) : Bp w (Bq w K' none none) A n bs := ⟨h.1, fun hn => by
 obtain ⟨ad, e, ⟨h1, _, _, h4⟩, hc⟩ := h.2 hn
 exact ⟨ad, e, (show Bq w K' none none ad.block from ⟨Nat.le_trans hK h1, fun e => (by cases e), fun e => (by cases e), h4⟩), hc⟩⟩
theorem bq_keep {w w' : World} {K n : Nat} {A : Option Addr} {bs : List B} (h : Bp w (Bq w K none none) A n bs) (hk : ∀ q cs fz, w.heap[q]? = some (Obj.cells cs 5 fz) → K ≤ q → w'.heap[q]? = w.heap[q]?) : Bp w' (Bq w' K none none) A n bs :=
 by_keep h (fun q cs fz e hK _ _ => hk q cs fz e hK) (fun q e => (by cases e)) (fun q e => (by cases e))
theorem Rown.keep {w w' : World} {K : Nat} {v : Dvm} (h : Rown w K v) (hk : ∀ q cs fz, w.heap[q]? = some (Obj.cells cs 5 fz) → K ≤ q → w'.heap[q]? = w.heap[q]?) : Rown w' K v := ⟨bq_keep h.1 hk, fun u hu => ⟨bq_keep (h.2 u hu).1 hk, (h.2 u hu).2⟩⟩
theorem Fd.rown {w : World} {K K' g nR cR : Nat} {AR : Option Addr} {p : Pe} {f : Fv} (h : Fd w K g AR nR cR p f) (hK : K' ≤ K) : Rown w K' ⟨p.state, p.part, p.log, f.us, f.PA, f.pc, f.LA, f.lc, f.A, f.c⟩ :=
 ⟨bq_more (own_bq h.pt) hK, fun u hu => ⟨bq_more (h.by_ u hu).1 hK, (h.by_ u hu).2⟩⟩
def PwSays (w : World) (T : Nat) (p : Pe) (e : Ending) (w' : World) : Prop := ∃ v : Dvm, e = .returned (.agg v.cells.toArray) ∧ Below w.heap.size w w' ∧ Dok w' T v ∧ v.m = p ∧ Rown w' w.heap.size v
theorem pfeed_own : ∀ (w : World) (T : Nat), T ≤ w.heap.size → ∀ (AR : Option Addr) (n c : Nat) (vs : List Rl), Rls w T AR vs → Rfew vs n → ∀ v : Dvm, Dok w T v → Dfew v → ∀ (D : Nat) (AB : Option Addr) (m cb : Nat) (bs : List B), Bs w D AB m bs → D ≤ w.heap.size → m ≤ cb → m ≤ 1000 →
  Calls Try.prog 29 #[.slice AR n c, .agg v.cells.toArray, .slice AB m cb] w (PwSays w T (feedR (vs.map (·.r)) v.m bs)) := by
 intro w T hT AR n c vs hr hf v hv hd D AB m cb bs hb hD hmc hm
 obtain ⟨s, pt, lg, us, PA, pc, LA, lc, AL, cL⟩ := v
 have hN : (⟨s, pt, lg, us, PA, pc, LA, lc, AL, cL⟩ : Dvm).m = ⟨s, pt, lg, txt us⟩ := rfl
 obtain ⟨w1, hw1⟩ : ∃ w1, w1 = (w.alloc (.cells #[.int .i64 s, .slice PA pt.length pc, .slice LA lg.length lc, .slice AL us.length cL] 49)).alloc (.cells #[.int .i64 0, .slice none 0 0, .slice none 0 0, .slice none 0 0] 49) := ⟨_, rfl⟩
 have hs1 : w1.heap.size = w.heap.size + 1 + 1 := by rw [hw1]; simp
 have hb1 : Below w.heap.size w w1 := by rw [hw1]; exact ((Below.refl _ _).alloc (Nat.le_refl _) _).alloc (by simp) _
 have hcr : Cel w1 (w.heap.size + 1) 49 [.int .i64 0, .slice none 0 0, .slice none 0 0, .slice none 0 0] := by
  rw [hw1]
  exact (by simpa using Cel.new (w.alloc (.cells #[.int .i64 s, .slice PA pt.length pc, .slice LA lg.length lc, .slice AL us.length cL] 49)) 49 [.int .i64 0, .slice none 0 0, .slice none 0 0, .slice none 0 0] : Cel _ (w.heap.size + 1) _ _)
 have hT1 : T ≤ w1.heap.size := Nat.le_trans hT hb1.size
 have con := copied_ w1 T hT1 ⟨s, pt, lg, us, PA, pc, LA, lc, AL, cL⟩ (hv.below hT hb1) hd
 have hp0 : Cel w1 w.heap.size 49 [.int .i64 s, .slice PA pt.length pc, .slice LA lg.length lc, .slice AL us.length cL] := by rw [hw1]; exact (Cel.new w _ _).alloc _
 have k0 := hp0.cell 0
 have k1 := hp0.cell 1
 have k2 := hp0.cell 2
 have k3 := hp0.cell 3
 unfold Dvm.cells Dvm.m at con
 unfold Dvm.cells
 rw [hN]
 dsimp only at con ⊢
 have HR := Lib.hid (show ∀ V, Below w1.heap.size w1 V → Rls V T AR vs from fun V h => hr.below hT (hb1.trans (h.mono hb1.size)))
 have HBS := Lib.hid (show ∀ V, Below w1.heap.size w1 V → Bs V D AB m bs from fun V h => (hb.below (hb1.mono hD)).below (h.mono (Nat.le_trans hD hb1.size)))
 have HFEW := Lib.hid hf
 have HBL := Lib.hid (show bs.length = m from hb.len)
 have HSZ := Lib.hid (show ∀ i, (feedR (vs.map (·.r)) ⟨s, pt, lg, txt us⟩ (bs.take i)).part.length ≤ 400 ∧ (feedR (vs.map (·.r)) ⟨s, pt, lg, txt us⟩ (bs.take i)).log.length ≤ 10000000 ∧ (feedR (vs.map (·.r)) ⟨s, pt, lg, txt us⟩ (bs.take i)).lines.length ≤ 1000000 from fun i => by
  obtain ⟨q1, q2, q3, _⟩ := feed_dfew hf (p := ⟨s, pt, lg, txt us⟩) hd.1 (bs.take i) (fun l hl => by
   obtain ⟨u, hu, rfl⟩ := List.mem_map.1 hl
   exact hd.2.2.2 u hu)
  have h1 : (bs.take i).length ≤ 1000 := by rw [List.length_take, hb.len]; omega
  have h2 := hd.2.1
  have h3 := hd.2.2.1
  have h4 : (txt us).length = us.length := by unfold txt; rw [List.length_map]
  dsimp only at h2 h3 q2 q3
  rw [h4] at q3
  exact ⟨q1, by omega, by omega⟩)
 have HB1 := Lib.hid hb1
 have HCR := Lib.hid hcr
 have HS1 := Lib.hid hs1
 have HWE := Lib.hid hw1
 obtain ⟨rs, hrs⟩ : ∃ rs, rs = vs.map (·.r) := ⟨_, rfl⟩
 rw [← hrs] at HSZ ⊢
 have HRS := Lib.hid hrs
 obtain ⟨K, hKd⟩ : ∃ K, K = w1.heap.size := ⟨_, rfl⟩
 have HK := Lib.hid hKd
 rw [← hKd] at con hT1
 clear hr hf hv hd hb hs1 hb1 hcr hp0 hrs hN hKd
 go_enter Try.func29, Try.ntmps29
 go_upto_region 1 with fail
 rw [← hw1]
 clear hw1
 go_wp2_with fail
 refine con.mono ?_
 clear con k0 k1 k2 k3
 rintro e w2 ⟨f, rfl, hb2, hrow⟩
 rw [HK.out] at hb2
 obtain ⟨W, hW⟩ : ∃ W, W = w2.alloc (.cells #[.int .i64 s, .slice f.PA pt.length f.pc, .slice f.LA lg.length f.lc, .slice f.A us.length f.c, .slice AR n c] 72) := ⟨_, rfl⟩
 have hbW : Below w2.heap.size w2 W := by rw [hW]; exact (Below.refl _ _).alloc (Nat.le_refl _) _
 obtain ⟨g, hg⟩ : ∃ g, g = w2.heap.size := ⟨_, rfl⟩
 have hcW : Cel W g 72 (fcells ⟨s, pt, lg, txt us⟩ f AR n c) := by
  rw [hW, hg]
  unfold fcells
  dsimp only
  have h4 : (txt us).length = us.length := by unfold txt; rw [List.length_map]
  rw [h4]
  exact Cel.new w2 _ _
 have HF0 := Lib.hid (hrow.fd hbW hcW)
 have HB2 := Lib.hid (hb2.trans (hbW.mono hb2.size))
 have HG := Lib.hid hg
 have HKg := Lib.hid (show K ≤ g by rw [HK.out, hg]; exact hb2.size)
 have HWW := Lib.hid hW
 clear hrow hbW hcW hb2 hW hg
 go_wp2_with fail
 rw [← HG.out, ← HWW.out]
 clear HG HWW
 go_loopw [16] (fun v16 wr => ∃ (i : Nat) (p1 : Pe) (f1 : Fv), i ≤ m ∧ v16 = .int .i64 (i : Int) ∧ Below w1.heap.size w1 wr ∧ Hid (Fd wr K g AR n c p1 f1) ∧ Hid (p1 = feedR rs ⟨s, pt, lg, txt us⟩ (bs.take i))) (fun v16 _ => m - (intOf v16).toNat)
 case atStart => exact ⟨0, _, f, Nat.zero_le _, rfl, HB2.out, HF0, Lib.hid rfl⟩
 case round =>
  clear HF0 HB2
  obtain ⟨i, p1, f1, hi, rfl, hb, HF, HP⟩ := hrel
  obtain ⟨V1, hV1⟩ : ∃ V1, V1 = wr := ⟨_, rfl⟩
  rw [← hV1] at hb HF ⊢
  clear hV1
  have HBW := Lib.hid hb
  rcases Nat.lt_or_ge i m with hlt | hge
  ·obtain ⟨x, hx⟩ : ∃ x, bs[i]? = some x := ⟨_, List.getElem?_eq_getElem (by rw [HBL.out]; exact hlt)⟩
   obtain ⟨bd, rfl, _, b0⟩ := (HBS.out V1 hb).at_ hlt
   rw [List.getD_eq_getElem?_getD, hx] at b0
   change _ = some (v8 x) at b0
   have HN := Lib.hid (show feedR rs ⟨s, pt, lg, txt us⟩ (bs.take (i + 1)) = byteR rs p1 x by rw [feed_take rs _ hx, HP.out])
   have hsz := HSZ.out i
   rw [← HP.out] at hsz
   have con := receive_ V1 K g T AR n c vs (fun V h => HR.out V (hb.trans (by rw [← HK.out]; exact h))) hT1 (by rw [HK.out]; exact hb.size) HKg.out HFEW.out.1 (by have := HFEW.out.2.1; omega) p1 f1 HF.out ⟨hsz.2.1, fun v hv => by have := (HFEW.out.2.2 v hv).2; omega, hsz.1, hsz.2.2⟩ x
   rw [← HRS.out] at con
   clear hb hx hsz
   go_wp2_with fail
   refine con.mono ?_
   clear con b0
   rintro e V2 ⟨rfl, hb3, f2, hf2⟩
   rw [HK.out] at hb3
   have HF2 := Lib.hid hf2
   have HB3 := Lib.hid (HBW.out.trans hb3)
   clear hf2 hb3
   go_wp2_with fail
   exact ⟨⟨i + 1, _, f2, hlt, by rw [show ((i + 1 : Nat) : Int) = (i : Int) + 1 by omega], HB3.out, HF2, Lib.hid HN.out.symm⟩, by simp [intOf]; omega⟩
  ·obtain rfl : i = m := by omega
   have hcg := HF.out.cel
   unfold fcells at hcg
   have k0 := hcg.cell 0
   have k1 := hcg.cell 1
   have k2 := hcg.cell 2
   have k3 := hcg.cell 3
   have hcr : Cel V1 (w.heap.size + 1) 49 [.int .i64 0, .slice none 0 0, .slice none 0 0, .slice none 0 0] := HCR.out.below hb (by rw [HS1.out]; omega)
   have r0 := hcr.cell 0
   have r1 := hcr.cell 1
   have r2 := hcr.cell 2
   have r3 := hcr.cell 3
   have g0 := hcr.free 0
   have g1 := hcr.free 1
   have g2 := hcr.free 2
   have g3 := hcr.free 3
   have HX := Lib.hid (fw4_cel (a := .int .i64 p1.state) (b := .slice f1.PA p1.part.length f1.pc) (c := .slice f1.LA p1.log.length f1.lc) (d := .slice f1.A p1.lines.length f1.c) hcr)
   have HFR := Lib.hid (fw4_frm V1 (w.heap.size + 1) (.int .i64 p1.state) (.slice f1.PA p1.part.length f1.pc) (.slice f1.LA p1.log.length f1.lc) (.slice f1.A p1.lines.length f1.c))
   have HCV := Lib.hid hcr
   unfold fw4 at HX HFR
   clear hcg hcr hb
   go_wp2_with fail
   refine bodyPost_ret (v := .agg #[.int .i64 p1.state, .slice f1.PA p1.part.length f1.pc, .slice f1.LA p1.log.length f1.lc, .slice f1.A p1.lines.length f1.c]) (results_atP 6 49 Try.results29 ⟨w.heap.size + 1, 0, none⟩ rfl _ (load_pr HX.out)) rfl ?_
   have hll : f1.us.length = p1.lines.length := by have := HF.out.tx; rw [← this]; unfold txt; rw [List.length_map]
   have hdv : Dok V1 T ⟨p1.state, p1.part, p1.log, f1.us, f1.PA, f1.pc, f1.LA, f1.lc, f1.A, f1.c⟩ := HF.out.device
   have hT2 : T ≤ w.heap.size + 1 := by omega
   refine ⟨⟨p1.state, p1.part, p1.log, f1.us, f1.PA, f1.pc, f1.LA, f1.lc, f1.A, f1.c⟩, ?_, ?_, hdv.frm ?_ HFR.out hT2 HCV.out (by decide) (by decide), ?_, (HF.out.rown (by rw [HK.out, HS1.out]; omega)).keep fun q cs fz e _ => HFR.out.block q (Array.getElem?_eq_some_iff.1 e).1 (fun hm => ?_)⟩
   ·unfold Dvm.cells
    dsimp only
    rw [hll]
   ·have h1 : Below w.heap.size w V1 := HB1.out.trans (HBW.out.mono HB1.out.size)
    exact h1.trans (HFR.out.below h1.size (by simp))
   ·exact Nat.le_trans hT (HB1.out.trans (HBW.out.mono HB1.out.size)).size
   ·unfold Dvm.m
    dsimp only
    rw [HF.out.tx]
    have h2 := HP.out
    rw [← HBL.out, List.take_length] at h2
    rw [← h2]
   ·rw [List.mem_singleton.1 hm] at e
    exact HCV.out.not_ty (by decide) cs fz e
theorem pfeed_ : PFeed := fun w T hT AR n c vs hr hf v hv hd D AB m cb bs hb hD hmc hm => (pfeed_own w T hT AR n c vs hr hf v hv hd D AB m cb bs hb hD hmc hm).mono fun e w' ⟨v', h1, h2, h3, h4, _⟩ => ⟨v', h1, h2, h3, h4⟩
end Go.Proofs.Ytnjmdgnghidjhaa.Peer
end
section
namespace Go.Proofs.Ytnjmdgnghidjhaa.Peer
open Go.RowKit Go.Proofs.Ytnjmdgnghidjhaa.Ord
open Lex (Tx)
open Rec (Vt Tvs Trow txt)
theorem feed_shift (rs : List Ru) (lg : List B) (ls : List (List B)) : ∀ (bs : List B) (p : Pe), feedR rs ⟨p.state, p.part, lg ++ p.log, ls ++ p.lines⟩ bs = ⟨(feedR rs p bs).state, (feedR rs p bs).part, lg ++ (feedR rs p bs).log, ls ++ (feedR rs p bs).lines⟩
 | [], p => rfl
 | c :: bs, p => by
  rw [feed_cons, feed_cons, ← feed_shift rs lg ls bs (byteR rs p c)]
  congr 1
  unfold byteR
  dsimp only
  split
  ·unfold lineR
   dsimp only
   cases meets rs p.state p.part with
   | none => simp
   | some r => simp
  ·split
   ·rfl
   ·split <;> rfl
theorem feed_off (rs : List Ru) (p : Pe) (bs : List B) : feedR rs p bs = ⟨(feedR rs ⟨p.state, p.part, [], []⟩ bs).state, (feedR rs ⟨p.state, p.part, [], []⟩ bs).part, p.log ++ (feedR rs ⟨p.state, p.part, [], []⟩ bs).log, p.lines ++ (feedR rs ⟨p.state, p.part, [], []⟩ bs).lines⟩ := by
 have := feed_shift rs p.log p.lines bs ⟨p.state, p.part, [], []⟩
 simpa using this
theorem own_is {w : World} {base e size n : Nat} {v : Value} {xs : List Value} (h : w.ownsRow base e size v n xs) : ∀ g, v.ownBlock = some g → ∃ cs, w.heap[g]? = some (Obj.cells cs e (0, 0)) := fun g hg => by
 rcases h.2 with ⟨rfl, _⟩ | ⟨g', cap, cur, rfl, _, hb, _⟩
 ·simp [Value.ownBlock] at hg
 ·obtain rfl : g' = g := by simpa [Value.ownBlock] using hg
  exact ⟨cur, hb⟩
def lcells (p : Pe) (f : Fv) (AR : Option Addr) (nR cR : Nat) (a : Int) : List Value := [.int .i64 p.state, .slice f.PA p.part.length f.pc, .slice f.LA p.log.length f.lc, .slice f.A p.lines.length f.c, .slice AR nR cR, .int .i64 a]
structure Plr (w : World) (K : Nat) (AR : Option Addr) (nR : Nat) (vs : List Rl) (p : Pe) (f : Fv) (xs : List Vt) : Prop where
 lg : w.ownsRow K 5 1 (.slice f.LA p.log.length f.lc) p.log.length (p.log.map v8)
 ls : w.ownsRow K 37 1 (.slice f.A p.lines.length f.c) p.lines.length (f.us.map Vt.cell)
 tx : txt f.us = p.lines
 by_ : ∀ u ∈ f.us ++ xs, Bp w (Bq w 0 none f.LA) u.A u.t.length u.t ∧ u.t.length ≤ 400
 pt : Bp w (Bq w 0 none f.LA) f.PA p.part.length p.part
 ru : Ry 55 w AR (rflat vs)
 rt : ∀ v ∈ vs, Bp w (Bq w 0 none f.LA) v.A1 v.r.line.length v.r.line ∧ Bp w (Bq w 0 none f.LA) v.A2 v.r.out.length v.r.out
 rl : vs.length = nR
structure Plk (w : World) (K g : Nat) (AR : Option Addr) (nR cR : Nat) (vs : List Rl) (q : Lk) (f : Fv) : Prop where
 cel : Cel w g 60 (lcells q.p f AR nR cR q.at)
 rest : Plr w K AR nR vs q.p f []
def lb (g : Nat) (f : Fv) : List Nat := g :: ((ob f.LA).toList ++ (ob f.A).toList)
theorem mem_lb {g : Nat} {f : Fv} {k : Nat} : k ∈ lb g f ↔ k = g ∨ ob f.LA = some k ∨ ob f.A = some k := by
 unfold lb
 simp [List.mem_cons, List.mem_append, Option.mem_toList]
namespace Plr
variable {w w' : World} {K nR : Nat} {AR : Option Addr} {vs : List Rl} {p : Pe} {f : Fv} {xs : List Vt}
theorem lg_is (h : Plr w K AR nR vs p f xs) : ∀ k, ob f.LA = some k → K ≤ k ∧ k < w.heap.size ∧ ∃ cs, w.heap[k]? = some (Obj.cells cs 5 (0, 0)) := fun k e => by
 rw [← ob_own f.LA p.log.length f.lc] at e
 exact ⟨own_ge h.lg k e, own_lt h.lg k e, own_is h.lg k e⟩
theorem ls_is (h : Plr w K AR nR vs p f xs) : ∀ k, ob f.A = some k → K ≤ k ∧ k < w.heap.size ∧ ∃ cs, w.heap[k]? = some (Obj.cells cs 37 (0, 0)) := fun k e => by
 rw [← ob_own f.A p.lines.length f.c] at e
 exact ⟨own_ge h.ls k e, own_lt h.ls k e, own_is h.ls k e⟩
theorem bp_keep {K n : Nat} {LA LA' A : Option Addr} {bs : List B} (h : Bp w (Bq w K none LA) A n bs)
  (hk : ∀ q cs fz, w.heap[q]? = some (Obj.cells cs 5 fz) → ob LA ≠ some q → w'.heap[q]? = w.heap[q]?) (hL : ∀ q, ob LA' = some q → ob LA = some q ∨ w.heap.size ≤ q) : Bp w' (Bq w' K none LA') A n bs :=
 by_keep h (fun q cs fz e _ _ h2 => hk q cs fz e h2) (fun q e => (by cases e)) (fun q e => .inr (hL q e))
theorem ry_keep {t : TypeId} {A : Option Addr} {cs : List Value} (h : Ry t w A cs) (hk : ∀ (q : Nat) o fz, w.heap[q]? = some (Obj.cells o t fz) → w'.heap[q]? = w.heap[q]?) : Ry t w' A cs := fun hn => by
 obtain ⟨ad, e, ⟨o, fz, hb⟩, hc⟩ := h hn
 have hq := hk _ o fz hb
 exact ⟨ad, e, ⟨o, fz, hq.trans hb⟩, fun j u hu => (World.cell?_of_block (by rw [add_block]; exact hq)).trans (hc j u hu)⟩
theorem keep {l : List Nat} (h : Plr w K AR nR vs p f xs) (hf : Frm l w w') (hl : ∀ k ∈ l, ∀ o fz, w.heap[k]? ≠ some (Obj.cells o 5 fz) ∧ w.heap[k]? ≠ some (Obj.cells o 37 fz) ∧ w.heap[k]? ≠ some (Obj.cells o 55 fz)) : Plr w' K AR nR vs p f xs := by
 have hb : ∀ {A : Option Addr} {n : Nat} {bs : List B}, Bp w (Bq w 0 none f.LA) A n bs → Bp w' (Bq w' 0 none f.LA) A n bs := fun hq => bp_keep hq (fun q cs fz e _ => hf.block q (Array.getElem?_eq_some_iff.1 e).1 (fun hm => (hl q hm cs fz).1 e)) (fun q e => .inl e)
 refine ⟨own_frm h.lg hf (fun k hk e => ?_), own_frm h.ls hf (fun k hk e => ?_), h.tx, fun u hu => ⟨hb (h.by_ u hu).1, (h.by_ u hu).2⟩, hb h.pt, ry_keep h.ru (fun q o fz e => hf.block q (Array.getElem?_eq_some_iff.1 e).1 (fun hm => (hl q hm o fz).2.2 e)), fun v hv => ⟨hb (h.rt v hv).1, hb (h.rt v hv).2⟩, h.rl⟩
 ·obtain ⟨cs, hc⟩ := own_is h.lg k e
  exact (hl k hk cs (0, 0)).1 hc
 ·obtain ⟨cs, hc⟩ := own_is h.ls k e
  exact (hl k hk cs (0, 0)).2.1 hc
theorem below (h : Plr w K AR nR vs p f xs) (hb : Below w.heap.size w w') : Plr w' K AR nR vs p f xs := h.keep (l := []) (Frm.of_below hb) (by simp)
theorem fed (h : Plr w K AR nR vs p f []) (hb : Below w.heap.size w w') {v : Dvm} (hv : Rown w' w.heap.size v) : Plr w' K AR nR vs ⟨v.s, v.pt, p.log, p.lines⟩ { f with PA := v.PA, pc := v.pc } v.ls := by
 have h' := h.below hb
 have hn : ∀ {A : Option Addr} {n : Nat} {bs : List B}, Bp w' (Bq w' w.heap.size none none) A n bs → Bp w' (Bq w' 0 none f.LA) A n bs := fun hq => ⟨hq.1, fun h0 => by
  obtain ⟨ad, e, ⟨h1, _, _, h4⟩, hc⟩ := hq.2 h0
  exact ⟨ad, e, (show Bq w' 0 none f.LA ad.block from ⟨Nat.zero_le _, fun e => (by cases e), fun e => (by have := (h.lg_is _ e).2.1; omega), h4⟩), hc⟩⟩
 refine ⟨h'.lg, h'.ls, h'.tx, fun u hu => ?_, hn hv.1, h'.ru, h'.rt, h'.rl⟩
 rcases List.mem_append.1 hu with hu | hu
 ·exact h'.by_ u (List.mem_append_left _ hu)
 ·exact ⟨hn (hv.2 u hu).1, (hv.2 u hu).2⟩
theorem logged (h : Plr w K AR nR vs p f xs) (o : List B) {A' : Option Addr} {c' n' : Nat} (hn' : n' = (p.log ++ o).length) (ho : w'.ownsRow K 5 1 (.slice A' n' c') n' ((p.log ++ o).map v8)) (hg : w.grownBy w' (ob f.LA)) (hn : ob A' = ob f.LA ∨ ob A' = some w.heap.size) :
  Plr w' K AR nR vs ⟨p.state, p.part, p.log ++ o, p.lines⟩ { f with LA := A', lc := c' } xs := by
 subst hn'
 have hk : ∀ q, q < w.heap.size → ob f.LA ≠ some q → w'.heap[q]? = w.heap[q]? := fun q hq e => hg.block q hq (fun e' => e e'.symm)
 have hf : Frm (ob f.LA).toList w w' := (Frm.refl _ w).grown hg (fun q e _ => by simp [e])
 have hb : ∀ {A : Option Addr} {n : Nat} {bs : List B}, Bp w (Bq w 0 none f.LA) A n bs → Bp w' (Bq w' 0 none A') A n bs := fun hq => bp_keep hq (fun q cs fz e h2 => hk q (Array.getElem?_eq_some_iff.1 e).1 h2) (fun q e => by
  rcases hn with e' | e'
  ·exact .inl (e' ▸ e)
  ·rw [e'] at e; injection e with e; exact .inr (by omega))
 refine ⟨ho, own_frm h.ls hf (fun k hm e => ?_), h.tx, fun u hu => ⟨hb (h.by_ u hu).1, (h.by_ u hu).2⟩, hb h.pt, ry_keep h.ru (fun q o fz e => hk q (Array.getElem?_eq_some_iff.1 e).1 (fun e' => ?_)), fun v hv => ⟨hb (h.rt v hv).1, hb (h.rt v hv).2⟩, h.rl⟩
 ·obtain ⟨cs, hc⟩ := own_is h.ls k e
  obtain ⟨cs', hc'⟩ := (h.lg_is k (by simpa using hm)).2.2
  rw [hc] at hc'
  injection hc' with hc'
  injection hc' with _ ht
  exact absurd ht (by decide)
 ·obtain ⟨cs', hc'⟩ := (h.lg_is q e').2.2
  rw [e] at hc'
  injection hc' with hc'
  injection hc' with _ ht
  exact absurd ht (by decide)
theorem lined (h : Plr w K AR nR vs p f xs) {A' : Option Addr} {c' n' : Nat} (hn' : n' = p.lines.length + xs.length) (ho : w'.ownsRow K 37 1 (.slice A' n' c') n' (f.us.map Vt.cell ++ xs.map Vt.cell)) (hg : w.grownBy w' (ob f.A)) :
  Plr w' K AR nR vs ⟨p.state, p.part, p.log, p.lines ++ txt xs⟩ { f with A := A', c := c', us := f.us ++ xs } [] := by
 have hl : (p.lines ++ txt xs).length = n' := by rw [List.length_append, hn']; unfold txt; rw [List.length_map]
 have hk : ∀ q o fz t, w.heap[q]? = some (Obj.cells o t fz) → t ≠ 37 → w'.heap[q]? = w.heap[q]? := fun q o fz t e ht => hg.block q (Array.getElem?_eq_some_iff.1 e).1 (fun e' => by
  obtain ⟨cs', hc'⟩ := (h.ls_is q e'.symm).2.2
  rw [e] at hc'
  injection hc' with hc'
  injection hc' with _ hc'
  exact ht hc')
 have hf : Frm (ob f.A).toList w w' := (Frm.refl _ w).grown hg (fun q e _ => by simp [e])
 have hb : ∀ {A : Option Addr} {n : Nat} {bs : List B}, Bp w (Bq w 0 none f.LA) A n bs → Bp w' (Bq w' 0 none f.LA) A n bs := fun hq => bp_keep hq (fun q cs fz e _ => hk q cs fz _ e (by decide)) (fun q e => .inl e)
 refine ⟨own_frm h.lg hf (fun k hm e => ?_), ?_, ?_, fun u hu => ?_, hb h.pt, ry_keep h.ru (fun q o fz e => hk q o fz _ e (by decide)), fun v hv => ⟨hb (h.rt v hv).1, hb (h.rt v hv).2⟩, h.rl⟩
 ·obtain ⟨cs, hc⟩ := own_is h.lg k e
  obtain ⟨cs', hc'⟩ := (h.ls_is k (by simpa using hm)).2.2
  rw [hc] at hc'
  injection hc' with hc'
  injection hc' with _ ht
  exact absurd ht (by decide)
 ·dsimp only
  rw [hl, List.map_append]
  exact ho
 ·show txt (f.us ++ xs) = p.lines ++ txt xs
  rw [← h.tx]
  unfold txt
  rw [List.map_append]
 ·rw [List.append_nil] at hu
  exact ⟨hb (h.by_ u hu).1, (h.by_ u hu).2⟩
theorem rls (h : Plr w K AR nR vs p f xs) (T : Nat) : Rls w T AR vs := fun i v hi => by
 have e : ∀ k, k < 4 → (rflat vs)[i * 4 + k]? = v.cells[k]? := fun k hk => rflat4 vs i k v hi hk
 obtain ⟨ad, rfl, _, hc⟩ := h.ru (fun q => by have := e 0 (by decide); rw [q] at this; simp [Rl.cells] at this)
 have ht := h.rt v (List.mem_of_getElem? hi)
 have hy : ∀ {A : Option Addr} {n : Nat} {bs : List B}, Bp w (Bq w 0 none f.LA) A n bs → By w A n bs := fun hq => ⟨hq.1, fun h0 => by
  obtain ⟨ad, e, ⟨_, _, _, h4⟩, hc⟩ := hq.2 h0
  exact ⟨ad, e, h4, hc⟩⟩
 exact ⟨ad, rfl, hc _ _ (e 0 (by decide)), by rw [Lex.add_at4 _ _ 1 (by decide)]; exact hc _ _ (e 1 (by decide)), by rw [Lex.add_at4 _ _ 2 (by decide)]; exact hc _ _ (e 2 (by decide)), by rw [Lex.add_at4 _ _ 3 (by decide)]; exact hc _ _ (e 3 (by decide)), .inr (hy ht.1), .inr (hy ht.2)⟩
theorem dok (h : Plr w K AR nR vs p f []) (T : Nat) : Dok w T ⟨p.state, p.part, p.log, f.us, f.PA, f.pc, f.LA, f.lc, f.A, f.c⟩ := by
 have hl : f.us.length = p.lines.length := by rw [← h.tx]; unfold txt; rw [List.length_map]
 have hy : ∀ {A : Option Addr} {n : Nat} {bs : List B}, Bp w (Bq w 0 none f.LA) A n bs → By w A n bs := fun hq => ⟨hq.1, fun h0 => by
  obtain ⟨ad, e, ⟨_, _, _, h4⟩, hc⟩ := hq.2 h0
  exact ⟨ad, e, h4, hc⟩⟩
 refine ⟨.inr (hy h.pt), .inr (By.of_own h.lg), ⟨fun i u hi => ?_, fun u hu => ⟨.inr (hy (h.by_ u (List.mem_append_left _ hu)).1), ?_⟩⟩, Rec.trow_own h.ls⟩
 ·have hlt := (List.getElem?_eq_some_iff.1 hi).1
  obtain ⟨q, cap, hv, _, _⟩ := h.ls.form (by have h1 : i < f.us.length := hlt; omega)
  have hA : f.A = some ⟨q, 0, none⟩ := by injection hv
  refine ⟨_, hA, ?_⟩
  have ho := h.ls
  rw [hA] at ho
  exact ho.cells (g := q) rfl i _ (by rw [List.getElem?_map, hi]; rfl)
 ·have := (h.by_ u (List.mem_append_left _ hu)).2
  unfold maxLen
  omega
end Plr
namespace Plk
variable {w w' : World} {K g nR cR : Nat} {AR : Option Addr} {vs : List Rl} {q : Lk} {f : Fv}
theorem below (h : Plk w K g AR nR cR vs q f) (hb : Below w.heap.size w w') : Plk w' K g AR nR cR vs q f := ⟨h.cel.below hb h.cel.lt, h.rest.below hb⟩
theorem kinds {t : TypeId} {cs : List Value} {k : Nat} (hc : Cel w k t cs) (h1 : t ≠ 5) (h2 : t ≠ 37) (h3 : t ≠ 55) : ∀ o fz, w.heap[k]? ≠ some (Obj.cells o 5 fz) ∧ w.heap[k]? ≠ some (Obj.cells o 37 fz) ∧ w.heap[k]? ≠ some (Obj.cells o 55 fz) := fun o fz => ⟨hc.not_ty h1 o fz, hc.not_ty h2 o fz, hc.not_ty h3 o fz⟩
theorem frm {k : Nat} {t : TypeId} {cs : List Value} (h : Plk w K g AR nR cR vs q f) (hc : Cel w k t cs) (h0 : t ≠ 60) (h1 : t ≠ 5) (h2 : t ≠ 37) (h3 : t ≠ 55) (hf : Frm [k] w w') : Plk w' K g AR nR cR vs q f :=
 ⟨h.cel.frm hf (fun hm => hc.not_ty h0 _ _ (by rw [← List.mem_singleton.1 hm]; exact h.cel)), h.rest.keep hf (fun j hj => by rw [List.mem_singleton.1 hj]; exact kinds hc h1 h2 h3)⟩
theorem put (h : Plk w K g AR nR cR vs q f) (p : Nat) : Plk (w.setCell ⟨g, 5, none⟩ (.int .i64 (p : Int))) K g AR nR cR vs ⟨q.p, p⟩ f :=
 ⟨h.cel.set 5 _, h.rest.keep ((Frm.refl [g] w).set (p := ⟨g, 5, none⟩) (by simp) _) (fun j hj => by rw [List.mem_singleton.1 hj]; exact kinds h.cel (by decide) (by decide) (by decide))⟩
theorem own (h : Plk w K g AR nR cR vs q f) : ∀ k ∈ lb g f, k < w.heap.size := fun k hk => by
 rcases mem_lb.1 hk with rfl | e | e
 ·exact h.cel.lt
 ·exact (h.rest.lg_is k e).2.1
 ·exact (h.rest.ls_is k e).2.1
theorem kind (h : Plk w K g AR nR cR vs q f) : ∀ k ∈ lb g f, ∀ o fz, w.heap[k]? ≠ some (Obj.cells o 9 fz) := fun k hk o fz he => by
 rcases mem_lb.1 hk with rfl | e | e
 ·exact h.cel.not_ty (by decide) o fz he
 ·obtain ⟨cs, hc⟩ := (h.rest.lg_is k e).2.2
  rw [he] at hc
  injection hc with hc
  injection hc with _ ht
  exact absurd ht (by decide)
 ·obtain ⟨cs, hc⟩ := (h.rest.ls_is k e).2.2
  rw [he] at hc
  injection hc with hc
  injection hc with _ ht
  exact absurd ht (by decide)
end Plk
def Plink (w : World) (l : List Nat) (g : Nat) (rs : List Ru) (q : Lk) : Prop := ∃ (AR : Option Addr) (nR cR : Nat) (vs : List Rl) (f : Fv), Plk w 0 g AR nR cR vs q f ∧ rs = vs.map (·.r) ∧ l = lb g f
end Go.Proofs.Ytnjmdgnghidjhaa.Peer
end
