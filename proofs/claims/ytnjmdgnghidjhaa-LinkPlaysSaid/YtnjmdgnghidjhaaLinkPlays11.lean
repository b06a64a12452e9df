/-
The program's link (layer 18): its device is fed. (Written by gen_linkpsend.py.)
-/
import Derived.Test.YtnjmdgnghidjhaaLinkPlays0
import Derived.Test.YtnjmdgnghidjhaaLinkPlays1
import Derived.Test.YtnjmdgnghidjhaaLinkPlays2
import Derived.Test.YtnjmdgnghidjhaaLinkPlays4
import Derived.Test.YtnjmdgnghidjhaaLinkPlays5
import Derived.Test.YtnjmdgnghidjhaaLinkPlays7
import Derived.Test.YtnjmdgnghidjhaaLinkPlays9
import Derived.Test.YtnjmdgnghidjhaaLinkPlays10
set_option linter.unusedVariables false
set_option linter.unusedSimpArgs false
set_option maxRecDepth 100000
set_option maxHeartbeats 4000000
namespace Go.Proofs.Ytnjmdgnghidjhaa.Ord
end Go.Proofs.Ytnjmdgnghidjhaa.Ord
namespace Go.Proofs.Ytnjmdgnghidjhaa.Peer
open Go.RowKit Go.Proofs.Ytnjmdgnghidjhaa.Ord
open Lex (Tx fw4 fw4_cel fw4_frm)
open Rec (Vt Tvs Trow txt)
theorem Rown.more {w : World} {K K' : Nat} {v : Dvm} (h : Rown w K v) (hK : K' ≤ K) : Rown w K' v := ⟨bq_more h.1 hK, fun u hu => ⟨bq_more (h.2 u hu).1 hK, (h.2 u hu).2⟩⟩
structure Fedd (w : World) (K g a : Nat) (AR : Option Addr) (nR cR : Nat) (vs : List Rl) (q : Lk) (f : Fv) (v : Dvm) (U : World) : Prop where
 low : Below w.heap.size w U
 cg : Cel U g 60 (lcells q.p f AR nR cR q.at)
 ca : Cel U a 49 v.cells
 pr : Plr U K AR nR vs ⟨v.s, v.pt, q.p.log, q.p.lines⟩ { f with PA := v.PA, pc := v.pc } v.ls
 lg : By U v.LA v.lg.length v.lg
 ry : Ry 37 U v.A (v.ls.map Vt.cell)
 ha : w.heap.size ≤ a
 ne : a ≠ g
theorem fedd_ {w X : World} {K g a nR cR : Nat} {AR : Option Addr} {vs : List Rl} {q : Lk} {f : Fv} (h : Plk w K g AR nR cR vs q f) {s : Int} {pt lg : List B} {ls : List Vt} {PA : Option Addr} {pc : Nat} {LA : Option Addr} {lc : Nat} {AL : Option Addr} {cL : Nat} (hb : Below w.heap.size w X) (ha : w.heap.size ≤ a) (hc : Cel X a 49 [.int .i64 0, .slice none 0 0, .slice none 0 0, .slice none 0 0]) (hd : Dok X 0 ⟨s, pt, lg, ls, PA, pc, LA, lc, AL, cL⟩) (ho : Rown X w.heap.size ⟨s, pt, lg, ls, PA, pc, LA, lc, AL, cL⟩) :
  Fedd w K g a AR nR cR vs q f ⟨s, pt, lg, ls, PA, pc, LA, lc, AL, cL⟩ (fw4 X a (.int .i64 s) (.slice PA pt.length pc) (.slice LA lg.length lc) (.slice AL ls.length cL)) := by
 have hf := fw4_frm X a (.int .i64 s) (.slice PA pt.length pc) (.slice LA lg.length lc) (.slice AL ls.length cL)
 have hk : ∀ (t : TypeId), 49 ≠ t → ∀ (j : Nat) o fz, X.heap[j]? = some (Obj.cells o t fz) → (fw4 X a (.int .i64 s) (.slice PA pt.length pc) (.slice LA lg.length lc) (.slice AL ls.length cL)).heap[j]? = X.heap[j]? := fun t ht j o fz hj => hf.block j (Array.getElem?_eq_some_iff.1 hj).1 (fun hm => by
  rw [List.mem_singleton.1 hm] at hj
  exact hc.not_ty ht o fz hj)
 have hne : a ≠ g := by have := h.cel.lt; omega
 have hr := (h.rest.fed hb ho).keep hf (fun j hj => by rw [List.mem_singleton.1 hj]; exact Plk.kinds hc (by decide) (by decide) (by decide))
 refine ⟨hb.trans (hf.below hb.size (by simpa using ha)), (h.cel.below hb h.cel.lt).frm hf (by simpa using fun e => hne e.symm), fw4_cel hc, hr, ?_, ?_, ha, hne⟩
 ·rcases hd.lg with hl | hl
  ·rcases Nat.eq_zero_or_pos lg.length with h0 | h0
   ·exact ⟨rfl, fun h => by dsimp only at h; omega⟩
   ·obtain ⟨ad, _, h2, _⟩ := hl.2 h0
    omega
  ·exact hl.keep fun j cs fz hj => hk _ (by decide) j cs fz hj
 ·intro hn
  have hn' : ls ≠ [] := fun e => hn (by dsimp only; rw [e]; rfl)
  obtain ⟨ad, e, h1⟩ := hd.row hn'
  rcases h1 with h1 | ⟨o, fz, h1⟩
  ·omega
  ·have hq := hk _ (by decide) _ o fz h1
   refine ⟨ad, e, ⟨o, fz, hq.trans h1⟩, fun j u hu => ?_⟩
   dsimp only at hu
   rw [List.getElem?_map] at hu
   cases hj : ls[j]? with
   | none => rw [hj] at hu; cases hu
   | some x =>
    rw [hj] at hu
    have hux : u = Vt.cell x := (Option.some.inj hu).symm
    obtain ⟨ad', e', hc'⟩ := hd.ls.cr j x hj
    have eq : ad' = ad := Option.some.inj (e'.symm.trans e)
    rw [eq] at hc'
    rw [hux]
    exact (World.cell?_of_block (by rw [add_block]; exact hq)).trans hc'
theorem src_ry {t : TypeId} {w : World} {A : Option Addr} {m : Nat} {cs : List Value} (h : Ry t w A cs) (hm : cs.length = m) : Src w A m cs := fun h0 => by
 obtain ⟨ad, e, _, hc⟩ := h (fun e => by rw [e] at hm; simp at hm; omega)
 exact ⟨ad, e, hc⟩
def RvSays (w : World) (K g : Nat) (AR : Option Addr) (nR cR : Nat) (vs : List Rl) (q : Lk) (f : Fv) (p' : Pe) (e : Ending) (w' : World) : Prop := e = .returned (.tuple #[]) ∧ ∃ f', Frm (lb g f) w w' ∧ (∀ k ∈ lb g f', k ∈ lb g f ∨ w.heap.size ≤ k) ∧ Plk w' K g AR nR cR vs ⟨p', q.at⟩ f'
theorem preceive (w : World) {K g nR cR : Nat} {AR : Option Addr} {vs : List Rl} {q : Lk} {f : Fv} (hK : K ≤ w.heap.size) (h : Plk w K g AR nR cR vs q f) (hs : Lsm q) (hfw : Rfew vs nR) (D : Nat) (A : Option Addr) (m cb : Nat) (x : List B) (hx : Bs w D A m x) (hD : D ≤ w.heap.size) (hmc : m ≤ cb) (hm : m ≤ 1000) :
  Calls Try.prog 21 #[pp g 0, .slice A m cb] w (RvSays w K g AR nR cR vs q f (feedR (vs.map (·.r)) q.p x)) := by
 obtain ⟨p1, hp1⟩ : ∃ p1, p1 = feedR (vs.map (·.r)) ⟨q.p.state, q.p.part, [], []⟩ x := ⟨_, rfl⟩
 have hfo := feed_off (vs.map (·.r)) q.p x
 rw [← hp1] at hfo
 rw [hfo]
 have CON := Lib.hid (show ∀ V, Below w.heap.size w V → Calls Try.prog 29 #[.slice AR nR cR, .agg #[.int .i64 q.p.state, .slice f.PA q.p.part.length f.pc, .slice none 0 0, .slice none 0 0], .slice A m cb] V (PwSays V 0 p1) from fun V hV => by
  have h' := h.below hV
  have hd := h'.rest.dok 0
  have := pfeed_own V 0 (Nat.zero_le _) AR nR cR vs (h'.rest.rls 0) hfw ⟨q.p.state, q.p.part, [], [], f.PA, f.pc, none, 0, none, 0⟩ ⟨hd.pt, .inl ⟨rfl, fun h => absurd h (Nat.lt_irrefl 0)⟩, ⟨fun i u hi => by simp at hi, fun u hu => absurd hu List.not_mem_nil⟩, fun hn => absurd rfl hn⟩ ⟨hs.1, Nat.zero_le _, Nat.zero_le _, fun u hu => absurd hu List.not_mem_nil⟩ D A m cb x (hx.below (hV.mono hD)) (Nat.le_trans hD hV.size) hmc hm
  rw [hp1]
  exact this)
 have HSZ := Lib.hid (show p1.log.length ≤ 60 * 1000 ∧ p1.lines.length ≤ 1000 from by
  obtain ⟨_, q2, q3, _⟩ := feed_dfew hfw (p := ⟨q.p.state, q.p.part, [], []⟩) hs.1 x (fun l hl => absurd hl List.not_mem_nil)
  rw [← hp1] at q2 q3
  have := hx.len
  dsimp only [List.length_nil] at q2 q3
  simp at q2 q3
  omega)
 have HP := Lib.hid h
 have HS := Lib.hid hs
 obtain ⟨W, hW⟩ : ∃ W, W = w.drew := ⟨_, rfl⟩
 have hbW : Below w.heap.size w W := by rw [hW]; exact (Below.refl _ _).drew
 have HBW := Lib.hid hbW
 have HCG := Lib.hid (show Cel W g 60 [.int .i64 q.p.state, .slice f.PA q.p.part.length f.pc, .slice f.LA q.p.log.length f.lc, .slice f.A q.p.lines.length f.c, .slice AR nR cR, .int .i64 (q.at : Int)] from (h.below hbW).cel)
 have HWZ := Lib.hid (show W.heap.size = w.heap.size by rw [hW]; rfl)
 clear hp1 hfo h hs hx hbW
 go_enter Try.func21, Try.ntmps21
 go_upto_region 0 with fail
 refine wp_region_N [18] (fun V => Below W.heap.size W V) (by kernel_rfl) ?_
 rw [← hW]
 have hH : Below W.heap.size W W := Below.refl _ _
 clear hW
 refine tk_ 0 (.pointer (some ⟨g, 0, none⟩)) [18] rfl hH ?_ ?_
 ·intro V hV; go_simp
 try simp only [Act.put, lay_]
 refine tk_ 1 (.pointer (some ⟨g, 0, none⟩)) [18] rfl hH ?_ ?_
 ·intro V hV; go_simp
 try simp only [Act.put, lay_]
 refine tk_ 2 (.pointer (some ⟨g, 4, none⟩)) [18] rfl hH ?_ ?_
 ·intro V hV; go_simp
 try simp only [Act.put, lay_]
 refine tk_ 3 (.slice AR nR cR) [18] rfl hH ?_ ?_
 ·intro V hV; have hc := HCG.out.below hV HCG.out.lt; have k0 : V.cell? ⟨g, 4, none⟩ = some (.slice AR nR cR) := hc.cell 4; clear hc; go_simp
 try simp only [Act.put, lay_]
 refine tk_ 4 (.pointer (some ⟨g, 0, none⟩)) [18] rfl hH ?_ ?_
 ·intro V hV; go_simp
 try simp only [Act.put, lay_]
 refine tk_ 5 (.pointer (some ⟨g, 0, none⟩)) [18] rfl hH ?_ ?_
 ·intro V hV; go_simp
 try simp only [Act.put, lay_]
 refine tk_ 6 (.pointer (some ⟨g, 0, none⟩)) [18] rfl hH ?_ ?_
 ·intro V hV; go_simp
 try simp only [Act.put, lay_]
 refine tk_ 7 (.pointer (some ⟨g, 0, none⟩)) [18] rfl hH ?_ ?_
 ·intro V hV; go_simp
 try simp only [Act.put, lay_]
 refine tk_ 8 (.int .i64 q.p.state) [18] rfl hH ?_ ?_
 ·intro V hV; have hc := HCG.out.below hV HCG.out.lt; have k0 : V.cell? ⟨g, 0, none⟩ = some (.int .i64 q.p.state) := hc.cell 0; clear hc; go_simp
 try simp only [Act.put, lay_]
 refine tk_ 9 (.pointer (some ⟨g, 0, none⟩)) [18] rfl hH ?_ ?_
 ·intro V hV; go_simp
 try simp only [Act.put, lay_]
 refine tk_ 10 (.pointer (some ⟨g, 0, none⟩)) [18] rfl hH ?_ ?_
 ·intro V hV; go_simp
 try simp only [Act.put, lay_]
 refine tk_ 11 (.pointer (some ⟨g, 0, none⟩)) [18] rfl hH ?_ ?_
 ·intro V hV; go_simp
 try simp only [Act.put, lay_]
 refine tk_ 12 (.pointer (some ⟨g, 1, none⟩)) [18] rfl hH ?_ ?_
 ·intro V hV; go_simp
 try simp only [Act.put, lay_]
 refine tk_ 13 (.slice f.PA q.p.part.length f.pc) [18] rfl hH ?_ ?_
 ·intro V hV; have hc := HCG.out.below hV HCG.out.lt; have k0 : V.cell? ⟨g, 1, none⟩ = some (.slice f.PA q.p.part.length f.pc) := hc.cell 1; clear hc; go_simp
 try simp only [Act.put, lay_]
 refine tk_ 14 (.agg #[.int .i64 q.p.state, .slice f.PA q.p.part.length f.pc, .slice none 0 0, .slice none 0 0]) [18] rfl hH ?_ ?_
 ·intro V hV; go_simp
 try simp only [Act.put, lay_]
 refine tk_ 15 (.slice A m cb) [18] rfl hH ?_ ?_
 ·intro V hV; go_simp
 try simp only [Act.put, lay_]
 refine wpAnyN_two (i := 16) (j := 17) (by kernel_rfl) rfl rfl (fun Kq hKq => ?_) (fun Kq hKq => ?_)
 ·go_simp
  refine (CON.out W HBW.out).mono ?_
  rintro e V1 ⟨⟨s, pt, lg, ls, PA, pc, LA, lc, AL, cL⟩, rfl, hb1, hd1, hm1, ho1⟩
  have HM := Lib.hid hm1
  unfold Dvm.cells
  dsimp only
  go_wp2_with fail
  refine hKq.out _ _ (.inr hb1) ?_
  clear hKq Kq
  try simp only [Act.put, lay_]
  refine wpAnyN_one (i := 17) (by kernel_rfl) rfl (fun Kq hKq => ?_)
  go_simp
  refine hKq.out _ _ (.inr (hb1.alloc hb1.size _)) ?_
  clear hKq Kq
  try simp only [Act.put, lay_]
  obtain ⟨a, ha⟩ : ∃ a, a = V1.heap.size := ⟨_, rfl⟩
  obtain ⟨V2, hV2⟩ : ∃ X, X = V1.alloc (.cells #[.int .i64 0, .slice none 0 0, .slice none 0 0, .slice none 0 0] 49) := ⟨_, rfl⟩
  have hbV : Below V1.heap.size V1 V2 := by rw [hV2]; exact (Below.refl _ _).alloc (Nat.le_refl _) _
  have hc2 : Cel V2 a 49 [.int .i64 0, .slice none 0 0, .slice none 0 0, .slice none 0 0] := by rw [hV2, ha]; exact Cel.new V1 _ _
  rw [← hV2, ← ha]
  have HX := Lib.hid (show Below w.heap.size w V2 ∧ w.heap.size ≤ a ∧ Cel V2 a 49 [.int .i64 0, .slice none 0 0, .slice none 0 0, .slice none 0 0] ∧ Dok V2 0 ⟨s, pt, lg, ls, PA, pc, LA, lc, AL, cL⟩ ∧ Rown V2 w.heap.size ⟨s, pt, lg, ls, PA, pc, LA, lc, AL, cL⟩ from
   ⟨(HBW.out.trans (hb1.mono HBW.out.size)).trans (hbV.mono (Nat.le_trans HBW.out.size hb1.size)), by rw [ha, ← HWZ.out]; exact hb1.size, hc2, hd1.below (Nat.zero_le _) hbV, by
    rw [← HWZ.out]
    exact ho1.keep fun j cs fz e _ => hbV.block j (Array.getElem?_eq_some_iff.1 e).1⟩)
  clear ha hV2 hbV hb1 hd1 hm1 ho1
  have r0 := hc2.cell 0
  have r1 := hc2.cell 1
  have r2 := hc2.cell 2
  have r3 := hc2.cell 3
  have g0 := hc2.free 0
  have g1 := hc2.free 1
  have g2 := hc2.free 2
  have g3 := hc2.free 3
  refine wpAnyN_one (i := 18) (by kernel_rfl) rfl (fun Kq hKq => ?_)
  go_simp
  refine hKq.out _ _ (.inl (by decide)) ?_
  clear hKq Kq r0 r1 r2 r3 g0 g1 g2 g3 hc2
  try simp only [Act.put, lay_]
  refine wpAnyN_done (by kernel_rfl) ?_ _
  obtain ⟨U, hU⟩ : ∃ U, U = fw4 V2 a (.int .i64 s) (.slice PA pt.length pc) (.slice LA lg.length lc) (.slice AL ls.length cL) := ⟨_, rfl⟩
  have hfd := fedd_ HP.out HX.out.1 HX.out.2.1 HX.out.2.2.1 HX.out.2.2.2.1 HX.out.2.2.2.2
  rw [← hU] at hfd
  unfold fw4 at hU
  rw [← hU]
  have HG := Lib.hid (show Cel U g 60 [.int .i64 q.p.state, .slice f.PA q.p.part.length f.pc, .slice f.LA q.p.log.length f.lc, .slice f.A q.p.lines.length f.c, .slice AR nR cR, .int .i64 (q.at : Int)] from hfd.cg)
  have HA := Lib.hid (show Cel U a 49 [.int .i64 s, .slice PA pt.length pc, .slice LA lg.length lc, .slice AL ls.length cL] from hfd.ca)
  have HR := Lib.hid (show Plr U K AR nR vs ⟨s, pt, q.p.log, q.p.lines⟩ { f with PA := PA, pc := pc } ls from hfd.pr)
  have HLG := Lib.hid (show By U LA lg.length lg from hfd.lg)
  have HY := Lib.hid (show Ry 37 U AL (ls.map Vt.cell) from hfd.ry)
  have HBU := Lib.hid hfd.low
  have HGE := Lib.hid hfd.ha
  have HNE := Lib.hid hfd.ne
  have HZ := Lib.hid (show lg.length ≤ 60 * 1000 ∧ ls.length ≤ 1000 from by
   have h1 := congrArg Pe.log HM.out
   have h2 := congrArg Pe.lines HM.out
   have h3 : (txt ls).length = ls.length := by unfold txt; rw [List.length_map]
   have h4 := HSZ.out
   unfold Dvm.m at h1 h2
   dsimp only at h1 h2
   rw [← h1, ← h2, h3] at h4
   exact h4)
  clear hU hfd hH HX
  go_upto_region 1 with fail
  refine wp_region_N [9] (fun V => Cel V g 60 [.int .i64 q.p.state, .slice f.PA q.p.part.length f.pc, .slice f.LA q.p.log.length f.lc, .slice f.A q.p.lines.length f.c, .slice AR nR cR, .int .i64 (q.at : Int)] ∧ Cel V a 49 [.int .i64 s, .slice PA pt.length pc, .slice LA lg.length lc, .slice AL ls.length cL]) (by kernel_rfl) ?_
  have HS1 := Lib.hid (show ∀ V, (Cel V g 60 [.int .i64 q.p.state, .slice f.PA q.p.part.length f.pc, .slice f.LA q.p.log.length f.lc, .slice f.A q.p.lines.length f.c, .slice AR nR cR, .int .i64 (q.at : Int)] ∧ Cel V a 49 [.int .i64 s, .slice PA pt.length pc, .slice LA lg.length lc, .slice AL ls.length cL]) → Cel V g 60 [.int .i64 q.p.state, .slice f.PA q.p.part.length f.pc, .slice f.LA q.p.log.length f.lc, .slice f.A q.p.lines.length f.c, .slice AR nR cR, .int .i64 (q.at : Int)] from fun V h => h.1)
  have HS2 := Lib.hid (show ∀ V, (Cel V g 60 [.int .i64 q.p.state, .slice f.PA q.p.part.length f.pc, .slice f.LA q.p.log.length f.lc, .slice f.A q.p.lines.length f.c, .slice AR nR cR, .int .i64 (q.at : Int)] ∧ Cel V a 49 [.int .i64 s, .slice PA pt.length pc, .slice LA lg.length lc, .slice AL ls.length cL]) → Cel V a 49 [.int .i64 s, .slice PA pt.length pc, .slice LA lg.length lc, .slice AL ls.length cL] from fun V h => h.2)
  have hH : Cel U.drew g 60 [.int .i64 q.p.state, .slice f.PA q.p.part.length f.pc, .slice f.LA q.p.log.length f.lc, .slice f.A q.p.lines.length f.c, .slice AR nR cR, .int .i64 (q.at : Int)] ∧ Cel U.drew a 49 [.int .i64 s, .slice PA pt.length pc, .slice LA lg.length lc, .slice AL ls.length cL] := ⟨HG.out.drew, HA.out.drew⟩
  have HR1 := Lib.hid (HR.out.below (Below.refl _ _).drew)
  refine tk_ 0 (.pointer (some ⟨g, 0, none⟩)) [9] rfl hH ?_ ?_
  ·intro V hV; go_simp
  try simp only [Act.put, lay_]
  refine tk_ 1 (.pointer (some ⟨g, 0, none⟩)) [9] rfl hH ?_ ?_
  ·intro V hV; go_simp
  try simp only [Act.put, lay_]
  refine tk_ 2 (.pointer (some ⟨g, 0, none⟩)) [9] rfl hH ?_ ?_
  ·intro V hV; go_simp
  try simp only [Act.put, lay_]
  refine tk_ 3 (.pointer (some ⟨g, 2, none⟩)) [9] rfl hH ?_ ?_
  ·intro V hV; go_simp
  try simp only [Act.put, lay_]
  refine tk_ 4 (.slice f.LA q.p.log.length f.lc) [9] rfl hH ?_ ?_
  ·intro V hV; have hc := HS1.out V hV; have k0 : V.cell? ⟨g, 2, none⟩ = some (.slice f.LA q.p.log.length f.lc) := hc.cell 2; clear hc; go_simp
  try simp only [Act.put, lay_]
  refine tk_ 5 (.pointer (some ⟨a, 2, none⟩)) [9] rfl hH ?_ ?_
  ·intro V hV; go_simp
  try simp only [Act.put, lay_]
  refine tk_ 6 (.slice LA lg.length lc) [9] rfl hH ?_ ?_
  ·intro V hV; have hc := HS2.out V hV; have k0 : V.cell? ⟨a, 2, none⟩ = some (.slice LA lg.length lc) := hc.cell 2; clear hc; go_simp
  try simp only [Act.put, lay_]
  refine wpAnyN_one (i := 7) (by kernel_rfl) rfl (fun Kq hKq => ?_)
  rw [if_pos (by rfl)]
  refine wp_append_bs _ _ _ 37 rfl K 5 bytesP (.slice f.LA q.p.log.length f.lc) q.p.log.length q.p.log rfl HR1.out.lg U.heap.size LA lg.length lc lg rfl HLG.out.rd (by have h1 := HS.out.2.1; have h2 := HZ.out; omega) (Nat.le_trans hK HBU.out.size) ?_
  intro A8 c8 w8 ho8 hg8 hn8
  rw [ob_own] at hg8
  rw [ob_own, ob_own] at hn8
  have hnn : ∀ k (t : TypeId) cs, Cel U.drew k t cs → t ≠ 5 → ob f.LA ≠ some k := fun k t cs hc ht e => by rw [← ob_own f.LA q.p.log.length f.lc] at e; exact own_ty_ne HR1.out.lg hc (Ne.symm ht) e
  have hH8 : Cel w8 g 60 [.int .i64 q.p.state, .slice f.PA q.p.part.length f.pc, .slice f.LA q.p.log.length f.lc, .slice f.A q.p.lines.length f.c, .slice AR nR cR, .int .i64 (q.at : Int)] ∧ Cel w8 a 49 [.int .i64 s, .slice PA pt.length pc, .slice LA lg.length lc, .slice AL ls.length cL] := ⟨HG.out.drew.grown hg8 (hnn _ _ _ HG.out.drew (by decide)), HA.out.drew.grown hg8 (hnn _ _ _ HA.out.drew (by decide))⟩
  have HR2 := Lib.hid (HR1.out.logged lg (by rw [List.length_append]) ho8 hg8 hn8)
  have HY2 := Lib.hid (show Ry 37 w8 AL (ls.map Vt.cell) from Plr.ry_keep HY.out (fun j o fz e => hg8.block j (Array.getElem?_eq_some_iff.1 e).1 (fun e' => own_not_ty HR1.out.lg (t' := 37) (by decide) j o fz (by rw [ob_own]; exact e'.symm) e)))
  have HF2 := Lib.hid (show Frm (lb g f ++ [a]) w w8 from (Frm.of_below HBU.out.drew).trans (((Frm.refl (ob f.LA).toList U.drew).grown hg8 (fun j e _ => by simp [e])).mono (by intro j hj _; rw [List.mem_append, mem_lb]; exact Or.inl (Or.inr (Or.inl (by simpa using hj))))))
  have HN2 := Lib.hid (show ∀ k, ob A8 = some k → ob f.LA = some k ∨ w.heap.size ≤ k from fun k e => by
   rcases hn8 with e' | e'
   ·exact .inl (e' ▸ e)
   ·rw [e'] at e; injection e with e; have := HBU.out.size; exact .inr (by rw [← e]; exact this))
  have HKU := Lib.hid (show K ≤ w8.heap.size from Nat.le_trans hK (Nat.le_trans HBU.out.size hg8.size))
  have HH8 := Lib.hid hH8
  clear ho8 hg8 hn8 hnn
  refine hKq.out _ _ (.inr hH8) ?_
  clear hKq Kq
  try simp only [Act.put, lay_]
  clear hH
  have hH := hH8
  refine tk_ 8 (.pointer (some ⟨a, 2, none⟩)) [9] rfl hH ?_ ?_
  ·intro V hV; go_simp
  try simp only [Act.put, lay_]
  have k2 := hH8.2.cell 2
  have f2 := hH8.2.free 2
  refine wpAnyN_one (i := 9) (by kernel_rfl) rfl (fun Kq hKq => ?_)
  go_simp
  refine hKq.out _ _ (.inl (by decide)) ?_
  clear hKq Kq k2 f2
  try simp only [Act.put, lay_]
  refine wpAnyN_done (by kernel_rfl) ?_ _
  obtain ⟨U5, hU5⟩ : ∃ X, X = w8.setCell ⟨a, 2, none⟩ (.slice A8 (q.p.log.length + lg.length) c8) := ⟨_, rfl⟩
  rw [← hU5]
  have hf5 : Frm [a] w8 U5 := by rw [hU5]; exact (Frm.refl [a] w8).set (p := ⟨a, 2, none⟩) (by simp) _
  have hkd := Plk.kinds HH8.out.2 (by decide) (by decide) (by decide)
  replace HG := Lib.hid (show Cel U5 g 60 [.int .i64 q.p.state, .slice f.PA q.p.part.length f.pc, .slice f.LA q.p.log.length f.lc, .slice f.A q.p.lines.length f.c, .slice AR nR cR, .int .i64 (q.at : Int)] from HH8.out.1.frm hf5 (by simpa using fun e => HNE.out e.symm))
  replace HA := Lib.hid (show Cel U5 a 49 [.int .i64 s, .slice PA pt.length pc, .slice A8 (q.p.log.length + lg.length) c8, .slice AL ls.length cL] by rw [hU5]; exact HH8.out.2.set 2 _)
  replace HR := Lib.hid (HR2.out.keep hf5 (fun j hj => by rw [List.mem_singleton.1 hj]; exact hkd))
  replace HY := Lib.hid (Plr.ry_keep HY2.out (fun j o fz e => hf5.block j (Array.getElem?_eq_some_iff.1 e).1 (fun hm => (hkd o fz).2.1 (by rw [← List.mem_singleton.1 hm]; exact e))))
  replace HF2 := Lib.hid (HF2.out.trans (hf5.mono (by intro j hj _; rw [List.mem_singleton.1 hj]; simp)))
  replace HKU := Lib.hid (show K ≤ U5.heap.size from Nat.le_trans HKU.out hf5.size)
  clear hU5 hf5 hkd hH8 hH HH8 HS1 HS2 HR1 HR2 HY2
  go_upto_region 2 with fail
  refine wp_region_N [9] (fun V => Cel V g 60 [.int .i64 q.p.state, .slice f.PA q.p.part.length f.pc, .slice f.LA q.p.log.length f.lc, .slice f.A q.p.lines.length f.c, .slice AR nR cR, .int .i64 (q.at : Int)] ∧ Cel V a 49 [.int .i64 s, .slice PA pt.length pc, .slice A8 (q.p.log.length + lg.length) c8, .slice AL ls.length cL]) (by kernel_rfl) ?_
  have HS1 := Lib.hid (show ∀ V, (Cel V g 60 [.int .i64 q.p.state, .slice f.PA q.p.part.length f.pc, .slice f.LA q.p.log.length f.lc, .slice f.A q.p.lines.length f.c, .slice AR nR cR, .int .i64 (q.at : Int)] ∧ Cel V a 49 [.int .i64 s, .slice PA pt.length pc, .slice A8 (q.p.log.length + lg.length) c8, .slice AL ls.length cL]) → Cel V g 60 [.int .i64 q.p.state, .slice f.PA q.p.part.length f.pc, .slice f.LA q.p.log.length f.lc, .slice f.A q.p.lines.length f.c, .slice AR nR cR, .int .i64 (q.at : Int)] from fun V h => h.1)
  have HS2 := Lib.hid (show ∀ V, (Cel V g 60 [.int .i64 q.p.state, .slice f.PA q.p.part.length f.pc, .slice f.LA q.p.log.length f.lc, .slice f.A q.p.lines.length f.c, .slice AR nR cR, .int .i64 (q.at : Int)] ∧ Cel V a 49 [.int .i64 s, .slice PA pt.length pc, .slice A8 (q.p.log.length + lg.length) c8, .slice AL ls.length cL]) → Cel V a 49 [.int .i64 s, .slice PA pt.length pc, .slice A8 (q.p.log.length + lg.length) c8, .slice AL ls.length cL] from fun V h => h.2)
  have hH : Cel U5.drew g 60 [.int .i64 q.p.state, .slice f.PA q.p.part.length f.pc, .slice f.LA q.p.log.length f.lc, .slice f.A q.p.lines.length f.c, .slice AR nR cR, .int .i64 (q.at : Int)] ∧ Cel U5.drew a 49 [.int .i64 s, .slice PA pt.length pc, .slice A8 (q.p.log.length + lg.length) c8, .slice AL ls.length cL] := ⟨HG.out.drew, HA.out.drew⟩
  have HR1 := Lib.hid (HR.out.below (Below.refl _ _).drew)
  refine tk_ 0 (.pointer (some ⟨g, 0, none⟩)) [9] rfl hH ?_ ?_
  ·intro V hV; go_simp
  try simp only [Act.put, lay_]
  refine tk_ 1 (.pointer (some ⟨g, 0, none⟩)) [9] rfl hH ?_ ?_
  ·intro V hV; go_simp
  try simp only [Act.put, lay_]
  refine tk_ 2 (.pointer (some ⟨g, 0, none⟩)) [9] rfl hH ?_ ?_
  ·intro V hV; go_simp
  try simp only [Act.put, lay_]
  refine tk_ 3 (.pointer (some ⟨g, 3, none⟩)) [9] rfl hH ?_ ?_
  ·intro V hV; go_simp
  try simp only [Act.put, lay_]
  refine tk_ 4 (.slice f.A q.p.lines.length f.c) [9] rfl hH ?_ ?_
  ·intro V hV; have hc := HS1.out V hV; have k0 : V.cell? ⟨g, 3, none⟩ = some (.slice f.A q.p.lines.length f.c) := hc.cell 3; clear hc; go_simp
  try simp only [Act.put, lay_]
  refine tk_ 5 (.pointer (some ⟨a, 3, none⟩)) [9] rfl hH ?_ ?_
  ·intro V hV; go_simp
  try simp only [Act.put, lay_]
  refine tk_ 6 (.slice AL ls.length cL) [9] rfl hH ?_ ?_
  ·intro V hV; have hc := HS2.out V hV; have k0 : V.cell? ⟨a, 3, none⟩ = some (.slice AL ls.length cL) := hc.cell 3; clear hc; go_simp
  try simp only [Act.put, lay_]
  refine wpAnyN_one (i := 7) (by kernel_rfl) rfl (fun Kq hKq => ?_)
  rw [if_pos (by rfl)]
  refine wp_append_any _ _ _ 47 rfl K 37 rowLn (.slice f.A q.p.lines.length f.c) q.p.lines.length (f.us.map Vt.cell) rfl HR1.out.ls AL ls.length cL (ls.map Vt.cell) rfl (by rw [List.length_map, Nat.mul_one]) (src_ry (HY.out) (by rw [List.length_map])) (by intro u hu; obtain ⟨y, _, rfl⟩ := List.mem_map.1 hu; rfl) (q.p.lines.length + ls.length) _ rfl rfl (by have h1 := HS.out.2.2.1; have h2 := HZ.out; unfold maxLen; omega) (by have h1 := HS.out.2.2.1; have h2 := HZ.out; omega) HKU.out ?_
  intro A9 c9 w9 ho8 hg8 hn8
  rw [ob_own] at hg8
  rw [ob_own, ob_own] at hn8
  have hnn : ∀ k (t : TypeId) cs, Cel U5.drew k t cs → t ≠ 37 → ob f.A ≠ some k := fun k t cs hc ht e => by rw [← ob_own f.A q.p.lines.length f.c] at e; exact own_ty_ne HR1.out.ls hc (Ne.symm ht) e
  have hH8 : Cel w9 g 60 [.int .i64 q.p.state, .slice f.PA q.p.part.length f.pc, .slice f.LA q.p.log.length f.lc, .slice f.A q.p.lines.length f.c, .slice AR nR cR, .int .i64 (q.at : Int)] ∧ Cel w9 a 49 [.int .i64 s, .slice PA pt.length pc, .slice A8 (q.p.log.length + lg.length) c8, .slice AL ls.length cL] := ⟨HG.out.drew.grown hg8 (hnn _ _ _ HG.out.drew (by decide)), HA.out.drew.grown hg8 (hnn _ _ _ HA.out.drew (by decide))⟩
  have HR2 := Lib.hid (HR1.out.lined rfl ho8 hg8)
  have HF3 := Lib.hid (show Frm (lb g f ++ [a]) w w9 from (HF2.out.trans (Frm.of_below (Below.refl _ U5).drew)).trans (((Frm.refl (ob f.A).toList U5.drew).grown hg8 (fun j e _ => by simp [e])).mono (by intro j hj _; rw [List.mem_append, mem_lb]; exact Or.inl (Or.inr (Or.inr (by simpa using hj))))))
  have HN3 := Lib.hid (show ∀ k, ob A9 = some k → ob f.A = some k ∨ w.heap.size ≤ k from fun k e => by
   rcases hn8 with e' | e'
   ·exact .inl (e' ▸ e)
   ·rw [e'] at e; injection e with e; have := HF2.out.size; exact .inr (by rw [← e]; exact this))
  have HH8 := Lib.hid hH8
  clear ho8 hg8 hn8 hnn
  refine hKq.out _ _ (.inr hH8) ?_
  clear hKq Kq
  try simp only [Act.put, lay_]
  clear hH
  have hH := hH8
  refine tk_ 8 (.pointer (some ⟨a, 3, none⟩)) [9] rfl hH ?_ ?_
  ·intro V hV; go_simp
  try simp only [Act.put, lay_]
  have k2 := hH8.2.cell 3
  have f2 := hH8.2.free 3
  refine wpAnyN_one (i := 9) (by kernel_rfl) rfl (fun Kq hKq => ?_)
  go_simp
  refine hKq.out _ _ (.inl (by decide)) ?_
  clear hKq Kq k2 f2
  try simp only [Act.put, lay_]
  refine wpAnyN_done (by kernel_rfl) ?_ _
  obtain ⟨U7, hU7⟩ : ∃ X, X = w9.setCell ⟨a, 3, none⟩ (.slice A9 (q.p.lines.length + ls.length) c9) := ⟨_, rfl⟩
  rw [← hU7]
  have hf5 : Frm [a] w9 U7 := by rw [hU7]; exact (Frm.refl [a] w9).set (p := ⟨a, 3, none⟩) (by simp) _
  have hkd := Plk.kinds HH8.out.2 (by decide) (by decide) (by decide)
  replace HG := Lib.hid (show Cel U7 g 60 [.int .i64 q.p.state, .slice f.PA q.p.part.length f.pc, .slice f.LA q.p.log.length f.lc, .slice f.A q.p.lines.length f.c, .slice AR nR cR, .int .i64 (q.at : Int)] from HH8.out.1.frm hf5 (by simpa using fun e => HNE.out e.symm))
  replace HA := Lib.hid (show Cel U7 a 49 [.int .i64 s, .slice PA pt.length pc, .slice A8 (q.p.log.length + lg.length) c8, .slice A9 (q.p.lines.length + ls.length) c9] by rw [hU7]; exact HH8.out.2.set 3 _)
  replace HR := Lib.hid (HR2.out.keep hf5 (fun j hj => by rw [List.mem_singleton.1 hj]; exact hkd))
  replace HF3 := Lib.hid (HF3.out.trans (hf5.mono (by intro j hj _; rw [List.mem_singleton.1 hj]; simp)))
  clear hU7 hf5 hkd hH8 hH HH8 HS1 HS2 HR1 HR2
  have q0 := HA.out.cell 0
  have q1 := HA.out.cell 1
  have q2 := HA.out.cell 2
  have q3 := HA.out.cell 3
  have r0 := HG.out.cell 0
  have r1 := HG.out.cell 1
  have r2 := HG.out.cell 2
  have r3 := HG.out.cell 3
  have g0 := HG.out.free 0
  have g1 := HG.out.free 1
  have g2 := HG.out.free 2
  have g3 := HG.out.free 3
  have HX := Lib.hid (show Cel (fw4 U7 g (.int .i64 s) (.slice PA pt.length pc) (.slice A8 (q.p.log.length + lg.length) c8) (.slice A9 (q.p.lines.length + ls.length) c9)) g 60 [.int .i64 s, .slice PA pt.length pc, .slice A8 (q.p.log.length + lg.length) c8, .slice A9 (q.p.lines.length + ls.length) c9, .slice AR nR cR, .int .i64 (q.at : Int)] from (((HG.out.set 0 _).set 1 _).set 2 _).set 3 _)
  have HFR := Lib.hid (fw4_frm U7 g (.int .i64 s) (.slice PA pt.length pc) (.slice A8 (q.p.log.length + lg.length) c8) (.slice A9 (q.p.lines.length + ls.length) c9))
  unfold fw4 at HX HFR
  go_wp2_with fail
  go_end0
  have hm := HM.out
  unfold Dvm.m at hm
  dsimp only at hm
  have hl1 : (q.p.log ++ lg).length = q.p.log.length + lg.length := List.length_append
  have hl2 : (q.p.lines ++ txt ls).length = q.p.lines.length + ls.length := by rw [List.length_append]; unfold txt; rw [List.length_map]
  refine ⟨rfl, { PA := PA, pc := pc, LA := A8, lc := c8, A := A9, c := c9, us := f.us ++ ls }, (HF3.out.trans (HFR.out.mono (by intro j hj _; rw [List.mem_singleton.1 hj, List.mem_append, mem_lb]; exact Or.inl (Or.inl rfl)))).mono (by
   intro j hj hlt
   rcases List.mem_append.1 hj with hj | hj
   ·exact hj
   ·rw [List.mem_singleton.1 hj] at hlt
    have := HGE.out
    omega), fun k hk => ?_, ⟨?_, ?_⟩⟩
  ·rcases mem_lb.1 hk with rfl | e | e
   ·exact .inl (mem_lb.2 (Or.inl rfl))
   ·exact (HN2.out k e).imp (fun e => mem_lb.2 (Or.inr (Or.inl e))) id
   ·exact (HN3.out k e).imp (fun e => mem_lb.2 (Or.inr (Or.inr e))) id
  ·unfold lcells
   rw [← hm]
   dsimp only
   rw [hl1, hl2]
   exact HX.out
  ·rw [← hm]
   exact HR.out.keep HFR.out (fun j hj => by rw [List.mem_singleton.1 hj]; exact Plk.kinds HG.out (by decide) (by decide) (by decide))
 ·go_simp
  refine hKq.out _ _ (.inr (hH.alloc (Nat.le_refl _) _)) ?_
  clear hKq Kq
  try simp only [Act.put, lay_]
  obtain ⟨a, ha⟩ : ∃ a, a = W.heap.size := ⟨_, rfl⟩
  obtain ⟨V1, hV1⟩ : ∃ X, X = W.alloc (.cells #[.int .i64 0, .slice none 0 0, .slice none 0 0, .slice none 0 0] 49) := ⟨_, rfl⟩
  have hbV : Below W.heap.size W V1 := by rw [hV1]; exact (Below.refl _ _).alloc (Nat.le_refl _) _
  have hc1 : Cel V1 a 49 [.int .i64 0, .slice none 0 0, .slice none 0 0, .slice none 0 0] := by rw [hV1, ha]; exact Cel.new W _ _
  rw [← hV1, ← ha]
  have HAW := Lib.hid ha
  clear ha hV1
  have hbw1 : Below w.heap.size w V1 := HBW.out.trans (hbV.mono HBW.out.size)
  refine wpAnyN_one (i := 16) (by kernel_rfl) rfl (fun Kq hKq => ?_)
  go_simp
  refine (CON.out V1 hbw1).mono ?_
  rintro e V2 ⟨⟨s, pt, lg, ls, PA, pc, LA, lc, AL, cL⟩, rfl, hb1, hd1, hm1, ho1⟩
  have HM := Lib.hid hm1
  unfold Dvm.cells
  dsimp only
  go_wp2_with fail
  refine hKq.out _ _ (.inr (by rw [HAW.out]; exact hbV.trans (hb1.mono hbV.size))) ?_
  clear hKq Kq
  try simp only [Act.put, lay_]
  have hc2 : Cel V2 a 49 [.int .i64 0, .slice none 0 0, .slice none 0 0, .slice none 0 0] := hc1.below hb1 hc1.lt
  have HX := Lib.hid (show Below w.heap.size w V2 ∧ w.heap.size ≤ a ∧ Cel V2 a 49 [.int .i64 0, .slice none 0 0, .slice none 0 0, .slice none 0 0] ∧ Dok V2 0 ⟨s, pt, lg, ls, PA, pc, LA, lc, AL, cL⟩ ∧ Rown V2 w.heap.size ⟨s, pt, lg, ls, PA, pc, LA, lc, AL, cL⟩ from
   ⟨hbw1.trans (hb1.mono hbw1.size), by rw [HAW.out, HWZ.out]; exact Nat.le_refl _, hc2, hd1, ho1.more hbw1.size⟩)
  clear HAW hbV hb1 hd1 hm1 ho1 hc1 hbw1
  have r0 := hc2.cell 0
  have r1 := hc2.cell 1
  have r2 := hc2.cell 2
  have r3 := hc2.cell 3
  have g0 := hc2.free 0
  have g1 := hc2.free 1
  have g2 := hc2.free 2
  have g3 := hc2.free 3
  refine wpAnyN_one (i := 18) (by kernel_rfl) rfl (fun Kq hKq => ?_)
  go_simp
  refine hKq.out _ _ (.inl (by decide)) ?_
  clear hKq Kq r0 r1 r2 r3 g0 g1 g2 g3 hc2
  try simp only [Act.put, lay_]
  refine wpAnyN_done (by kernel_rfl) ?_ _
  obtain ⟨U, hU⟩ : ∃ U, U = fw4 V2 a (.int .i64 s) (.slice PA pt.length pc) (.slice LA lg.length lc) (.slice AL ls.length cL) := ⟨_, rfl⟩
  have hfd := fedd_ HP.out HX.out.1 HX.out.2.1 HX.out.2.2.1 HX.out.2.2.2.1 HX.out.2.2.2.2
  rw [← hU] at hfd
  unfold fw4 at hU
  rw [← hU]
  have HG := Lib.hid (show Cel U g 60 [.int .i64 q.p.state, .slice f.PA q.p.part.length f.pc, .slice f.LA q.p.log.length f.lc, .slice f.A q.p.lines.length f.c, .slice AR nR cR, .int .i64 (q.at : Int)] from hfd.cg)
  have HA := Lib.hid (show Cel U a 49 [.int .i64 s, .slice PA pt.length pc, .slice LA lg.length lc, .slice AL ls.length cL] from hfd.ca)
  have HR := Lib.hid (show Plr U K AR nR vs ⟨s, pt, q.p.log, q.p.lines⟩ { f with PA := PA, pc := pc } ls from hfd.pr)
  have HLG := Lib.hid (show By U LA lg.length lg from hfd.lg)
  have HY := Lib.hid (show Ry 37 U AL (ls.map Vt.cell) from hfd.ry)
  have HBU := Lib.hid hfd.low
  have HGE := Lib.hid hfd.ha
  have HNE := Lib.hid hfd.ne
  have HZ := Lib.hid (show lg.length ≤ 60 * 1000 ∧ ls.length ≤ 1000 from by
   have h1 := congrArg Pe.log HM.out
   have h2 := congrArg Pe.lines HM.out
   have h3 : (txt ls).length = ls.length := by unfold txt; rw [List.length_map]
   have h4 := HSZ.out
   unfold Dvm.m at h1 h2
   dsimp only at h1 h2
   rw [← h1, ← h2, h3] at h4
   exact h4)
  clear hU hfd hH HX
  go_upto_region 1 with fail
  refine wp_region_N [9] (fun V => Cel V g 60 [.int .i64 q.p.state, .slice f.PA q.p.part.length f.pc, .slice f.LA q.p.log.length f.lc, .slice f.A q.p.lines.length f.c, .slice AR nR cR, .int .i64 (q.at : Int)] ∧ Cel V a 49 [.int .i64 s, .slice PA pt.length pc, .slice LA lg.length lc, .slice AL ls.length cL]) (by kernel_rfl) ?_
  have HS1 := Lib.hid (show ∀ V, (Cel V g 60 [.int .i64 q.p.state, .slice f.PA q.p.part.length f.pc, .slice f.LA q.p.log.length f.lc, .slice f.A q.p.lines.length f.c, .slice AR nR cR, .int .i64 (q.at : Int)] ∧ Cel V a 49 [.int .i64 s, .slice PA pt.length pc, .slice LA lg.length lc, .slice AL ls.length cL]) → Cel V g 60 [.int .i64 q.p.state, .slice f.PA q.p.part.length f.pc, .slice f.LA q.p.log.length f.lc, .slice f.A q.p.lines.length f.c, .slice AR nR cR, .int .i64 (q.at : Int)] from fun V h => h.1)
  have HS2 := Lib.hid (show ∀ V, (Cel V g 60 [.int .i64 q.p.state, .slice f.PA q.p.part.length f.pc, .slice f.LA q.p.log.length f.lc, .slice f.A q.p.lines.length f.c, .slice AR nR cR, .int .i64 (q.at : Int)] ∧ Cel V a 49 [.int .i64 s, .slice PA pt.length pc, .slice LA lg.length lc, .slice AL ls.length cL]) → Cel V a 49 [.int .i64 s, .slice PA pt.length pc, .slice LA lg.length lc, .slice AL ls.length cL] from fun V h => h.2)
  have hH : Cel U.drew g 60 [.int .i64 q.p.state, .slice f.PA q.p.part.length f.pc, .slice f.LA q.p.log.length f.lc, .slice f.A q.p.lines.length f.c, .slice AR nR cR, .int .i64 (q.at : Int)] ∧ Cel U.drew a 49 [.int .i64 s, .slice PA pt.length pc, .slice LA lg.length lc, .slice AL ls.length cL] := ⟨HG.out.drew, HA.out.drew⟩
  have HR1 := Lib.hid (HR.out.below (Below.refl _ _).drew)
  refine tk_ 0 (.pointer (some ⟨g, 0, none⟩)) [9] rfl hH ?_ ?_
  ·intro V hV; go_simp
  try simp only [Act.put, lay_]
  refine tk_ 1 (.pointer (some ⟨g, 0, none⟩)) [9] rfl hH ?_ ?_
  ·intro V hV; go_simp
  try simp only [Act.put, lay_]
  refine tk_ 2 (.pointer (some ⟨g, 0, none⟩)) [9] rfl hH ?_ ?_
  ·intro V hV; go_simp
  try simp only [Act.put, lay_]
  refine tk_ 3 (.pointer (some ⟨g, 2, none⟩)) [9] rfl hH ?_ ?_
  ·intro V hV; go_simp
  try simp only [Act.put, lay_]
  refine tk_ 4 (.slice f.LA q.p.log.length f.lc) [9] rfl hH ?_ ?_
  ·intro V hV; have hc := HS1.out V hV; have k0 : V.cell? ⟨g, 2, none⟩ = some (.slice f.LA q.p.log.length f.lc) := hc.cell 2; clear hc; go_simp
  try simp only [Act.put, lay_]
  refine tk_ 5 (.pointer (some ⟨a, 2, none⟩)) [9] rfl hH ?_ ?_
  ·intro V hV; go_simp
  try simp only [Act.put, lay_]
  refine tk_ 6 (.slice LA lg.length lc) [9] rfl hH ?_ ?_
  ·intro V hV; have hc := HS2.out V hV; have k0 : V.cell? ⟨a, 2, none⟩ = some (.slice LA lg.length lc) := hc.cell 2; clear hc; go_simp
  try simp only [Act.put, lay_]
  refine wpAnyN_one (i := 7) (by kernel_rfl) rfl (fun Kq hKq => ?_)
  rw [if_pos (by rfl)]
  refine wp_append_bs _ _ _ 37 rfl K 5 bytesP (.slice f.LA q.p.log.length f.lc) q.p.log.length q.p.log rfl HR1.out.lg U.heap.size LA lg.length lc lg rfl HLG.out.rd (by have h1 := HS.out.2.1; have h2 := HZ.out; omega) (Nat.le_trans hK HBU.out.size) ?_
  intro A8 c8 w8 ho8 hg8 hn8
  rw [ob_own] at hg8
  rw [ob_own, ob_own] at hn8
  have hnn : ∀ k (t : TypeId) cs, Cel U.drew k t cs → t ≠ 5 → ob f.LA ≠ some k := fun k t cs hc ht e => by rw [← ob_own f.LA q.p.log.length f.lc] at e; exact own_ty_ne HR1.out.lg hc (Ne.symm ht) e
  have hH8 : Cel w8 g 60 [.int .i64 q.p.state, .slice f.PA q.p.part.length f.pc, .slice f.LA q.p.log.length f.lc, .slice f.A q.p.lines.length f.c, .slice AR nR cR, .int .i64 (q.at : Int)] ∧ Cel w8 a 49 [.int .i64 s, .slice PA pt.length pc, .slice LA lg.length lc, .slice AL ls.length cL] := ⟨HG.out.drew.grown hg8 (hnn _ _ _ HG.out.drew (by decide)), HA.out.drew.grown hg8 (hnn _ _ _ HA.out.drew (by decide))⟩
  have HR2 := Lib.hid (HR1.out.logged lg (by rw [List.length_append]) ho8 hg8 hn8)
  have HY2 := Lib.hid (show Ry 37 w8 AL (ls.map Vt.cell) from Plr.ry_keep HY.out (fun j o fz e => hg8.block j (Array.getElem?_eq_some_iff.1 e).1 (fun e' => own_not_ty HR1.out.lg (t' := 37) (by decide) j o fz (by rw [ob_own]; exact e'.symm) e)))
  have HF2 := Lib.hid (show Frm (lb g f ++ [a]) w w8 from (Frm.of_below HBU.out.drew).trans (((Frm.refl (ob f.LA).toList U.drew).grown hg8 (fun j e _ => by simp [e])).mono (by intro j hj _; rw [List.mem_append, mem_lb]; exact Or.inl (Or.inr (Or.inl (by simpa using hj))))))
  have HN2 := Lib.hid (show ∀ k, ob A8 = some k → ob f.LA = some k ∨ w.heap.size ≤ k from fun k e => by
   rcases hn8 with e' | e'
   ·exact .inl (e' ▸ e)
   ·rw [e'] at e; injection e with e; have := HBU.out.size; exact .inr (by rw [← e]; exact this))
  have HKU := Lib.hid (show K ≤ w8.heap.size from Nat.le_trans hK (Nat.le_trans HBU.out.size hg8.size))
  have HH8 := Lib.hid hH8
  clear ho8 hg8 hn8 hnn
  refine hKq.out _ _ (.inr hH8) ?_
  clear hKq Kq
  try simp only [Act.put, lay_]
  clear hH
  have hH := hH8
  refine tk_ 8 (.pointer (some ⟨a, 2, none⟩)) [9] rfl hH ?_ ?_
  ·intro V hV; go_simp
  try simp only [Act.put, lay_]
  have k2 := hH8.2.cell 2
  have f2 := hH8.2.free 2
  refine wpAnyN_one (i := 9) (by kernel_rfl) rfl (fun Kq hKq => ?_)
  go_simp
  refine hKq.out _ _ (.inl (by decide)) ?_
  clear hKq Kq k2 f2
  try simp only [Act.put, lay_]
  refine wpAnyN_done (by kernel_rfl) ?_ _
  obtain ⟨U5, hU5⟩ : ∃ X, X = w8.setCell ⟨a, 2, none⟩ (.slice A8 (q.p.log.length + lg.length) c8) := ⟨_, rfl⟩
  rw [← hU5]
  have hf5 : Frm [a] w8 U5 := by rw [hU5]; exact (Frm.refl [a] w8).set (p := ⟨a, 2, none⟩) (by simp) _
  have hkd := Plk.kinds HH8.out.2 (by decide) (by decide) (by decide)
  replace HG := Lib.hid (show Cel U5 g 60 [.int .i64 q.p.state, .slice f.PA q.p.part.length f.pc, .slice f.LA q.p.log.length f.lc, .slice f.A q.p.lines.length f.c, .slice AR nR cR, .int .i64 (q.at : Int)] from HH8.out.1.frm hf5 (by simpa using fun e => HNE.out e.symm))
  replace HA := Lib.hid (show Cel U5 a 49 [.int .i64 s, .slice PA pt.length pc, .slice A8 (q.p.log.length + lg.length) c8, .slice AL ls.length cL] by rw [hU5]; exact HH8.out.2.set 2 _)
  replace HR := Lib.hid (HR2.out.keep hf5 (fun j hj => by rw [List.mem_singleton.1 hj]; exact hkd))
  replace HY := Lib.hid (Plr.ry_keep HY2.out (fun j o fz e => hf5.block j (Array.getElem?_eq_some_iff.1 e).1 (fun hm => (hkd o fz).2.1 (by rw [← List.mem_singleton.1 hm]; exact e))))
  replace HF2 := Lib.hid (HF2.out.trans (hf5.mono (by intro j hj _; rw [List.mem_singleton.1 hj]; simp)))
  replace HKU := Lib.hid (show K ≤ U5.heap.size from Nat.le_trans HKU.out hf5.size)
  clear hU5 hf5 hkd hH8 hH HH8 HS1 HS2 HR1 HR2 HY2
  go_upto_region 2 with fail
  refine wp_region_N [9] (fun V => Cel V g 60 [.int .i64 q.p.state, .slice f.PA q.p.part.length f.pc, .slice f.LA q.p.log.length f.lc, .slice f.A q.p.lines.length f.c, .slice AR nR cR, .int .i64 (q.at : Int)] ∧ Cel V a 49 [.int .i64 s, .slice PA pt.length pc, .slice A8 (q.p.log.length + lg.length) c8, .slice AL ls.length cL]) (by kernel_rfl) ?_
  have HS1 := Lib.hid (show ∀ V, (Cel V g 60 [.int .i64 q.p.state, .slice f.PA q.p.part.length f.pc, .slice f.LA q.p.log.length f.lc, .slice f.A q.p.lines.length f.c, .slice AR nR cR, .int .i64 (q.at : Int)] ∧ Cel V a 49 [.int .i64 s, .slice PA pt.length pc, .slice A8 (q.p.log.length + lg.length) c8, .slice AL ls.length cL]) → Cel V g 60 [.int .i64 q.p.state, .slice f.PA q.p.part.length f.pc, .slice f.LA q.p.log.length f.lc, .slice f.A q.p.lines.length f.c, .slice AR nR cR, .int .i64 (q.at : Int)] from fun V h => h.1)
  have HS2 := Lib.hid (show ∀ V, (Cel V g 60 [.int .i64 q.p.state, .slice f.PA q.p.part.length f.pc, .slice f.LA q.p.log.length f.lc, .slice f.A q.p.lines.length f.c, .slice AR nR cR, .int .i64 (q.at : Int)] ∧ Cel V a 49 [.int .i64 s, .slice PA pt.length pc, .slice A8 (q.p.log.length + lg.length) c8, .slice AL ls.length cL]) → Cel V a 49 [.int .i64 s, .slice PA pt.length pc, .slice A8 (q.p.log.length + lg.length) c8, .slice AL ls.length cL] from fun V h => h.2)
  have hH : Cel U5.drew g 60 [.int .i64 q.p.state, .slice f.PA q.p.part.length f.pc, .slice f.LA q.p.log.length f.lc, .slice f.A q.p.lines.length f.c, .slice AR nR cR, .int .i64 (q.at : Int)] ∧ Cel U5.drew a 49 [.int .i64 s, .slice PA pt.length pc, .slice A8 (q.p.log.length + lg.length) c8, .slice AL ls.length cL] := ⟨HG.out.drew, HA.out.drew⟩
  have HR1 := Lib.hid (HR.out.below (Below.refl _ _).drew)
  refine tk_ 0 (.pointer (some ⟨g, 0, none⟩)) [9] rfl hH ?_ ?_
  ·intro V hV; go_simp
  try simp only [Act.put, lay_]
  refine tk_ 1 (.pointer (some ⟨g, 0, none⟩)) [9] rfl hH ?_ ?_
  ·intro V hV; go_simp
  try simp only [Act.put, lay_]
  refine tk_ 2 (.pointer (some ⟨g, 0, none⟩)) [9] rfl hH ?_ ?_
  ·intro V hV; go_simp
  try simp only [Act.put, lay_]
  refine tk_ 3 (.pointer (some ⟨g, 3, none⟩)) [9] rfl hH ?_ ?_
  ·intro V hV; go_simp
  try simp only [Act.put, lay_]
  refine tk_ 4 (.slice f.A q.p.lines.length f.c) [9] rfl hH ?_ ?_
  ·intro V hV; have hc := HS1.out V hV; have k0 : V.cell? ⟨g, 3, none⟩ = some (.slice f.A q.p.lines.length f.c) := hc.cell 3; clear hc; go_simp
  try simp only [Act.put, lay_]
  refine tk_ 5 (.pointer (some ⟨a, 3, none⟩)) [9] rfl hH ?_ ?_
  ·intro V hV; go_simp
  try simp only [Act.put, lay_]
  refine tk_ 6 (.slice AL ls.length cL) [9] rfl hH ?_ ?_
  ·intro V hV; have hc := HS2.out V hV; have k0 : V.cell? ⟨a, 3, none⟩ = some (.slice AL ls.length cL) := hc.cell 3; clear hc; go_simp
  try simp only [Act.put, lay_]
  refine wpAnyN_one (i := 7) (by kernel_rfl) rfl (fun Kq hKq => ?_)
  rw [if_pos (by rfl)]
  refine wp_append_any _ _ _ 47 rfl K 37 rowLn (.slice f.A q.p.lines.length f.c) q.p.lines.length (f.us.map Vt.cell) rfl HR1.out.ls AL ls.length cL (ls.map Vt.cell) rfl (by rw [List.length_map, Nat.mul_one]) (src_ry (HY.out) (by rw [List.length_map])) (by intro u hu; obtain ⟨y, _, rfl⟩ := List.mem_map.1 hu; rfl) (q.p.lines.length + ls.length) _ rfl rfl (by have h1 := HS.out.2.2.1; have h2 := HZ.out; unfold maxLen; omega) (by have h1 := HS.out.2.2.1; have h2 := HZ.out; omega) HKU.out ?_
  intro A9 c9 w9 ho8 hg8 hn8
  rw [ob_own] at hg8
  rw [ob_own, ob_own] at hn8
  have hnn : ∀ k (t : TypeId) cs, Cel U5.drew k t cs → t ≠ 37 → ob f.A ≠ some k := fun k t cs hc ht e => by rw [← ob_own f.A q.p.lines.length f.c] at e; exact own_ty_ne HR1.out.ls hc (Ne.symm ht) e
  have hH8 : Cel w9 g 60 [.int .i64 q.p.state, .slice f.PA q.p.part.length f.pc, .slice f.LA q.p.log.length f.lc, .slice f.A q.p.lines.length f.c, .slice AR nR cR, .int .i64 (q.at : Int)] ∧ Cel w9 a 49 [.int .i64 s, .slice PA pt.length pc, .slice A8 (q.p.log.length + lg.length) c8, .slice AL ls.length cL] := ⟨HG.out.drew.grown hg8 (hnn _ _ _ HG.out.drew (by decide)), HA.out.drew.grown hg8 (hnn _ _ _ HA.out.drew (by decide))⟩
  have HR2 := Lib.hid (HR1.out.lined rfl ho8 hg8)
  have HF3 := Lib.hid (show Frm (lb g f ++ [a]) w w9 from (HF2.out.trans (Frm.of_below (Below.refl _ U5).drew)).trans (((Frm.refl (ob f.A).toList U5.drew).grown hg8 (fun j e _ => by simp [e])).mono (by intro j hj _; rw [List.mem_append, mem_lb]; exact Or.inl (Or.inr (Or.inr (by simpa using hj))))))
  have HN3 := Lib.hid (show ∀ k, ob A9 = some k → ob f.A = some k ∨ w.heap.size ≤ k from fun k e => by
   rcases hn8 with e' | e'
   ·exact .inl (e' ▸ e)
   ·rw [e'] at e; injection e with e; have := HF2.out.size; exact .inr (by rw [← e]; exact this))
  have HH8 := Lib.hid hH8
  clear ho8 hg8 hn8 hnn
  refine hKq.out _ _ (.inr hH8) ?_
  clear hKq Kq
  try simp only [Act.put, lay_]
  clear hH
  have hH := hH8
  refine tk_ 8 (.pointer (some ⟨a, 3, none⟩)) [9] rfl hH ?_ ?_
  ·intro V hV; go_simp
  try simp only [Act.put, lay_]
  have k2 := hH8.2.cell 3
  have f2 := hH8.2.free 3
  refine wpAnyN_one (i := 9) (by kernel_rfl) rfl (fun Kq hKq => ?_)
  go_simp
  refine hKq.out _ _ (.inl (by decide)) ?_
  clear hKq Kq k2 f2
  try simp only [Act.put, lay_]
  refine wpAnyN_done (by kernel_rfl) ?_ _
  obtain ⟨U7, hU7⟩ : ∃ X, X = w9.setCell ⟨a, 3, none⟩ (.slice A9 (q.p.lines.length + ls.length) c9) := ⟨_, rfl⟩
  rw [← hU7]
  have hf5 : Frm [a] w9 U7 := by rw [hU7]; exact (Frm.refl [a] w9).set (p := ⟨a, 3, none⟩) (by simp) _
  have hkd := Plk.kinds HH8.out.2 (by decide) (by decide) (by decide)
  replace HG := Lib.hid (show Cel U7 g 60 [.int .i64 q.p.state, .slice f.PA q.p.part.length f.pc, .slice f.LA q.p.log.length f.lc, .slice f.A q.p.lines.length f.c, .slice AR nR cR, .int .i64 (q.at : Int)] from HH8.out.1.frm hf5 (by simpa using fun e => HNE.out e.symm))
  replace HA := Lib.hid (show Cel U7 a 49 [.int .i64 s, .slice PA pt.length pc, .slice A8 (q.p.log.length + lg.length) c8, .slice A9 (q.p.lines.length + ls.length) c9] by rw [hU7]; exact HH8.out.2.set 3 _)
  replace HR := Lib.hid (HR2.out.keep hf5 (fun j hj => by rw [List.mem_singleton.1 hj]; exact hkd))
  replace HF3 := Lib.hid (HF3.out.trans (hf5.mono (by intro j hj _; rw [List.mem_singleton.1 hj]; simp)))
  clear hU7 hf5 hkd hH8 hH HH8 HS1 HS2 HR1 HR2
  have q0 := HA.out.cell 0
  have q1 := HA.out.cell 1
  have q2 := HA.out.cell 2
  have q3 := HA.out.cell 3
  have r0 := HG.out.cell 0
  have r1 := HG.out.cell 1
  have r2 := HG.out.cell 2
  have r3 := HG.out.cell 3
  have g0 := HG.out.free 0
  have g1 := HG.out.free 1
  have g2 := HG.out.free 2
  have g3 := HG.out.free 3
  have HX := Lib.hid (show Cel (fw4 U7 g (.int .i64 s) (.slice PA pt.length pc) (.slice A8 (q.p.log.length + lg.length) c8) (.slice A9 (q.p.lines.length + ls.length) c9)) g 60 [.int .i64 s, .slice PA pt.length pc, .slice A8 (q.p.log.length + lg.length) c8, .slice A9 (q.p.lines.length + ls.length) c9, .slice AR nR cR, .int .i64 (q.at : Int)] from (((HG.out.set 0 _).set 1 _).set 2 _).set 3 _)
  have HFR := Lib.hid (fw4_frm U7 g (.int .i64 s) (.slice PA pt.length pc) (.slice A8 (q.p.log.length + lg.length) c8) (.slice A9 (q.p.lines.length + ls.length) c9))
  unfold fw4 at HX HFR
  go_wp2_with fail
  go_end0
  have hm := HM.out
  unfold Dvm.m at hm
  dsimp only at hm
  have hl1 : (q.p.log ++ lg).length = q.p.log.length + lg.length := List.length_append
  have hl2 : (q.p.lines ++ txt ls).length = q.p.lines.length + ls.length := by rw [List.length_append]; unfold txt; rw [List.length_map]
  refine ⟨rfl, { PA := PA, pc := pc, LA := A8, lc := c8, A := A9, c := c9, us := f.us ++ ls }, (HF3.out.trans (HFR.out.mono (by intro j hj _; rw [List.mem_singleton.1 hj, List.mem_append, mem_lb]; exact Or.inl (Or.inl rfl)))).mono (by
   intro j hj hlt
   rcases List.mem_append.1 hj with hj | hj
   ·exact hj
   ·rw [List.mem_singleton.1 hj] at hlt
    have := HGE.out
    omega), fun k hk => ?_, ⟨?_, ?_⟩⟩
  ·rcases mem_lb.1 hk with rfl | e | e
   ·exact .inl (mem_lb.2 (Or.inl rfl))
   ·exact (HN2.out k e).imp (fun e => mem_lb.2 (Or.inr (Or.inl e))) id
   ·exact (HN3.out k e).imp (fun e => mem_lb.2 (Or.inr (Or.inr e))) id
  ·unfold lcells
   rw [← hm]
   dsimp only
   rw [hl1, hl2]
   exact HX.out
  ·rw [← hm]
   exact HR.out.keep HFR.out (fun j hj => by rw [List.mem_singleton.1 hj]; exact Plk.kinds HG.out (by decide) (by decide) (by decide))
end Go.Proofs.Ytnjmdgnghidjhaa.Peer
