/-
Texts: PeerPtake PeerPcopied
-/
import Derived.Test.YtnjmdgnghidjhaaLinkTakes0
import Derived.Test.YtnjmdgnghidjhaaLinkTakes1
import Derived.Test.YtnjmdgnghidjhaaLinkTakes2
import Derived.Test.YtnjmdgnghidjhaaLinkTakes4
set_option linter.unusedVariables false
set_option linter.unusedSimpArgs false
set_option maxRecDepth 100000
set_option maxHeartbeats 4000000
namespace Go.Proofs.Ytnjmdgnghidjhaa.Ord
end Go.Proofs.Ytnjmdgnghidjhaa.Ord
section
namespace Go.Proofs.Ytnjmdgnghidjhaa.Peer
open Go.RowKit Go.Proofs.Ytnjmdgnghidjhaa.Ord
open Lex (Tx fw4 fw4_cel fw4_frm b_ne)
open Rec (Vt Tvs Trow txt)
theorem below_grown {w0 w w' : World} {K : Nat} {A : Option Addr} (hb : Below K w0 w) (hK : K ≤ w0.heap.size) (hg : w.grownBy w' (ob A)) (hl : ∀ q, ob A = some q → K ≤ q) : Below K w0 w' :=
 mono_below (l := (ob A).toList) hb hK ((Frm.refl _ w).grown hg (fun q e _ => by simp [e])) (fun q hq => hl q (by simpa using hq))
theorem complete_ (w : World) (K g T : Nat) (AR : Option Addr) (nR cR : Nat) (vs : List Rl) (hR : ∀ V, Below K w V → Rls V T AR vs) (hT : T ≤ K) (hK : K ≤ w.heap.size) (hKg : K ≤ g) (hl : vs.length = nR) (hn : nR ≤ 100000) (p : Pe) (f : Fv) (h : Fd w K g AR nR cR p f)
  (hsz : p.log.length ≤ 10000000 ∧ (∀ v ∈ vs, v.r.out.length ≤ 1000000) ∧ p.part.length ≤ 400 ∧ p.lines.length ≤ 1000000) :
  Calls Try.prog 33 #[.pointer (some ⟨g, 0, none⟩)] w fun e w' => e = .returned (.tuple #[]) ∧ Below K w w' ∧ ∃ f', Fd w' K g AR nR cR (lineR (vs.map (·.r)) p p.part) f' := by
 rw [line_ans]
 have HRF := Lib.hid hR
 have HL := Lib.hid hl
 have HF := Lib.hid h
 have HSZ := Lib.hid hsz
 have k1 : w.cell? ⟨g, 1, none⟩ = some (.slice f.PA p.part.length f.pc) := h.cel.cell 1
 have k3 : w.cell? ⟨g, 3, none⟩ = some (.slice f.A p.lines.length f.c) := h.cel.cell 3
 obtain ⟨W, hW⟩ : ∃ W, W = w.alloc (.cells #[.slice f.PA p.part.length f.pc] 37) := ⟨_, rfl⟩
 have hbW : Below w.heap.size w W := by rw [hW]; exact (Below.refl _ _).alloc (Nat.le_refl _) _
 have HBW := Lib.hid hbW
 have HFW := Lib.hid (h.below hbW)
 have HSX := Lib.hid (show Src W (some ⟨w.heap.size, 0, none⟩) 1 [.slice f.PA p.part.length f.pc] by rw [hW]; exact Ry.src (m := 1) (Ry.of_cel (Cel.new w 37 [.slice f.PA p.part.length f.pc])) (by simp))
 have HWE := Lib.hid hW
 have HOW := Lib.hid HFW.out.ls
 have hKW : K ≤ W.heap.size := Nat.le_trans hK hbW.size
 have HUN := Lib.hid (show f.us.length = p.lines.length by have := congrArg List.length h.tx; unfold txt at this; simpa using this)
 rw [hW] at HOW HSX hKW
 clear hR hl h hsz hW hbW
 go_enter Try.func33, Try.ntmps33
 go_wp2_with ((at_builtin; refine wpList_append_any _ rfl _ _ 47 rfl K 37 rowLn (.slice f.A p.lines.length f.c) p.lines.length (f.us.map Vt.cell) rfl HOW.out (some ⟨w.heap.size, 0, none⟩) 1 1 [.slice f.PA p.part.length f.pc] rfl rfl HSX.out (by intro u hu; rw [List.mem_singleton.1 hu]; rfl) (p.lines.length + 1) _ rfl rfl (by have := HSZ.out.2.2.2; unfold maxLen; omega) (by have := HSZ.out.2.2.2; omega) hKW ?_; intro A5 c5 w5 ho5 hg5 hn5; rw [← HWE.out] at hg5 hn5; rw [ob_own] at hg5; rw [ob_own, ob_own] at hn5; have hc5 := HFW.out.cel.grown hg5 HFW.out.ls_g; have q1 := hc5.cell 1; have q3 := hc5.cell 3; have f1 := hc5.free 1; have f3 := hc5.free 3; have HC5 := Lib.hid hc5; have HO5 := Lib.hid ho5; have HG5 := Lib.hid hg5; have HN5 := Lib.hid hn5; clear ho5 hg5 hn5 hc5))
 have hfd := HFW.out.line HSZ.out.2.2.1 HO5.out HG5.out HN5.out
 obtain ⟨V6, hV6⟩ : ∃ V6, V6 = (w5.setCell ⟨g, 3, none⟩ (.slice A5 (p.lines.length + 1) c5)).setCell ⟨g, 1, none⟩ (.slice none 0 0) := ⟨_, rfl⟩
 rw [← hV6] at hfd ⊢
 have hb6 : Below K w V6 := by
  have h1 : Below K w w5 := below_grown (HBW.out.mono hK) hK HG5.out HFW.out.ls_ge
  exact mono_below h1 hK (show Frm [g] w5 V6 by rw [hV6]; exact ((Frm.refl [g] w5).set (p := ⟨g, 3, none⟩) (by simp) _).set (p := ⟨g, 1, none⟩) (by simp) _) (by simp; exact hKg)
 have hx : Bs V6 V6.heap.size f.PA p.part.length p.part := (hfd.by_ (⟨f.PA, f.pc, p.part⟩ : Vt) (by simp)).1.low
 have con := answer_ V6 K g T AR nR cR vs (fun V h => HRF.out V (hb6.trans h)) hT (Nat.le_trans hK hb6.size) hKg HL.out hn _ _ hfd f.PA f.pc p.part hx ⟨HSZ.out.1, HSZ.out.2.1⟩
 have HB6 := Lib.hid hb6
 clear hV6 hb6 hx hfd q1 q3 f1 f3
 refine con.mono ?_
 rintro e w7 ⟨rfl, hb7, f', hf'⟩
 have H7 := Lib.hid hf'
 have HB7 := Lib.hid hb7
 clear con hf' hb7
 go_wp2_with fail
 go_end0
 exact ⟨rfl, HB6.out.trans HB7.out, f', H7.out⟩
theorem receive_ (w : World) (K g T : Nat) (AR : Option Addr) (nR cR : Nat) (vs : List Rl) (hR : ∀ V, Below K w V → Rls V T AR vs) (hT : T ≤ K) (hK : K ≤ w.heap.size) (hKg : K ≤ g) (hl : vs.length = nR) (hn : nR ≤ 100000) (p : Pe) (f : Fv) (h : Fd w K g AR nR cR p f)
  (hsz : p.log.length ≤ 10000000 ∧ (∀ v ∈ vs, v.r.out.length ≤ 1000000) ∧ p.part.length ≤ 400 ∧ p.lines.length ≤ 1000000) (x : B) :
  Calls Try.prog 32 #[.pointer (some ⟨g, 0, none⟩), v8 x] w fun e w' => e = .returned (.tuple #[]) ∧ Below K w w' ∧ ∃ f', Fd w' K g AR nR cR (byteR (vs.map (·.r)) p x) f' := by
 by_cases h10 : x = 10#8
 ·subst h10
  have con := complete_ w K g T AR nR cR vs hR hT hK hKg hl hn p f h hsz
  have e0 : byteR (vs.map (·.r)) p 10#8 = lineR (vs.map (·.r)) p p.part := by unfold byteR; rw [if_pos (show (10#8 : B) = 10 from rfl)]
  rw [e0]
  clear hR hl h hsz
  go_enter Try.func32, Try.ntmps32
  go_wp2_with fail
  refine con.mono ?_
  rintro e w7 ⟨rfl, hb7, f', hf'⟩
  have H7 := Lib.hid hf'
  have HB7 := Lib.hid hb7
  clear con hf' hb7
  go_wp2_with fail
  go_end0
  exact ⟨rfl, HB7.out, f', H7.out⟩
 ·have e10 : ((x.toNat : Int) == 10) = false := b_ne (k := 10) (by decide) h10
  have HF := Lib.hid h
  by_cases h21 : x = 21#8
  ·subst h21
   have e0 : byteR (vs.map (·.r)) p 21#8 = ⟨p.state, [], p.log, p.lines⟩ := byte_kill _ _
   rw [e0]
   have k1 : w.cell? ⟨g, 1, none⟩ = some (.slice f.PA p.part.length f.pc) := h.cel.cell 1
   have f1 := h.cel.free 1
   clear hR hl h hsz h10
   go_enter Try.func32, Try.ntmps32
   go_wp2_with fail
   go_end0
   exact ⟨rfl, mono_below (Below.refl _ _) hK ((Frm.refl [g] w).set (p := ⟨g, 1, none⟩) (by simp) _) (by simp; exact hKg), _, HF.out.kill⟩
  ·have e21 : ((x.toNat : Int) == 21) = false := b_ne (k := 21) (by decide) h21
   have k1 : w.cell? ⟨g, 1, none⟩ = some (.slice f.PA p.part.length f.pc) := h.cel.cell 1
   by_cases hlp : p.part.length < 300
   ·have e0 : byteR (vs.map (·.r)) p x = ⟨p.state, p.part ++ [x], p.log, p.lines⟩ := by unfold byteR; rw [if_neg (show ¬ x = (10 : B) from h10), if_neg (show ¬ x = (21 : B) from h21), if_pos hlp]
    have hi3 : ((p.part.length : Int) < 300) := by omega
    have hd3 : decide ((p.part.length : Int) < 300) = true := decide_eq_true hi3
    rw [e0]
    obtain ⟨W, hW⟩ : ∃ W, W = w.alloc (.cells #[v8 x] 5) := ⟨_, rfl⟩
    have hbW : Below w.heap.size w W := by rw [hW]; exact (Below.refl _ _).alloc (Nat.le_refl _) _
    have HBW := Lib.hid hbW
    have HFW := Lib.hid (h.below hbW)
    have HSX := Lib.hid (show Bs W (w.heap.size + 1) (some ⟨w.heap.size, 0, none⟩) 1 [x] by rw [hW]; exact Bs.lit w 5 (0, 0) #[v8 x] [x] rfl 1 rfl)
    have HWE := Lib.hid hW
    have HOW := Lib.hid HFW.out.pt
    have hKW : K ≤ W.heap.size := Nat.le_trans hK hbW.size
    rw [hW] at HOW HSX hKW
    clear hR hl h hsz h10 h21 hW hbW
    go_enter Try.func32, Try.ntmps32
    go_wp2_with ((at_builtin; refine wpList_append_bs _ rfl _ _ 37 rfl K 5 bytesP (.slice f.PA p.part.length f.pc) p.part.length p.part rfl HOW.out (w.heap.size + 1) (some ⟨w.heap.size, 0, none⟩) 1 1 [x] rfl HSX.out (p.part.length + 1) (p.part ++ [x]) rfl rfl (by omega) hKW ?_; intro A5 c5 w5 ho5 hg5 hn5; rw [← HWE.out] at hg5 hn5; rw [ob_own] at hg5; rw [ob_own, ob_own] at hn5; have hc5 := HFW.out.cel.grown hg5 HFW.out.pt_g; have q1 := hc5.cell 1; have f1 := hc5.free 1; have HO5 := Lib.hid ho5; have HG5 := Lib.hid hg5; have HN5 := Lib.hid hn5; clear ho5 hg5 hn5 hc5))
    go_end0
    exact ⟨rfl, mono_below (below_grown (HBW.out.mono hK) hK HG5.out HFW.out.pt_ge) hK ((Frm.refl [g] w5).set (p := ⟨g, 1, none⟩) (by simp) _) (by simp; exact hKg), _, HFW.out.more x HO5.out HG5.out HN5.out⟩
   ·have e0 : byteR (vs.map (·.r)) p x = p := by unfold byteR; rw [if_neg (show ¬ x = (10 : B) from h10), if_neg (show ¬ x = (21 : B) from h21), if_neg hlp]
    have hi3 : ¬ ((p.part.length : Int) < 300) := by omega
    have hd3 : decide ((p.part.length : Int) < 300) = false := decide_eq_false hi3
    rw [e0]
    clear hR hl h hsz h10 h21
    go_enter Try.func32, Try.ntmps32
    go_wp2_with fail
    go_end0
    exact ⟨rfl, Below.refl _ _, f, HF.out⟩
end Go.Proofs.Ytnjmdgnghidjhaa.Peer
end
section
namespace Go.Proofs.Ytnjmdgnghidjhaa.Peer
open Go.RowKit Go.Proofs.Ytnjmdgnghidjhaa.Ord
open Lex (Tx fw4 fw4_cel fw4_frm)
open Rec (Vt Tvs Trow txt)
section
variable {P : Program} {ops : Array Oper} {Q : Exit → Act → World → Prop} {md : Region.Mode}
theorem wpAnyN_free {S : World → Prop} {N : List Nat} : ∀ (fuel : Nat) (listed : Array Bool) (a : Act) (w : World), wpAnyN P md ops Q S N fuel listed a w → wpAnyN P md ops Q (fun _ => True) [] fuel listed a w
 | 0, _, _, _, H => H
 | fuel + 1, _, _, _, H => ⟨H.1, fun i hi => wpOp_mono (fun a' w' q => ⟨fun _ => trivial, wpAnyN_free fuel _ a' w' q.2⟩) (H.2 i hi)⟩
end
structure Frw (w : World) (K : Nat) (p : Pe) (f : Fv) : Prop where
 pt : w.ownsRow K 5 1 (.slice f.PA p.part.length f.pc) p.part.length (p.part.map v8)
 lg : w.ownsRow K 5 1 (.slice f.LA p.log.length f.lc) p.log.length (p.log.map v8)
 ls : w.ownsRow K 37 1 (.slice f.A p.lines.length f.c) p.lines.length (f.us.map Vt.cell)
 tx : txt f.us = p.lines
 by_ : ∀ u ∈ f.us, Bp w (Bq w K f.PA f.LA) u.A u.t.length u.t ∧ u.t.length ≤ 400
 ap : ∀ q, ob f.PA = some q → ob f.LA ≠ some q
theorem Frw.fd {w w' : World} {K g nR cR : Nat} {AR : Option Addr} {p : Pe} {f : Fv} (h : Frw w K p f) (hb : Below w.heap.size w w') (hc : Cel w' g 72 (fcells p f AR nR cR)) : Fd w' K g AR nR cR p f :=
 ⟨hc, own_frm (l := []) h.pt (Frm.of_below hb) (by simp), own_frm (l := []) h.lg (Frm.of_below hb) (by simp), own_frm (l := []) h.ls (Frm.of_below hb) (by simp), h.tx,
  fun u hu => ⟨by_keep (h.by_ u hu).1 (fun q cs fz e _ _ _ => hb.block q (Array.getElem?_eq_some_iff.1 e).1) (fun q e => .inl e) (fun q e => .inr (.inl e)), (h.by_ u hu).2⟩, h.ap⟩
theorem load_pr {w : World} {g : Nat} {x0 x1 x2 x3 : Value} (h : Cel w g 49 [x0, x1, x2, x3]) : (loadVar 49 ⟨g, 0, none⟩).run Try.prog w = .ok (.agg #[x0, x1, x2, x3]) w :=
 run_loadVar_mid (P := Try.prog) w g 0 49 [x0, x1, x2, x3] _ (fun j v hv => by rw [Nat.zero_add, h.cell j, hv]) Try.underlying49 rfl (by kernel_rfl)
theorem made_lines (k : Nat) : madeCells (Value.cells (.slice none 0 0)) (k * 1) = (List.replicate k (Value.slice none 0 0)).toArray := by
 apply Array.ext
 ·simp [size_madeCells]
 ·intro i h1 h2
  simp [madeCells, Value.cells, Nat.mod_one]
theorem run_make_lines (w : World) (k : Nat) (hk : k ≤ 1000000) :
  (Instr.makeSlice 47 (.int .i64 (k : Int)) (.int .i64 (k : Int))).run Try.prog w = .ok (.slice (some ⟨w.heap.size, 0, none⟩) k k) (w.alloc (.cells (List.replicate k (Value.slice none 0 0)).toArray 37)) := by
 obtain ⟨ht, ⟨i, z, hi, hz, hsz, hby, hzs⟩, hp⟩ := rowLn
 have hz' : z = .slice none 0 0 := by
  have := infoLn
  rw [hi] at this
  simp only [Option.map_some, Option.some.injEq, Prod.mk.injEq, hz] at this
  exact this.1
 subst hz'
 have h := run_make (P := Try.prog) w 47 37 i (.slice none 0 0) ht hi hz .i64 .i64 k k (by omega) (Int.le_refl _) (by rw [hby]; omega) (by omega)
 simp only [Int.toNat_natCast] at h
 rw [hsz, made_lines] at h
 exact h
def rowC (xs : List Vt) (k : Nat) : List Value := xs.map Vt.cell ++ List.replicate k (.slice none 0 0)
theorem rowC_set (xs : List Vt) (k : Nat) (u : Vt) : (rowC xs (k + 1)).set xs.length u.cell = rowC (xs ++ [u]) k := by
 unfold rowC
 rw [List.set_append_right _ _ (by rw [List.length_map]; exact Nat.le_refl _), List.length_map, Nat.sub_self, List.replicate_succ, List.set_cons_zero, List.map_append]
 simp
theorem rowC_get (xs : List Vt) (k : Nat) : (rowC xs (k + 1))[xs.length]? = some (.slice none 0 0) := by
 unfold rowC
 rw [List.getElem?_append_right (by rw [List.length_map]; exact Nat.le_refl _), List.length_map, Nat.sub_self]
 rfl
theorem txt_snoc (xs : List Vt) (u : Vt) : txt (xs ++ [u]) = txt xs ++ [u.t] := by unfold txt; rw [List.map_append]; rfl
theorem txt_take {us : List Vt} {i : Nat} {v : Vt} (h : us[i]? = some v) : txt (us.take (i + 1)) = txt (us.take i) ++ [v.t] := by
 rw [List.take_add_one, h]
 unfold txt
 rw [List.map_append]
 rfl
theorem own_of_cel {w : World} {K g n : Nat} {t : TypeId} {cs : List Value} (h : Cel w g t cs) (hl : cs.length = n) (hK : K ≤ g) (hn : n ≤ maxLen) : w.ownsRow K t 1 (.slice (some ⟨g, 0, none⟩) n n) n cs :=
 ⟨by rw [hl, Nat.mul_one], .inr ⟨g, n, cs.toArray, rfl, hK, h, Nat.le_refl _, hn, by simp [hl], by rw [Nat.mul_one, ← hl]; simp⟩⟩
theorem own_bq {w : World} {K n c : Nat} {A : Option Addr} {bs : List B} (h : Pack.Own w K A n c bs) : Bp w (Bq w K none none) A n bs := by
 refine ⟨(By.of_own h).1, fun hn => ?_⟩
 obtain ⟨ad, e, hty, hc⟩ := (By.of_own h).2 hn
 obtain ⟨ad', e', ⟨e1, hKq⟩, _⟩ := (Bp.of_own h rfl).2 hn
 rw [e] at e'
 injection e' with e'
 subst e'
 exact ⟨ad, e, (show Bq w K none none ad.block from ⟨hKq, fun e => (by cases e), fun e => (by cases e), hty⟩), hc⟩
theorem copied_ (w : World) (T : Nat) (hT : T ≤ w.heap.size) (v : Dvm) (h : Dok w T v) (hd : Dfew v) :
  Calls Try.prog 31 #[.agg v.cells.toArray] w fun e w' => ∃ f : Fv, e = .returned (.agg #[.int .i64 v.s, .slice f.PA v.pt.length f.pc, .slice f.LA v.lg.length f.lc, .slice f.A v.ls.length f.c]) ∧ Below w.heap.size w w' ∧ Frw w' w.heap.size v.m f := by
 obtain ⟨s, pt, lg, us, PA, pc, LA, lc, AL, cL⟩ := v
 unfold Dvm.cells Dvm.m
 dsimp only
 obtain ⟨hpt, hlg, hu, _⟩ := h
 obtain ⟨hd1, hd2, hd3, hd4⟩ := hd
 dsimp only at hpt hlg hu hd1 hd2 hd3 hd4
 obtain ⟨m, hul⟩ : ∃ m, m = us.length := ⟨_, rfl⟩
 rw [← hul]
 rw [← hul] at hd3
 obtain ⟨w1, hw1⟩ : ∃ w1, w1 = (w.alloc (.cells #[.int .i64 s, .slice PA pt.length pc, .slice LA lg.length lc, .slice AL m cL] 49)).alloc (.cells #[.int .i64 0, .slice none 0 0, .slice none 0 0, .slice none 0 0] 49) := ⟨_, rfl⟩
 have hmk := run_make_lines w1 m (by omega)
 have hs1 : w1.heap.size = w.heap.size + 1 + 1 := by rw [hw1]; simp
 obtain ⟨W1, hW1⟩ : ∃ W, W = w1.alloc (.cells (List.replicate m (Value.slice none 0 0)).toArray 37) := ⟨_, rfl⟩
 have hb1 : Below w.heap.size w w1 := by rw [hw1]; exact ((Below.refl _ _).alloc (Nat.le_refl _) _).alloc (by simp) _
 have hbW : Below w.heap.size w W1 := by rw [hW1]; exact hb1.alloc hb1.size _
 have hc0 : Cel W1 w.heap.size 49 [.int .i64 s, .slice PA pt.length pc, .slice LA lg.length lc, .slice AL m cL] := by rw [hW1, hw1]; exact ((Cel.new w _ _).alloc _).alloc _
 have hc1 : Cel W1 (w.heap.size + 1) 49 [.int .i64 0, .slice none 0 0, .slice none 0 0, .slice none 0 0] := by
  rw [hW1, hw1]
  exact (by simpa using Cel.new (w.alloc (.cells #[.int .i64 s, .slice PA pt.length pc, .slice LA lg.length lc, .slice AL m cL] 49)) 49 [.int .i64 0, .slice none 0 0, .slice none 0 0, .slice none 0 0] : Cel _ (w.heap.size + 1) _ _).alloc _
 have hc2 : Cel W1 (w.heap.size + 1 + 1) 37 (rowC [] m) := by rw [hW1, ← hs1]; exact Cel.new w1 _ _
 have HU := Lib.hid (show ∀ V, Below w.heap.size w V → T ≤ V.heap.size ∧ Tvs V T AL us from fun V h => ⟨Nat.le_trans hT h.size, hu.below hT h⟩)
 have HPT := Lib.hid (show ∀ V, Below w.heap.size w V → Bs V V.heap.size PA pt.length pt ∧ Bs V V.heap.size LA lg.length lg from fun V h => ⟨(hpt.below hT h).bs (Nat.le_trans hT h.size), (hlg.below hT h).bs (Nat.le_trans hT h.size)⟩)
 have HBW := Lib.hid hbW
 have H0 := Lib.hid hc0
 have H1 := Lib.hid hc1
 have H2 := Lib.hid hc2
 have HUL := Lib.hid hul
 have HUT := Lib.hid hd4
 have HD := Lib.hid (And.intro hd1 hd2)
 have q3 : w1.cell? ⟨w.heap.size, 3, none⟩ = some (.slice AL m cL) := by rw [hw1]; exact ((Cel.new w 49 [.int .i64 s, .slice PA pt.length pc, .slice LA lg.length lc, .slice AL m cL]).alloc _).cell 3
 rw [hW1.symm] at hmk
 rw [hs1] at hmk
 clear hu hul hd4 hd1 hd2 hb1 hbW hc0 hc1 hc2 hT hs1 hW1 hpt hlg
 go_enter Try.func31, Try.ntmps31
 go_upto_region 1 with fail
 rw [← hw1]
 clear hw1
 go_upto_region 2 with fail
 clear hmk q3
 have q3 := H0.out.cell 3
 obtain ⟨ad, had⟩ : ∃ ad : Addr, ad = ⟨w.heap.size + 1 + 1, 0, none⟩ := ⟨_, rfl⟩
 rw [← had]
 have HAD := Lib.hid had
 clear had
 go_wp2_with fail
 go_loopw [13] (fun v13 wr => ∃ (i : Nat) (xs : List Vt), i ≤ m ∧ v13 = .int .i64 (i : Int) ∧ Below w.heap.size w wr ∧ Hid (Cel wr w.heap.size 49 [.int .i64 s, .slice PA pt.length pc, .slice LA lg.length lc, .slice AL m cL]) ∧ Hid (Cel wr (w.heap.size + 1) 49 [.int .i64 0, .slice none 0 0, .slice none 0 0, .slice none 0 0]) ∧ Hid (Cel wr (w.heap.size + 1 + 1) 37 (rowC xs (m - i))) ∧ Hid (xs.length = i ∧ txt xs = txt (us.take i) ∧ ∀ x ∈ xs, Bp wr (Bq wr w.heap.size none none) x.A x.t.length x.t ∧ x.t.length ≤ 400)) (fun v13 _ => m - (intOf v13).toNat)
 case atStart => exact ⟨0, [], Nat.zero_le _, rfl, HBW.out, H0, H1, Lib.hid (by rw [Nat.sub_zero]; exact H2.out), Lib.hid ⟨rfl, rfl, fun x hx => by cases hx⟩⟩
 case round =>
  clear q3 H0 H1 H2 HBW
  obtain ⟨i, xs, hi, rfl, hb, H0, H1, H2, HX⟩ := hrel
  obtain ⟨W, hW⟩ : ∃ W, W = wr := ⟨_, rfl⟩
  rw [← hW] at hb H0 H1 H2 HX ⊢
  clear hW
  have HB := Lib.hid hb
  rcases Nat.lt_or_ge i m with hlt | hge
  ·obtain ⟨v, hv⟩ : ∃ v, us[i]? = some v := ⟨_, List.getElem?_eq_getElem (by rw [← HUL.out]; exact hlt)⟩
   obtain ⟨hKW, hT⟩ := HU.out _ hb
   obtain ⟨ad2, hA2, k0⟩ := hT.cr i v hv
   have hvm := List.mem_of_getElem? hv
   have con := Pack.clone W.heap.size v.A v.t.length v.c v.t W ((hT.tx v hvm).1.bs hKW) (Nat.le_refl _) (by have := HUT.out v hvm; omega)
   have HV := Lib.hid hv
   have HVL := Lib.hid (HUT.out v hvm)
   obtain ⟨vA, vc, vt⟩ := v
   change _ = some (Value.slice vA vt.length vc) at k0
   dsimp only at con
   obtain ⟨tl, htl⟩ : ∃ tl, tl = vt.length := ⟨_, rfl⟩
   rw [← htl] at k0 con
   have HTL := Lib.hid htl
   clear htl hv hvm hT hb hKW
   subst hA2
   go_wp2_with fail
   refine con.mono ?_
   clear con
   rintro e W2 ⟨A', c', rfl, hby, hb2⟩
   have HBY := Lib.hid (own_bq (Pack.Own.base hby HB.out.size))
   have HB2 := Lib.hid (HB.out.trans (hb2.mono HB.out.size))
   have h2 := H2.out.below hb2 H2.out.lt
   rw [show m - i = (m - (i + 1)) + 1 by omega] at h2
   have HR := Lib.hid h2
   have H0' := Lib.hid (H0.out.below hb2 H0.out.lt)
   have H1' := Lib.hid (H1.out.below hb2 H1.out.lt)
   have HX' := Lib.hid (show xs.length = i ∧ txt xs = txt (us.take i) ∧ ∀ x ∈ xs, Bp W2 (Bq W2 w.heap.size none none) x.A x.t.length x.t ∧ x.t.length ≤ 400 from ⟨HX.out.1, HX.out.2.1, fun x hx => ⟨by_keep (HX.out.2.2 x hx).1 (fun q cs fz e _ _ _ => hb2.block q (Array.getElem?_eq_some_iff.1 e).1) (fun q e => (by cases e)) (fun q e => (by cases e)), (HX.out.2.2 x hx).2⟩⟩)
   have hc : W2.cell? (ad.add i) = some (.slice none 0 0) := by rw [HAD.out, add_row, h2.cell i, ← HX.out.1]; exact rowC_get _ _
   have hz : W2.frozen? (ad.add i) = false := by rw [HAD.out, add_row]; exact h2.free i
   have hcell : (rowC xs (m - (i + 1) + 1)).set i (.slice A' tl c') = rowC (xs ++ [⟨A', c', vt⟩]) (m - (i + 1)) := by rw [← HX.out.1, ← rowC_set]; unfold Vt.cell; dsimp only; rw [← HTL.out]
   have HS := Lib.hid (show Cel (W2.setCell (ad.add i) (.slice A' tl c')) (w.heap.size + 1 + 1) 37 (rowC (xs ++ [⟨A', c', vt⟩]) (m - (i + 1))) by
    rw [HAD.out, add_row]
    have q := h2.set i (.slice A' tl c')
    rw [hcell] at q
    exact q)
   have HFR := Lib.hid (show Frm [w.heap.size + 1 + 1] W2 (W2.setCell (ad.add i) (.slice A' tl c')) by rw [HAD.out, add_row]; exact (Frm.refl _ _).set (by simp) _)
   clear hby hb2 h2 HX H0 H1 H2 HB hcell k0
   go_wp2_with fail
   refine ⟨⟨i + 1, xs ++ [⟨A', c', vt⟩], by omega, by rw [show ((i + 1 : Nat) : Int) = (i : Int) + 1 by omega], HB2.out.trans (HFR.out.below HB2.out.size (by simp; omega)), Lib.hid (H0'.out.frm HFR.out (by simp; omega)), Lib.hid (H1'.out.frm HFR.out (by simp)), HS, Lib.hid ⟨by rw [List.length_append, HX'.out.1]; rfl, by rw [txt_snoc, txt_take HV.out, HX'.out.2.1], fun x hx => ?_⟩⟩, by simp [intOf]; omega⟩
   have hst : ∀ {A : Option Addr} {n : Nat} {bs : List B}, Bp W2 (Bq W2 w.heap.size none none) A n bs → Bp (W2.setCell (ad.add i) (.slice A' tl c')) (Bq (W2.setCell (ad.add i) (.slice A' tl c')) w.heap.size none none) A n bs := fun hq => by_keep hq (fun q cs fz e _ _ _ => HFR.out.block q (Array.getElem?_eq_some_iff.1 e).1 (fun hm => by
    simp at hm
    subst hm
    exact HR.out.not_ty (by decide) cs fz e)) (fun q e => (by cases e)) (fun q e => (by cases e))
   rcases List.mem_append.1 hx with hx | hx
   ·exact ⟨hst (HX'.out.2.2 x hx).1, (HX'.out.2.2 x hx).2⟩
   ·simp at hx
    subst hx
    refine ⟨?_, HVL.out⟩
    show Bp _ _ A' vt.length vt
    rw [← HTL.out]
    exact hst HBY.out
  ·obtain rfl : i = m := by omega
   have HXS := Lib.hid (show (xs.map Vt.cell).length = i by rw [List.length_map]; exact HX.out.1)
   have HAL := Lib.hid (show i ≤ maxLen by unfold maxLen; omega)
   go_wp2_with fail
   refine wp_region_N [] (fun _ => True) (by kernel_rfl) ?_
   obtain ⟨W3, hW3⟩ : ∃ U, U = W.drew := ⟨_, rfl⟩
   rw [← hW3]
   have HB3 := Lib.hid (show Below w.heap.size w W3 by rw [hW3]; exact HB.out.drew)
   have HC := Lib.hid (show Cel W3 w.heap.size 49 [.int .i64 s, .slice PA pt.length pc, .slice LA lg.length lc, .slice AL i cL] by rw [hW3]; exact H0.out.drew)
   have HC1 := Lib.hid (show Cel W3 (w.heap.size + 1) 49 [.int .i64 0, .slice none 0 0, .slice none 0 0, .slice none 0 0] by rw [hW3]; exact H1.out.drew)
   have HC2 := Lib.hid (show Cel W3 (w.heap.size + 1 + 1) 37 (xs.map Vt.cell) by
    rw [hW3]
    have h2 := H2.out
    rw [Nat.sub_self] at h2
    have e0 : rowC xs 0 = xs.map Vt.cell := by unfold rowC; simp
    rw [e0] at h2
    exact h2.drew)
   have HXB := Lib.hid (show ∀ x ∈ xs, Bp W3 (Bq W3 w.heap.size none none) x.A x.t.length x.t ∧ x.t.length ≤ 400 by rw [hW3]; exact HX.out.2.2)
   have HXT := Lib.hid (show txt xs = txt us by rw [HX.out.2.1, HUL.out, List.take_length])
   have hH : True := trivial
   clear hW3 HX H0 H1 H2 HB hb
   refine tk_ 6 (.slice (some ad) i i) [] rfl hH ?_ ?_
   ·intro V hV; go_simp
   try simp only [Act.put, lay_]
   refine wpAnyN_free (S := fun V => Below W3.heap.size W3 V) (N := [8, 9, 10, 11, 12]) _ _ _ _ ?_
   replace hH : Below W3.heap.size W3 W3 := Below.refl _ _
   refine tk_ 0 (.pointer (some ⟨w.heap.size, 1, none⟩)) [8, 9, 10, 11, 12] rfl hH ?_ ?_
   ·intro V hV; go_simp
   try simp only [Act.put, lay_]
   refine tk_ 1 (.slice PA pt.length pc) [8, 9, 10, 11, 12] rfl hH ?_ ?_
   ·intro V hV; have hc := HC.out.below hV HC.out.lt; have k0 : V.cell? ⟨w.heap.size, 1, none⟩ = some (.slice PA pt.length pc) := hc.cell 1; clear hc; go_simp
   try simp only [Act.put, lay_]
   refine tk_ 3 (.pointer (some ⟨w.heap.size, 2, none⟩)) [8, 9, 10, 11, 12] rfl hH ?_ ?_
   ·intro V hV; go_simp
   try simp only [Act.put, lay_]
   refine tk_ 4 (.slice LA lg.length lc) [8, 9, 10, 11, 12] rfl hH ?_ ?_
   ·intro V hV; have hc := HC.out.below hV HC.out.lt; have k0 : V.cell? ⟨w.heap.size, 2, none⟩ = some (.slice LA lg.length lc) := hc.cell 2; clear hc; go_simp
   try simp only [Act.put, lay_]
   refine wpAnyN_one (i := 2) (by kernel_rfl) rfl (fun Kq hKq => ?_)
   go_simp
   refine (Pack.clone W3.heap.size PA pt.length pc pt W3 (HPT.out W3 HB3.out).1 (Nat.le_refl _) (by have := HD.out.1; omega)).mono ?_
   rintro e V1 ⟨A4, c4, rfl, ho4, hb4⟩
   have HOA := Lib.hid ho4
   have HV1 := Lib.hid hb4
   replace hH := hb4
   clear ho4 hb4
   go_wp2_with fail
   refine hKq.out _ _ (.inr hH) ?_
   clear hKq Kq
   try simp only [Act.put, lay_]
   refine tk_ 7 (.pointer (some ⟨w.heap.size, 1, none⟩)) [8, 9, 10, 11, 12] rfl hH ?_ ?_
   ·intro V hV; go_simp
   try simp only [Act.put, lay_]
   refine wpAnyN_one (i := 5) (by kernel_rfl) rfl (fun Kq hKq => ?_)
   go_simp
   refine (Pack.clone V1.heap.size LA lg.length lc lg V1 (HPT.out V1 (HB3.out.trans (HV1.out.mono HB3.out.size))).2 (Nat.le_refl _) (by have := HD.out.2; omega)).mono ?_
   rintro e V2 ⟨A5, c5, rfl, ho5, hb5⟩
   have HOB := Lib.hid ho5
   have HAB := Lib.hid hb5
   replace hH := hH.trans (hb5.mono hH.size)
   clear ho5 hb5
   have hcp := HC.out.below hH HC.out.lt
   have k1 := hcp.cell 1
   have k2 := hcp.cell 2
   have k3 := hcp.cell 3
   have f1 := hcp.free 1
   have f2 := hcp.free 2
   have f3 := hcp.free 3
   clear hcp
   go_wp2_with fail
   refine hKq.out _ _ (.inr hH) ?_
   clear hKq Kq
   try simp only [Act.put, lay_]
   refine wpAnyN_one (i := 8) (by kernel_rfl) rfl (fun Kq hKq => ?_)
   go_simp
   refine hKq.out _ _ (.inl (by decide)) ?_
   clear hKq Kq
   try simp only [Act.put, lay_]
   refine wpAnyN_one (i := 9) (by kernel_rfl) rfl (fun Kq hKq => ?_)
   go_simp
   refine hKq.out _ _ (.inl (by decide)) ?_
   clear hKq Kq
   try simp only [Act.put, lay_]
   refine wpAnyN_one (i := 10) (by kernel_rfl) rfl (fun Kq hKq => ?_)
   go_simp
   refine hKq.out _ _ (.inl (by decide)) ?_
   clear hKq Kq
   try simp only [Act.put, lay_]
   refine wpAnyN_one (i := 11) (by kernel_rfl) rfl (fun Kq hKq => ?_)
   go_simp
   refine hKq.out _ _ (.inl (by decide)) ?_
   clear hKq Kq
   try simp only [Act.put, lay_]
   refine wpAnyN_one (i := 12) (by kernel_rfl) rfl (fun Kq hKq => ?_)
   go_simp
   refine hKq.out _ _ (.inl (by decide)) ?_
   clear hKq Kq
   try simp only [Act.put, lay_]
   refine wpAnyN_done (by kernel_rfl) ?_ _
   obtain ⟨V3, hV3⟩ : ∃ U, U = ((V2.setCell ⟨w.heap.size, 1, none⟩ (.slice A4 pt.length c4)).setCell ⟨w.heap.size, 2, none⟩ (.slice A5 lg.length c5)).setCell ⟨w.heap.size, 3, none⟩ (.slice (some ad) i i) := ⟨_, rfl⟩
   rw [← hV3]
   have hp3 : Cel V3 w.heap.size 49 [.int .i64 s, .slice A4 pt.length c4, .slice A5 lg.length c5, .slice (some ad) i i] := by rw [hV3]; exact (((HC.out.below hH HC.out.lt).set 1 _).set 2 _).set 3 _
   have hr3 : Cel V3 (w.heap.size + 1) 49 [.int .i64 0, .slice none 0 0, .slice none 0 0, .slice none 0 0] := by rw [hV3]; exact (((HC1.out.below hH HC1.out.lt).far (by simp) _).far (by simp) _).far (by simp) _
   have hf3 : Frm [w.heap.size] V2 V3 := by rw [hV3]; exact (((Frm.refl [w.heap.size] V2).set (p := ⟨w.heap.size, 1, none⟩) (by simp) _).set (p := ⟨w.heap.size, 2, none⟩) (by simp) _).set (p := ⟨w.heap.size, 3, none⟩) (by simp) _
   have hq := fw4_frm V3 (w.heap.size + 1) (.int .i64 s) (.slice A4 pt.length c4) (.slice A5 lg.length c5) (.slice (some ad) i i)
   have hx : Cel (fw4 V3 (w.heap.size + 1) (.int .i64 s) (.slice A4 pt.length c4) (.slice A5 lg.length c5) (.slice (some ad) i i)) (w.heap.size + 1) 49 [.int .i64 s, .slice A4 pt.length c4, .slice A5 lg.length c5, .slice (some ad) i i] := fw4_cel hr3
   have hfr : Frm [w.heap.size, w.heap.size + 1] V2 (fw4 V3 (w.heap.size + 1) (.int .i64 s) (.slice A4 pt.length c4) (.slice A5 lg.length c5) (.slice (some ad) i i)) := (hf3.mono (by intro k hk _; simp at hk; simp [hk])).trans (hq.mono (by intro k hk _; simp at hk; simp [hk]))
   have HP3 := Lib.hid (show Cel V2 w.heap.size 49 _ from HC.out.below hH HC.out.lt)
   have HR3 := Lib.hid (show Cel V2 (w.heap.size + 1) 49 _ from HC1.out.below hH HC1.out.lt)
   have HF3 := Lib.hid hfr
   have HX3 := Lib.hid hx
   have HH := Lib.hid hH
   have q0 := hp3.cell 0
   have q1 := hp3.cell 1
   have q2 := hp3.cell 2
   have q3 := hp3.cell 3
   have r0 := hr3.cell 0
   have r1 := hr3.cell 1
   have r2 := hr3.cell 2
   have r3 := hr3.cell 3
   have g0 := hr3.free 0
   have g1 := hr3.free 1
   have g2 := hr3.free 2
   have g3 := hr3.free 3
   unfold fw4 at HF3 HX3
   clear hp3 hr3 hf3 hq hx hfr hH hV3
   go_wp2_with fail
   refine bodyPost_ret (v := .agg #[.int .i64 s, .slice A4 pt.length c4, .slice A5 lg.length c5, .slice (some ad) i i]) (results_atP 2 49 Try.results31 ⟨w.heap.size + 1, 0, none⟩ rfl _ (load_pr HX3.out)) rfl ?_
   have hno : ∀ k ∈ [w.heap.size, w.heap.size + 1], ∀ t cs fz, t ≠ 49 → V2.heap[k]? ≠ some (Obj.cells cs t fz) := fun k hk t cs fz hne => by
    simp at hk
    rcases hk with rfl | rfl
    ·exact HP3.out.not_ty (Ne.symm hne) cs fz
    ·exact HR3.out.not_ty (Ne.symm hne) cs fz
   have hrow : World.ownsRow V2 w.heap.size 37 1 (.slice (some ad) i i) i (xs.map Vt.cell) := by rw [HAD.out]; exact own_of_cel (HC2.out.below HH.out HC2.out.lt) HXS.out (by omega) HAL.out
   have hofr : ∀ {t : TypeId} {v : Value} {n : Nat} {us : List Value}, t ≠ 49 → World.ownsRow V2 w.heap.size t 1 v n us → World.ownsRow _ w.heap.size t 1 v n us := fun hne ho => own_frm ho HF3.out (fun k hk e => by
    rcases ho.2 with ⟨rfl, _⟩ | ⟨g', cap, cur, rfl, _, hg', _⟩
    ·simp [Value.ownBlock] at e
    ·obtain rfl : g' = k := by simpa [Value.ownBlock] using e
     exact hno g' hk _ cur (0, 0) hne hg')
   have h4 : ∀ q, ob A4 = some q → W3.heap.size ≤ q ∧ q < V1.heap.size := fun q e => ⟨by rw [← ob_own A4 pt.length c4] at e; exact own_ge HOA.out q e, by rw [← ob_own A4 pt.length c4] at e; exact own_lt HOA.out q e⟩
   have h5 : ∀ q, ob A5 = some q → V1.heap.size ≤ q := fun q e => by rw [← ob_own A5 lg.length c5] at e; exact own_ge HOB.out q e
   refine ⟨⟨A4, c4, A5, c5, some ad, i, xs⟩, rfl, (HB3.out.trans (HH.out.mono HB3.out.size)).trans (HF3.out.below (HB3.out.trans (HH.out.mono HB3.out.size)).size (by simp)), ?_⟩
   have hl : (txt us).length = i := by unfold txt; rw [List.length_map]; exact HUL.out.symm
   refine ⟨hofr (by decide) (Pack.Own.base (own_frm (l := []) HOA.out (Frm.of_below HAB.out) (by simp)) HB3.out.size), hofr (by decide) (Pack.Own.base HOB.out (Nat.le_trans HB3.out.size HV1.out.size)), ?_, HXT.out, fun u hu => ⟨by_keep (HXB.out u hu).1 (fun q cs fz e _ _ _ => ?_) (fun q e => .inr (.inr (h4 q e).1)) (fun q e => .inr (.inr (Nat.le_trans HV1.out.size (h5 q e)))), (HXB.out u hu).2⟩, fun q e e2 => ?_⟩
   ·dsimp only
    rw [hl]
    exact hofr (by decide) hrow
   ·have hq := (Array.getElem?_eq_some_iff.1 e).1
    rw [HF3.out.block q (Nat.lt_of_lt_of_le hq HH.out.size) (fun hm => hno q hm _ cs fz (by decide) ((HH.out.block q hq).trans e))]
    exact HH.out.block q hq
   ·have h1 := (h4 q e).2
    have h2 := h5 q e2
    omega
end Go.Proofs.Ytnjmdgnghidjhaa.Peer
end
