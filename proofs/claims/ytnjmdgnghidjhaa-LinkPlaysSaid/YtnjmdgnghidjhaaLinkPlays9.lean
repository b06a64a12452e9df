/-
Texts: PeerPcopied PeerPfeed
-/
import Derived.Test.YtnjmdgnghidjhaaLinkPlays0
import Derived.Test.YtnjmdgnghidjhaaLinkPlays1
import Derived.Test.YtnjmdgnghidjhaaLinkPlays2
import Derived.Test.YtnjmdgnghidjhaaLinkPlays4
import Derived.Test.YtnjmdgnghidjhaaLinkPlays7
import Derived.Test.YtnjmdgnghidjhaaLinkPlays8
set_option linter.unusedVariables false
set_option linter.unusedSimpArgs false
set_option maxRecDepth 100000
set_option maxHeartbeats 4000000
namespace Go.Proofs.Ytnjmdgnghidjhaa.Ord
end Go.Proofs.Ytnjmdgnghidjhaa.Ord
section
namespace Go.Proofs.Ytnjmdgnghidjhaa.Peer
open Go.RowKit Go.Proofs.Ytnjmdgnghidjhaa.Ord
open Lex (Tx fw4 fw4_cel fw4_frm)
open Rec (Vt Tvs Trow txt)
section
variable {P : Program} {ops : Array Oper} {Q : Exit → Act → World → Prop} {md : Region.Mode}
theorem wpAnyN_free {S : World → Prop} {N : List Nat} : ∀ (fuel : Nat) (listed : Array Bool) (a : Act) (w : World), wpAnyN P md ops Q S N fuel listed a w → wpAnyN P md ops Q (fun _ => True) [] fuel listed a w
 | 0, _, _, _, H => H
 | fuel + 1, _, _, _, H => ⟨H.1, fun i hi => wpOp_mono (fun a' w' q => ⟨fun _ => trivial, wpAnyN_free fuel _ a' w' q.2⟩) (H.2 i hi)⟩
end
structure Frw (w : World) (K : Nat) (p : Pe) (f : Fv) : Prop where
 pt : w.ownsRow K 5 1 (.slice f.PA p.part.length f.pc) p.part.length (p.part.map v8)
 lg : w.ownsRow K 5 1 (.slice f.LA p.log.length f.lc) p.log.length (p.log.map v8)
 ls : w.ownsRow K 37 1 (.slice f.A p.lines.length f.c) p.lines.length (f.us.map Vt.cell)
 tx : txt f.us = p.lines
 by_ : ∀ u ∈ f.us, Bp w (Bq w K f.PA f.LA) u.A u.t.length u.t ∧ u.t.length ≤ 400
 ap : ∀ q, ob f.PA = some q → ob f.LA ≠ some q
theorem Frw.fd {w w' : World} {K g nR cR : Nat} {AR : Option Addr} {p : Pe} {f : Fv} (h : Frw w K p f) (hb : Below w.heap.size w w') (hc : Cel w' g 72 (fcells p f AR nR cR)) : Fd w' K g AR nR cR p f :=
 ⟨hc, own_frm (l := []) h.pt (Frm.of_below hb) (by simp), own_frm (l := []) h.lg (Frm.of_below hb) (by simp), own_frm (l := []) h.ls (Frm.of_below hb) (by simp), h.tx,
  fun u hu => ⟨by_keep (h.by_ u hu).1 (fun q cs fz e _ _ _ => hb.block q (Array.getElem?_eq_some_iff.1 e).1) (fun q e => .inl e) (fun q e => .inr (.inl e)), (h.by_ u hu).2⟩, h.ap⟩
theorem load_pr {w : World} {g : Nat} {x0 x1 x2 x3 : Value} (h : Cel w g 49 [x0, x1, x2, x3]) : (loadVar 49 ⟨g, 0, none⟩).run Try.prog w = .ok (.agg #[x0, x1, x2, x3]) w :=
 run_loadVar_mid (P := Try.prog) w g 0 49 [x0, x1, x2, x3] _ (fun j v hv => by rw [Nat.zero_add, h.cell j, hv]) Try.underlying49 rfl (by kernel_rfl)
theorem made_lines (k : Nat) : madeCells (Value.cells (.slice none 0 0)) (k * 1) = (List.replicate k (Value.slice none 0 0)).toArray := by
 apply Array.ext
 ·simp [size_madeCells]
 ·intro i h1 h2
  simp [madeCells, Value.cells, Nat.mod_one]
theorem run_make_lines (w : World) (k : Nat) (hk : k ≤ 1000000) :
  (Instr.makeSlice 47 (.int .i64 (k : Int)) (.int .i64 (k : Int))).run Try.prog w = .ok (.slice (some ⟨w.heap.size, 0, none⟩) k k) (w.alloc (.cells (List.replicate k (Value.slice none 0 0)).toArray 37)) := by
 obtain ⟨ht, ⟨i, z, hi, hz, hsz, hby, hzs⟩, hp⟩ := rowLn
 have hz' : z = .slice none 0 0 := by
  have := infoLn
  rw [hi] at this
  simp only [Option.map_some, Option.some.injEq, Prod.mk.injEq, hz] at this
  exact this.1
 subst hz'
 have h := run_make (P := Try.prog) w 47 37 i (.slice none 0 0) ht hi hz .i64 .i64 k k (by omega) (Int.le_refl _) (by rw [hby]; omega) (by omega)
 simp only [Int.toNat_natCast] at h
 rw [hsz, made_lines] at h
 exact h
def rowC (xs : List Vt) (k : Nat) : List Value := xs.map Vt.cell ++ List.replicate k (.slice none 0 0)
theorem rowC_set (xs : List Vt) (k : Nat) (u : Vt) : (rowC xs (k + 1)).set xs.length u.cell = rowC (xs ++ [u]) k := by
 unfold rowC
 rw [List.set_append_right _ _ (by rw [List.length_map]; exact Nat.le_refl _), List.length_map, Nat.sub_self, List.replicate_succ, List.set_cons_zero, List.map_append]
 simp
theorem rowC_get (xs : List Vt) (k : Nat) : (rowC xs (k + 1))[xs.length]? = some (.slice none 0 0) := by
 unfold rowC
 rw [List.getElem?_append_right (by rw [List.length_map]; exact Nat.le_refl _), List.length_map, Nat.sub_self]
 rfl
theorem txt_snoc (xs : List Vt) (u : Vt) : txt (xs ++ [u]) = txt xs ++ [u.t] := by unfold txt; rw [List.map_append]; rfl
theorem txt_take {us : List Vt} {i : Nat} {v : Vt} (h : us[i]? = some v) : txt (us.take (i + 1)) = txt (us.take i) ++ [v.t] := by
 rw [List.take_add_one, h]
 unfold txt
 rw [List.map_append]
 rfl
theorem own_of_cel {w : World} {K g n : Nat} {t : TypeId} {cs : List Value} (h : Cel w g t cs) (hl : cs.length = n) (hK : K ≤ g) (hn : n ≤ maxLen) : w.ownsRow K t 1 (.slice (some ⟨g, 0, none⟩) n n) n cs :=
 ⟨by rw [hl, Nat.mul_one], .inr ⟨g, n, cs.toArray, rfl, hK, h, Nat.le_refl _, hn, by simp [hl], by rw [Nat.mul_one, ← hl]; simp⟩⟩
theorem own_bq {w : World} {K n c : Nat} {A : Option Addr} {bs : List B} (h : Pack.Own w K A n c bs) : Bp w (Bq w K none none) A n bs := by
 refine ⟨(By.of_own h).1, fun hn => ?_⟩
 obtain ⟨ad, e, hty, hc⟩ := (By.of_own h).2 hn
 obtain ⟨ad', e', ⟨e1, hKq⟩, _⟩ := (Bp.of_own h rfl).2 hn
 rw [e] at e'
 injection e' with e'
 subst e'
 exact ⟨ad, e, (show Bq w K none none ad.block from ⟨hKq, fun e => (by cases e), fun e => (by cases e), hty⟩), hc⟩
theorem copied_ (w : World) (T : Nat) (hT : T ≤ w.heap.size) (v : Dvm) (h : Dok w T v) (hd : Dfew v) :
  Calls Try.prog 31 #[.agg v.cells.toArray] w fun e w' => ∃ f : Fv, e = .returned (.agg #[.int .i64 v.s, .slice f.PA v.pt.length f.pc, .slice f.LA v.lg.length f.lc, .slice f.A v.ls.length f.c]) ∧ Below w.heap.size w w' ∧ Frw w' w.heap.size v.m f := by
 obtain ⟨s, pt, lg, us, PA, pc, LA, lc, AL, cL⟩ := v
 unfold Dvm.cells Dvm.m
 dsimp only
 obtain ⟨hpt, hlg, hu, _⟩ := h
 obtain ⟨hd1, hd2, hd3, hd4⟩ := hd
 dsimp only at hpt hlg hu hd1 hd2 hd3 hd4
 obtain ⟨m, hul⟩ : ∃ m, m = us.length := ⟨_, rfl⟩
 rw [← hul]
 rw [← hul] at hd3
 obtain ⟨w1, hw1⟩ : ∃ w1, w1 = (w.alloc (.cells #[.int .i64 s, .slice PA pt.length pc, .slice LA lg.length lc, .slice AL m cL] 49)).alloc (.cells #[.int .i64 0, .slice none 0 0, .slice none 0 0, .slice none 0 0] 49) := ⟨_, rfl⟩
 have hmk := run_make_lines w1 m (by omega)
 have hs1 : w1.heap.size = w.heap.size + 1 + 1 := by rw [hw1]; simp
 obtain ⟨W1, hW1⟩ : ∃ W, W = w1.alloc (.cells (List.replicate m (Value.slice none 0 0)).toArray 37) := ⟨_, rfl⟩
 have hb1 : Below w.heap.size w w1 := by rw [hw1]; exact ((Below.refl _ _).alloc (Nat.le_refl _) _).alloc (by simp) _
 have hbW : Below w.heap.size w W1 := by rw [hW1]; exact hb1.alloc hb1.size _
 have hc0 : Cel W1 w.heap.size 49 [.int .i64 s, .slice PA pt.length pc, .slice LA lg.length lc, .slice AL m cL] := by rw [hW1, hw1]; exact ((Cel.new w _ _).alloc _).alloc _
 have hc1 : Cel W1 (w.heap.size + 1) 49 [.int .i64 0, .slice none 0 0, .slice none 0 0, .slice none 0 0] := by
  rw [hW1, hw1]
  exact (by simpa using Cel.new (w.alloc (.cells #[.int .i64 s, .slice PA pt.length pc, .slice LA lg.length lc, .slice AL m cL] 49)) 49 [.int .i64 0, .slice none 0 0, .slice none 0 0, .slice none 0 0] : Cel _ (w.heap.size + 1) _ _).alloc _
 have hc2 : Cel W1 (w.heap.size + 1 + 1) 37 (rowC [] m) := by rw [hW1, ← hs1]; exact Cel.new w1 _ _
 have HU := Lib.hid (show ∀ V, Below w.heap.size w V → T ≤ V.heap.size ∧ Tvs V T AL us from fun V h => ⟨Nat.le_trans hT h.size, hu.below hT h⟩)
 have HPT := Lib.hid (show ∀ V, Below w.heap.size w V → Bs V V.heap.size PA pt.length pt ∧ Bs V V.heap.size LA lg.length lg from fun V h => ⟨(hpt.below hT h).bs (Nat.le_trans hT h.size), (hlg.below hT h).bs (Nat.le_trans hT h.size)⟩)
 have HBW := Lib.hid hbW
 have H0 := Lib.hid hc0
 have H1 := Lib.hid hc1
 have H2 := Lib.hid hc2
 have HUL := Lib.hid hul
 have HUT := Lib.hid hd4
 have HD := Lib.hid (And.intro hd1 hd2)
 have q3 : w1.cell? ⟨w.heap.size, 3, none⟩ = some (.slice AL m cL) := by rw [hw1]; exact ((Cel.new w 49 [.int .i64 s, .slice PA pt.length pc, .slice LA lg.length lc, .slice AL m cL]).alloc _).cell 3
 rw [hW1.symm] at hmk
 rw [hs1] at hmk
 clear hu hul hd4 hd1 hd2 hb1 hbW hc0 hc1 hc2 hT hs1 hW1 hpt hlg
 go_enter Try.func31, Try.ntmps31
 go_upto_region 1 with fail
 rw [← hw1]
 clear hw1
 go_upto_region 2 with fail
 clear hmk q3
 have q3 := H0.out.cell 3
 obtain ⟨ad, had⟩ : ∃ ad : Addr, ad = ⟨w.heap.size + 1 + 1, 0, none⟩ := ⟨_, rfl⟩
 rw [← had]
 have HAD := Lib.hid had
 clear had
 go_wp2_with fail
 go_loopw [13] (fun v13 wr => ∃ (i : Nat) (xs : List Vt), i ≤ m ∧ v13 = .int .i64 (i : Int) ∧ Below w.heap.size w wr ∧ Hid (Cel wr w.heap.size 49 [.int .i64 s, .slice PA pt.length pc, .slice LA lg.length lc, .slice AL m cL]) ∧ Hid (Cel wr (w.heap.size + 1) 49 [.int .i64 0, .slice none 0 0, .slice none 0 0, .slice none 0 0]) ∧ Hid (Cel wr (w.heap.size + 1 + 1) 37 (rowC xs (m - i))) ∧ Hid (xs.length = i ∧ txt xs = txt (us.take i) ∧ ∀ x ∈ xs, Bp wr (Bq wr w.heap.size none none) x.A x.t.length x.t ∧ x.t.length ≤ 400)) (fun v13 _ => m - (intOf v13).toNat)
 case atStart => exact ⟨0, [], Nat.zero_le _, rfl, HBW.out, H0, H1, Lib.hid (by rw [Nat.sub_zero]; exact H2.out), Lib.hid ⟨rfl, rfl, fun x hx => by cases hx⟩⟩
 case round =>
  clear q3 H0 H1 H2 HBW
  obtain ⟨i, xs, hi, rfl, hb, H0, H1, H2, HX⟩ := hrel
  obtain ⟨W, hW⟩ : ∃ W, W = wr := ⟨_, rfl⟩
  rw [← hW] at hb H0 H1 H2 HX ⊢
  clear hW
  have HB := Lib.hid hb
  rcases Nat.lt_or_ge i m with hlt | hge
  ·obtain ⟨v, hv⟩ : ∃ v, us[i]? = some v := ⟨_, List.getElem?_eq_getElem (by rw [← HUL.out]; exact hlt)⟩
   obtain ⟨hKW, hT⟩ := HU.out _ hb
   obtain ⟨ad2, hA2, k0⟩ := hT.cr i v hv
   have hvm := List.mem_of_getElem? hv
   have con := Pack.clone W.heap.size v.A v.t.length v.c v.t W ((hT.tx v hvm).1.bs hKW) (Nat.le_refl _) (by have := HUT.out v hvm; omega)
   have HV := Lib.hid hv
   have HVL := Lib.hid (HUT.out v hvm)
   obtain ⟨vA, vc, vt⟩ := v
   change _ = some (Value.slice vA vt.length vc) at k0
   dsimp only at con
   obtain ⟨tl, htl⟩ : ∃ tl, tl = vt.length := ⟨_, rfl⟩
   rw [← htl] at k0 con
   have HTL := Lib.hid htl
   clear htl hv hvm hT hb hKW
   subst hA2
   go_wp2_with fail
   refine con.mono ?_
   clear con
   rintro e W2 ⟨A', c', rfl, hby, hb2⟩
   have HBY := Lib.hid (own_bq (Pack.Own.base hby HB.out.size))
   have HB2 := Lib.hid (HB.out.trans (hb2.mono HB.out.size))
   have h2 := H2.out.below hb2 H2.out.lt
   rw [show m - i = (m - (i + 1)) + 1 by omega] at h2
   have HR := Lib.hid h2
   have H0' := Lib.hid (H0.out.below hb2 H0.out.lt)
   have H1' := Lib.hid (H1.out.below hb2 H1.out.lt)
   have HX' := Lib.hid (show xs.length = i ∧ txt xs = txt (us.take i) ∧ ∀ x ∈ xs, Bp W2 (Bq W2 w.heap.size none none) x.A x.t.length x.t ∧ x.t.length ≤ 400 from ⟨HX.out.1, HX.out.2.1, fun x hx => ⟨by_keep (HX.out.2.2 x hx).1 (fun q cs fz e _ _ _ => hb2.block q (Array.getElem?_eq_some_iff.1 e).1) (fun q e => (by cases e)) (fun q e => (by cases e)), (HX.out.2.2 x hx).2⟩⟩)
   have hc : W2.cell? (ad.add i) = some (.slice none 0 0) := by rw [HAD.out, add_row, h2.cell i, ← HX.out.1]; exact rowC_get _ _
   have hz : W2.frozen? (ad.add i) = false := by rw [HAD.out, add_row]; exact h2.free i
   have hcell : (rowC xs (m - (i + 1) + 1)).set i (.slice A' tl c') = rowC (xs ++ [⟨A', c', vt⟩]) (m - (i + 1)) := by rw [← HX.out.1, ← rowC_set]; unfold Vt.cell; dsimp only; rw [← HTL.out]
   have HS := Lib.hid (show Cel (W2.setCell (ad.add i) (.slice A' tl c')) (w.heap.size + 1 + 1) 37 (rowC (xs ++ [⟨A', c', vt⟩]) (m - (i + 1))) by
    rw [HAD.out, add_row]
    have q := h2.set i (.slice A' tl c')
    rw [hcell] at q
    exact q)
   have HFR := Lib.hid (show Frm [w.heap.size + 1 + 1] W2 (W2.setCell (ad.add i) (.slice A' tl c')) by rw [HAD.out, add_row]; exact (Frm.refl _ _).set (by simp) _)
   clear hby hb2 h2 HX H0 H1 H2 HB hcell k0
   go_wp2_with fail
   refine ⟨⟨i + 1, xs ++ [⟨A', c', vt⟩], by omega, by rw [show ((i + 1 : Nat) : Int) = (i : Int) + 1 by omega], HB2.out.trans (HFR.out.below HB2.out.size (by simp; omega)), Lib.hid (H0'.out.frm HFR.out (by simp; omega)), Lib.hid (H1'.out.frm HFR.out (by simp)), HS, Lib.hid ⟨by rw [List.length_append, HX'.out.1]; rfl, by rw [txt_snoc, txt_take HV.out, HX'.out.2.1], fun x hx => ?_⟩⟩, by simp [intOf]; omega⟩
   have hst : ∀ {A : Option Addr} {n : Nat} {bs : List B}, Bp W2 (Bq W2 w.heap.size none none) A n bs → Bp (W2.setCell (ad.add i) (.slice A' tl c')) (Bq (W2.setCell (ad.add i) (.slice A' tl c')) w.heap.size none none) A n bs := fun hq => by_keep hq (fun q cs fz e _ _ _ => HFR.out.block q (Array.getElem?_eq_some_iff.1 e).1 (fun hm => by
    simp at hm
    subst hm
    exact HR.out.not_ty (by decide) cs fz e)) (fun q e => (by cases e)) (fun q e => (by cases e))
   rcases List.mem_append.1 hx with hx | hx
   ·exact ⟨hst (HX'.out.2.2 x hx).1, (HX'.out.2.2 x hx).2⟩
   ·simp at hx
    subst hx
    refine ⟨?_, HVL.out⟩
    show Bp _ _ A' vt.length vt
    rw [← HTL.out]
    exact hst HBY.out
  ·obtain rfl : i = m := by omega
   have HXS := Lib.hid (show (xs.map Vt.cell).length = i by rw [List.length_map]; exact HX.out.1)
   have HAL := Lib.hid (show i ≤ maxLen by unfold maxLen; omega)
   go_wp2_with fail
   refine wp_region_N [] (fun _ => True) (by kernel_rfl) ?_
   obtain ⟨W3, hW3⟩ : ∃ U, U = W.drew := ⟨_, rfl⟩
   rw [← hW3]
   have HB3 := Lib.hid (show Below w.heap.size w W3 by rw [hW3]; exact HB.out.drew)
   have HC := Lib.hid (show Cel W3 w.heap.size 49 [.int .i64 s, .slice PA pt.length pc, .slice LA lg.length lc, .slice AL i cL] by rw [hW3]; exact H0.out.drew)
   have HC1 := Lib.hid (show Cel W3 (w.heap.size + 1) 49 [.int .i64 0, .slice none 0 0, .slice none 0 0, .slice none 0 0] by rw [hW3]; exact H1.out.drew)
   have HC2 := Lib.hid (show Cel W3 (w.heap.size + 1 + 1) 37 (xs.map Vt.cell) by
    rw [hW3]
    have h2 := H2.out
    rw [Nat.sub_self] at h2
    have e0 : rowC xs 0 = xs.map Vt.cell := by unfold rowC; simp
    rw [e0] at h2
    exact h2.drew)
   have HXB := Lib.hid (show ∀ x ∈ xs, Bp W3 (Bq W3 w.heap.size none none) x.A x.t.length x.t ∧ x.t.length ≤ 400 by rw [hW3]; exact HX.out.2.2)
   have HXT := Lib.hid (show txt xs = txt us by rw [HX.out.2.1, HUL.out, List.take_length])
   have hH : True := trivial
   clear hW3 HX H0 H1 H2 HB hb
   refine tk_ 6 (.slice (some ad) i i) [] rfl hH ?_ ?_
   ·intro V hV; go_simp
   try simp only [Act.put, lay_]
   refine wpAnyN_free (S := fun V => Below W3.heap.size W3 V) (N := [8, 9, 10, 11, 12]) _ _ _ _ ?_
   replace hH : Below W3.heap.size W3 W3 := Below.refl _ _
   refine tk_ 0 (.pointer (some ⟨w.heap.size, 1, none⟩)) [8, 9, 10, 11, 12] rfl hH ?_ ?_
   ·intro V hV; go_simp
   try simp only [Act.put, lay_]
   refine tk_ 1 (.slice PA pt.length pc) [8, 9, 10, 11, 12] rfl hH ?_ ?_
   ·intro V hV; have hc := HC.out.below hV HC.out.lt; have k0 : V.cell? ⟨w.heap.size, 1, none⟩ = some (.slice PA pt.length pc) := hc.cell 1; clear hc; go_simp
   try simp only [Act.put, lay_]
   refine tk_ 3 (.pointer (some ⟨w.heap.size, 2, none⟩)) [8, 9, 10, 11, 12] rfl hH ?_ ?_
   ·intro V hV; go_simp
   try simp only [Act.put, lay_]
   refine tk_ 4 (.slice LA lg.length lc) [8, 9, 10, 11, 12] rfl hH ?_ ?_
   ·intro V hV; have hc := HC.out.below hV HC.out.lt; have k0 : V.cell? ⟨w.heap.size, 2, none⟩ = some (.slice LA lg.length lc) := hc.cell 2; clear hc; go_simp
   try simp only [Act.put, lay_]
   refine wpAnyN_one (i := 2) (by kernel_rfl) rfl (fun Kq hKq => ?_)
   go_simp
   refine (Pack.clone W3.heap.size PA pt.length pc pt W3 (HPT.out W3 HB3.out).1 (Nat.le_refl _) (by have := HD.out.1; omega)).mono ?_
   rintro e V1 ⟨A4, c4, rfl, ho4, hb4⟩
   have HOA := Lib.hid ho4
   have HV1 := Lib.hid hb4
   replace hH := hb4
   clear ho4 hb4
   go_wp2_with fail
   refine hKq.out _ _ (.inr hH) ?_
   clear hKq Kq
   try simp only [Act.put, lay_]
   refine tk_ 7 (.pointer (some ⟨w.heap.size, 1, none⟩)) [8, 9, 10, 11, 12] rfl hH ?_ ?_
   ·intro V hV; go_simp
   try simp only [Act.put, lay_]
   refine wpAnyN_one (i := 5) (by kernel_rfl) rfl (fun Kq hKq => ?_)
   go_simp
   refine (Pack.clone V1.heap.size LA lg.length lc lg V1 (HPT.out V1 (HB3.out.trans (HV1.out.mono HB3.out.size))).2 (Nat.le_refl _) (by have := HD.out.2; omega)).mono ?_
   rintro e V2 ⟨A5, c5, rfl, ho5, hb5⟩
   have HOB := Lib.hid ho5
   have HAB := Lib.hid hb5
   replace hH := hH.trans (hb5.mono hH.size)
   clear ho5 hb5
   have hcp := HC.out.below hH HC.out.lt
   have k1 := hcp.cell 1
   have k2 := hcp.cell 2
   have k3 := hcp.cell 3
   have f1 := hcp.free 1
   have f2 := hcp.free 2
   have f3 := hcp.free 3
   clear hcp
   go_wp2_with fail
   refine hKq.out _ _ (.inr hH) ?_
   clear hKq Kq
   try simp only [Act.put, lay_]
   refine wpAnyN_one (i := 8) (by kernel_rfl) rfl (fun Kq hKq => ?_)
   go_simp
   refine hKq.out _ _ (.inl (by decide)) ?_
   clear hKq Kq
   try simp only [Act.put, lay_]
   refine wpAnyN_one (i := 9) (by kernel_rfl) rfl (fun Kq hKq => ?_)
   go_simp
   refine hKq.out _ _ (.inl (by decide)) ?_
   clear hKq Kq
   try simp only [Act.put, lay_]
   refine wpAnyN_one (i := 10) (by kernel_rfl) rfl (fun Kq hKq => ?_)
   go_simp
   refine hKq.out _ _ (.inl (by decide)) ?_
   clear hKq Kq
   try simp only [Act.put, lay_]
   refine wpAnyN_one (i := 11) (by kernel_rfl) rfl (fun Kq hKq => ?_)
   go_simp
   refine hKq.out _ _ (.inl (by decide)) ?_
   clear hKq Kq
   try simp only [Act.put, lay_]
   refine wpAnyN_one (i := 12) (by kernel_rfl) rfl (fun Kq hKq => ?_)
   go_simp
   refine hKq.out _ _ (.inl (by decide)) ?_
   clear hKq Kq
   try simp only [Act.put, lay_]
   refine wpAnyN_done (by kernel_rfl) ?_ _
   obtain ⟨V3, hV3⟩ : ∃ U, U = ((V2.setCell ⟨w.heap.size, 1, none⟩ (.slice A4 pt.length c4)).setCell ⟨w.heap.size, 2, none⟩ (.slice A5 lg.length c5)).setCell ⟨w.heap.size, 3, none⟩ (.slice (some ad) i i) := ⟨_, rfl⟩
   rw [← hV3]
   have hp3 : Cel V3 w.heap.size 49 [.int .i64 s, .slice A4 pt.length c4, .slice A5 lg.length c5, .slice (some ad) i i] := by rw [hV3]; exact (((HC.out.below hH HC.out.lt).set 1 _).set 2 _).set 3 _
   have hr3 : Cel V3 (w.heap.size + 1) 49 [.int .i64 0, .slice none 0 0, .slice none 0 0, .slice none 0 0] := by rw [hV3]; exact (((HC1.out.below hH HC1.out.lt).far (by simp) _).far (by simp) _).far (by simp) _
   have hf3 : Frm [w.heap.size] V2 V3 := by rw [hV3]; exact (((Frm.refl [w.heap.size] V2).set (p := ⟨w.heap.size, 1, none⟩) (by simp) _).set (p := ⟨w.heap.size, 2, none⟩) (by simp) _).set (p := ⟨w.heap.size, 3, none⟩) (by simp) _
   have hq := fw4_frm V3 (w.heap.size + 1) (.int .i64 s) (.slice A4 pt.length c4) (.slice A5 lg.length c5) (.slice (some ad) i i)
   have hx : Cel (fw4 V3 (w.heap.size + 1) (.int .i64 s) (.slice A4 pt.length c4) (.slice A5 lg.length c5) (.slice (some ad) i i)) (w.heap.size + 1) 49 [.int .i64 s, .slice A4 pt.length c4, .slice A5 lg.length c5, .slice (some ad) i i] := fw4_cel hr3
   have hfr : Frm [w.heap.size, w.heap.size + 1] V2 (fw4 V3 (w.heap.size + 1) (.int .i64 s) (.slice A4 pt.length c4) (.slice A5 lg.length c5) (.slice (some ad) i i)) := (hf3.mono (by intro k hk _; simp at hk; simp [hk])).trans (hq.mono (by intro k hk _; simp at hk; simp [hk]))
   have HP3 := Lib.hid (show Cel V2 w.heap.size 49 _ from HC.out.below hH HC.out.lt)
   have HR3 := Lib.hid (show Cel V2 (w.heap.size + 1) 49 _ from HC1.out.below hH HC1.out.lt)
   have HF3 := Lib.hid hfr
   have HX3 := Lib.hid hx
   have HH := Lib.hid hH
   have q0 := hp3.cell 0
   have q1 := hp3.cell 1
   have q2 := hp3.cell 2
   have q3 := hp3.cell 3
   have r0 := hr3.cell 0
   have r1 := hr3.cell 1
   have r2 := hr3.cell 2
   have r3 := hr3.cell 3
   have g0 := hr3.free 0
   have g1 := hr3.free 1
   have g2 := hr3.free 2
   have g3 := hr3.free 3
   unfold fw4 at HF3 HX3
   clear hp3 hr3 hf3 hq hx hfr hH hV3
   go_wp2_with fail
   refine bodyPost_ret (v := .agg #[.int .i64 s, .slice A4 pt.length c4, .slice A5 lg.length c5, .slice (some ad) i i]) (results_atP 2 49 Try.results31 ⟨w.heap.size + 1, 0, none⟩ rfl _ (load_pr HX3.out)) rfl ?_
   have hno : ∀ k ∈ [w.heap.size, w.heap.size + 1], ∀ t cs fz, t ≠ 49 → V2.heap[k]? ≠ some (Obj.cells cs t fz) := fun k hk t cs fz hne => by
    simp at hk
    rcases hk with rfl | rfl
    ·exact HP3.out.not_ty (Ne.symm hne) cs fz
    ·exact HR3.out.not_ty (Ne.symm hne) cs fz
   have hrow : World.ownsRow V2 w.heap.size 37 1 (.slice (some ad) i i) i (xs.map Vt.cell) := by rw [HAD.out]; exact own_of_cel (HC2.out.below HH.out HC2.out.lt) HXS.out (by omega) HAL.out
   have hofr : ∀ {t : TypeId} {v : Value} {n : Nat} {us : List Value}, t ≠ 49 → World.ownsRow V2 w.heap.size t 1 v n us → World.ownsRow _ w.heap.size t 1 v n us := fun hne ho => own_frm ho HF3.out (fun k hk e => by
    rcases ho.2 with ⟨rfl, _⟩ | ⟨g', cap, cur, rfl, _, hg', _⟩
    ·simp [Value.ownBlock] at e
    ·obtain rfl : g' = k := by simpa [Value.ownBlock] using e
     exact hno g' hk _ cur (0, 0) hne hg')
   have h4 : ∀ q, ob A4 = some q → W3.heap.size ≤ q ∧ q < V1.heap.size := fun q e => ⟨by rw [← ob_own A4 pt.length c4] at e; exact own_ge HOA.out q e, by rw [← ob_own A4 pt.length c4] at e; exact own_lt HOA.out q e⟩
   have h5 : ∀ q, ob A5 = some q → V1.heap.size ≤ q := fun q e => by rw [← ob_own A5 lg.length c5] at e; exact own_ge HOB.out q e
   refine ⟨⟨A4, c4, A5, c5, some ad, i, xs⟩, rfl, (HB3.out.trans (HH.out.mono HB3.out.size)).trans (HF3.out.below (HB3.out.trans (HH.out.mono HB3.out.size)).size (by simp)), ?_⟩
   have hl : (txt us).length = i := by unfold txt; rw [List.length_map]; exact HUL.out.symm
   refine ⟨hofr (by decide) (Pack.Own.base (own_frm (l := []) HOA.out (Frm.of_below HAB.out) (by simp)) HB3.out.size), hofr (by decide) (Pack.Own.base HOB.out (Nat.le_trans HB3.out.size HV1.out.size)), ?_, HXT.out, fun u hu => ⟨by_keep (HXB.out u hu).1 (fun q cs fz e _ _ _ => ?_) (fun q e => .inr (.inr (h4 q e).1)) (fun q e => .inr (.inr (Nat.le_trans HV1.out.size (h5 q e)))), (HXB.out u hu).2⟩, fun q e e2 => ?_⟩
   ·dsimp only
    rw [hl]
    exact hofr (by decide) hrow
   ·have hq := (Array.getElem?_eq_some_iff.1 e).1
    rw [HF3.out.block q (Nat.lt_of_lt_of_le hq HH.out.size) (fun hm => hno q hm _ cs fz (by decide) ((HH.out.block q hq).trans e))]
    exact HH.out.block q hq
   ·have h1 := (h4 q e).2
    have h2 := h5 q e2
    omega
end Go.Proofs.Ytnjmdgnghidjhaa.Peer
end
section
namespace Go.Proofs.Ytnjmdgnghidjhaa.Peer
open Go.RowKit Go.Proofs.Ytnjmdgnghidjhaa.Ord
open Lex (Tx fw4 fw4_cel fw4_frm)
open Rec (Vt Tvs Trow txt)
theorem Fd.device {w : World} {K g T nR cR : Nat} {AR : Option Addr} {p : Pe} {f : Fv} (h : Fd w K g AR nR cR p f) : Dok w T ⟨p.state, p.part, p.log, f.us, f.PA, f.pc, f.LA, f.lc, f.A, f.c⟩ := by
 have hl : f.us.length = p.lines.length := by rw [← h.tx]; unfold txt; rw [List.length_map]
 refine ⟨.inr (By.of_own h.pt), .inr (By.of_own h.lg), ⟨fun i u hi => ?_, fun u hu => ⟨.inr ?_, ?_⟩⟩, Rec.trow_own h.ls⟩
 ·have hlt := (List.getElem?_eq_some_iff.1 hi).1
  obtain ⟨q, cap, hv, _, _⟩ := h.ls.form (by have h1 : i < f.us.length := hlt; omega)
  have hA : f.A = some ⟨q, 0, none⟩ := by injection hv
  refine ⟨_, hA, ?_⟩
  have ho := h.ls
  rw [hA] at ho
  exact ho.cells (g := q) rfl i _ (by rw [List.getElem?_map, hi]; rfl)
 ·refine ⟨rfl, fun hn => ?_⟩
  obtain ⟨ad, e, ⟨_, _, _, cs, fz, d⟩, hc⟩ := (h.by_ u hu).1.2 hn
  exact ⟨ad, e, ⟨cs, fz, d⟩, hc⟩
 ·have := (h.by_ u hu).2
  unfold maxLen
  omega
def Rown (w : World) (K : Nat) (v : Dvm) : Prop := Bp w (Bq w K none none) v.PA v.pt.length v.pt ∧ ∀ u ∈ v.ls, Bp w (Bq w K none none) u.A u.t.length u.t ∧ u.t.length ≤ 400
theorem bq_more {w : World} {K K' n : Nat} {PA LA A : Option Addr} {bs : List B} (h : Bp w (Bq w K PA LA) A n bs) (hK : K' ≤ K) : Bp w (Bq w K' none none) A n bs := ⟨h.1, fun hn => by
 obtain ⟨ad, e, ⟨h1, _, _, h4⟩, hc⟩ := h.2 hn
 exact ⟨ad, e, (show Bq w K' none none ad.block from ⟨Nat.le_trans hK h1, fun e => (by cases e), fun e => (by cases e), h4⟩), hc⟩⟩
theorem bq_keep {w w' : World} {K n : Nat} {A : Option Addr} {bs : List B} (h : Bp w (Bq w K none none) A n bs) (hk : ∀ q cs fz, w.heap[q]? = some (Obj.cells cs 5 fz) → K ≤ q → w'.heap[q]? = w.heap[q]?) : Bp w' (Bq w' K none none) A n bs :=
 by_keep h (fun q cs fz e hK _ _ => hk q cs fz e hK) (fun q e => (by cases e)) (fun q e => (by cases e))
theorem Rown.keep {w w' : World} {K : Nat} {v : Dvm} (h : Rown w K v) (hk : ∀ q cs fz, w.heap[q]? = some (Obj.cells cs 5 fz) → K ≤ q → w'.heap[q]? = w.heap[q]?) : Rown w' K v := ⟨bq_keep h.1 hk, fun u hu => ⟨bq_keep (h.2 u hu).1 hk, (h.2 u hu).2⟩⟩
theorem Fd.rown {w : World} {K K' g nR cR : Nat} {AR : Option Addr} {p : Pe} {f : Fv} (h : Fd w K g AR nR cR p f) (hK : K' ≤ K) : Rown w K' ⟨p.state, p.part, p.log, f.us, f.PA, f.pc, f.LA, f.lc, f.A, f.c⟩ :=
 ⟨bq_more (own_bq h.pt) hK, fun u hu => ⟨bq_more (h.by_ u hu).1 hK, (h.by_ u hu).2⟩⟩
def PwSays (w : World) (T : Nat) (p : Pe) (e : Ending) (w' : World) : Prop := ∃ v : Dvm, e = .returned (.agg v.cells.toArray) ∧ Below w.heap.size w w' ∧ Dok w' T v ∧ v.m = p ∧ Rown w' w.heap.size v
theorem pfeed_own : ∀ (w : World) (T : Nat), T ≤ w.heap.size → ∀ (AR : Option Addr) (n c : Nat) (vs : List Rl), Rls w T AR vs → Rfew vs n → ∀ v : Dvm, Dok w T v → Dfew v → ∀ (D : Nat) (AB : Option Addr) (m cb : Nat) (bs : List B), Bs w D AB m bs → D ≤ w.heap.size → m ≤ cb → m ≤ 1000 →
  Calls Try.prog 29 #[.slice AR n c, .agg v.cells.toArray, .slice AB m cb] w (PwSays w T (feedR (vs.map (·.r)) v.m bs)) := by
 intro w T hT AR n c vs hr hf v hv hd D AB m cb bs hb hD hmc hm
 obtain ⟨s, pt, lg, us, PA, pc, LA, lc, AL, cL⟩ := v
 have hN : (⟨s, pt, lg, us, PA, pc, LA, lc, AL, cL⟩ : Dvm).m = ⟨s, pt, lg, txt us⟩ := rfl
 obtain ⟨w1, hw1⟩ : ∃ w1, w1 = (w.alloc (.cells #[.int .i64 s, .slice PA pt.length pc, .slice LA lg.length lc, .slice AL us.length cL] 49)).alloc (.cells #[.int .i64 0, .slice none 0 0, .slice none 0 0, .slice none 0 0] 49) := ⟨_, rfl⟩
 have hs1 : w1.heap.size = w.heap.size + 1 + 1 := by rw [hw1]; simp
 have hb1 : Below w.heap.size w w1 := by rw [hw1]; exact ((Below.refl _ _).alloc (Nat.le_refl _) _).alloc (by simp) _
 have hcr : Cel w1 (w.heap.size + 1) 49 [.int .i64 0, .slice none 0 0, .slice none 0 0, .slice none 0 0] := by
  rw [hw1]
  exact (by simpa using Cel.new (w.alloc (.cells #[.int .i64 s, .slice PA pt.length pc, .slice LA lg.length lc, .slice AL us.length cL] 49)) 49 [.int .i64 0, .slice none 0 0, .slice none 0 0, .slice none 0 0] : Cel _ (w.heap.size + 1) _ _)
 have hT1 : T ≤ w1.heap.size := Nat.le_trans hT hb1.size
 have con := copied_ w1 T hT1 ⟨s, pt, lg, us, PA, pc, LA, lc, AL, cL⟩ (hv.below hT hb1) hd
 have hp0 : Cel w1 w.heap.size 49 [.int .i64 s, .slice PA pt.length pc, .slice LA lg.length lc, .slice AL us.length cL] := by rw [hw1]; exact (Cel.new w _ _).alloc _
 have k0 := hp0.cell 0
 have k1 := hp0.cell 1
 have k2 := hp0.cell 2
 have k3 := hp0.cell 3
 unfold Dvm.cells Dvm.m at con
 unfold Dvm.cells
 rw [hN]
 dsimp only at con ⊢
 have HR := Lib.hid (show ∀ V, Below w1.heap.size w1 V → Rls V T AR vs from fun V h => hr.below hT (hb1.trans (h.mono hb1.size)))
 have HBS := Lib.hid (show ∀ V, Below w1.heap.size w1 V → Bs V D AB m bs from fun V h => (hb.below (hb1.mono hD)).below (h.mono (Nat.le_trans hD hb1.size)))
 have HFEW := Lib.hid hf
 have HBL := Lib.hid (show bs.length = m from hb.len)
 have HSZ := Lib.hid (show ∀ i, (feedR (vs.map (·.r)) ⟨s, pt, lg, txt us⟩ (bs.take i)).part.length ≤ 400 ∧ (feedR (vs.map (·.r)) ⟨s, pt, lg, txt us⟩ (bs.take i)).log.length ≤ 10000000 ∧ (feedR (vs.map (·.r)) ⟨s, pt, lg, txt us⟩ (bs.take i)).lines.length ≤ 1000000 from fun i => by
  obtain ⟨q1, q2, q3, _⟩ := feed_dfew hf (p := ⟨s, pt, lg, txt us⟩) hd.1 (bs.take i) (fun l hl => by
   obtain ⟨u, hu, rfl⟩ := List.mem_map.1 hl
   exact hd.2.2.2 u hu)
  have h1 : (bs.take i).length ≤ 1000 := by rw [List.length_take, hb.len]; omega
  have h2 := hd.2.1
  have h3 := hd.2.2.1
  have h4 : (txt us).length = us.length := by unfold txt; rw [List.length_map]
  dsimp only at h2 h3 q2 q3
  rw [h4] at q3
  exact ⟨q1, by omega, by omega⟩)
 have HB1 := Lib.hid hb1
 have HCR := Lib.hid hcr
 have HS1 := Lib.hid hs1
 have HWE := Lib.hid hw1
 obtain ⟨rs, hrs⟩ : ∃ rs, rs = vs.map (·.r) := ⟨_, rfl⟩
 rw [← hrs] at HSZ ⊢
 have HRS := Lib.hid hrs
 obtain ⟨K, hKd⟩ : ∃ K, K = w1.heap.size := ⟨_, rfl⟩
 have HK := Lib.hid hKd
 rw [← hKd] at con hT1
 clear hr hf hv hd hb hs1 hb1 hcr hp0 hrs hN hKd
 go_enter Try.func29, Try.ntmps29
 go_upto_region 1 with fail
 rw [← hw1]
 clear hw1
 go_wp2_with fail
 refine con.mono ?_
 clear con k0 k1 k2 k3
 rintro e w2 ⟨f, rfl, hb2, hrow⟩
 rw [HK.out] at hb2
 obtain ⟨W, hW⟩ : ∃ W, W = w2.alloc (.cells #[.int .i64 s, .slice f.PA pt.length f.pc, .slice f.LA lg.length f.lc, .slice f.A us.length f.c, .slice AR n c] 72) := ⟨_, rfl⟩
 have hbW : Below w2.heap.size w2 W := by rw [hW]; exact (Below.refl _ _).alloc (Nat.le_refl _) _
 obtain ⟨g, hg⟩ : ∃ g, g = w2.heap.size := ⟨_, rfl⟩
 have hcW : Cel W g 72 (fcells ⟨s, pt, lg, txt us⟩ f AR n c) := by
  rw [hW, hg]
  unfold fcells
  dsimp only
  have h4 : (txt us).length = us.length := by unfold txt; rw [List.length_map]
  rw [h4]
  exact Cel.new w2 _ _
 have HF0 := Lib.hid (hrow.fd hbW hcW)
 have HB2 := Lib.hid (hb2.trans (hbW.mono hb2.size))
 have HG := Lib.hid hg
 have HKg := Lib.hid (show K ≤ g by rw [HK.out, hg]; exact hb2.size)
 have HWW := Lib.hid hW
 clear hrow hbW hcW hb2 hW hg
 go_wp2_with fail
 rw [← HG.out, ← HWW.out]
 clear HG HWW
 go_loopw [16] (fun v16 wr => ∃ (i : Nat) (p1 : Pe) (f1 : Fv), i ≤ m ∧ v16 = .int .i64 (i : Int) ∧ Below w1.heap.size w1 wr ∧ Hid (Fd wr K g AR n c p1 f1) ∧ Hid (p1 = feedR rs ⟨s, pt, lg, txt us⟩ (bs.take i))) (fun v16 _ => m - (intOf v16).toNat)
 case atStart => exact ⟨0, _, f, Nat.zero_le _, rfl, HB2.out, HF0, Lib.hid rfl⟩
 case round =>
  clear HF0 HB2
  obtain ⟨i, p1, f1, hi, rfl, hb, HF, HP⟩ := hrel
  obtain ⟨V1, hV1⟩ : ∃ V1, V1 = wr := ⟨_, rfl⟩
  rw [← hV1] at hb HF ⊢
  clear hV1
  have HBW := Lib.hid hb
  rcases Nat.lt_or_ge i m with hlt | hge
  ·obtain ⟨x, hx⟩ : ∃ x, bs[i]? = some x := ⟨_, List.getElem?_eq_getElem (by rw [HBL.out]; exact hlt)⟩
   obtain ⟨bd, rfl, _, b0⟩ := (HBS.out V1 hb).at_ hlt
   rw [List.getD_eq_getElem?_getD, hx] at b0
   change _ = some (v8 x) at b0
   have HN := Lib.hid (show feedR rs ⟨s, pt, lg, txt us⟩ (bs.take (i + 1)) = byteR rs p1 x by rw [feed_take rs _ hx, HP.out])
   have hsz := HSZ.out i
   rw [← HP.out] at hsz
   have con := receive_ V1 K g T AR n c vs (fun V h => HR.out V (hb.trans (by rw [← HK.out]; exact h))) hT1 (by rw [HK.out]; exact hb.size) HKg.out HFEW.out.1 (by have := HFEW.out.2.1; omega) p1 f1 HF.out ⟨hsz.2.1, fun v hv => by have := (HFEW.out.2.2 v hv).2; omega, hsz.1, hsz.2.2⟩ x
   rw [← HRS.out] at con
   clear hb hx hsz
   go_wp2_with fail
   refine con.mono ?_
   clear con b0
   rintro e V2 ⟨rfl, hb3, f2, hf2⟩
   rw [HK.out] at hb3
   have HF2 := Lib.hid hf2
   have HB3 := Lib.hid (HBW.out.trans hb3)
   clear hf2 hb3
   go_wp2_with fail
   exact ⟨⟨i + 1, _, f2, hlt, by rw [show ((i + 1 : Nat) : Int) = (i : Int) + 1 by omega], HB3.out, HF2, Lib.hid HN.out.symm⟩, by simp [intOf]; omega⟩
  ·obtain rfl : i = m := by omega
   have hcg := HF.out.cel
   unfold fcells at hcg
   have k0 := hcg.cell 0
   have k1 := hcg.cell 1
   have k2 := hcg.cell 2
   have k3 := hcg.cell 3
   have hcr : Cel V1 (w.heap.size + 1) 49 [.int .i64 0, .slice none 0 0, .slice none 0 0, .slice none 0 0] := HCR.out.below hb (by rw [HS1.out]; omega)
   have r0 := hcr.cell 0
   have r1 := hcr.cell 1
   have r2 := hcr.cell 2
   have r3 := hcr.cell 3
   have g0 := hcr.free 0
   have g1 := hcr.free 1
   have g2 := hcr.free 2
   have g3 := hcr.free 3
   have HX := Lib.hid (fw4_cel (a := .int .i64 p1.state) (b := .slice f1.PA p1.part.length f1.pc) (c := .slice f1.LA p1.log.length f1.lc) (d := .slice f1.A p1.lines.length f1.c) hcr)
   have HFR := Lib.hid (fw4_frm V1 (w.heap.size + 1) (.int .i64 p1.state) (.slice f1.PA p1.part.length f1.pc) (.slice f1.LA p1.log.length f1.lc) (.slice f1.A p1.lines.length f1.c))
   have HCV := Lib.hid hcr
   unfold fw4 at HX HFR
   clear hcg hcr hb
   go_wp2_with fail
   refine bodyPost_ret (v := .agg #[.int .i64 p1.state, .slice f1.PA p1.part.length f1.pc, .slice f1.LA p1.log.length f1.lc, .slice f1.A p1.lines.length f1.c]) (results_atP 6 49 Try.results29 ⟨w.heap.size + 1, 0, none⟩ rfl _ (load_pr HX.out)) rfl ?_
   have hll : f1.us.length = p1.lines.length := by have := HF.out.tx; rw [← this]; unfold txt; rw [List.length_map]
   have hdv : Dok V1 T ⟨p1.state, p1.part, p1.log, f1.us, f1.PA, f1.pc, f1.LA, f1.lc, f1.A, f1.c⟩ := HF.out.device
   have hT2 : T ≤ w.heap.size + 1 := by omega
   refine ⟨⟨p1.state, p1.part, p1.log, f1.us, f1.PA, f1.pc, f1.LA, f1.lc, f1.A, f1.c⟩, ?_, ?_, hdv.frm ?_ HFR.out hT2 HCV.out (by decide) (by decide), ?_, (HF.out.rown (by rw [HK.out, HS1.out]; omega)).keep fun q cs fz e _ => HFR.out.block q (Array.getElem?_eq_some_iff.1 e).1 (fun hm => ?_)⟩
   ·unfold Dvm.cells
    dsimp only
    rw [hll]
   ·have h1 : Below w.heap.size w V1 := HB1.out.trans (HBW.out.mono HB1.out.size)
    exact h1.trans (HFR.out.below h1.size (by simp))
   ·exact Nat.le_trans hT (HB1.out.trans (HBW.out.mono HB1.out.size)).size
   ·unfold Dvm.m
    dsimp only
    rw [HF.out.tx]
    have h2 := HP.out
    rw [← HBL.out, List.take_length] at h2
    rw [← h2]
   ·rw [List.mem_singleton.1 hm] at e
    exact HCV.out.not_ty (by decide) cs fz e
theorem pfeed_ : PFeed := fun w T hT AR n c vs hr hf v hv hd D AB m cb bs hb hD hmc hm => (pfeed_own w T hT AR n c vs hr hf v hv hd D AB m cb bs hb hD hmc hm).mono fun e w' ⟨v', h1, h2, h3, h4, _⟩ => ⟨v', h1, h2, h3, h4⟩
end Go.Proofs.Ytnjmdgnghidjhaa.Peer
end
