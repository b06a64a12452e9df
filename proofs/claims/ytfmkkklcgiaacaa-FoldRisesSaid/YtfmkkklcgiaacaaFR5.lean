/-
Texts: FoldPnext FoldProw
-/
import Derived.Test.YtfmkkklcgiaacaaFR0
import Derived.Test.YtfmkkklcgiaacaaFR1
import Derived.Test.YtfmkkklcgiaacaaFR2
import Derived.Test.YtfmkkklcgiaacaaFR3
import Derived.Test.YtfmkkklcgiaacaaFR4
import Derived.Lib.SliceRun
set_option linter.unusedVariables false
set_option linter.unusedSimpArgs false
set_option maxRecDepth 100000
set_option maxHeartbeats 4000000
section
namespace Go.Proofs.Ytfmkkklcgiaacaa.Fold
open Go.RowKit
open Lex (Tx)
open Rec (Stt Rc Rv Rok Vt Tvs Trow txt may may3)
theorem onB_iff {b : Bok} {s : Stt} : onB true b s = true ↔ right b s = true ∧ 0 ≤ s.step := by
 unfold onB
 simp only [Bool.true_and, Bool.and_eq_true, Bool.not_eq_true']
 constructor
 ·rintro ⟨h1, h2⟩
  have := (right_nums h1).1
  rcases endB_no h2 with h | h
  ·omega
  ·exact ⟨h1, h⟩
 ·rintro ⟨h1, h2⟩
  refine ⟨h1, ?_⟩
  cases he : endB s.step with
  | false => rfl
  | true => have := endB_iff.1 he; omega
theorem next_off {b : Bok} {s : Stt} {r : Rc} (h : onB true b s = false) : nextR b s r = none := by
 cases ht : nextR b s r with
 | none => rfl
 | some t =>
  obtain ⟨h1, _, h3, _⟩ := next_some ht
  rw [onB_iff.2 ⟨h1, h3⟩] at h
  cases h
theorem next_on {b : Bok} {s : Stt} {r : Rc} {p : Sp} (h : onB true b s = true) (hm : may r = true) (hk : r.kind ≠ 1) (hp : b.steps[s.step.toNat]? = some p) : nextR b s r = if (r.visit == s.visit) = true then (if r.kind = 2 then intentR p s r else outcomeR b p s r) else none := by
 obtain ⟨h1, h2⟩ := onB_iff.1 h
 unfold nextR
 rw [h1, hm, hp, decide_eq_false (show ¬ s.step < 0 by omega), decide_eq_false hk]
 by_cases e : r.visit = s.visit
 ·rw [if_neg (by simp [e]), if_pos (by simp [e])]
 ·rw [if_pos (by simp [e]), if_neg (by simp [e])]
def goes2 (p : Sp) (s : Stt) (r : Rc) : Bool := (r.visit == s.visit) && (r.step == s.step) && (r.try_ == s.tries) && !decide (p.try_ < s.tries)
theorem next_on2 {b : Bok} {s : Stt} {r : Rc} {p : Sp} (h : onB true b s = true) (hm : may r = true) (hk : r.kind = 2) (hp : b.steps[s.step.toNat]? = some p) : nextR b s r = if goes2 p s r = true then some { s with tries := s.tries + 1 } else none := by
 rw [next_on h hm (by omega) hp, if_pos hk]
 unfold goes2 intentR
 by_cases e1 : r.visit = s.visit
 ·by_cases e2 : r.step = s.step
  ·by_cases e3 : r.try_ = s.tries
   ·by_cases e4 : p.try_ < s.tries
    ·rw [if_pos (by simp [e1]), if_pos (.inr (.inr (by omega))), if_neg (by simp [e4])]
    ·rw [if_pos (by simp [e1]), if_neg (by omega), if_pos (by simp [e1, e2, e3]; omega)]
   ·rw [if_pos (by simp [e1]), if_pos (.inr (.inl e3)), if_neg (by simp [e3])]
  ·rw [if_pos (by simp [e1]), if_pos (.inl e2), if_neg (by simp [e2])]
 ·rw [if_neg (by simp [e1]), if_neg (by simp [e1])]
theorem late_eq {f : Fs} {s : Stt} {v : Rv} (h : -1 ≤ v.r.var) : lateB f s.off v = late f.m s v.r := by
 unfold lateB late
 rw [Bool.eq_iff_iff]
 simp only [Bool.and_eq_true, Bool.or_eq_true, decide_eq_true_eq, beq_iff_eq]
 have : f.m.els = f.els := rfl
 rw [this]
 constructor
 ·rintro ⟨⟨h1, h2⟩, h3⟩
  exact ⟨⟨h1, by omega⟩, h3⟩
 ·rintro ⟨⟨h1, h2⟩, h3⟩
  exact ⟨⟨h1, by omega⟩, h3⟩
theorem met_eq {f : Fs} {s : Stt} {v : Rv} : metB f s.off v = met f.m s v.r := by unfold metB met; rw [Bool.and_comm]
theorem next_on3 {b : Bok} {s : Stt} {v : Rv} {f : Fs} (h : onB true b s = true) (hm : may v.r = true) (hk : v.r.kind = 3) (hp : b.steps[s.step.toNat]? = some f.m) :
  nextR b s v.r = if ((v.r.visit == s.visit) && !(s.tries == 0) && possB f b.steps.length b.nv s.off v) = true then some (goR b s v.r.to v.r.off v.r.var v.r.value) else none := by
 obtain ⟨_, _, ⟨t1, _⟩, _, ⟨v1, _⟩, _⟩ := may3 hm hk
 rw [next_on h hm (by omega) hp, if_neg (show ¬ v.r.kind = 2 by omega)]
 unfold possB outcomeR
 rw [met_eq, late_eq v1]
 by_cases e1 : v.r.visit = s.visit
 ·rw [if_pos (by simp [e1])]
  by_cases e2 : s.tries = 0
  ·rw [if_pos (.inl e2), if_neg (by simp [e2])]
  ·by_cases e3 : (b.steps.length : Int) ≤ v.r.to
   ·rw [if_pos (.inr (.inl e3)), if_neg]
    intro hh
    simp only [Bool.and_eq_true, tgtB_iff] at hh
    omega
   ·by_cases e4 : (b.nv : Int) ≤ v.r.var
    ·rw [if_pos (.inr (.inr e4)), if_neg]
     intro hh
     simp only [Bool.and_eq_true, tgtB_iff, varB_iff] at hh
     omega
    ·rw [if_neg (by omega)]
     have q1 : tgtB b.steps.length v.r.to = true := tgtB_iff.2 ⟨t1, by omega⟩
     have q2 : varB b.nv v.r.var = true := varB_iff.2 ⟨v1, by omega⟩
     rw [q1, q2]
     simp [e1, e2]
 ·rw [if_neg (by simp [e1]), if_neg (by simp [e1])]
theorem next_kind1 {b : Bok} {s : Stt} {r : Rc} (hk : r.kind = 1) : nextR b s r = none := by
 unfold nextR
 rw [if_pos (by simp [hk])]
theorem txt_set (us : List Vt) (i : Nat) (u : Vt) (hi : i < us.length) : txt (us.set i u) = setV (txt us) (i : Int) u.t := by
 unfold txt setV
 apply List.ext_getElem?
 intro k
 rw [List.map_set, List.getElem?_set, List.getElem?_map, List.length_map, List.getElem?_map]
 by_cases hk : k < us.length
 ·rw [List.getElem?_range hk]
  by_cases e : i = k
  ·subst e
   simp [hk]
  ·have : ¬ ((k : Int) = (i : Int)) := by omega
   simp [e, this, hk, List.getElem?_eq_getElem hk]
 ·rw [List.getElem?_eq_none (by simpa using Nat.le_of_not_lt hk : (List.range us.length).length ≤ k), List.getElem?_eq_none (Nat.le_of_not_lt hk)]
  by_cases e : i = k
  ·omega
  ·simp [e]
theorem txt_none (us : List Vt) {x : Int} (hx : x < 0) (t : List B) : setV (txt us) x t = txt us := by
 unfold setV
 apply List.ext_getElem?
 intro k
 rw [List.getElem?_map]
 by_cases hk : k < (txt us).length
 ·rw [List.getElem?_range hk]
  have : ¬ ((k : Int) = x) := by omega
  simp [this, hk, List.getElem?_eq_getElem hk]
 ·rw [List.getElem?_eq_none (by simpa using Nat.le_of_not_lt hk), List.getElem?_eq_none (Nat.le_of_not_lt hk)]
  rfl
end Go.Proofs.Ytfmkkklcgiaacaa.Fold
end
section
namespace Go.Proofs.Ytfmkkklcgiaacaa.Fold
open Go.RowKit Go.Proofs.Ytfmkkklcgiaacaa.Ord
open Lex (Tx)
open Rec (Stt Rc Rv Rok Vt Tvs Trow txt)
structure Rrow (w : World) (h : Nat) (us : List Vt) : Prop where
 row : Cel w h 29 (us.map Vt.cell)
 tx : ∀ u ∈ us, By w u.A u.t.length u.t ∧ u.t.length ≤ maxLen
namespace Rrow
variable {w w' : World} {h : Nat} {us : List Vt}
theorem below (r : Rrow w h us) (hb : Below w.heap.size w w') : Rrow w' h us := ⟨r.row.below hb r.row.lt, fun u hu => ⟨(r.tx u hu).1.below hb, (r.tx u hu).2⟩⟩
theorem tvs (r : Rrow w h us) (K : Nat) : Tvs w K (some ⟨h, 0, none⟩) us := ⟨fun i v hi => ⟨_, rfl, by
 rw [add_row, r.row.cell i, List.getElem?_map, hi]; rfl⟩, fun v hv => ⟨.inr (r.tx v hv).1, (r.tx v hv).2⟩⟩
theorem trow (r : Rrow w h us) (K : Nat) : Trow w K (some ⟨h, 0, none⟩) us := fun _ => ⟨_, rfl, .inr ⟨_, _, r.row⟩⟩
theorem frm {l : List Nat} (r : Rrow w h us) (hf : Frm l w w') (hh : h ∉ l) (hl : ∀ k ∈ l, ∀ cs fz, w.heap[k]? ≠ some (Obj.cells cs 5 fz)) : Rrow w' h us :=
 ⟨r.row.frm hf hh, fun u hu => ⟨(r.tx u hu).1.keep fun k cs fz hk => hf.block k (Array.getElem?_eq_some_iff.1 hk).1 (fun hm => hl k hm cs fz hk), (r.tx u hu).2⟩⟩
end Rrow
theorem tx_low {w : World} {K : Nat} {A : Option Addr} {t : List B} (h : Tx w K A t) (hK : K ≤ w.heap.size) : Bs w w.heap.size A t.length t := by
 rcases h with h | h
 ·exact h.more hK
 ·exact h.rd
theorem tx_frm {w w' : World} {K : Nat} {A : Option Addr} {t : List B} {l : List Nat} (h : Tx w K A t) (hf : Frm l w w') (hl : ∀ k ∈ l, K ≤ k ∧ ∀ cs fz, w.heap[k]? ≠ some (Obj.cells cs 5 fz)) : Tx w' K A t := by
 rcases h with hs | hs
 ·refine .inl ((Bs.bp hs).keep fun k hk hlt => hf.block k hlt fun hm => ?_)
  have := (hl k hm).1
  omega
 ·exact .inr (hs.keep fun k cs fz hk => hf.block k (Array.getElem?_eq_some_iff.1 hk).1 (fun hm => (hl k hm).2 cs fz hk))
theorem bytesF : ByteRow Try.prog 29 5 := ByteRow.mk' Try.underlying29 (by kernel_rfl)
theorem eql_nilF (w : World) (A : Option Addr) (n c : Nat) : (binOp .eql 29 (.slice A n c) (.slice none 0 0)).run Try.prog w = .ok (.bool A.isNone) w := Lib.run_eql_slice_nil w 29 5 A n c 0 0 Try.underlying29
theorem clone_ (w : World) (A : Option Addr) (n c : Nat) (bs : List B) (h : Bs w w.heap.size A n bs) (hn : n ≤ 100000) :
  Calls Try.prog 34 #[.slice A n c] w fun r w' => ∃ A' c', r = .returned (.slice A' n c') ∧ By w' A' n bs ∧ Below w.heap.size w w' := by
 have q := eql_nilF w A n c
 have H := Lib.hid h
 cases A with
 | none =>
  have hn0 : n = 0 := by
   rcases Nat.eq_zero_or_pos n with h0 | h0
   ·exact h0
   ·obtain ⟨ad, h', _⟩ := h.2 h0; cases h'
  subst hn0
  clear h
  go_enter Try.func34, Try.ntmps34
  go_wp2_with fail
  go_ret
  exact ⟨none, 0, rfl, ⟨H.out.1, fun h => absurd h (by omega)⟩, Below.refl _ _⟩
 | some a =>
  clear h
  go_enter Try.func34, Try.ntmps34
  go_wp2_with ((at_builtin; refine wpList_append_new _ rfl _ _ 29 rfl 5 bytesF rfl w.heap.size (some a) n c bs rfl H.out (Nat.le_refl _) (by omega) ?_; intro A' c' w' ho hb'))
  go_ret
  exact ⟨A', c', rfl, By.of_own ho, hb'⟩
def rowC (xs : List Vt) (k : Nat) : List Value := xs.map Vt.cell ++ List.replicate k (.slice none 0 0)
theorem rowC_set (xs : List Vt) (k : Nat) (u : Vt) : (rowC xs (k + 1)).set xs.length u.cell = rowC (xs ++ [u]) k := by
 unfold rowC
 rw [List.set_append_right _ _ (by rw [List.length_map]; exact Nat.le_refl _), List.length_map, Nat.sub_self, List.replicate_succ, List.set_cons_zero, List.map_append]
 simp
theorem rowC_get (xs : List Vt) (k : Nat) : (rowC xs (k + 1))[xs.length]? = some (.slice none 0 0) := by
 unfold rowC
 rw [List.getElem?_append_right (by rw [List.length_map]; exact Nat.le_refl _), List.length_map, Nat.sub_self]
 rfl
theorem txt_snoc (xs : List Vt) (u : Vt) : txt (xs ++ [u]) = txt xs ++ [u.t] := by unfold txt; rw [List.map_append]; rfl
theorem txt_take {us : List Vt} {i : Nat} {v : Vt} (h : us[i]? = some v) : txt (us.take (i + 1)) = txt (us.take i) ++ [v.t] := by
 rw [List.take_add_one, h]
 unfold txt
 rw [List.map_append]
 rfl
theorem copied_ (w : World) (K : Nat) (hK : K ≤ w.heap.size) (s1 s2 s3 s4 : Int) (AL : Option Addr) (m cL : Nat) (us : List Vt) (hu : Tvs w K AL us) (hul : us.length = m) (hum : m ≤ 100000) (hut : ∀ u ∈ us, u.t.length ≤ 1000) :
  Calls Try.prog 21 #[stval s1 s2 s3 s4 AL m cL] w fun e w' => ∃ h us', e = .returned (stval s1 s2 s3 s4 (some ⟨h, 0, none⟩) m m) ∧ w.heap.size ≤ h ∧ Rrow w' h us' ∧ us'.length = m ∧ txt us' = txt us ∧ Below w.heap.size w w' := by
 unfold stval
 obtain ⟨w1, hw1⟩ : ∃ w1, w1 = (w.alloc (.cells #[.int .i64 s1, .int .i64 s2, .int .i64 s3, .int .i64 s4, .slice AL m cL] 31)).alloc (.cells #[.int .i64 0, .int .i64 0, .int .i64 0, .int .i64 0, .slice none 0 0] 31) := ⟨_, rfl⟩
 have hmk := run_make_rows w1 m (by omega)
 have hs1 : w1.heap.size = w.heap.size + 1 + 1 := by rw [hw1]; simp
 obtain ⟨W1, hW1⟩ : ∃ W, W = w1.alloc (.cells (List.replicate m (Value.slice none 0 0)).toArray 29) := ⟨_, rfl⟩
 have hb1 : Below w.heap.size w w1 := by rw [hw1]; exact ((Below.refl _ _).alloc (Nat.le_refl _) _).alloc (by simp) _
 have hbW : Below w.heap.size w W1 := by rw [hW1]; exact hb1.alloc hb1.size _
 have hc0 : Cel W1 w.heap.size 31 (scells s1 s2 s3 s4 AL m cL) := by rw [hW1, hw1]; exact ((Cel.new w _ _).alloc _).alloc _
 have hc1 : Cel W1 (w.heap.size + 1) 31 (scells 0 0 0 0 none 0 0) := by
  rw [hW1, hw1]
  exact (by simpa using Cel.new (w.alloc (.cells #[.int .i64 s1, .int .i64 s2, .int .i64 s3, .int .i64 s4, .slice AL m cL] 31)) 31 (scells 0 0 0 0 none 0 0) : Cel _ (w.heap.size + 1) _ _).alloc _
 have hc2 : Cel W1 (w.heap.size + 1 + 1) 29 (rowC [] m) := by rw [hW1, ← hs1]; exact Cel.new w1 _ _
 have HU := Lib.hid (show ∀ V, Below w.heap.size w V → K ≤ V.heap.size ∧ Tvs V K AL us from fun V h => ⟨Nat.le_trans hK h.size, hu.below hK h⟩)
 have HBW := Lib.hid hbW
 have H0 := Lib.hid hc0
 have H1 := Lib.hid hc1
 have H2 := Lib.hid hc2
 have HUL := Lib.hid hul
 have HUT := Lib.hid hut
 have q4 : w1.cell? ⟨w.heap.size, 4, none⟩ = some (.slice AL m cL) := by rw [hw1]; exact ((Cel.new w 31 (scells s1 s2 s3 s4 AL m cL)).alloc _).cell 4
 rw [hW1.symm] at hmk
 rw [hs1] at hmk
 clear hu hul hut hb1 hbW hc0 hc1 hc2 hK hs1 hW1
 go_enter Try.func21, Try.ntmps21
 go_upto_region 1 with fail
 rw [← hw1]
 clear hw1
 go_upto_region 2 with fail
 clear hmk q4
 have q4 := H0.out.cell 4
 obtain ⟨ad, had⟩ : ∃ ad : Addr, ad = ⟨w.heap.size + 1 + 1, 0, none⟩ := ⟨_, rfl⟩
 rw [← had]
 have HAD := Lib.hid had
 clear had
 go_wp2_with fail
 go_loopw [13] (fun v13 wr => ∃ (i : Nat) (xs : List Vt), i ≤ m ∧ v13 = .int .i64 (i : Int) ∧ Below w.heap.size w wr ∧ Hid (Cel wr w.heap.size 31 (scells s1 s2 s3 s4 AL m cL)) ∧ Hid (Cel wr (w.heap.size + 1) 31 (scells 0 0 0 0 none 0 0)) ∧ Hid (Cel wr (w.heap.size + 1 + 1) 29 (rowC xs (m - i))) ∧ Hid (xs.length = i ∧ txt xs = txt (us.take i) ∧ ∀ x ∈ xs, By wr x.A x.t.length x.t ∧ x.t.length ≤ maxLen)) (fun v13 _ => m - (intOf v13).toNat)
 case atStart => exact ⟨0, [], Nat.zero_le _, rfl, HBW.out, H0, H1, Lib.hid (by rw [Nat.sub_zero]; exact H2.out), Lib.hid ⟨rfl, rfl, fun x hx => by cases hx⟩⟩
 case round =>
  clear q4 H0 H1 H2 HBW
  obtain ⟨i, xs, hi, rfl, hb, H0, H1, H2, HX⟩ := hrel
  obtain ⟨W, hW⟩ : ∃ W, W = wr := ⟨_, rfl⟩
  rw [← hW] at hb H0 H1 H2 HX ⊢
  clear hW
  have HB := Lib.hid hb
  rcases Nat.lt_or_ge i m with hlt | hge
  ·obtain ⟨v, hv⟩ : ∃ v, us[i]? = some v := ⟨_, List.getElem?_eq_getElem (by rw [HUL.out]; exact hlt)⟩
   obtain ⟨hKW, hT⟩ := HU.out _ hb
   obtain ⟨ad2, hA2, k0⟩ := hT.cr i v hv
   have hvm := List.mem_of_getElem? hv
   have con := clone_ W v.A v.t.length v.c v.t (tx_low (hT.tx v hvm).1 hKW) (by have := HUT.out v hvm; omega)
   have HV := Lib.hid hv
   have HVL := Lib.hid (HUT.out v hvm)
   obtain ⟨vA, vc, vt⟩ := v
   change _ = some (Value.slice vA vt.length vc) at k0
   dsimp only at con
   obtain ⟨tl, htl⟩ : ∃ tl, tl = vt.length := ⟨_, rfl⟩
   rw [← htl] at k0 con
   have HTL := Lib.hid htl
   clear htl hv hvm hT hb hKW
   subst hA2
   go_wp2_with fail
   refine con.mono ?_
   clear con
   rintro e W2 ⟨A', c', rfl, hby, hb2⟩
   have HBY := Lib.hid hby
   have HB2 := Lib.hid (HB.out.trans (hb2.mono HB.out.size))
   have h2 := H2.out.below hb2 H2.out.lt
   rw [show m - i = (m - (i + 1)) + 1 by omega] at h2
   have HR := Lib.hid h2
   have H0' := Lib.hid (H0.out.below hb2 H0.out.lt)
   have H1' := Lib.hid (H1.out.below hb2 H1.out.lt)
   have HX' := Lib.hid (show xs.length = i ∧ txt xs = txt (us.take i) ∧ ∀ x ∈ xs, By W2 x.A x.t.length x.t ∧ x.t.length ≤ maxLen from ⟨HX.out.1, HX.out.2.1, fun x hx => ⟨(HX.out.2.2 x hx).1.below hb2, (HX.out.2.2 x hx).2⟩⟩)
   have hc : W2.cell? (ad.add i) = some (.slice none 0 0) := by rw [HAD.out, add_row, h2.cell i, ← HX.out.1]; exact rowC_get _ _
   have hz : W2.frozen? (ad.add i) = false := by rw [HAD.out, add_row]; exact h2.free i
   have hcell : (rowC xs (m - (i + 1) + 1)).set i (.slice A' tl c') = rowC (xs ++ [⟨A', c', vt⟩]) (m - (i + 1)) := by rw [← HX.out.1, ← rowC_set]; unfold Vt.cell; dsimp only; rw [← HTL.out]
   have HS := Lib.hid (show Cel (W2.setCell (ad.add i) (.slice A' tl c')) (w.heap.size + 1 + 1) 29 (rowC (xs ++ [⟨A', c', vt⟩]) (m - (i + 1))) by
    rw [HAD.out, add_row]
    have q := h2.set i (.slice A' tl c')
    rw [hcell] at q
    exact q)
   have HFR := Lib.hid (show Frm [w.heap.size + 1 + 1] W2 (W2.setCell (ad.add i) (.slice A' tl c')) by rw [HAD.out, add_row]; exact (Frm.refl _ _).set (by simp) _)
   clear hby hb2 h2 HX H0 H1 H2 HB hcell k0
   go_wp2_with fail
   refine ⟨⟨i + 1, xs ++ [⟨A', c', vt⟩], by omega, by rw [show ((i + 1 : Nat) : Int) = (i : Int) + 1 by omega], HB2.out.trans (HFR.out.below HB2.out.size (by simp; omega)), Lib.hid (H0'.out.frm HFR.out (by simp; omega)), Lib.hid (H1'.out.frm HFR.out (by simp)), HS, Lib.hid ⟨by rw [List.length_append, HX'.out.1]; rfl, by rw [txt_snoc, txt_take HV.out, HX'.out.2.1], fun x hx => ?_⟩⟩, by simp [intOf]; omega⟩
   rcases List.mem_append.1 hx with hx | hx
   ·exact ⟨(HX'.out.2.2 x hx).1.keep fun k cs fz hk => HFR.out.block k (Array.getElem?_eq_some_iff.1 hk).1 (fun hm => by
     simp at hm
     subst hm
     exact HR.out.not_ty (by decide) cs fz hk), (HX'.out.2.2 x hx).2⟩
   ·simp at hx
    subst hx
    refine ⟨?_, by have := HVL.out; unfold maxLen; dsimp only at this ⊢; omega⟩
    show By _ A' vt.length vt
    rw [← HTL.out]
    exact HBY.out.keep fun k cs fz hk => HFR.out.block k (Array.getElem?_eq_some_iff.1 hk).1 (fun hm => by
     simp at hm
     subst hm
     exact HR.out.not_ty (by decide) cs fz hk)
  ·obtain rfl : i = m := by omega
   have q0 := H0.out.cell 0
   have q1 := H0.out.cell 1
   have q2 := H0.out.cell 2
   have q3 := H0.out.cell 3
   have q4 := H0.out.cell 4
   have f4 := H0.out.free 4
   have r0 := H1.out.cell 0
   have r1 := H1.out.cell 1
   have r2 := H1.out.cell 2
   have r3 := H1.out.cell 3
   have r4 := H1.out.cell 4
   have g0 := H1.out.free 0
   have g1 := H1.out.free 1
   have g2 := H1.out.free 2
   have g3 := H1.out.free 3
   have g4 := H1.out.free 4
   have hf1 : Frm [w.heap.size, w.heap.size + 1] W (fw5 (W.setCell ⟨w.heap.size, 4, none⟩ (.slice (some ad) i i)) (w.heap.size + 1) (.int .i64 s1) (.int .i64 s2) (.int .i64 s3) (.int .i64 s4) (.slice (some ad) i i)) := ((Frm.refl _ W).set (p := ⟨w.heap.size, 4, none⟩) (by simp) _).trans ((fw5_frm _ _ _ _ _ _ _).mono (by intro k hk _; simp at hk; simp [hk]))
   have hx : Cel (fw5 (W.setCell ⟨w.heap.size, 4, none⟩ (.slice (some ad) i i)) (w.heap.size + 1) (.int .i64 s1) (.int .i64 s2) (.int .i64 s3) (.int .i64 s4) (.slice (some ad) i i)) (w.heap.size + 1) 31 [.int .i64 s1, .int .i64 s2, .int .i64 s3, .int .i64 s4, .slice (some ad) i i] := fw5_cel (x := .int .i64 0) (y := .int .i64 0) (z := .int .i64 0) (u := .int .i64 0) (q := .slice none 0 0) (H1.out.far (by simp) _)
   have HF := Lib.hid hf1
   have HXC := Lib.hid hx
   clear hf1 hx hb
   go_wp2_with fail
   refine bodyPost_ret (v := .agg #[.int .i64 s1, .int .i64 s2, .int .i64 s3, .int .i64 s4, .slice (some ad) i i]) (Rec.results_cell_ 2 31 Try.results21 ⟨w.heap.size + 1, 0, none⟩ rfl _ (load_st HXC.out)) rfl ?_
   have h2 := H2.out
   rw [Nat.sub_self] at h2
   have e0 : rowC xs 0 = xs.map Vt.cell := by unfold rowC; simp
   rw [e0] at h2
   have hrow : Rrow W (w.heap.size + 1 + 1) xs := ⟨h2, HX.out.2.2⟩
   refine ⟨w.heap.size + 1 + 1, xs, by rw [HAD.out], by omega, hrow.frm HF.out (by simp; omega) (fun k hk cs fz => ?_), HX.out.1, ?_, HB.out.trans (HF.out.below HB.out.size (by simp))⟩
   ·simp at hk
    rcases hk with rfl | rfl
    ·exact H0.out.not_ty (by decide) cs fz
    ·exact H1.out.not_ty (by decide) cs fz
   ·rw [HX.out.2.1, ← HUL.out, List.take_length]
end Go.Proofs.Ytfmkkklcgiaacaa.Fold
end
