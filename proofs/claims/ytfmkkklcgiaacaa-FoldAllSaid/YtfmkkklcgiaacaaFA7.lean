/-
The document's fold (layer 16): the state that goes to a target. (Written by gen_foldgo.py.)
-/
import Derived.Test.YtfmkkklcgiaacaaFA0
import Derived.Test.YtfmkkklcgiaacaaFA1
import Derived.Test.YtfmkkklcgiaacaaFA2
import Derived.Test.YtfmkkklcgiaacaaFA3
import Derived.Test.YtfmkkklcgiaacaaFA4
import Derived.Test.YtfmkkklcgiaacaaFA5
import Derived.Test.YtfmkkklcgiaacaaFA6
import Derived.Deep.CutRange
set_option linter.unusedVariables false
set_option linter.unusedSimpArgs false
set_option maxRecDepth 100000
set_option maxHeartbeats 4000000
namespace Go.Proofs.Ytfmkkklcgiaacaa.Fold
open Go.RowKit Go.Proofs.Ytfmkkklcgiaacaa.Ord
open Lex (Tx)
open Rec (Stt Vt Tvs txt infoRw rowsW Trow trow_own)
def wv (us : List Vt) (va : Int) (x : Vt) (i : Nat) : List Vt := (List.range i).map fun (j : Nat) => if (j : Int) = va then x else us.getD j ⟨none, 0, []⟩
theorem wv_succ (us : List Vt) (va : Int) (x : Vt) (i : Nat) : wv us va x (i + 1) = wv us va x i ++ [if (i : Int) = va then x else us.getD i ⟨none, 0, []⟩] := by unfold wv; rw [List.range_succ, List.map_append]; rfl
theorem wv_len (us : List Vt) (va : Int) (x : Vt) (i : Nat) : (wv us va x i).length = i := by unfold wv; simp
theorem wv_txt (us : List Vt) (va : Int) (x : Vt) : txt (wv us va x us.length) = setV (txt us) va x.t := by
 unfold wv setV txt
 rw [List.map_map, List.length_map]
 refine List.map_congr_left fun j _ => ?_
 show Vt.t (if (j : Int) = va then x else us.getD j ⟨none, 0, []⟩) = if (j : Int) = va then x.t else (us.map Vt.t).getD j []
 split
 ·rfl
 ·rw [List.getD_eq_getElem?_getD, List.getD_eq_getElem?_getD, List.getElem?_map]
  cases us[j]? <;> rfl
theorem wv_mem {us : List Vt} {va : Int} {x : Vt} {i : Nat} (hi : i ≤ us.length) {v : Vt} (h : v ∈ wv us va x i) : v = x ∨ v ∈ us := by
 unfold wv at h
 obtain ⟨j, hj, rfl⟩ := List.mem_map.1 h
 have hj := List.mem_range.1 hj
 split
 ·exact .inl rfl
 ·refine .inr ?_
  rw [List.getD_eq_getElem?_getD, List.getElem?_eq_getElem (by omega)]
  exact List.getElem_mem _
structure Gw (w : World) (W : World) (A : Option Addr) (n c : Nat) (A1 : Option Addr) (nv c1 : Nat) (most s1 s2 s3 s4 : Int) (AL : Option Addr) (m cL : Nat) (to_ off : Int) (A' : Option Addr) (i c' : Nat) (ws : List Vt) : Prop where
 st : Cel W (w.heap.size + 1) 31 [.int .i64 s1, .int .i64 s2, .int .i64 s3, .int .i64 s4, .slice AL m cL]
 res : Cel W (w.heap.size + 1 + 1) 31 [.int .i64 0, .int .i64 0, .int .i64 0, .int .i64 0, .slice none 0 0]
 out : Cel W (w.heap.size + 1 + 1 + 1) 31 [.int .i64 to_, .int .i64 (s2 + 1), .int .i64 0, .int .i64 off, .slice A' i c']
 row : W.ownsRow w.heap.size 29 1 (.slice A' i c') i (ws.map Vt.cell)
 low : Below w.heap.size w W
theorem Gw.push {w W Wa w8 : World} {A A1 AL A' A8 : Option Addr} {n c nv c1 m cL i c' c8 : Nat} {most s1 s2 s3 s4 to_ off : Int} {ws : List Vt} (h : Gw w W A n c A1 nv c1 most s1 s2 s3 s4 AL m cL to_ off A' i c' ws) (x : Vt) (hba : Below W.heap.size W Wa) (hg : Wa.grownBy w8 (Value.slice A' i c').ownBlock)
  (ho : w8.ownsRow w.heap.size 29 1 (.slice A8 (i + 1) c8) (i + 1) ((ws ++ [x]).map Vt.cell)) :
  Cel w8 (w.heap.size + 1 + 1 + 1) 31 [.int .i64 to_, .int .i64 (s2 + 1), .int .i64 0, .int .i64 off, .slice A' i c'] ∧ Cel w8 (w.heap.size + 1) 31 [.int .i64 s1, .int .i64 s2, .int .i64 s3, .int .i64 s4, .slice AL m cL] ∧ Below w.heap.size w w8 ∧ Gw w (w8.setCell ⟨w.heap.size + 1 + 1 + 1, 4, none⟩ (.slice A8 (i + 1) c8)) A n c A1 nv c1 most s1 s2 s3 s4 AL m cL to_ off A8 (i + 1) c8 (ws ++ [x]) := by
 have hlw := h.low.size
 have hra : Wa.ownsRow w.heap.size 29 1 (.slice A' i c') i (ws.map Vt.cell) := own_frm (l := []) h.row (Frm.of_below hba) (by simp)
 have go : ∀ {g : Nat} {t : TypeId} {cs : List Value}, Cel W g t cs → 29 ≠ t → Cel w8 g t cs := fun hc hne => (hg.block _ ((hc.below hba hc.lt).lt) (fun q => own_ty_ne hra (hc.below hba hc.lt) hne q.symm)).trans (hc.below hba hc.lt)
 have k3 := go h.out (by decide)
 refine ⟨k3, go h.st (by decide), (h.low.trans (hba.mono hlw)).grown hg (Nat.le_trans hlw hba.size) (own_ge hra), ⟨(go h.st (by decide)).far (by simp <;> omega) _, (go h.res (by decide)).far (by simp <;> omega) _, k3.set 4 _, ?_, ?_⟩⟩
 ·exact own_frm (l := [w.heap.size + 1 + 1 + 1]) ho ((Frm.refl _ _).set (p := ⟨w.heap.size + 1 + 1 + 1, 4, none⟩) (by simp) _) (by intro g hgm; simp at hgm; subst hgm; exact own_ty_ne ho k3 (by decide))
 ·exact ((h.low.trans (hba.mono hlw)).grown hg (Nat.le_trans hlw hba.size) (own_ge hra)).setCell (p := ⟨w.heap.size + 1 + 1 + 1, 4, none⟩) (by simp; omega) _
theorem gw0 (w : World) (A : Option Addr) (n c : Nat) (A1 : Option Addr) (nv c1 : Nat) (most s1 s2 s3 s4 : Int) (AL : Option Addr) (m cL : Nat) (T off : Int) :
  Gw w ((((w.alloc (.cells #[.slice A n c, .slice A1 nv c1, .int .i64 most] 25)).alloc (.cells #[.int .i64 s1, .int .i64 s2, .int .i64 s3, .int .i64 s4, .slice AL m cL] 31)).alloc (.cells #[.int .i64 0, .int .i64 0, .int .i64 0, .int .i64 0, .slice none 0 0] 31)).alloc (.cells #[.int .i64 T, .int .i64 (s2 + 1), .int .i64 0, .int .i64 off, .slice none 0 0] 31))
   A n c A1 nv c1 most s1 s2 s3 s4 AL m cL T off none 0 0 [] := by
 refine ⟨?_, ?_, ?_, World.ownsRow_nil _ _ _ _, ((((Below.refl _ _).alloc (Nat.le_refl _) _).alloc (by simp) _).alloc (by simp; omega) _).alloc (by simp; omega) _⟩
 ·have := Cel.new (w.alloc (.cells #[.slice A n c, .slice A1 nv c1, .int .i64 most] 25)) 31 [.int .i64 s1, .int .i64 s2, .int .i64 s3, .int .i64 s4, .slice AL m cL]
  rw [World.size_alloc] at this
  exact (this.alloc _).alloc _
 ·have := Cel.new ((w.alloc (.cells #[.slice A n c, .slice A1 nv c1, .int .i64 most] 25)).alloc (.cells #[.int .i64 s1, .int .i64 s2, .int .i64 s3, .int .i64 s4, .slice AL m cL] 31)) 31 [.int .i64 0, .int .i64 0, .int .i64 0, .int .i64 0, .slice none 0 0]
  simp only [World.size_alloc] at this
  exact this.alloc _
 ·have := Cel.new (((w.alloc (.cells #[.slice A n c, .slice A1 nv c1, .int .i64 most] 25)).alloc (.cells #[.int .i64 s1, .int .i64 s2, .int .i64 s3, .int .i64 s4, .slice AL m cL] 31)).alloc (.cells #[.int .i64 0, .int .i64 0, .int .i64 0, .int .i64 0, .slice none 0 0] 31)) 31 [.int .i64 T, .int .i64 (s2 + 1), .int .i64 0, .int .i64 off, .slice none 0 0]
  simp only [World.size_alloc] at this
  exact this
theorem tvs_own {w W : World} {K KB n c : Nat} {A : Option Addr} {ws : List Vt} (hr : W.ownsRow KB 29 1 (.slice A n c) n (ws.map Vt.cell)) (hb : Below w.heap.size w W) (hK : K ≤ w.heap.size) (ht : ∀ v ∈ ws, Tx w K v.A v.t ∧ v.t.length ≤ maxLen) : Tvs W K A ws := by
 refine ⟨fun i v hi => ?_, fun v hv => ⟨(ht v hv).1.below hK hb, (ht v hv).2⟩⟩
 have hne : ws.map Vt.cell ≠ [] := fun q => by have := congrArg List.length q; have h2 := (List.getElem?_eq_some_iff.1 hi).1; simp at this; rw [this] at hi; simp at hi
 obtain ⟨ad, e, _, hc⟩ := Ry.of_own hr (by decide) hne
 exact ⟨ad, e, hc i _ (by rw [List.getElem?_map, hi]; rfl)⟩
theorem go_says {w W W' : World} {K nv m c' g : Nat} {vs : List Fs} {most s1 s2 s3 s4 to_ off va T' : Int} {us : List Vt} {AL A' : Option Addr} {x : Vt} (hul : us.length = m) (hu : Tvs w K AL us) (hx : Tx w K x.A x.t ∧ x.t.length ≤ maxLen) (hK : K ≤ w.heap.size) (hlow : Below w.heap.size w W)
  (hrow : W.ownsRow w.heap.size 29 1 (.slice A' m c') m ((wv us va x m).map Vt.cell)) (hf : Frm [g] W W') (hg : w.heap.size ≤ g) (hne : (Value.slice A' m c').ownBlock ≠ some g) (hT : T' = if 0 ≤ to_ ∧ s2 = most then -2 else to_) :
  Below w.heap.size w W' ∧ ∃ v, Ending.returned (.agg #[.int .i64 T', .int .i64 (s2 + 1), .int .i64 0, .int .i64 off, .slice A' m c']) = .returned v ∧ StSays W' K (goR (bok vs nv most) ⟨s1, s2, s3, s4, txt us⟩ to_ off va x.t) v := by
 have hb := hlow.trans (hf.below hlow.size (by intro q hq; simp at hq; omega))
 have hrow' := own_frm hrow hf (by intro q hq; simp at hq; subst hq; exact hne)
 refine ⟨hb, _, rfl, A', c', wv us va x m, ?_, tvs_own hrow' hb hK (fun v hv => ?_), trow_own hrow', ?_⟩
 ·rw [wv_len]
  show stval T' (s2 + 1) 0 off A' m c' = stval (if 0 ≤ to_ ∧ s2 = most then -2 else to_) (s2 + 1) 0 off A' m c'
  rw [hT]
 ·rcases wv_mem (by omega) hv with rfl | h
  ·exact hx
  ·exact hu.tx v h
 ·rw [← hul, wv_txt]
  rfl
theorem go16 (w : World) (K : Nat) (hK : K ≤ w.heap.size) (A : Option Addr) (n c : Nat) (vs : List Fs) (A1 : Option Addr) (nv c1 : Nat) (most : Int)
  (s1 s2 s3 s4 : Int) (hs2 : -100000000 ≤ s2 ∧ s2 ≤ 100000000) (AL : Option Addr) (m cL : Nat) (us : List Vt) (hu : Tvs w K AL us) (hul : us.length = m) (hum : m ≤ 100000) (to_ off va : Int) (x : Vt) (hx : Tx w K x.A x.t ∧ x.t.length ≤ maxLen) :
  Calls Try.prog 33 #[bval A n c A1 nv c1 most, stval s1 s2 s3 s4 AL m cL, .int .i64 to_, .int .i64 off, .int .i64 va, .slice x.A x.t.length x.c] w fun e w' => Below w.heap.size w w' ∧ ∃ v, e = .returned v ∧ StSays w' K (goR (bok vs nv most) ⟨s1, s2, s3, s4, txt us⟩ to_ off va x.t) v := by
 unfold bval stval
 obtain ⟨T', hT'⟩ : ∃ T' : Int, T' = if 0 ≤ to_ ∧ s2 = most then -2 else to_ := ⟨_, rfl⟩
 have HT := Lib.hid hT'
 have HU := Lib.hid hu
 have HUL := Lib.hid hul
 have HX := Lib.hid hx
 clear hu hul hx hT'
 by_cases hto : 0 ≤ to_
 ·by_cases hmo : s2 = most
  ·have z1 : (s2 == most) = true := by simpa using hmo
   have HT2 := Lib.hid (show T' = -2 by rw [HT.out, if_pos ⟨hto, hmo⟩])
   clear hmo
   go_enter Try.func33, Try.ntmps33
   go_wp2_with fail
   go_loopw [14] (fun v14 wr => ∃ (i : Nat) (A' : Option Addr) (c' : Nat), i ≤ m ∧ v14 = .int .i64 (i : Int) ∧ Hid (Gw w wr A n c A1 nv c1 most s1 s2 s3 s4 AL m cL (-2) off A' i c' (wv us va x i))) (fun v14 _ => m - (intOf v14).toNat)
   case atStart => exact ⟨0, none, 0, Nat.zero_le _, rfl, Lib.hid (gw0 _ _ _ _ _ _ _ _ _ _ _ _ _ _ _ _ _)⟩
   case round =>
    obtain ⟨i, A', c', hi, rfl, HG⟩ := hrel
    obtain ⟨W, rfl⟩ : ∃ W, W = wr := ⟨_, rfl⟩
    have hlw := HG.out.low.size
    have q4 := HG.out.st.cell 4
    have o4 := HG.out.out.cell 4
    have g4 := HG.out.out.free 4
    rcases Nat.lt_or_ge i m with hlt | hge
    ·have zi : decide ((i : Int) < (m : Int)) = true := by simp; omega
     by_cases hiv : (i : Int) = va
     ·have ziv : ((i : Int) == va) = true := by simpa using hiv
      have HWV := Lib.hid (show (wv us va x i).map Vt.cell ++ [.slice x.A x.t.length x.c] = (wv us va x i ++ [x]).map Vt.cell by rw [List.map_append]; rfl)
      have HWE := Lib.hid (show wv us va x i ++ [x] = wv us va x (i + 1) by rw [wv_succ, if_pos hiv])
      have HPU := Lib.hid (fun (Wa w8 : World) (A8 : Option Addr) (c8 : Nat) => HG.out.push (Wa := Wa) (w8 := w8) (A8 := A8) (c8 := c8) x)
      obtain ⟨Wa, hWa⟩ : ∃ Wa, Wa = W.alloc (.cells #[.slice x.A x.t.length x.c] 29) := ⟨_, rfl⟩
      have hba : Below W.heap.size W Wa := by rw [hWa]; exact (Below.refl _ _).alloc (Nat.le_refl _) _
      have HBA := Lib.hid hba
      have HRA := Lib.hid (show Wa.ownsRow w.heap.size 29 1 (.slice A' i c') i ((wv us va x i).map Vt.cell) from own_frm (l := []) HG.out.row (Frm.of_below hba) (by simp))
      have HSRC := Lib.hid (show Src Wa (some ⟨W.heap.size, 0, none⟩) 1 [.slice x.A x.t.length x.c] by rw [hWa]; exact Ry.src (m := 1) (Ry.of_cel (Cel.new W 29 [.slice x.A x.t.length x.c])) (by simp))
      have hba1 := hba.size
      generalize x.t.length = xl at *
      clear hba hiv
      go_wp2_with ((rw [← hWa]; clear hWa; at_builtin; refine wpList_append_any _ rfl _ _ 26 rfl w.heap.size 29 rowsW (.slice A' i c') i _ rfl HRA.out (some ⟨W.heap.size, 0, none⟩) 1 1 [.slice x.A xl x.c] rfl rfl HSRC.out (by intro q hq; rw [List.mem_singleton.1 hq]; rfl) (i + 1) _ rfl rfl (by unfold maxLen; omega) (by omega) (by omega) ?_; intro A8 c8 w8 ho8 hg8 _; rw [HWV.out] at ho8; obtain ⟨h81, _, _, h82⟩ := HPU.out _ _ _ _ HBA.out hg8 ho8; have k8 := h81.cell 4; have f8 := h81.free 4; have H82 := Lib.hid h82; clear h81 h82 ho8 hg8))
      exact ⟨⟨i + 1, A8, c8, by omega, by rw [show ((i + 1 : Nat) : Int) = (i : Int) + 1 by omega], Lib.hid (by rw [← HWE.out]; exact H82.out)⟩, by simp [intOf]; omega⟩
     ·have ziv : ((i : Int) == va) = false := by simpa using hiv
      obtain ⟨u, hu⟩ : ∃ u, us[i]? = some u := ⟨_, List.getElem?_eq_getElem (by rw [HUL.out]; exact hlt)⟩
      obtain ⟨ad, rfl, a0⟩ := HU.out.cr i u hu
      change _ = some (Value.slice u.A u.t.length u.c) at a0
      have hcl := cell_lt a0
      have HWV := Lib.hid (show (wv us va x i).map Vt.cell ++ [.slice u.A u.t.length u.c] = (wv us va x i ++ [u]).map Vt.cell by rw [List.map_append]; rfl)
      have HWE := Lib.hid (show wv us va x i ++ [u] = wv us va x (i + 1) by rw [wv_succ, if_neg hiv, List.getD_eq_getElem?_getD, hu]; rfl)
      have HPU := Lib.hid (fun (Wa w8 : World) (A8 : Option Addr) (c8 : Nat) => HG.out.push (Wa := Wa) (w8 := w8) (A8 := A8) (c8 := c8) u)
      have hba : Below W.heap.size W (W.drew.alloc (.cells #[.slice u.A u.t.length u.c] 29)) := (Below.refl _ _).drew.alloc (Nat.le_refl _) _
      have HBA := Lib.hid hba
      have HRA := Lib.hid (show (W.drew.alloc (.cells #[.slice u.A u.t.length u.c] 29)).ownsRow w.heap.size 29 1 (.slice A' i c') i ((wv us va x i).map Vt.cell) from own_frm (l := []) HG.out.row (Frm.of_below hba) (by simp))
      have HSRC := Lib.hid (show Src (W.drew.alloc (.cells #[.slice u.A u.t.length u.c] 29)) (some ⟨W.drew.heap.size, 0, none⟩) 1 [.slice u.A u.t.length u.c] from Ry.src (m := 1) (Ry.of_cel (Cel.new W.drew 29 [.slice u.A u.t.length u.c])) (by simp))
      have HA0 := Lib.hid (fun (V : World) (hV : Below w.heap.size w V) => (hV.cell hcl).trans a0)
      have a1 := HA0.out W HG.out.low
      have a2 := HA0.out _ (HG.out.low.trans (hba.mono hlw))
      have o5 := (hba.cell (p := ⟨w.heap.size + 1 + 1 + 1, 4, none⟩) HG.out.out.lt).trans o4
      have q5 := (hba.cell (p := ⟨w.heap.size + 1, 4, none⟩) HG.out.st.lt).trans q4
      obtain ⟨ul, hul⟩ : ∃ ul, ul = u.t.length := ⟨_, rfl⟩
      rw [← hul] at HWV HBA HRA HSRC HA0 a1 a2 o5 q5
      clear hba a0 hu hiv hul
      go_wp2_with fail
      refine wp_region_N [10] (fun V => V.cell? ⟨w.heap.size + 1 + 1 + 1, 4, none⟩ = some (.slice A' i c') ∧ V.cell? ⟨w.heap.size + 1, 4, none⟩ = some (.slice (some ad) m cL) ∧ V.cell? (ad.add i) = some (.slice u.A ul u.c)) (by kernel_rfl) ?_
      have hH : W.drew.cell? ⟨w.heap.size + 1 + 1 + 1, 4, none⟩ = some (.slice A' i c') ∧ W.drew.cell? ⟨w.heap.size + 1, 4, none⟩ = some (.slice (some ad) m cL) ∧ W.drew.cell? (ad.add i) = some (.slice u.A ul u.c) := ⟨o4, q4, a1⟩
      have HS1 := Lib.hid (show (W.drew.alloc (.cells #[.slice u.A ul u.c] 29)).cell? ⟨w.heap.size + 1 + 1 + 1, 4, none⟩ = some (.slice A' i c') ∧ (W.drew.alloc (.cells #[.slice u.A ul u.c] 29)).cell? ⟨w.heap.size + 1, 4, none⟩ = some (.slice (some ad) m cL) ∧ (W.drew.alloc (.cells #[.slice u.A ul u.c] 29)).cell? (ad.add i) = some (.slice u.A ul u.c) from ⟨o5, q5, a2⟩)
      clear o5 q5 a2 a1
      refine tk_ 0 (.pointer (some ⟨w.heap.size + 1 + 1 + 1, 4, none⟩)) [10] rfl hH ?_ ?_
      ·intro V hV; go_simp
      try simp only [Act.put, lay_]
      refine tk_ 1 (.slice A' i c') [10] rfl hH ?_ ?_
      ·intro V hV; obtain ⟨y1, y2, y3⟩ := hV; go_simp
      try simp only [Act.put, lay_]
      refine tk_ 2 (.pointer (some ⟨w.heap.size + 1, 4, none⟩)) [10] rfl hH ?_ ?_
      ·intro V hV; go_simp
      try simp only [Act.put, lay_]
      refine tk_ 3 (.slice (some ad) m cL) [10] rfl hH ?_ ?_
      ·intro V hV; obtain ⟨y1, y2, y3⟩ := hV; go_simp
      try simp only [Act.put, lay_]
      refine tk_ 4 (.int .i64 (i : Int)) [10] rfl hH ?_ ?_
      ·intro V hV; go_simp
      try simp only [Act.put, lay_]
      refine tk_ 5 (.pointer (some (ad.add i))) [10] rfl hH ?_ ?_
      ·intro V hV; go_simp
      try simp only [Act.put, lay_]
      refine tk_ 6 (.slice u.A ul u.c) [10] rfl hH ?_ ?_
      ·intro V hV; obtain ⟨y1, y2, y3⟩ := hV; go_simp
      try simp only [Act.put, lay_]
      refine wpAnyN_one (i := 7) (by kernel_rfl) rfl (fun K hK => ?_)
      go_simp
      refine hK.out _ _ (.inr HS1.out) ?_
      clear hK K
      try simp only [Act.put, lay_]
      refine wpAnyN_one (i := 8) (by kernel_rfl) rfl (fun K hK => ?_)
      rw [if_pos (by rfl)]
      refine wp_append_any _ _ _ 26 rfl w.heap.size 29 rowsW (.slice A' i c') i _ rfl HRA.out (some ⟨W.drew.heap.size, 0, none⟩) 1 1 [.slice u.A ul u.c] rfl rfl HSRC.out (by intro q hq; rw [List.mem_singleton.1 hq]; rfl) (i + 1) _ rfl rfl (by unfold maxLen; omega) (by omega) (by simp; omega) ?_
      intro A8 c8 w8 ho8 hg8 _
      rw [HWV.out] at ho8
      obtain ⟨h81, h83, h84, h82⟩ := HPU.out _ _ _ _ HBA.out hg8 ho8
      have k8 := h81.cell 4
      have f8 := h81.free 4
      have H82 := Lib.hid h82
      have hS8 : w8.cell? ⟨w.heap.size + 1 + 1 + 1, 4, none⟩ = some (.slice A' i c') ∧ w8.cell? ⟨w.heap.size + 1, 4, none⟩ = some (.slice (some ad) m cL) ∧ w8.cell? (ad.add i) = some (.slice u.A ul u.c) := ⟨k8, h83.cell 4, HA0.out w8 h84⟩
      refine hK.out _ _ (.inr hS8) ?_
      clear hK K ho8 hg8 h81 h82 h83 h84
      try simp only [Act.put, lay_]
      refine wpAnyN_one (i := 9) (by kernel_rfl) rfl (fun K hK => ?_)
      go_simp
      refine hK.out _ _ (.inr hS8) ?_
      clear hK K
      try simp only [Act.put, lay_]
      refine wpAnyN_one (i := 10) (by kernel_rfl) rfl (fun K hK => ?_)
      go_simp
      refine hK.out _ _ (.inl (by decide)) ?_
      clear hK K
      try simp only [Act.put, lay_]
      refine wpAnyN_done (by kernel_rfl) ?_ _
      clear hS8 k8 f8
      go_wp2_with fail
      exact ⟨⟨i + 1, A8, c8, by omega, by rw [show ((i + 1 : Nat) : Int) = (i : Int) + 1 by omega], Lib.hid (by rw [← HWE.out]; exact H82.out)⟩, by simp [intOf]; omega⟩
    ·have zi : decide ((i : Int) < (m : Int)) = false := by simp; omega
     obtain rfl : i = m := by omega
     have p0 := HG.out.out.cell 0
     have p1 := HG.out.out.cell 1
     have p2 := HG.out.out.cell 2
     have p3 := HG.out.out.cell 3
     have r0 := HG.out.res.cell 0
     have r1 := HG.out.res.cell 1
     have r2 := HG.out.res.cell 2
     have r3 := HG.out.res.cell 3
     have r4 := HG.out.res.cell 4
     have l0 := HG.out.res.free 0
     have l1 := HG.out.res.free 1
     have l2 := HG.out.res.free 2
     have l3 := HG.out.res.free 3
     have l4 := HG.out.res.free 4
     have HCF := Lib.hid (((((HG.out.res.set 0 (.int .i64 (-2))).set 1 (.int .i64 (s2 + 1))).set 2 (.int .i64 0)).set 3 (.int .i64 off)).set 4 (.slice A' i c'))
     have HFR := Lib.hid ((((((Frm.refl [w.heap.size + 1 + 1] W).set (p := ⟨w.heap.size + 1 + 1, 0, none⟩) (by simp) (.int .i64 (-2))).set (p := ⟨w.heap.size + 1 + 1, 1, none⟩) (by simp) (.int .i64 (s2 + 1))).set (p := ⟨w.heap.size + 1 + 1, 2, none⟩) (by simp) (.int .i64 0)).set (p := ⟨w.heap.size + 1 + 1, 3, none⟩) (by simp) (.int .i64 off)).set (p := ⟨w.heap.size + 1 + 1, 4, none⟩) (by simp) (.slice A' i c'))
     go_wp2_with fail
     refine bodyPost_ret (v := .agg #[.int .i64 (-2), .int .i64 (s2 + 1), .int .i64 0, .int .i64 off, .slice A' i c']) (Rec.results_cell_ 12 31 Try.results33 ⟨w.heap.size + 1 + 1, 0, none⟩ rfl _ (load_st HCF.out)) rfl ?_
     exact go_says HUL.out HU.out HX.out hK HG.out.low HG.out.row HFR.out (by omega) (own_ty_ne HG.out.row HG.out.res (by decide)) (HT2.out.symm.trans HT.out)
  ·have z1 : (s2 == most) = false := by simpa using hmo
   have HT2 := Lib.hid (show T' = to_ by rw [HT.out, if_neg (fun h => hmo h.2)])
   clear hmo
   go_enter Try.func33, Try.ntmps33
   go_wp2_with fail
   go_loopw [14] (fun v14 wr => ∃ (i : Nat) (A' : Option Addr) (c' : Nat), i ≤ m ∧ v14 = .int .i64 (i : Int) ∧ Hid (Gw w wr A n c A1 nv c1 most s1 s2 s3 s4 AL m cL to_ off A' i c' (wv us va x i))) (fun v14 _ => m - (intOf v14).toNat)
   case atStart => exact ⟨0, none, 0, Nat.zero_le _, rfl, Lib.hid (gw0 _ _ _ _ _ _ _ _ _ _ _ _ _ _ _ _ _)⟩
   case round =>
    obtain ⟨i, A', c', hi, rfl, HG⟩ := hrel
    obtain ⟨W, rfl⟩ : ∃ W, W = wr := ⟨_, rfl⟩
    have hlw := HG.out.low.size
    have q4 := HG.out.st.cell 4
    have o4 := HG.out.out.cell 4
    have g4 := HG.out.out.free 4
    rcases Nat.lt_or_ge i m with hlt | hge
    ·have zi : decide ((i : Int) < (m : Int)) = true := by simp; omega
     by_cases hiv : (i : Int) = va
     ·have ziv : ((i : Int) == va) = true := by simpa using hiv
      have HWV := Lib.hid (show (wv us va x i).map Vt.cell ++ [.slice x.A x.t.length x.c] = (wv us va x i ++ [x]).map Vt.cell by rw [List.map_append]; rfl)
      have HWE := Lib.hid (show wv us va x i ++ [x] = wv us va x (i + 1) by rw [wv_succ, if_pos hiv])
      have HPU := Lib.hid (fun (Wa w8 : World) (A8 : Option Addr) (c8 : Nat) => HG.out.push (Wa := Wa) (w8 := w8) (A8 := A8) (c8 := c8) x)
      obtain ⟨Wa, hWa⟩ : ∃ Wa, Wa = W.alloc (.cells #[.slice x.A x.t.length x.c] 29) := ⟨_, rfl⟩
      have hba : Below W.heap.size W Wa := by rw [hWa]; exact (Below.refl _ _).alloc (Nat.le_refl _) _
      have HBA := Lib.hid hba
      have HRA := Lib.hid (show Wa.ownsRow w.heap.size 29 1 (.slice A' i c') i ((wv us va x i).map Vt.cell) from own_frm (l := []) HG.out.row (Frm.of_below hba) (by simp))
      have HSRC := Lib.hid (show Src Wa (some ⟨W.heap.size, 0, none⟩) 1 [.slice x.A x.t.length x.c] by rw [hWa]; exact Ry.src (m := 1) (Ry.of_cel (Cel.new W 29 [.slice x.A x.t.length x.c])) (by simp))
      have hba1 := hba.size
      generalize x.t.length = xl at *
      clear hba hiv
      go_wp2_with ((rw [← hWa]; clear hWa; at_builtin; refine wpList_append_any _ rfl _ _ 26 rfl w.heap.size 29 rowsW (.slice A' i c') i _ rfl HRA.out (some ⟨W.heap.size, 0, none⟩) 1 1 [.slice x.A xl x.c] rfl rfl HSRC.out (by intro q hq; rw [List.mem_singleton.1 hq]; rfl) (i + 1) _ rfl rfl (by unfold maxLen; omega) (by omega) (by omega) ?_; intro A8 c8 w8 ho8 hg8 _; rw [HWV.out] at ho8; obtain ⟨h81, _, _, h82⟩ := HPU.out _ _ _ _ HBA.out hg8 ho8; have k8 := h81.cell 4; have f8 := h81.free 4; have H82 := Lib.hid h82; clear h81 h82 ho8 hg8))
      exact ⟨⟨i + 1, A8, c8, by omega, by rw [show ((i + 1 : Nat) : Int) = (i : Int) + 1 by omega], Lib.hid (by rw [← HWE.out]; exact H82.out)⟩, by simp [intOf]; omega⟩
     ·have ziv : ((i : Int) == va) = false := by simpa using hiv
      obtain ⟨u, hu⟩ : ∃ u, us[i]? = some u := ⟨_, List.getElem?_eq_getElem (by rw [HUL.out]; exact hlt)⟩
      obtain ⟨ad, rfl, a0⟩ := HU.out.cr i u hu
      change _ = some (Value.slice u.A u.t.length u.c) at a0
      have hcl := cell_lt a0
      have HWV := Lib.hid (show (wv us va x i).map Vt.cell ++ [.slice u.A u.t.length u.c] = (wv us va x i ++ [u]).map Vt.cell by rw [List.map_append]; rfl)
      have HWE := Lib.hid (show wv us va x i ++ [u] = wv us va x (i + 1) by rw [wv_succ, if_neg hiv, List.getD_eq_getElem?_getD, hu]; rfl)
      have HPU := Lib.hid (fun (Wa w8 : World) (A8 : Option Addr) (c8 : Nat) => HG.out.push (Wa := Wa) (w8 := w8) (A8 := A8) (c8 := c8) u)
      have hba : Below W.heap.size W (W.drew.alloc (.cells #[.slice u.A u.t.length u.c] 29)) := (Below.refl _ _).drew.alloc (Nat.le_refl _) _
      have HBA := Lib.hid hba
      have HRA := Lib.hid (show (W.drew.alloc (.cells #[.slice u.A u.t.length u.c] 29)).ownsRow w.heap.size 29 1 (.slice A' i c') i ((wv us va x i).map Vt.cell) from own_frm (l := []) HG.out.row (Frm.of_below hba) (by simp))
      have HSRC := Lib.hid (show Src (W.drew.alloc (.cells #[.slice u.A u.t.length u.c] 29)) (some ⟨W.drew.heap.size, 0, none⟩) 1 [.slice u.A u.t.length u.c] from Ry.src (m := 1) (Ry.of_cel (Cel.new W.drew 29 [.slice u.A u.t.length u.c])) (by simp))
      have HA0 := Lib.hid (fun (V : World) (hV : Below w.heap.size w V) => (hV.cell hcl).trans a0)
      have a1 := HA0.out W HG.out.low
      have a2 := HA0.out _ (HG.out.low.trans (hba.mono hlw))
      have o5 := (hba.cell (p := ⟨w.heap.size + 1 + 1 + 1, 4, none⟩) HG.out.out.lt).trans o4
      have q5 := (hba.cell (p := ⟨w.heap.size + 1, 4, none⟩) HG.out.st.lt).trans q4
      obtain ⟨ul, hul⟩ : ∃ ul, ul = u.t.length := ⟨_, rfl⟩
      rw [← hul] at HWV HBA HRA HSRC HA0 a1 a2 o5 q5
      clear hba a0 hu hiv hul
      go_wp2_with fail
      refine wp_region_N [10] (fun V => V.cell? ⟨w.heap.size + 1 + 1 + 1, 4, none⟩ = some (.slice A' i c') ∧ V.cell? ⟨w.heap.size + 1, 4, none⟩ = some (.slice (some ad) m cL) ∧ V.cell? (ad.add i) = some (.slice u.A ul u.c)) (by kernel_rfl) ?_
      have hH : W.drew.cell? ⟨w.heap.size + 1 + 1 + 1, 4, none⟩ = some (.slice A' i c') ∧ W.drew.cell? ⟨w.heap.size + 1, 4, none⟩ = some (.slice (some ad) m cL) ∧ W.drew.cell? (ad.add i) = some (.slice u.A ul u.c) := ⟨o4, q4, a1⟩
      have HS1 := Lib.hid (show (W.drew.alloc (.cells #[.slice u.A ul u.c] 29)).cell? ⟨w.heap.size + 1 + 1 + 1, 4, none⟩ = some (.slice A' i c') ∧ (W.drew.alloc (.cells #[.slice u.A ul u.c] 29)).cell? ⟨w.heap.size + 1, 4, none⟩ = some (.slice (some ad) m cL) ∧ (W.drew.alloc (.cells #[.slice u.A ul u.c] 29)).cell? (ad.add i) = some (.slice u.A ul u.c) from ⟨o5, q5, a2⟩)
      clear o5 q5 a2 a1
      refine tk_ 0 (.pointer (some ⟨w.heap.size + 1 + 1 + 1, 4, none⟩)) [10] rfl hH ?_ ?_
      ·intro V hV; go_simp
      try simp only [Act.put, lay_]
      refine tk_ 1 (.slice A' i c') [10] rfl hH ?_ ?_
      ·intro V hV; obtain ⟨y1, y2, y3⟩ := hV; go_simp
      try simp only [Act.put, lay_]
      refine tk_ 2 (.pointer (some ⟨w.heap.size + 1, 4, none⟩)) [10] rfl hH ?_ ?_
      ·intro V hV; go_simp
      try simp only [Act.put, lay_]
      refine tk_ 3 (.slice (some ad) m cL) [10] rfl hH ?_ ?_
      ·intro V hV; obtain ⟨y1, y2, y3⟩ := hV; go_simp
      try simp only [Act.put, lay_]
      refine tk_ 4 (.int .i64 (i : Int)) [10] rfl hH ?_ ?_
      ·intro V hV; go_simp
      try simp only [Act.put, lay_]
      refine tk_ 5 (.pointer (some (ad.add i))) [10] rfl hH ?_ ?_
      ·intro V hV; go_simp
      try simp only [Act.put, lay_]
      refine tk_ 6 (.slice u.A ul u.c) [10] rfl hH ?_ ?_
      ·intro V hV; obtain ⟨y1, y2, y3⟩ := hV; go_simp
      try simp only [Act.put, lay_]
      refine wpAnyN_one (i := 7) (by kernel_rfl) rfl (fun K hK => ?_)
      go_simp
      refine hK.out _ _ (.inr HS1.out) ?_
      clear hK K
      try simp only [Act.put, lay_]
      refine wpAnyN_one (i := 8) (by kernel_rfl) rfl (fun K hK => ?_)
      rw [if_pos (by rfl)]
      refine wp_append_any _ _ _ 26 rfl w.heap.size 29 rowsW (.slice A' i c') i _ rfl HRA.out (some ⟨W.drew.heap.size, 0, none⟩) 1 1 [.slice u.A ul u.c] rfl rfl HSRC.out (by intro q hq; rw [List.mem_singleton.1 hq]; rfl) (i + 1) _ rfl rfl (by unfold maxLen; omega) (by omega) (by simp; omega) ?_
      intro A8 c8 w8 ho8 hg8 _
      rw [HWV.out] at ho8
      obtain ⟨h81, h83, h84, h82⟩ := HPU.out _ _ _ _ HBA.out hg8 ho8
      have k8 := h81.cell 4
      have f8 := h81.free 4
      have H82 := Lib.hid h82
      have hS8 : w8.cell? ⟨w.heap.size + 1 + 1 + 1, 4, none⟩ = some (.slice A' i c') ∧ w8.cell? ⟨w.heap.size + 1, 4, none⟩ = some (.slice (some ad) m cL) ∧ w8.cell? (ad.add i) = some (.slice u.A ul u.c) := ⟨k8, h83.cell 4, HA0.out w8 h84⟩
      refine hK.out _ _ (.inr hS8) ?_
      clear hK K ho8 hg8 h81 h82 h83 h84
      try simp only [Act.put, lay_]
      refine wpAnyN_one (i := 9) (by kernel_rfl) rfl (fun K hK => ?_)
      go_simp
      refine hK.out _ _ (.inr hS8) ?_
      clear hK K
      try simp only [Act.put, lay_]
      refine wpAnyN_one (i := 10) (by kernel_rfl) rfl (fun K hK => ?_)
      go_simp
      refine hK.out _ _ (.inl (by decide)) ?_
      clear hK K
      try simp only [Act.put, lay_]
      refine wpAnyN_done (by kernel_rfl) ?_ _
      clear hS8 k8 f8
      go_wp2_with fail
      exact ⟨⟨i + 1, A8, c8, by omega, by rw [show ((i + 1 : Nat) : Int) = (i : Int) + 1 by omega], Lib.hid (by rw [← HWE.out]; exact H82.out)⟩, by simp [intOf]; omega⟩
    ·have zi : decide ((i : Int) < (m : Int)) = false := by simp; omega
     obtain rfl : i = m := by omega
     have p0 := HG.out.out.cell 0
     have p1 := HG.out.out.cell 1
     have p2 := HG.out.out.cell 2
     have p3 := HG.out.out.cell 3
     have r0 := HG.out.res.cell 0
     have r1 := HG.out.res.cell 1
     have r2 := HG.out.res.cell 2
     have r3 := HG.out.res.cell 3
     have r4 := HG.out.res.cell 4
     have l0 := HG.out.res.free 0
     have l1 := HG.out.res.free 1
     have l2 := HG.out.res.free 2
     have l3 := HG.out.res.free 3
     have l4 := HG.out.res.free 4
     have HCF := Lib.hid (((((HG.out.res.set 0 (.int .i64 to_)).set 1 (.int .i64 (s2 + 1))).set 2 (.int .i64 0)).set 3 (.int .i64 off)).set 4 (.slice A' i c'))
     have HFR := Lib.hid ((((((Frm.refl [w.heap.size + 1 + 1] W).set (p := ⟨w.heap.size + 1 + 1, 0, none⟩) (by simp) (.int .i64 to_)).set (p := ⟨w.heap.size + 1 + 1, 1, none⟩) (by simp) (.int .i64 (s2 + 1))).set (p := ⟨w.heap.size + 1 + 1, 2, none⟩) (by simp) (.int .i64 0)).set (p := ⟨w.heap.size + 1 + 1, 3, none⟩) (by simp) (.int .i64 off)).set (p := ⟨w.heap.size + 1 + 1, 4, none⟩) (by simp) (.slice A' i c'))
     go_wp2_with fail
     refine bodyPost_ret (v := .agg #[.int .i64 to_, .int .i64 (s2 + 1), .int .i64 0, .int .i64 off, .slice A' i c']) (Rec.results_cell_ 12 31 Try.results33 ⟨w.heap.size + 1 + 1, 0, none⟩ rfl _ (load_st HCF.out)) rfl ?_
     exact go_says HUL.out HU.out HX.out hK HG.out.low HG.out.row HFR.out (by omega) (own_ty_ne HG.out.row HG.out.res (by decide)) (HT2.out.symm.trans HT.out)
 ·have HT2 := Lib.hid (show T' = to_ by rw [HT.out, if_neg (fun h => hto h.1)])
  go_enter Try.func33, Try.ntmps33
  go_wp2_with fail
  go_loopw [14] (fun v14 wr => ∃ (i : Nat) (A' : Option Addr) (c' : Nat), i ≤ m ∧ v14 = .int .i64 (i : Int) ∧ Hid (Gw w wr A n c A1 nv c1 most s1 s2 s3 s4 AL m cL to_ off A' i c' (wv us va x i))) (fun v14 _ => m - (intOf v14).toNat)
  case atStart => exact ⟨0, none, 0, Nat.zero_le _, rfl, Lib.hid (gw0 _ _ _ _ _ _ _ _ _ _ _ _ _ _ _ _ _)⟩
  case round =>
   obtain ⟨i, A', c', hi, rfl, HG⟩ := hrel
   obtain ⟨W, rfl⟩ : ∃ W, W = wr := ⟨_, rfl⟩
   have hlw := HG.out.low.size
   have q4 := HG.out.st.cell 4
   have o4 := HG.out.out.cell 4
   have g4 := HG.out.out.free 4
   rcases Nat.lt_or_ge i m with hlt | hge
   ·have zi : decide ((i : Int) < (m : Int)) = true := by simp; omega
    by_cases hiv : (i : Int) = va
    ·have ziv : ((i : Int) == va) = true := by simpa using hiv
     have HWV := Lib.hid (show (wv us va x i).map Vt.cell ++ [.slice x.A x.t.length x.c] = (wv us va x i ++ [x]).map Vt.cell by rw [List.map_append]; rfl)
     have HWE := Lib.hid (show wv us va x i ++ [x] = wv us va x (i + 1) by rw [wv_succ, if_pos hiv])
     have HPU := Lib.hid (fun (Wa w8 : World) (A8 : Option Addr) (c8 : Nat) => HG.out.push (Wa := Wa) (w8 := w8) (A8 := A8) (c8 := c8) x)
     obtain ⟨Wa, hWa⟩ : ∃ Wa, Wa = W.alloc (.cells #[.slice x.A x.t.length x.c] 29) := ⟨_, rfl⟩
     have hba : Below W.heap.size W Wa := by rw [hWa]; exact (Below.refl _ _).alloc (Nat.le_refl _) _
     have HBA := Lib.hid hba
     have HRA := Lib.hid (show Wa.ownsRow w.heap.size 29 1 (.slice A' i c') i ((wv us va x i).map Vt.cell) from own_frm (l := []) HG.out.row (Frm.of_below hba) (by simp))
     have HSRC := Lib.hid (show Src Wa (some ⟨W.heap.size, 0, none⟩) 1 [.slice x.A x.t.length x.c] by rw [hWa]; exact Ry.src (m := 1) (Ry.of_cel (Cel.new W 29 [.slice x.A x.t.length x.c])) (by simp))
     have hba1 := hba.size
     generalize x.t.length = xl at *
     clear hba hiv
     go_wp2_with ((rw [← hWa]; clear hWa; at_builtin; refine wpList_append_any _ rfl _ _ 26 rfl w.heap.size 29 rowsW (.slice A' i c') i _ rfl HRA.out (some ⟨W.heap.size, 0, none⟩) 1 1 [.slice x.A xl x.c] rfl rfl HSRC.out (by intro q hq; rw [List.mem_singleton.1 hq]; rfl) (i + 1) _ rfl rfl (by unfold maxLen; omega) (by omega) (by omega) ?_; intro A8 c8 w8 ho8 hg8 _; rw [HWV.out] at ho8; obtain ⟨h81, _, _, h82⟩ := HPU.out _ _ _ _ HBA.out hg8 ho8; have k8 := h81.cell 4; have f8 := h81.free 4; have H82 := Lib.hid h82; clear h81 h82 ho8 hg8))
     exact ⟨⟨i + 1, A8, c8, by omega, by rw [show ((i + 1 : Nat) : Int) = (i : Int) + 1 by omega], Lib.hid (by rw [← HWE.out]; exact H82.out)⟩, by simp [intOf]; omega⟩
    ·have ziv : ((i : Int) == va) = false := by simpa using hiv
     obtain ⟨u, hu⟩ : ∃ u, us[i]? = some u := ⟨_, List.getElem?_eq_getElem (by rw [HUL.out]; exact hlt)⟩
     obtain ⟨ad, rfl, a0⟩ := HU.out.cr i u hu
     change _ = some (Value.slice u.A u.t.length u.c) at a0
     have hcl := cell_lt a0
     have HWV := Lib.hid (show (wv us va x i).map Vt.cell ++ [.slice u.A u.t.length u.c] = (wv us va x i ++ [u]).map Vt.cell by rw [List.map_append]; rfl)
     have HWE := Lib.hid (show wv us va x i ++ [u] = wv us va x (i + 1) by rw [wv_succ, if_neg hiv, List.getD_eq_getElem?_getD, hu]; rfl)
     have HPU := Lib.hid (fun (Wa w8 : World) (A8 : Option Addr) (c8 : Nat) => HG.out.push (Wa := Wa) (w8 := w8) (A8 := A8) (c8 := c8) u)
     have hba : Below W.heap.size W (W.drew.alloc (.cells #[.slice u.A u.t.length u.c] 29)) := (Below.refl _ _).drew.alloc (Nat.le_refl _) _
     have HBA := Lib.hid hba
     have HRA := Lib.hid (show (W.drew.alloc (.cells #[.slice u.A u.t.length u.c] 29)).ownsRow w.heap.size 29 1 (.slice A' i c') i ((wv us va x i).map Vt.cell) from own_frm (l := []) HG.out.row (Frm.of_below hba) (by simp))
     have HSRC := Lib.hid (show Src (W.drew.alloc (.cells #[.slice u.A u.t.length u.c] 29)) (some ⟨W.drew.heap.size, 0, none⟩) 1 [.slice u.A u.t.length u.c] from Ry.src (m := 1) (Ry.of_cel (Cel.new W.drew 29 [.slice u.A u.t.length u.c])) (by simp))
     have HA0 := Lib.hid (fun (V : World) (hV : Below w.heap.size w V) => (hV.cell hcl).trans a0)
     have a1 := HA0.out W HG.out.low
     have a2 := HA0.out _ (HG.out.low.trans (hba.mono hlw))
     have o5 := (hba.cell (p := ⟨w.heap.size + 1 + 1 + 1, 4, none⟩) HG.out.out.lt).trans o4
     have q5 := (hba.cell (p := ⟨w.heap.size + 1, 4, none⟩) HG.out.st.lt).trans q4
     obtain ⟨ul, hul⟩ : ∃ ul, ul = u.t.length := ⟨_, rfl⟩
     rw [← hul] at HWV HBA HRA HSRC HA0 a1 a2 o5 q5
     clear hba a0 hu hiv hul
     go_wp2_with fail
     refine wp_region_N [10] (fun V => V.cell? ⟨w.heap.size + 1 + 1 + 1, 4, none⟩ = some (.slice A' i c') ∧ V.cell? ⟨w.heap.size + 1, 4, none⟩ = some (.slice (some ad) m cL) ∧ V.cell? (ad.add i) = some (.slice u.A ul u.c)) (by kernel_rfl) ?_
     have hH : W.drew.cell? ⟨w.heap.size + 1 + 1 + 1, 4, none⟩ = some (.slice A' i c') ∧ W.drew.cell? ⟨w.heap.size + 1, 4, none⟩ = some (.slice (some ad) m cL) ∧ W.drew.cell? (ad.add i) = some (.slice u.A ul u.c) := ⟨o4, q4, a1⟩
     have HS1 := Lib.hid (show (W.drew.alloc (.cells #[.slice u.A ul u.c] 29)).cell? ⟨w.heap.size + 1 + 1 + 1, 4, none⟩ = some (.slice A' i c') ∧ (W.drew.alloc (.cells #[.slice u.A ul u.c] 29)).cell? ⟨w.heap.size + 1, 4, none⟩ = some (.slice (some ad) m cL) ∧ (W.drew.alloc (.cells #[.slice u.A ul u.c] 29)).cell? (ad.add i) = some (.slice u.A ul u.c) from ⟨o5, q5, a2⟩)
     clear o5 q5 a2 a1
     refine tk_ 0 (.pointer (some ⟨w.heap.size + 1 + 1 + 1, 4, none⟩)) [10] rfl hH ?_ ?_
     ·intro V hV; go_simp
     try simp only [Act.put, lay_]
     refine tk_ 1 (.slice A' i c') [10] rfl hH ?_ ?_
     ·intro V hV; obtain ⟨y1, y2, y3⟩ := hV; go_simp
     try simp only [Act.put, lay_]
     refine tk_ 2 (.pointer (some ⟨w.heap.size + 1, 4, none⟩)) [10] rfl hH ?_ ?_
     ·intro V hV; go_simp
     try simp only [Act.put, lay_]
     refine tk_ 3 (.slice (some ad) m cL) [10] rfl hH ?_ ?_
     ·intro V hV; obtain ⟨y1, y2, y3⟩ := hV; go_simp
     try simp only [Act.put, lay_]
     refine tk_ 4 (.int .i64 (i : Int)) [10] rfl hH ?_ ?_
     ·intro V hV; go_simp
     try simp only [Act.put, lay_]
     refine tk_ 5 (.pointer (some (ad.add i))) [10] rfl hH ?_ ?_
     ·intro V hV; go_simp
     try simp only [Act.put, lay_]
     refine tk_ 6 (.slice u.A ul u.c) [10] rfl hH ?_ ?_
     ·intro V hV; obtain ⟨y1, y2, y3⟩ := hV; go_simp
     try simp only [Act.put, lay_]
     refine wpAnyN_one (i := 7) (by kernel_rfl) rfl (fun K hK => ?_)
     go_simp
     refine hK.out _ _ (.inr HS1.out) ?_
     clear hK K
     try simp only [Act.put, lay_]
     refine wpAnyN_one (i := 8) (by kernel_rfl) rfl (fun K hK => ?_)
     rw [if_pos (by rfl)]
     refine wp_append_any _ _ _ 26 rfl w.heap.size 29 rowsW (.slice A' i c') i _ rfl HRA.out (some ⟨W.drew.heap.size, 0, none⟩) 1 1 [.slice u.A ul u.c] rfl rfl HSRC.out (by intro q hq; rw [List.mem_singleton.1 hq]; rfl) (i + 1) _ rfl rfl (by unfold maxLen; omega) (by omega) (by simp; omega) ?_
     intro A8 c8 w8 ho8 hg8 _
     rw [HWV.out] at ho8
     obtain ⟨h81, h83, h84, h82⟩ := HPU.out _ _ _ _ HBA.out hg8 ho8
     have k8 := h81.cell 4
     have f8 := h81.free 4
     have H82 := Lib.hid h82
     have hS8 : w8.cell? ⟨w.heap.size + 1 + 1 + 1, 4, none⟩ = some (.slice A' i c') ∧ w8.cell? ⟨w.heap.size + 1, 4, none⟩ = some (.slice (some ad) m cL) ∧ w8.cell? (ad.add i) = some (.slice u.A ul u.c) := ⟨k8, h83.cell 4, HA0.out w8 h84⟩
     refine hK.out _ _ (.inr hS8) ?_
     clear hK K ho8 hg8 h81 h82 h83 h84
     try simp only [Act.put, lay_]
     refine wpAnyN_one (i := 9) (by kernel_rfl) rfl (fun K hK => ?_)
     go_simp
     refine hK.out _ _ (.inr hS8) ?_
     clear hK K
     try simp only [Act.put, lay_]
     refine wpAnyN_one (i := 10) (by kernel_rfl) rfl (fun K hK => ?_)
     go_simp
     refine hK.out _ _ (.inl (by decide)) ?_
     clear hK K
     try simp only [Act.put, lay_]
     refine wpAnyN_done (by kernel_rfl) ?_ _
     clear hS8 k8 f8
     go_wp2_with fail
     exact ⟨⟨i + 1, A8, c8, by omega, by rw [show ((i + 1 : Nat) : Int) = (i : Int) + 1 by omega], Lib.hid (by rw [← HWE.out]; exact H82.out)⟩, by simp [intOf]; omega⟩
   ·have zi : decide ((i : Int) < (m : Int)) = false := by simp; omega
    obtain rfl : i = m := by omega
    have p0 := HG.out.out.cell 0
    have p1 := HG.out.out.cell 1
    have p2 := HG.out.out.cell 2
    have p3 := HG.out.out.cell 3
    have r0 := HG.out.res.cell 0
    have r1 := HG.out.res.cell 1
    have r2 := HG.out.res.cell 2
    have r3 := HG.out.res.cell 3
    have r4 := HG.out.res.cell 4
    have l0 := HG.out.res.free 0
    have l1 := HG.out.res.free 1
    have l2 := HG.out.res.free 2
    have l3 := HG.out.res.free 3
    have l4 := HG.out.res.free 4
    have HCF := Lib.hid (((((HG.out.res.set 0 (.int .i64 to_)).set 1 (.int .i64 (s2 + 1))).set 2 (.int .i64 0)).set 3 (.int .i64 off)).set 4 (.slice A' i c'))
    have HFR := Lib.hid ((((((Frm.refl [w.heap.size + 1 + 1] W).set (p := ⟨w.heap.size + 1 + 1, 0, none⟩) (by simp) (.int .i64 to_)).set (p := ⟨w.heap.size + 1 + 1, 1, none⟩) (by simp) (.int .i64 (s2 + 1))).set (p := ⟨w.heap.size + 1 + 1, 2, none⟩) (by simp) (.int .i64 0)).set (p := ⟨w.heap.size + 1 + 1, 3, none⟩) (by simp) (.int .i64 off)).set (p := ⟨w.heap.size + 1 + 1, 4, none⟩) (by simp) (.slice A' i c'))
    go_wp2_with fail
    refine bodyPost_ret (v := .agg #[.int .i64 to_, .int .i64 (s2 + 1), .int .i64 0, .int .i64 off, .slice A' i c']) (Rec.results_cell_ 12 31 Try.results33 ⟨w.heap.size + 1 + 1, 0, none⟩ rfl _ (load_st HCF.out)) rfl ?_
    exact go_says HUL.out HU.out HX.out hK HG.out.low HG.out.row HFR.out (by omega) (own_ty_ne HG.out.row HG.out.res (by decide)) (HT2.out.symm.trans HT.out)
end Go.Proofs.Ytfmkkklcgiaacaa.Fold
