/-
The document's records (layer 15): Get. (Written by gen_recget.py.)
-/
import Derived.Test.YtfmkkklcgiaacaaFA0
import Derived.Test.YtfmkkklcgiaacaaFA1
import Derived.Test.YtfmkkklcgiaacaaFA2
import Derived.Test.YtfmkkklcgiaacaaFA3
import Derived.Test.YtfmkkklcgiaacaaFA4
import Derived.Deep.MidRow
set_option linter.unusedVariables false
set_option linter.unusedSimpArgs false
set_option maxRecDepth 100000
set_option maxHeartbeats 4000000
namespace Go.Proofs.Ytfmkkklcgiaacaa.Rec
open Go.RowKit Go.Proofs.Ytfmkkklcgiaacaa.Ord
open Lex (Tx)
open Pack
theorem results_recget {P : Program} {fn : Func} {tmps : Array Value} {w : World} (a : Tmp) (t : TypeId) (b : Tmp) (hr : fn.results = #[.cell a t, .tmp b]) (ad : Addr) (ha : tmps.getD a undef = .pointer (some ad)) (v u : Value) (hu : tmps.getD b undef = u) (hl : (loadVar t ad).run P w = .ok v w) :
  (results fn tmps).run P w = .ok (.tuple #[v, u]) w := by
 unfold results
 rw [hr]
 simp only [List.mapM_toArray, List.mapM_cons, List.mapM_nil, ha, hu, asAddr]
 simp [hl]
def zeros : List Value := [.int .i64 0, .int .i64 0, .int .i64 0, .int .i64 0, .int .i64 0, .slice none 0 0, .int .i64 0, .int .i64 0, .int .i64 0, .int .i64 0, .int .i64 0, .int .i64 0, .slice none 0 0]
theorem rnum_small (k : Nat) (hk : 1 ≤ k) (hk8 : k ≤ 8) (st : St) : (rnum k st).1.toNat < 256 ^ k := by
 have h : okSize (k : Int) = true := by simp [okSize]; omega
 rw [rnum_next _ _ h, Int.toNat_natCast]
 have hl : (rnext k st).1.length ≤ k := by
  cases st with
  | none => simp [rnext]
  | some r => by_cases hkr : k ≤ r.length <;> simp [rnext, hkr] <;> omega
 have h2 := valN_lt _ (rnext k st).1 rfl
 have h3 : (256 : Nat) ^ (rnext k st).1.length ≤ 256 ^ k := Nat.pow_le_pow_right (by decide) hl
 have h4 := val_toNat _ (rnext k st).1 rfl (by omega)
 show (val (rnext k st).1).toNat < _
 omega
structure Gz (w W : World) (st : St) : Prop where
 bel : Below w.heap.size w W
 res : Cel W w.heap.size 58 zeros
 rm : Rm W (· < w.heap.size) (w.heap.size + 1) st
theorem Gz.step {w W V : World} {st st' : St} (h : Gz w W st) (hr : Rm V (· < w.heap.size) (w.heap.size + 1) st') (hf : Frm [w.heap.size + 1] W V) : Gz w V st' :=
 ⟨h.bel.trans (hf.below h.bel.size (by intro q hq; simp at hq; omega)), h.res.frm hf (by simp), hr⟩
theorem Gz.frm {w W V : World} {st : St} {l : List Nat} (h : Gz w W st) (hf : Frm l W V) (hl : ∀ q ∈ l, w.heap.size + 1 < q) : Gz w V st :=
 ⟨h.bel.trans (hf.below h.bel.size (fun q hq => by have := hl q hq; omega)), h.res.frm hf (fun hq => by have := hl _ hq; omega), h.rm.frm hf (fun hq => by have := hl _ hq; omega) (fun k hk hq => by have := hl _ hq; omega)⟩
theorem Gz.set {w W : World} {st : St} (h : Gz w W st) {D i : Nat} (hD : w.heap.size + 1 < D) (u : Value) : Gz w (W.setCell ⟨D, i, none⟩ u) st :=
 h.frm (l := [D]) ((Frm.refl _ _).set (by simp) _) (by intro q hq; simp at hq; omega)
theorem Gz.alloc {w W : World} {st : St} (h : Gz w W st) (o : Obj) : Gz w (W.alloc o) st :=
 h.frm (l := []) (Frm.of_below ((Below.refl _ _).alloc (Nat.le_refl _) _)) (by simp)
theorem get_num (w W : World) (st : St) (h : Gz w W st) (k : Nat) (kk : Int) (hkk : kk = (k : Int)) (hk : 1 ≤ k) (hk8 : k ≤ 8) :
  Calls Try.prog 28 #[.pointer (some ⟨w.heap.size + 1, 0, none⟩), .int .i64 kk] W fun e V => ∃ (y : Int) (st' : St), e = .returned (.int .u64 y) ∧ rd k st = (y, st') ∧ 0 ≤ y ∧ y < ((256 ^ k : Nat) : Int) ∧ Gz w V st' ∧ Frm [w.heap.size + 1] W V := by
 subst hkk
 refine (mNumber _ _ k st W h.rm (by omega)).mono ?_
 rintro e V ⟨rfl, hr, hf⟩
 have := rnum_small k hk hk8 st
 exact ⟨_, _, rfl, rfl, by omega, by omega, h.step hr hf, hf⟩
theorem get_text (w W : World) (st : St) (h : Gz w W st) :
  Calls Try.prog 29 #[.pointer (some ⟨w.heap.size + 1, 0, none⟩)] W fun e V => ∃ (A : Option Addr) (c : Nat) (t : List B) (st' : St), e = .returned (.slice A t.length c) ∧ rtext st = (t, st') ∧ t.length ≤ 65535 ∧ Own V W.heap.size A t.length c t ∧ Gz w V st' ∧ Frm [w.heap.size + 1] W V := by
 refine (mText _ _ st W h.rm (by omega) (fun k hk => by have := h.bel.size; omega)).mono ?_
 rintro e V ⟨A, c, rfl, ho, hr, hf⟩
 refine ⟨A, c, (rtext st).1, (rtext st).2, rfl, rfl, ?_, ho, h.step hr hf, hf⟩
 have hx := rnum2_small st
 unfold rtext
 generalize (rnum 2 st).1.toNat = x at hx ⊢
 cases (rnum 2 st).2 with
 | none => simp [rnext]
 | some r => by_cases hkr : x ≤ r.length <;> simp [rnext, hkr] <;> omega
theorem load_rec {w : World} {g : Nat} {x0 x1 x2 x3 x4 x5 x6 x7 x8 x9 x10 x11 x12 : Value} (h : Cel w g 58 [x0, x1, x2, x3, x4, x5, x6, x7, x8, x9, x10, x11, x12]) : (loadVar 58 ⟨g, 0, none⟩).run Try.prog w = .ok (.agg #[x0, x1, x2, x3, x4, x5, x6, x7, x8, x9, x10, x11, x12]) w :=
 run_loadVar_mid (P := Try.prog) w g 0 58 [x0, x1, x2, x3, x4, x5, x6, x7, x8, x9, x10, x11, x12] _ (fun j v hv => by rw [Nat.zero_add, h.cell j, hv]) Try.underlying58 rfl (by kernel_rfl)
theorem rok_nil {w : World} {K : Nat} {r : Rc} (h1 : r.s.vars = []) (h2 : r.value = []) : Rok w K ⟨r, none, 0, [], none, 0⟩ :=
 ⟨h1, ⟨by simp, by simp⟩, Nat.zero_le _, by show Tx w K none r.value; rw [h2]; exact .inl Bs.nil_, by show r.value.length ≤ _; rw [h2]; exact Nat.zero_le _⟩
def GetSays (w : World) (bs : List B) (e : Ending) (w' : World) : Prop := Below w.heap.size w w' ∧ match get bs with
 | none => e = .returned (.tuple #[.agg zeros.toArray, .bool false])
 | some r => ∃ v : Rv, v.r = r ∧ e = .returned (.tuple #[.agg v.cells.toArray, .bool true]) ∧ Rok w' 0 v ∧ Trow w' 0 v.AL v.vs
theorem store13 {V : World} {g : Nat} {t : TypeId} {z0 z1 z2 z3 z4 z5 z6 z7 z8 z9 z10 z11 z12 : Value} (x0 x1 x2 x3 x4 x5 x6 x7 x8 x9 x10 x11 x12 : Value) (h : Cel V g t [z0, z1, z2, z3, z4, z5, z6, z7, z8, z9, z10, z11, z12]) : Cel (((((((((((((V.setCell ⟨g, 0, none⟩ x0).setCell ⟨g, 1, none⟩ x1).setCell ⟨g, 2, none⟩ x2).setCell ⟨g, 3, none⟩ x3).setCell ⟨g, 4, none⟩ x4).setCell ⟨g, 5, none⟩ x5).setCell ⟨g, 6, none⟩ x6).setCell ⟨g, 7, none⟩ x7).setCell ⟨g, 8, none⟩ x8).setCell ⟨g, 9, none⟩ x9).setCell ⟨g, 10, none⟩ x10).setCell ⟨g, 11, none⟩ x11).setCell ⟨g, 12, none⟩ x12) g t [x0, x1, x2, x3, x4, x5, x6, x7, x8, x9, x10, x11, x12] := (Cel.set (Cel.set (Cel.set (Cel.set (Cel.set (Cel.set (Cel.set (Cel.set (Cel.set (Cel.set (Cel.set (Cel.set (Cel.set h 0 x0) 1 x1) 2 x2) 3 x3) 4 x4) 5 x5) 6 x6) 7 x7) 8 x8) 9 x9) 10 x10) 11 x11) 12 x12)
theorem frm13 (V : World) (g : Nat) (x0 x1 x2 x3 x4 x5 x6 x7 x8 x9 x10 x11 x12 : Value) : Frm [g] V (((((((((((((V.setCell ⟨g, 0, none⟩ x0).setCell ⟨g, 1, none⟩ x1).setCell ⟨g, 2, none⟩ x2).setCell ⟨g, 3, none⟩ x3).setCell ⟨g, 4, none⟩ x4).setCell ⟨g, 5, none⟩ x5).setCell ⟨g, 6, none⟩ x6).setCell ⟨g, 7, none⟩ x7).setCell ⟨g, 8, none⟩ x8).setCell ⟨g, 9, none⟩ x9).setCell ⟨g, 10, none⟩ x10).setCell ⟨g, 11, none⟩ x11).setCell ⟨g, 12, none⟩ x12) := (Frm.set (Frm.set (Frm.set (Frm.set (Frm.set (Frm.set (Frm.set (Frm.set (Frm.set (Frm.set (Frm.set (Frm.set (Frm.set (Frm.refl _ _) (by simp) _) (by simp) _) (by simp) _) (by simp) _) (by simp) _) (by simp) _) (by simp) _) (by simp) _) (by simp) _) (by simp) _) (by simp) _) (by simp) _) (by simp) _)
theorem infoRw : (Try.prog.info? 29).map (fun i => (i.zero, i.size, i.bytes)) = some (some (.slice none 0 0), 1, 24) := by kernel_rfl
theorem rowsW : ElemRow Try.prog 26 29 1 24 := ElemRow.mk' Try.underlying26 infoRw rfl (by decide)
theorem by_frm {w w' : World} {A : Option Addr} {n : Nat} {bs : List B} {l : List Nat} (h : By w A n bs) (hf : Frm l w w') (hl : ∀ k ∈ l, ∀ cs fz, w.heap[k]? ≠ some (Obj.cells cs 5 fz)) : By w' A n bs :=
 h.keep fun k cs fz hk => hf.block k (Array.getElem?_eq_some_iff.1 hk).1 (fun hm => hl k hm cs fz hk)
theorem cel_no {w : World} {g : Nat} {t : TypeId} {cs : List Value} (h : Cel w g t cs) (ht : t ≠ 5) : ∀ k ∈ [g], ∀ cs' fz, w.heap[k]? ≠ some (Obj.cells cs' 5 fz) := by
 intro k hk cs' fz e
 simp at hk
 subst hk
 have h' : w.heap[k]? = some (.cells cs.toArray t (0, 0)) := h
 rw [h'] at e
 simp at e
 exact ht e.2.1
theorem rm_no {w : World} {p : Nat → Prop} {g : Nat} {st : St} (h : Rm w p g st) : ∀ k ∈ [g], ∀ cs' fz, w.heap[k]? ≠ some (Obj.cells cs' 5 fz) := by
 obtain ⟨A, n, c, hc, _⟩ := h
 exact cel_no hc (by decide)
def Bys (w : World) (vs : List Vt) : Prop := ∀ v ∈ vs, By w v.A v.t.length v.t ∧ v.t.length ≤ 65535
theorem Bys.frm {w w' : World} {vs : List Vt} {l : List Nat} (h : Bys w vs) (hf : Frm l w w') (hl : ∀ k ∈ l, ∀ cs fz, w.heap[k]? ≠ some (Obj.cells cs 5 fz)) : Bys w' vs := fun v hv => ⟨by_frm (h v hv).1 hf hl, (h v hv).2⟩
theorem tvs_of {w : World} {KB n c K : Nat} {A : Option Addr} {vs : List Vt} (hr : w.ownsRow KB 29 1 (.slice A n c) n (vs.map Vt.cell)) (hb : Bys w vs) : Tvs w K A vs :=
 ⟨fun i v hi => by
  obtain ⟨ad, e, _, hc⟩ := Ry.of_own hr (by decide) (fun q => by have := congrArg List.length q; have h2 := (List.getElem?_eq_some_iff.1 hi).1; simp at this; rw [this] at hi; simp at hi)
  exact ⟨ad, e, hc i _ (by rw [List.getElem?_map, hi]; rfl)⟩, fun v hv => ⟨.inr (hb v hv).1, by have := (hb v hv).2; unfold maxLen; omega⟩⟩
theorem Gz.kept {w W V : World} {st : St} {K : Nat} (h : Gz w W st) (hb : Below K W V) (hK : w.heap.size + 1 < K) : Gz w V st := by
 obtain ⟨h1, h2, A, n, c, h3, h4, h5⟩ := h
 exact ⟨h1.trans (hb.mono (by omega)), h2.below hb (by omega), A, n, c, h3.below hb hK, fun r hr => (h4 r hr).below hb (fun k hk => by omega), h5⟩
theorem Gz.drew {w W : World} {st : St} (h : Gz w W st) : Gz w W.drew st := ⟨h.bel.drew, h.res, h.rm⟩
theorem rtexts_step {N i : Nat} {s0 s : St} {ts t : List (List B)} (h : rtexts N s0 = (ts ++ (rtexts (N - i) s).1, (rtexts (N - i) s).2)) (hi : i < N) {x : List B} {s' : St} (hx : rtext s = (x, s')) : rtexts N s0 = ((ts ++ [x]) ++ (rtexts (N - (i + 1)) s').1, (rtexts (N - (i + 1)) s').2) := by
 rw [h, show N - i = (N - (i + 1)) + 1 by omega]
 show (ts ++ ((rtext s).1 :: (rtexts (N - (i + 1)) (rtext s).2).1), (rtexts (N - (i + 1)) (rtext s).2).2) = _
 rw [hx, List.append_assoc]
 rfl
theorem getSays_none {w w' : World} {bs : List B} (h : get bs = none) (hb : Below w.heap.size w w') : GetSays w bs (.returned (.tuple #[.agg zeros.toArray, .bool false])) w' := ⟨hb, by rw [h]⟩
theorem getSays_some {w w' : World} {bs : List B} {v : Rv} (h : get bs = some v.r) (hb : Below w.heap.size w w') (hr : Rok w' 0 v ∧ Trow w' 0 v.AL v.vs) : GetSays w bs (.returned (.tuple #[.agg v.cells.toArray, .bool true])) w' := ⟨hb, by rw [h]; exact ⟨v, rfl, rfl, hr.1, hr.2⟩⟩
theorem get_to {w W V V' : World} {st : St} (hz : Gz w W st) (hb : Frm [] W V) (hf : Frm [w.heap.size] V V') : Below w.heap.size w V' ∧ Frm [w.heap.size] W V' := by
 have h2 : Frm [w.heap.size] W V' := (hb.mono (by simp)).trans hf
 exact ⟨hz.bel.trans (h2.below hz.bel.size (by simp)), h2⟩
theorem get_ (w : World) (A : Option Addr) (n c : Nat) (bs : List B) (h : Bs w w.heap.size A n bs) (hn : n ≤ c) (hc : c ≤ maxLen) :
  Calls Try.prog 18 #[.slice A n c] w (GetSays w bs) := by
 obtain ⟨u1, hu1⟩ : ∃ u1, u1 = w.alloc (.cells zeros.toArray 58) := ⟨_, rfl⟩
 obtain ⟨W0, hW0⟩ : ∃ W0, W0 = u1.alloc (.cells #[.slice A n c, .bool false] 80) := ⟨_, rfl⟩
 have hs1 : u1.heap.size = w.heap.size + 1 := by rw [hu1]; simp
 have hb1 : Below w.heap.size w u1 := by rw [hu1]; exact (Below.refl _ _).alloc (Nat.le_refl _) _
 have hb2 : Below u1.heap.size u1 W0 := by rw [hW0]; exact (Below.refl _ _).alloc (Nat.le_refl _) _
 have hz : Cel u1 w.heap.size 58 zeros := by rw [hu1]; exact Cel.new w _ _
 have hg : Cel W0 (w.heap.size + 1) 80 [.slice A n c, .bool false] := by rw [hW0, ← hs1]; exact Cel.new u1 _ _
 have HG0 : Hid (Gz w W0 (some bs)) := Lib.hid ⟨hb1.trans (hb2.mono hb1.size), hz.below hb2 hz.lt, A, n, c, hg, fun r hr => by injection hr with hr; subst hr; exact Bs.bp (h.below (hb1.trans (hb2.mono hb1.size))), hn, hc⟩
 rw [hu1] at hW0
 unfold zeros at hW0
 clear hu1 hs1 hb1 hb2 hz hg h
 go_enter Try.func18, Try.ntmps18
 go_upto_region 2 with fail
 rw [← hW0]
 clear hW0
 go_wp2_with fail
 refine (get_num w W0 _ HG0.out 1 _ rfl (by decide) (by decide)).mono ?_
 rintro e V0 ⟨y0, st1, rfl, hq, hy1, hy2, hg, hf⟩
 have HQ0 := Lib.hid hq
 have HV0 := Lib.hid hg
 rw [show ((256 ^ 1 : Nat) : Int) = 256 from rfl] at hy2
 clear hq hg hf
 go_upto_region 3 with fail
 obtain ⟨W1, hW1⟩ : ∃ W1, W1 = V0.alloc (.cells #[.int .i64 y0, .int .i64 0, .int .i64 0, .int .i64 0, .int .i64 0, .slice none 0 0, .int .i64 0, .int .i64 0, .int .i64 0, .int .i64 0, .int .i64 0, .int .i64 0, .slice none 0 0] 58) := ⟨_, rfl⟩
 obtain ⟨D, hD⟩ : ∃ D, D = V0.heap.size := ⟨_, rfl⟩
 have hDg : w.heap.size + 1 < D := by rw [hD]; exact HV0.out.rm.lt
 have HD1 := Lib.hid (show Cel W1 D 58 [.int .i64 y0, .int .i64 0, .int .i64 0, .int .i64 0, .int .i64 0, .slice none 0 0, .int .i64 0, .int .i64 0, .int .i64 0, .int .i64 0, .int .i64 0, .int .i64 0, .slice none 0 0] from by rw [hW1, hD]; exact Cel.new V0 _ _)
 have HG1 := Lib.hid (show Gz w W1 st1 from by rw [hW1]; exact HV0.out.alloc _)
 rw [← hW1, ← hD]
 clear hW1 hD
 have c0 := HD1.out.cell 0
 by_cases k2 : y0 = 2
 case pos =>
  subst k2
  go_upto_region 15 with fail
  clear c0
  go_upto_region 16 with (go_at_call 28; go_must (refine (get_num w W1 _ HG1.out 2 _ rfl (by decide) (by decide)).mono ?_; rintro e V1 ⟨y1, st2, rfl, hq, hy1a, hy1b, hg, hf⟩; have HQ1 := Lib.hid hq; have HV1 := Lib.hid hg; have HE1 := Lib.hid (HD1.out.frm hf (by simp; omega)); rw [show ((256 ^ 2 : Nat) : Int) = 65536 from rfl] at hy1b; have cD := HE1.out.cell 6; have fD := HE1.out.free 6; clear hq hg hf))
  obtain ⟨W2, hW⟩ : ∃ W', W' = V1.setCell ⟨D, 6, none⟩ (.int .i64 (y1)) := ⟨_, rfl⟩
  rw [← hW]
  have HWE := Lib.hid hW
  have HD2 := Lib.hid (show Cel W2 D 58 [.int .i64 2, .int .i64 0, .int .i64 0, .int .i64 0, .int .i64 0, .slice none 0 0, .int .i64 (y1), .int .i64 0, .int .i64 0, .int .i64 0, .int .i64 0, .int .i64 0, .slice none 0 0] from by rw [hW]; exact HE1.out.set 6 _)
  have HG2 := Lib.hid (show Gz w W2 st2 from by rw [hW]; exact HV1.out.set hDg _)
  clear hW cD fD
  go_upto_region 17 with (go_at_call 28; go_must (refine (get_num w W2 _ HG2.out 1 _ rfl (by decide) (by decide)).mono ?_; rintro e V2 ⟨y2, st3, rfl, hq, hy2a, hy2b, hg, hf⟩; have HQ2 := Lib.hid hq; have HV2 := Lib.hid hg; have HE2 := Lib.hid (HD2.out.frm hf (by simp; omega)); rw [show ((256 ^ 1 : Nat) : Int) = 256 from rfl] at hy2b; have cD := HE2.out.cell 7; have fD := HE2.out.free 7; clear hq hg hf))
  obtain ⟨W3, hW⟩ : ∃ W', W' = V2.setCell ⟨D, 7, none⟩ (.int .i64 (y2)) := ⟨_, rfl⟩
  rw [← hW]
  have HWE := Lib.hid hW
  have HD3 := Lib.hid (show Cel W3 D 58 [.int .i64 2, .int .i64 0, .int .i64 0, .int .i64 0, .int .i64 0, .slice none 0 0, .int .i64 (y1), .int .i64 (y2), .int .i64 0, .int .i64 0, .int .i64 0, .int .i64 0, .slice none 0 0] from by rw [hW]; exact HE2.out.set 7 _)
  have HG3 := Lib.hid (show Gz w W3 st3 from by rw [hW]; exact HV2.out.set hDg _)
  clear hW cD fD
  go_upto_region 24 with (go_at_call 28; go_must (refine (get_num w W3 _ HG3.out 1 _ rfl (by decide) (by decide)).mono ?_; rintro e V3 ⟨y3, st4, rfl, hq, hy3a, hy3b, hg, hf⟩; have HQ3 := Lib.hid hq; have HV3 := Lib.hid hg; have HE3 := Lib.hid (HD3.out.frm hf (by simp; omega)); rw [show ((256 ^ 1 : Nat) : Int) = 256 from rfl] at hy3b; have cD := HE3.out.cell 8; have fD := HE3.out.free 8; clear hq hg hf))
  obtain ⟨W4, hW⟩ : ∃ W', W' = V3.setCell ⟨D, 8, none⟩ (.int .i64 (y3)) := ⟨_, rfl⟩
  rw [← hW]
  have HWE := Lib.hid hW
  have HD4 := Lib.hid (show Cel W4 D 58 [.int .i64 2, .int .i64 0, .int .i64 0, .int .i64 0, .int .i64 0, .slice none 0 0, .int .i64 (y1), .int .i64 (y2), .int .i64 (y3), .int .i64 0, .int .i64 0, .int .i64 0, .slice none 0 0] from by rw [hW]; exact HE3.out.set 8 _)
  have HG4 := Lib.hid (show Gz w W4 st4 from by rw [hW]; exact HV3.out.set hDg _)
  clear hW cD fD
  obtain ⟨v, hv⟩ : ∃ v : Rv, v = ⟨{ rc0 with kind := 2, visit := y1, step := y2, try_ := y3 }, none, 0, [], none, 0⟩ := ⟨_, rfl⟩
  have HRX := Lib.hid (show ∀ V', Frm [w.heap.size] W4 V' → Rok V' 0 v ∧ Trow V' 0 v.AL v.vs from by rw [hv]; exact fun V' _ => ⟨rok_nil rfl rfl, trow_nil⟩)
  have HRK := Lib.hid (HRX.out _ (Frm.refl _ _))
  have HRD := Lib.hid (show readRc bs = (v.r, st4) from by
   rw [hv]; unfold readRc; rw [HQ0.out]; dsimp only; unfold readK
   rw [if_neg (by decide), if_pos rfl]; unfold readI; rw [HQ1.out]; dsimp only; rw [HQ2.out]; dsimp only; rw [HQ3.out])
  have HCL := Lib.hid (show [.int .i64 2, .int .i64 0, .int .i64 0, .int .i64 0, .int .i64 0, .slice none 0 0, .int .i64 (y1), .int .i64 (y2), .int .i64 (y3), .int .i64 0, .int .i64 0, .int .i64 0, .slice none 0 0] = v.cells from by rw [hv]; rfl)
  have HDD := HD4
  clear hv
  go_wp2_with fail
  refine (mEnd _ _ _ _ HG4.out.rm).mono ?_
  rintro e V ⟨rfl, rfl⟩
  have d0 := HDD.out.cell 0
  have d1 := HDD.out.cell 1
  have d2 := HDD.out.cell 2
  have d3 := HDD.out.cell 3
  have d4 := HDD.out.cell 4
  have d5 := HDD.out.cell 5
  have d6 := HDD.out.cell 6
  have d7 := HDD.out.cell 7
  have d8 := HDD.out.cell 8
  have d9 := HDD.out.cell 9
  have d10 := HDD.out.cell 10
  have d11 := HDD.out.cell 11
  have d12 := HDD.out.cell 12
  go_wp2_with fail
  have con := may_ W4 0 v HRK.out.1 (Nat.zero_le _)
  rw [← HCL.out] at con
  refine con.mono ?_
  clear con d0 d1 d2 d3 d4 d5 d6 d7 d8 d9 d10 d11 d12
  rintro e V ⟨rfl, hb⟩
  have HZ := Lib.hid (HG4.out.frm (l := []) (Frm.of_below hb) (by simp))
  have HDV := Lib.hid (HDD.out.below hb HDD.out.lt)
  have HFB := Lib.hid (Frm.of_below (l := []) hb)
  clear hb
  cases he : rend st4
  case false =>
   have HGT := Lib.hid (show get bs = none from by unfold get; rw [HRD.out]; dsimp only; rw [he]; rfl)
   clear he
   have r0 : V.cell? ⟨w.heap.size, 0, none⟩ = some (.int .i64 0) := HZ.out.res.cell 0
   have f0 := HZ.out.res.free 0
   have r1 : V.cell? ⟨w.heap.size, 1, none⟩ = some (.int .i64 0) := HZ.out.res.cell 1
   have f1 := HZ.out.res.free 1
   have r2 : V.cell? ⟨w.heap.size, 2, none⟩ = some (.int .i64 0) := HZ.out.res.cell 2
   have f2 := HZ.out.res.free 2
   have r3 : V.cell? ⟨w.heap.size, 3, none⟩ = some (.int .i64 0) := HZ.out.res.cell 3
   have f3 := HZ.out.res.free 3
   have r4 : V.cell? ⟨w.heap.size, 4, none⟩ = some (.int .i64 0) := HZ.out.res.cell 4
   have f4 := HZ.out.res.free 4
   have r5 : V.cell? ⟨w.heap.size, 5, none⟩ = some (.slice none 0 0) := HZ.out.res.cell 5
   have f5 := HZ.out.res.free 5
   have r6 : V.cell? ⟨w.heap.size, 6, none⟩ = some (.int .i64 0) := HZ.out.res.cell 6
   have f6 := HZ.out.res.free 6
   have r7 : V.cell? ⟨w.heap.size, 7, none⟩ = some (.int .i64 0) := HZ.out.res.cell 7
   have f7 := HZ.out.res.free 7
   have r8 : V.cell? ⟨w.heap.size, 8, none⟩ = some (.int .i64 0) := HZ.out.res.cell 8
   have f8 := HZ.out.res.free 8
   have r9 : V.cell? ⟨w.heap.size, 9, none⟩ = some (.int .i64 0) := HZ.out.res.cell 9
   have f9 := HZ.out.res.free 9
   have r10 : V.cell? ⟨w.heap.size, 10, none⟩ = some (.int .i64 0) := HZ.out.res.cell 10
   have f10 := HZ.out.res.free 10
   have r11 : V.cell? ⟨w.heap.size, 11, none⟩ = some (.int .i64 0) := HZ.out.res.cell 11
   have f11 := HZ.out.res.free 11
   have r12 : V.cell? ⟨w.heap.size, 12, none⟩ = some (.slice none 0 0) := HZ.out.res.cell 12
   have f12 := HZ.out.res.free 12
   go_wp2_with fail
   refine bodyPost_ret (v := .tuple #[.agg zeros.toArray, .bool false]) (results_recget 2 58 3 Try.results18 ⟨w.heap.size, 0, none⟩ rfl _ _ rfl (load_rec (store13 (Value.int .i64 0) (Value.int .i64 0) (Value.int .i64 0) (Value.int .i64 0) (Value.int .i64 0) (Value.slice none 0 0) (Value.int .i64 0) (Value.int .i64 0) (Value.int .i64 0) (Value.int .i64 0) (Value.int .i64 0) (Value.int .i64 0) (Value.slice none 0 0) HZ.out.res))) rfl (getSays_none HGT.out (get_to HG4.out HFB.out (frm13 _ _ _ _ _ _ _ _ _ _ _ _ _ _ _)).1)
  case true =>
   cases hm : may v.r
   case false =>
    have HGT := Lib.hid (show get bs = none from by unfold get; rw [HRD.out]; dsimp only; rw [he, hm]; rfl)
    clear he
    have r0 : V.cell? ⟨w.heap.size, 0, none⟩ = some (.int .i64 0) := HZ.out.res.cell 0
    have f0 := HZ.out.res.free 0
    have r1 : V.cell? ⟨w.heap.size, 1, none⟩ = some (.int .i64 0) := HZ.out.res.cell 1
    have f1 := HZ.out.res.free 1
    have r2 : V.cell? ⟨w.heap.size, 2, none⟩ = some (.int .i64 0) := HZ.out.res.cell 2
    have f2 := HZ.out.res.free 2
    have r3 : V.cell? ⟨w.heap.size, 3, none⟩ = some (.int .i64 0) := HZ.out.res.cell 3
    have f3 := HZ.out.res.free 3
    have r4 : V.cell? ⟨w.heap.size, 4, none⟩ = some (.int .i64 0) := HZ.out.res.cell 4
    have f4 := HZ.out.res.free 4
    have r5 : V.cell? ⟨w.heap.size, 5, none⟩ = some (.slice none 0 0) := HZ.out.res.cell 5
    have f5 := HZ.out.res.free 5
    have r6 : V.cell? ⟨w.heap.size, 6, none⟩ = some (.int .i64 0) := HZ.out.res.cell 6
    have f6 := HZ.out.res.free 6
    have r7 : V.cell? ⟨w.heap.size, 7, none⟩ = some (.int .i64 0) := HZ.out.res.cell 7
    have f7 := HZ.out.res.free 7
    have r8 : V.cell? ⟨w.heap.size, 8, none⟩ = some (.int .i64 0) := HZ.out.res.cell 8
    have f8 := HZ.out.res.free 8
    have r9 : V.cell? ⟨w.heap.size, 9, none⟩ = some (.int .i64 0) := HZ.out.res.cell 9
    have f9 := HZ.out.res.free 9
    have r10 : V.cell? ⟨w.heap.size, 10, none⟩ = some (.int .i64 0) := HZ.out.res.cell 10
    have f10 := HZ.out.res.free 10
    have r11 : V.cell? ⟨w.heap.size, 11, none⟩ = some (.int .i64 0) := HZ.out.res.cell 11
    have f11 := HZ.out.res.free 11
    have r12 : V.cell? ⟨w.heap.size, 12, none⟩ = some (.slice none 0 0) := HZ.out.res.cell 12
    have f12 := HZ.out.res.free 12
    go_wp2_with fail
    refine bodyPost_ret (v := .tuple #[.agg zeros.toArray, .bool false]) (results_recget 2 58 3 Try.results18 ⟨w.heap.size, 0, none⟩ rfl _ _ rfl (load_rec (store13 (Value.int .i64 0) (Value.int .i64 0) (Value.int .i64 0) (Value.int .i64 0) (Value.int .i64 0) (Value.slice none 0 0) (Value.int .i64 0) (Value.int .i64 0) (Value.int .i64 0) (Value.int .i64 0) (Value.int .i64 0) (Value.int .i64 0) (Value.slice none 0 0) HZ.out.res))) rfl (getSays_none HGT.out (get_to HG4.out HFB.out (frm13 _ _ _ _ _ _ _ _ _ _ _ _ _ _ _)).1)
   case true =>
    have HGT := Lib.hid (show get bs = some v.r from by unfold get; rw [HRD.out]; dsimp only; rw [he, hm]; rfl)
    clear he
    have r0 : V.cell? ⟨w.heap.size, 0, none⟩ = some (.int .i64 0) := HZ.out.res.cell 0
    have f0 := HZ.out.res.free 0
    have r1 : V.cell? ⟨w.heap.size, 1, none⟩ = some (.int .i64 0) := HZ.out.res.cell 1
    have f1 := HZ.out.res.free 1
    have r2 : V.cell? ⟨w.heap.size, 2, none⟩ = some (.int .i64 0) := HZ.out.res.cell 2
    have f2 := HZ.out.res.free 2
    have r3 : V.cell? ⟨w.heap.size, 3, none⟩ = some (.int .i64 0) := HZ.out.res.cell 3
    have f3 := HZ.out.res.free 3
    have r4 : V.cell? ⟨w.heap.size, 4, none⟩ = some (.int .i64 0) := HZ.out.res.cell 4
    have f4 := HZ.out.res.free 4
    have r5 : V.cell? ⟨w.heap.size, 5, none⟩ = some (.slice none 0 0) := HZ.out.res.cell 5
    have f5 := HZ.out.res.free 5
    have r6 : V.cell? ⟨w.heap.size, 6, none⟩ = some (.int .i64 0) := HZ.out.res.cell 6
    have f6 := HZ.out.res.free 6
    have r7 : V.cell? ⟨w.heap.size, 7, none⟩ = some (.int .i64 0) := HZ.out.res.cell 7
    have f7 := HZ.out.res.free 7
    have r8 : V.cell? ⟨w.heap.size, 8, none⟩ = some (.int .i64 0) := HZ.out.res.cell 8
    have f8 := HZ.out.res.free 8
    have r9 : V.cell? ⟨w.heap.size, 9, none⟩ = some (.int .i64 0) := HZ.out.res.cell 9
    have f9 := HZ.out.res.free 9
    have r10 : V.cell? ⟨w.heap.size, 10, none⟩ = some (.int .i64 0) := HZ.out.res.cell 10
    have f10 := HZ.out.res.free 10
    have r11 : V.cell? ⟨w.heap.size, 11, none⟩ = some (.int .i64 0) := HZ.out.res.cell 11
    have f11 := HZ.out.res.free 11
    have r12 : V.cell? ⟨w.heap.size, 12, none⟩ = some (.slice none 0 0) := HZ.out.res.cell 12
    have f12 := HZ.out.res.free 12
    have d0 := HDV.out.cell 0
    have d1 := HDV.out.cell 1
    have d2 := HDV.out.cell 2
    have d3 := HDV.out.cell 3
    have d4 := HDV.out.cell 4
    have d5 := HDV.out.cell 5
    have d6 := HDV.out.cell 6
    have d7 := HDV.out.cell 7
    have d8 := HDV.out.cell 8
    have d9 := HDV.out.cell 9
    have d10 := HDV.out.cell 10
    have d11 := HDV.out.cell 11
    have d12 := HDV.out.cell 12
    go_wp2_with fail
    refine bodyPost_ret (v := .tuple #[.agg #[.int .i64 2, .int .i64 0, .int .i64 0, .int .i64 0, .int .i64 0, .slice none 0 0, .int .i64 (y1), .int .i64 (y2), .int .i64 (y3), .int .i64 0, .int .i64 0, .int .i64 0, .slice none 0 0], .bool true]) (results_recget 2 58 3 Try.results18 ⟨w.heap.size, 0, none⟩ rfl _ _ rfl (load_rec (store13 (Value.int .i64 2) (Value.int .i64 0) (Value.int .i64 0) (Value.int .i64 0) (Value.int .i64 0) (Value.slice none 0 0) (Value.int .i64 (y1)) (Value.int .i64 (y2)) (Value.int .i64 (y3)) (Value.int .i64 0) (Value.int .i64 0) (Value.int .i64 0) (Value.slice none 0 0) HZ.out.res))) rfl ?_
    rw [show (.agg #[.int .i64 2, .int .i64 0, .int .i64 0, .int .i64 0, .int .i64 0, .slice none 0 0, .int .i64 (y1), .int .i64 (y2), .int .i64 (y3), .int .i64 0, .int .i64 0, .int .i64 0, .slice none 0 0] : Value) = .agg v.cells.toArray from by rw [← HCL.out]]
    exact getSays_some HGT.out (get_to HG4.out HFB.out (frm13 _ _ _ _ _ _ _ _ _ _ _ _ _ _ _)).1 (HRX.out _ (get_to HG4.out HFB.out (frm13 _ _ _ _ _ _ _ _ _ _ _ _ _ _ _)).2)
 have k2b : (y0 == 2) = false := by simpa using k2
 by_cases k3 : y0 = 3
 case pos =>
  subst k3
  clear k2
  go_upto_region 19 with fail
  clear c0 k2b
  go_upto_region 20 with (go_at_call 28; go_must (refine (get_num w W1 _ HG1.out 2 _ rfl (by decide) (by decide)).mono ?_; rintro e V1 ⟨y1, st2, rfl, hq, hy1a, hy1b, hg, hf⟩; have HQ1 := Lib.hid hq; have HV1 := Lib.hid hg; have HE1 := Lib.hid (HD1.out.frm hf (by simp; omega)); rw [show ((256 ^ 2 : Nat) : Int) = 65536 from rfl] at hy1b; have cD := HE1.out.cell 6; have fD := HE1.out.free 6; clear hq hg hf))
  obtain ⟨W2, hW⟩ : ∃ W', W' = V1.setCell ⟨D, 6, none⟩ (.int .i64 (y1)) := ⟨_, rfl⟩
  rw [← hW]
  have HWE := Lib.hid hW
  have HD2 := Lib.hid (show Cel W2 D 58 [.int .i64 3, .int .i64 0, .int .i64 0, .int .i64 0, .int .i64 0, .slice none 0 0, .int .i64 (y1), .int .i64 0, .int .i64 0, .int .i64 0, .int .i64 0, .int .i64 0, .slice none 0 0] from by rw [hW]; exact HE1.out.set 6 _)
  have HG2 := Lib.hid (show Gz w W2 st2 from by rw [hW]; exact HV1.out.set hDg _)
  clear hW cD fD
  go_upto_region 21 with (go_at_call 28; go_must (refine (get_num w W2 _ HG2.out 1 _ rfl (by decide) (by decide)).mono ?_; rintro e V2 ⟨y2, st3, rfl, hq, hy2a, hy2b, hg, hf⟩; have HQ2 := Lib.hid hq; have HV2 := Lib.hid hg; have HE2 := Lib.hid (HD2.out.frm hf (by simp; omega)); rw [show ((256 ^ 1 : Nat) : Int) = 256 from rfl] at hy2b; have cD := HE2.out.cell 9; have fD := HE2.out.free 9; clear hq hg hf))
  obtain ⟨W3, hW⟩ : ∃ W', W' = V2.setCell ⟨D, 9, none⟩ (.int .i64 (y2 - 3)) := ⟨_, rfl⟩
  rw [← hW]
  have HWE := Lib.hid hW
  have HD3 := Lib.hid (show Cel W3 D 58 [.int .i64 3, .int .i64 0, .int .i64 0, .int .i64 0, .int .i64 0, .slice none 0 0, .int .i64 (y1), .int .i64 0, .int .i64 0, .int .i64 (y2 - 3), .int .i64 0, .int .i64 0, .slice none 0 0] from by rw [hW]; exact HE2.out.set 9 _)
  have HG3 := Lib.hid (show Gz w W3 st3 from by rw [hW]; exact HV2.out.set hDg _)
  clear hW cD fD
  go_upto_region 22 with (go_at_call 28; go_must (refine (get_num w W3 _ HG3.out 4 _ rfl (by decide) (by decide)).mono ?_; rintro e V3 ⟨y3, st4, rfl, hq, hy3a, hy3b, hg, hf⟩; have HQ3 := Lib.hid hq; have HV3 := Lib.hid hg; have HE3 := Lib.hid (HD3.out.frm hf (by simp; omega)); rw [show ((256 ^ 4 : Nat) : Int) = 4294967296 from rfl] at hy3b; have cD := HE3.out.cell 10; have fD := HE3.out.free 10; clear hq hg hf))
  obtain ⟨W4, hW⟩ : ∃ W', W' = V3.setCell ⟨D, 10, none⟩ (.int .i64 (y3)) := ⟨_, rfl⟩
  rw [← hW]
  have HWE := Lib.hid hW
  have HD4 := Lib.hid (show Cel W4 D 58 [.int .i64 3, .int .i64 0, .int .i64 0, .int .i64 0, .int .i64 0, .slice none 0 0, .int .i64 (y1), .int .i64 0, .int .i64 0, .int .i64 (y2 - 3), .int .i64 (y3), .int .i64 0, .slice none 0 0] from by rw [hW]; exact HE3.out.set 10 _)
  have HG4 := Lib.hid (show Gz w W4 st4 from by rw [hW]; exact HV3.out.set hDg _)
  clear hW cD fD
  go_upto_region 23 with (go_at_call 28; go_must (refine (get_num w W4 _ HG4.out 1 _ rfl (by decide) (by decide)).mono ?_; rintro e V4 ⟨y4, st5, rfl, hq, hy4a, hy4b, hg, hf⟩; have HQ4 := Lib.hid hq; have HV4 := Lib.hid hg; have HE4 := Lib.hid (HD4.out.frm hf (by simp; omega)); rw [show ((256 ^ 1 : Nat) : Int) = 256 from rfl] at hy4b; have cD := HE4.out.cell 11; have fD := HE4.out.free 11; clear hq hg hf))
  obtain ⟨W5, hW⟩ : ∃ W', W' = V4.setCell ⟨D, 11, none⟩ (.int .i64 (y4 - 1)) := ⟨_, rfl⟩
  rw [← hW]
  have HWE := Lib.hid hW
  have HD5 := Lib.hid (show Cel W5 D 58 [.int .i64 3, .int .i64 0, .int .i64 0, .int .i64 0, .int .i64 0, .slice none 0 0, .int .i64 (y1), .int .i64 0, .int .i64 0, .int .i64 (y2 - 3), .int .i64 (y3), .int .i64 (y4 - 1), .slice none 0 0] from by rw [hW]; exact HE4.out.set 11 _)
  have HG5 := Lib.hid (show Gz w W5 st5 from by rw [hW]; exact HV4.out.set hDg _)
  clear hW cD fD
  go_upto_region 24 with (go_at_call 29; go_must (refine (get_text w W5 _ HG5.out).mono ?_; rintro e V5 ⟨At, ct, tx, st6, rfl, hq, htl, ho, hg, hf⟩; have HQ5 := Lib.hid hq; have HV5 := Lib.hid hg; have HE5 := Lib.hid (HD5.out.frm hf (by simp; omega)); have HO := Lib.hid ho; have cD := HE5.out.cell 12; have fD := HE5.out.free 12; clear hq hg hf ho))
  have fs := Frm.set (Frm.refl [D] V5) (p := ⟨D, 12, none⟩) (by simp) (.slice At tx.length ct)
  have HOW := Lib.hid (Own.frm HO.out fs (fun k hk => by simp at hk; subst hk; exact HD5.out.lt))
  clear fs
  obtain ⟨W6, hW⟩ : ∃ W', W' = V5.setCell ⟨D, 12, none⟩ (.slice At tx.length ct) := ⟨_, rfl⟩
  rw [← hW]
  have HWE := Lib.hid hW
  have HD6 := Lib.hid (show Cel W6 D 58 [.int .i64 3, .int .i64 0, .int .i64 0, .int .i64 0, .int .i64 0, .slice none 0 0, .int .i64 (y1), .int .i64 0, .int .i64 0, .int .i64 (y2 - 3), .int .i64 (y3), .int .i64 (y4 - 1), .slice At tx.length ct] from by rw [hW]; exact HE5.out.set 12 _)
  have HG6 := Lib.hid (show Gz w W6 st6 from by rw [hW]; exact HV5.out.set hDg _)
  clear hW cD fD
  have HOX := Lib.hid (show Own W6 W5.heap.size At tx.length ct tx from by rw [HWE.out]; exact HOW.out)
  obtain ⟨v, hv⟩ : ∃ v : Rv, v = ⟨{ rc0 with kind := 3, visit := y1, «to» := y2 - 3, off := y3, var := y4 - 1, value := tx }, none, 0, [], At, ct⟩ := ⟨_, rfl⟩
  have HRX := Lib.hid (show ∀ V', Frm [w.heap.size] W6 V' → Rok V' 0 v ∧ Trow V' 0 v.AL v.vs from by rw [hv]; exact fun V' hf => ⟨⟨rfl, ⟨by simp, by simp⟩, Nat.zero_le _, .inr (By.of_own (Own.frm HOX.out hf (fun k hk => by have := HG5.out.bel.size; have := HG5.out.rm.lt; simp at hk; omega))), by show tx.length ≤ _; unfold maxLen; omega⟩, trow_nil⟩)
  have HRK := Lib.hid (HRX.out _ (Frm.refl _ _))
  have HRD := Lib.hid (show readRc bs = (v.r, st6) from by
   rw [hv]; unfold readRc; rw [HQ0.out]; dsimp only; unfold readK
   rw [if_neg (by decide), if_neg (by decide), if_pos rfl]; unfold readO; rw [HQ1.out]; dsimp only; rw [HQ2.out]; dsimp only; rw [HQ3.out]; dsimp only; rw [HQ4.out]; dsimp only; rw [HQ5.out])
  have HCL := Lib.hid (show [.int .i64 3, .int .i64 0, .int .i64 0, .int .i64 0, .int .i64 0, .slice none 0 0, .int .i64 (y1), .int .i64 0, .int .i64 0, .int .i64 (y2 - 3), .int .i64 (y3), .int .i64 (y4 - 1), .slice At tx.length ct] = v.cells from by rw [hv]; rfl)
  have HDD := HD6
  clear hv
  go_wp2_with fail
  refine (mEnd _ _ _ _ HG6.out.rm).mono ?_
  rintro e V ⟨rfl, rfl⟩
  have d0 := HDD.out.cell 0
  have d1 := HDD.out.cell 1
  have d2 := HDD.out.cell 2
  have d3 := HDD.out.cell 3
  have d4 := HDD.out.cell 4
  have d5 := HDD.out.cell 5
  have d6 := HDD.out.cell 6
  have d7 := HDD.out.cell 7
  have d8 := HDD.out.cell 8
  have d9 := HDD.out.cell 9
  have d10 := HDD.out.cell 10
  have d11 := HDD.out.cell 11
  have d12 := HDD.out.cell 12
  go_wp2_with fail
  have con := may_ W6 0 v HRK.out.1 (Nat.zero_le _)
  rw [← HCL.out] at con
  refine con.mono ?_
  clear con d0 d1 d2 d3 d4 d5 d6 d7 d8 d9 d10 d11 d12
  rintro e V ⟨rfl, hb⟩
  have HZ := Lib.hid (HG6.out.frm (l := []) (Frm.of_below hb) (by simp))
  have HDV := Lib.hid (HDD.out.below hb HDD.out.lt)
  have HFB := Lib.hid (Frm.of_below (l := []) hb)
  clear hb
  cases he : rend st6
  case false =>
   have HGT := Lib.hid (show get bs = none from by unfold get; rw [HRD.out]; dsimp only; rw [he]; rfl)
   clear he
   have r0 : V.cell? ⟨w.heap.size, 0, none⟩ = some (.int .i64 0) := HZ.out.res.cell 0
   have f0 := HZ.out.res.free 0
   have r1 : V.cell? ⟨w.heap.size, 1, none⟩ = some (.int .i64 0) := HZ.out.res.cell 1
   have f1 := HZ.out.res.free 1
   have r2 : V.cell? ⟨w.heap.size, 2, none⟩ = some (.int .i64 0) := HZ.out.res.cell 2
   have f2 := HZ.out.res.free 2
   have r3 : V.cell? ⟨w.heap.size, 3, none⟩ = some (.int .i64 0) := HZ.out.res.cell 3
   have f3 := HZ.out.res.free 3
   have r4 : V.cell? ⟨w.heap.size, 4, none⟩ = some (.int .i64 0) := HZ.out.res.cell 4
   have f4 := HZ.out.res.free 4
   have r5 : V.cell? ⟨w.heap.size, 5, none⟩ = some (.slice none 0 0) := HZ.out.res.cell 5
   have f5 := HZ.out.res.free 5
   have r6 : V.cell? ⟨w.heap.size, 6, none⟩ = some (.int .i64 0) := HZ.out.res.cell 6
   have f6 := HZ.out.res.free 6
   have r7 : V.cell? ⟨w.heap.size, 7, none⟩ = some (.int .i64 0) := HZ.out.res.cell 7
   have f7 := HZ.out.res.free 7
   have r8 : V.cell? ⟨w.heap.size, 8, none⟩ = some (.int .i64 0) := HZ.out.res.cell 8
   have f8 := HZ.out.res.free 8
   have r9 : V.cell? ⟨w.heap.size, 9, none⟩ = some (.int .i64 0) := HZ.out.res.cell 9
   have f9 := HZ.out.res.free 9
   have r10 : V.cell? ⟨w.heap.size, 10, none⟩ = some (.int .i64 0) := HZ.out.res.cell 10
   have f10 := HZ.out.res.free 10
   have r11 : V.cell? ⟨w.heap.size, 11, none⟩ = some (.int .i64 0) := HZ.out.res.cell 11
   have f11 := HZ.out.res.free 11
   have r12 : V.cell? ⟨w.heap.size, 12, none⟩ = some (.slice none 0 0) := HZ.out.res.cell 12
   have f12 := HZ.out.res.free 12
   go_wp2_with fail
   refine bodyPost_ret (v := .tuple #[.agg zeros.toArray, .bool false]) (results_recget 2 58 3 Try.results18 ⟨w.heap.size, 0, none⟩ rfl _ _ rfl (load_rec (store13 (Value.int .i64 0) (Value.int .i64 0) (Value.int .i64 0) (Value.int .i64 0) (Value.int .i64 0) (Value.slice none 0 0) (Value.int .i64 0) (Value.int .i64 0) (Value.int .i64 0) (Value.int .i64 0) (Value.int .i64 0) (Value.int .i64 0) (Value.slice none 0 0) HZ.out.res))) rfl (getSays_none HGT.out (get_to HG6.out HFB.out (frm13 _ _ _ _ _ _ _ _ _ _ _ _ _ _ _)).1)
  case true =>
   cases hm : may v.r
   case false =>
    have HGT := Lib.hid (show get bs = none from by unfold get; rw [HRD.out]; dsimp only; rw [he, hm]; rfl)
    clear he
    have r0 : V.cell? ⟨w.heap.size, 0, none⟩ = some (.int .i64 0) := HZ.out.res.cell 0
    have f0 := HZ.out.res.free 0
    have r1 : V.cell? ⟨w.heap.size, 1, none⟩ = some (.int .i64 0) := HZ.out.res.cell 1
    have f1 := HZ.out.res.free 1
    have r2 : V.cell? ⟨w.heap.size, 2, none⟩ = some (.int .i64 0) := HZ.out.res.cell 2
    have f2 := HZ.out.res.free 2
    have r3 : V.cell? ⟨w.heap.size, 3, none⟩ = some (.int .i64 0) := HZ.out.res.cell 3
    have f3 := HZ.out.res.free 3
    have r4 : V.cell? ⟨w.heap.size, 4, none⟩ = some (.int .i64 0) := HZ.out.res.cell 4
    have f4 := HZ.out.res.free 4
    have r5 : V.cell? ⟨w.heap.size, 5, none⟩ = some (.slice none 0 0) := HZ.out.res.cell 5
    have f5 := HZ.out.res.free 5
    have r6 : V.cell? ⟨w.heap.size, 6, none⟩ = some (.int .i64 0) := HZ.out.res.cell 6
    have f6 := HZ.out.res.free 6
    have r7 : V.cell? ⟨w.heap.size, 7, none⟩ = some (.int .i64 0) := HZ.out.res.cell 7
    have f7 := HZ.out.res.free 7
    have r8 : V.cell? ⟨w.heap.size, 8, none⟩ = some (.int .i64 0) := HZ.out.res.cell 8
    have f8 := HZ.out.res.free 8
    have r9 : V.cell? ⟨w.heap.size, 9, none⟩ = some (.int .i64 0) := HZ.out.res.cell 9
    have f9 := HZ.out.res.free 9
    have r10 : V.cell? ⟨w.heap.size, 10, none⟩ = some (.int .i64 0) := HZ.out.res.cell 10
    have f10 := HZ.out.res.free 10
    have r11 : V.cell? ⟨w.heap.size, 11, none⟩ = some (.int .i64 0) := HZ.out.res.cell 11
    have f11 := HZ.out.res.free 11
    have r12 : V.cell? ⟨w.heap.size, 12, none⟩ = some (.slice none 0 0) := HZ.out.res.cell 12
    have f12 := HZ.out.res.free 12
    go_wp2_with fail
    refine bodyPost_ret (v := .tuple #[.agg zeros.toArray, .bool false]) (results_recget 2 58 3 Try.results18 ⟨w.heap.size, 0, none⟩ rfl _ _ rfl (load_rec (store13 (Value.int .i64 0) (Value.int .i64 0) (Value.int .i64 0) (Value.int .i64 0) (Value.int .i64 0) (Value.slice none 0 0) (Value.int .i64 0) (Value.int .i64 0) (Value.int .i64 0) (Value.int .i64 0) (Value.int .i64 0) (Value.int .i64 0) (Value.slice none 0 0) HZ.out.res))) rfl (getSays_none HGT.out (get_to HG6.out HFB.out (frm13 _ _ _ _ _ _ _ _ _ _ _ _ _ _ _)).1)
   case true =>
    have HGT := Lib.hid (show get bs = some v.r from by unfold get; rw [HRD.out]; dsimp only; rw [he, hm]; rfl)
    clear he
    have r0 : V.cell? ⟨w.heap.size, 0, none⟩ = some (.int .i64 0) := HZ.out.res.cell 0
    have f0 := HZ.out.res.free 0
    have r1 : V.cell? ⟨w.heap.size, 1, none⟩ = some (.int .i64 0) := HZ.out.res.cell 1
    have f1 := HZ.out.res.free 1
    have r2 : V.cell? ⟨w.heap.size, 2, none⟩ = some (.int .i64 0) := HZ.out.res.cell 2
    have f2 := HZ.out.res.free 2
    have r3 : V.cell? ⟨w.heap.size, 3, none⟩ = some (.int .i64 0) := HZ.out.res.cell 3
    have f3 := HZ.out.res.free 3
    have r4 : V.cell? ⟨w.heap.size, 4, none⟩ = some (.int .i64 0) := HZ.out.res.cell 4
    have f4 := HZ.out.res.free 4
    have r5 : V.cell? ⟨w.heap.size, 5, none⟩ = some (.slice none 0 0) := HZ.out.res.cell 5
    have f5 := HZ.out.res.free 5
    have r6 : V.cell? ⟨w.heap.size, 6, none⟩ = some (.int .i64 0) := HZ.out.res.cell 6
    have f6 := HZ.out.res.free 6
    have r7 : V.cell? ⟨w.heap.size, 7, none⟩ = some (.int .i64 0) := HZ.out.res.cell 7
    have f7 := HZ.out.res.free 7
    have r8 : V.cell? ⟨w.heap.size, 8, none⟩ = some (.int .i64 0) := HZ.out.res.cell 8
    have f8 := HZ.out.res.free 8
    have r9 : V.cell? ⟨w.heap.size, 9, none⟩ = some (.int .i64 0) := HZ.out.res.cell 9
    have f9 := HZ.out.res.free 9
    have r10 : V.cell? ⟨w.heap.size, 10, none⟩ = some (.int .i64 0) := HZ.out.res.cell 10
    have f10 := HZ.out.res.free 10
    have r11 : V.cell? ⟨w.heap.size, 11, none⟩ = some (.int .i64 0) := HZ.out.res.cell 11
    have f11 := HZ.out.res.free 11
    have r12 : V.cell? ⟨w.heap.size, 12, none⟩ = some (.slice none 0 0) := HZ.out.res.cell 12
    have f12 := HZ.out.res.free 12
    have d0 := HDV.out.cell 0
    have d1 := HDV.out.cell 1
    have d2 := HDV.out.cell 2
    have d3 := HDV.out.cell 3
    have d4 := HDV.out.cell 4
    have d5 := HDV.out.cell 5
    have d6 := HDV.out.cell 6
    have d7 := HDV.out.cell 7
    have d8 := HDV.out.cell 8
    have d9 := HDV.out.cell 9
    have d10 := HDV.out.cell 10
    have d11 := HDV.out.cell 11
    have d12 := HDV.out.cell 12
    go_wp2_with fail
    refine bodyPost_ret (v := .tuple #[.agg #[.int .i64 3, .int .i64 0, .int .i64 0, .int .i64 0, .int .i64 0, .slice none 0 0, .int .i64 (y1), .int .i64 0, .int .i64 0, .int .i64 (y2 - 3), .int .i64 (y3), .int .i64 (y4 - 1), .slice At tx.length ct], .bool true]) (results_recget 2 58 3 Try.results18 ⟨w.heap.size, 0, none⟩ rfl _ _ rfl (load_rec (store13 (Value.int .i64 3) (Value.int .i64 0) (Value.int .i64 0) (Value.int .i64 0) (Value.int .i64 0) (Value.slice none 0 0) (Value.int .i64 (y1)) (Value.int .i64 0) (Value.int .i64 0) (Value.int .i64 (y2 - 3)) (Value.int .i64 (y3)) (Value.int .i64 (y4 - 1)) (Value.slice At tx.length ct) HZ.out.res))) rfl ?_
    rw [show (.agg #[.int .i64 3, .int .i64 0, .int .i64 0, .int .i64 0, .int .i64 0, .slice none 0 0, .int .i64 (y1), .int .i64 0, .int .i64 0, .int .i64 (y2 - 3), .int .i64 (y3), .int .i64 (y4 - 1), .slice At tx.length ct] : Value) = .agg v.cells.toArray from by rw [← HCL.out]]
    exact getSays_some HGT.out (get_to HG6.out HFB.out (frm13 _ _ _ _ _ _ _ _ _ _ _ _ _ _ _)).1 (HRX.out _ (get_to HG6.out HFB.out (frm13 _ _ _ _ _ _ _ _ _ _ _ _ _ _ _)).2)
 have k3b : (y0 == 3) = false := by simpa using k3
 by_cases k1 : y0 = 1
 case pos =>
  subst k1
  clear k2 k3
  go_upto_region 5 with fail
  clear c0 k2b k3b
  go_upto_region 6 with (go_at_call 28; go_must (refine (get_num w W1 _ HG1.out 1 _ rfl (by decide) (by decide)).mono ?_; rintro e V1 ⟨y1, st2, rfl, hq, hy1a, hy1b, hg, hf⟩; have HQ1 := Lib.hid hq; have HV1 := Lib.hid hg; have HE1 := Lib.hid (HD1.out.frm hf (by simp; omega)); rw [show ((256 ^ 1 : Nat) : Int) = 256 from rfl] at hy1b; have cD := HE1.out.cell 1; have fD := HE1.out.free 1; clear hq hg hf))
  obtain ⟨W2, hW⟩ : ∃ W', W' = V1.setCell ⟨D, 1, none⟩ (.int .i64 (y1 - 3)) := ⟨_, rfl⟩
  rw [← hW]
  have HWE := Lib.hid hW
  have HD2 := Lib.hid (show Cel W2 D 58 [.int .i64 1, .int .i64 (y1 - 3), .int .i64 0, .int .i64 0, .int .i64 0, .slice none 0 0, .int .i64 0, .int .i64 0, .int .i64 0, .int .i64 0, .int .i64 0, .int .i64 0, .slice none 0 0] from by rw [hW]; exact HE1.out.set 1 _)
  have HG2 := Lib.hid (show Gz w W2 st2 from by rw [hW]; exact HV1.out.set hDg _)
  clear hW cD fD
  go_upto_region 7 with (go_at_call 28; go_must (refine (get_num w W2 _ HG2.out 2 _ rfl (by decide) (by decide)).mono ?_; rintro e V2 ⟨y2, st3, rfl, hq, hy2a, hy2b, hg, hf⟩; have HQ2 := Lib.hid hq; have HV2 := Lib.hid hg; have HE2 := Lib.hid (HD2.out.frm hf (by simp; omega)); rw [show ((256 ^ 2 : Nat) : Int) = 65536 from rfl] at hy2b; have cD := HE2.out.cell 2; have fD := HE2.out.free 2; clear hq hg hf))
  obtain ⟨W3, hW⟩ : ∃ W', W' = V2.setCell ⟨D, 2, none⟩ (.int .i64 (y2)) := ⟨_, rfl⟩
  rw [← hW]
  have HWE := Lib.hid hW
  have HD3 := Lib.hid (show Cel W3 D 58 [.int .i64 1, .int .i64 (y1 - 3), .int .i64 (y2), .int .i64 0, .int .i64 0, .slice none 0 0, .int .i64 0, .int .i64 0, .int .i64 0, .int .i64 0, .int .i64 0, .int .i64 0, .slice none 0 0] from by rw [hW]; exact HE2.out.set 2 _)
  have HG3 := Lib.hid (show Gz w W3 st3 from by rw [hW]; exact HV2.out.set hDg _)
  clear hW cD fD
  go_upto_region 8 with (go_at_call 28; go_must (refine (get_num w W3 _ HG3.out 1 _ rfl (by decide) (by decide)).mono ?_; rintro e V3 ⟨y3, st4, rfl, hq, hy3a, hy3b, hg, hf⟩; have HQ3 := Lib.hid hq; have HV3 := Lib.hid hg; have HE3 := Lib.hid (HD3.out.frm hf (by simp; omega)); rw [show ((256 ^ 1 : Nat) : Int) = 256 from rfl] at hy3b; have cD := HE3.out.cell 3; have fD := HE3.out.free 3; clear hq hg hf))
  obtain ⟨W4, hW⟩ : ∃ W', W' = V3.setCell ⟨D, 3, none⟩ (.int .i64 (y3)) := ⟨_, rfl⟩
  rw [← hW]
  have HWE := Lib.hid hW
  have HD4 := Lib.hid (show Cel W4 D 58 [.int .i64 1, .int .i64 (y1 - 3), .int .i64 (y2), .int .i64 (y3), .int .i64 0, .slice none 0 0, .int .i64 0, .int .i64 0, .int .i64 0, .int .i64 0, .int .i64 0, .int .i64 0, .slice none 0 0] from by rw [hW]; exact HE3.out.set 3 _)
  have HG4 := Lib.hid (show Gz w W4 st4 from by rw [hW]; exact HV3.out.set hDg _)
  clear hW cD fD
  go_upto_region 9 with (go_at_call 28; go_must (refine (get_num w W4 _ HG4.out 4 _ rfl (by decide) (by decide)).mono ?_; rintro e V4 ⟨y4, st5, rfl, hq, hy4a, hy4b, hg, hf⟩; have HQ4 := Lib.hid hq; have HV4 := Lib.hid hg; have HE4 := Lib.hid (HD4.out.frm hf (by simp; omega)); rw [show ((256 ^ 4 : Nat) : Int) = 4294967296 from rfl] at hy4b; have cD := HE4.out.cell 4; have fD := HE4.out.free 4; clear hq hg hf))
  obtain ⟨W5, hW⟩ : ∃ W', W' = V4.setCell ⟨D, 4, none⟩ (.int .i64 (y4)) := ⟨_, rfl⟩
  rw [← hW]
  have HWE := Lib.hid hW
  have HD5 := Lib.hid (show Cel W5 D 58 [.int .i64 1, .int .i64 (y1 - 3), .int .i64 (y2), .int .i64 (y3), .int .i64 (y4), .slice none 0 0, .int .i64 0, .int .i64 0, .int .i64 0, .int .i64 0, .int .i64 0, .int .i64 0, .slice none 0 0] from by rw [hW]; exact HE4.out.set 4 _)
  have HG5 := Lib.hid (show Gz w W5 st5 from by rw [hW]; exact HV4.out.set hDg _)
  clear hW cD fD
  go_upto_region 10 with (go_at_call 28; go_must (refine (get_num w W5 _ HG5.out 1 _ rfl (by decide) (by decide)).mono ?_; rintro e V5 ⟨y5, st6, rfl, hq, hy5a, hy5b, hg, hf⟩; have HQ5 := Lib.hid hq; have HV5 := Lib.hid hg; have HE5 := Lib.hid (HD5.out.frm hf (by simp; omega)); rw [show ((256 ^ 1 : Nat) : Int) = 256 from rfl] at hy5b; clear hq hg hf))
  obtain ⟨N, rfl⟩ : ∃ N : Nat, y5 = (N : Int) := ⟨y5.toNat, by omega⟩
  obtain ⟨KB, hKB⟩ : ∃ KB, KB = V5.heap.size := ⟨_, rfl⟩
  have HKB := Lib.hid hKB
  have hDK : D < KB := by rw [hKB]; exact HE5.out.lt
  clear hKB
  have hN : N < 256 := by omega
  go_wp2_with fail
  go_loopw [7] (fun v7 wr => ∃ (i : Nat) (vs : List Vt) (Av : Option Addr) (cv : Nat) (s : St), i ≤ N ∧ v7 = .int .i64 (i : Int) ∧ vs.length = i ∧ Hid (Gz w wr s) ∧ Hid (Cel wr D 58 [.int .i64 1, .int .i64 (y1 - 3), .int .i64 (y2), .int .i64 (y3), .int .i64 (y4), .slice Av i cv, .int .i64 0, .int .i64 0, .int .i64 0, .int .i64 0, .int .i64 0, .int .i64 0, .slice none 0 0]) ∧ Hid (wr.ownsRow KB 29 1 (.slice Av i cv) i (vs.map Vt.cell)) ∧ Hid (Bys wr vs) ∧ Hid (rtexts N st6 = (txt vs ++ (rtexts (N - i) s).1, (rtexts (N - i) s).2)) ∧ Hid (KB ≤ wr.heap.size)) (fun v7 _ => N - (intOf v7).toNat)
  case atStart => exact ⟨0, [], none, 0, st6, Nat.zero_le _, rfl, rfl, HV5, HE5, Lib.hid (World.ownsRow_nil _ _ _ _), Lib.hid (by intro v hv; simp at hv), Lib.hid (by rfl), Lib.hid (Nat.le_of_eq HKB.out)⟩
  case round =>
   obtain ⟨i, vs, Av, cv, s, hi, rfl, hvl, HGR, HDR, HRR, HBR, HRT, HKR⟩ := hrel
   obtain ⟨W7, rfl⟩ : ∃ W, W = wr := ⟨_, rfl⟩
   have HVL := Lib.hid hvl
   clear hvl
   rcases Nat.lt_or_ge i N with hlt | hge
   ·go_wp2_with fail
    have HS : Hid (∀ V : World, Cel V D 58 [.int .i64 1, .int .i64 (y1 - 3), .int .i64 (y2), .int .i64 (y3), .int .i64 (y4), .slice Av i cv, .int .i64 0, .int .i64 0, .int .i64 0, .int .i64 0, .int .i64 0, .int .i64 0, .slice none 0 0] → V.cell? ⟨D, 5, none⟩ = some (.slice Av i cv)) := Lib.hid (fun V h => h.cell 5)
    have hH : W7.drew.cell? ⟨D, 5, none⟩ = some (.slice Av i cv) := HDR.out.cell 5
    refine Ord.wp_region_N [6, 9] (fun V => V.cell? ⟨D, 5, none⟩ = some (.slice Av i cv)) (by kernel_rfl) ?_
    refine tk_ 0 (.pointer (some ⟨D, 1, none⟩)) [1, 2, 6, 9] rfl hH ?_ ?_
    ·intro V hV; go_simp
    try simp only [Act.put, lay_]
    refine tk_ 1 (.pointer (some ⟨D, 5, none⟩)) [2, 6, 9] rfl hH ?_ ?_
    ·intro V hV; go_simp
    try simp only [Act.put, lay_]
    refine tk_ 2 (.slice Av i cv) [6, 9] rfl hH ?_ ?_
    ·intro V hV; go_simp
    try simp only [Act.put, lay_]
    refine tk_ 3 (.pointer (some ⟨w.heap.size + 1, 0, none⟩)) [4, 5, 6, 9] rfl hH ?_ ?_
    ·intro V hV; go_simp
    try simp only [Act.put, lay_]
    clear hH
    refine wpAnyN_one (i := 4) (by kernel_rfl) rfl (fun K hK => ?_)
    go_simp
    refine (get_text w W7.drew s HGR.out.drew).mono ?_
    rintro e V ⟨At, ct, tx, s', rfl, hq, htl, ho, hg, hf⟩
    go_wp2_with fail
    have HD8 := Lib.hid (Cel.frm (w := W7.drew) HDR.out hf (by simp; omega))
    refine hK.out _ _ (.inr (HS.out _ HD8.out)) ?_
    clear hK K
    try simp only [Act.put, lay_]
    have HG8 := Lib.hid hg
    have HT8 := Lib.hid (By.of_own ho)
    have HB8 := Lib.hid (Bys.frm (w := W7.drew) HBR.out hf (rm_no HGR.out.drew.rm))
    have HR8 := Lib.hid (own_frm (w := W7.drew) HRR.out hf (fun q hq e => by have := own_ge HRR.out q e; simp at hq; omega))
    have HX8 := Lib.hid (rtexts_step (t := []) HRT.out hlt hq)
    have HK8 := Lib.hid (show KB ≤ V.heap.size from Nat.le_trans HKR.out hf.size)
    clear hq ho hg hf
    obtain ⟨V9, hV9⟩ : ∃ V9, V9 = V.alloc (.cells #[.slice At tx.length ct] 29) := ⟨_, rfl⟩
    have hf9 : Frm [] V V9 := by rw [hV9]; exact (Frm.refl _ _).alloc _
    have hc9 : Cel V9 V.heap.size 29 [.slice At tx.length ct] := by rw [hV9]; exact Cel.new V _ _
    have HD9 := Lib.hid (HD8.out.frm hf9 (by simp))
    have HG9 := Lib.hid (HG8.out.frm hf9 (by simp))
    have HT9 := Lib.hid (by_frm HT8.out hf9 (by simp))
    have HB9 := Lib.hid (HB8.out.frm hf9 (by simp))
    have HR9 := Lib.hid (own_frm HR8.out hf9 (by simp))
    have HK9 := Lib.hid (Nat.le_trans HK8.out hf9.size)
    have HSRC := Lib.hid (Ry.src (m := 1) (Ry.of_cel hc9) (by simp))
    refine wpAnyN_one (i := 5) (by kernel_rfl) rfl (fun K hK => ?_)
    go_simp
    rw [← hV9]
    clear hV9 hf9 hc9
    refine hK.out _ _ (.inr (HS.out _ HD9.out)) ?_
    clear hK K
    try simp only [Act.put, lay_]
    refine wpAnyN_one (i := 6) (by kernel_rfl) rfl (fun K hK => ?_)
    rw [if_pos (by rfl)]
    refine wp_append_any _ _ _ 26 rfl KB 29 rowsW (.slice Av i cv) i (vs.map Vt.cell) rfl HR9.out (some ⟨V.heap.size, 0, none⟩) 1 1 [.slice At tx.length ct] rfl rfl HSRC.out (by intro u hu; simp at hu; subst hu; rfl) (i + 1) ((vs ++ [(⟨At, ct, tx⟩ : Vt)]).map Vt.cell) rfl (by rw [List.map_append]; rfl) (by unfold maxLen; omega) (by omega) HK9.out ?_
    intro A8 c8 w8 ho8 hg8 _
    have hne : ∀ q, (Value.slice Av i cv).ownBlock = some q → KB ≤ q := own_ge HR9.out
    have hfr : ∀ q, q < KB → q < V9.heap.size → w8.heap[q]? = V9.heap[q]? := fun q hq hl => hg8.block q hl (fun e => by have := hne q e.symm; omega)
    have HD10 := Lib.hid (show Cel w8 D 58 [.int .i64 1, .int .i64 (y1 - 3), .int .i64 (y2), .int .i64 (y3), .int .i64 (y4), .slice Av i cv, .int .i64 0, .int .i64 0, .int .i64 0, .int .i64 0, .int .i64 0, .int .i64 0, .slice none 0 0] from (hfr D hDK HD9.out.lt).trans HD9.out)
    have HB10 := Lib.hid (show Bys w8 (vs ++ [(⟨At, ct, tx⟩ : Vt)]) from by
     intro v hv
     rcases List.mem_append.1 hv with hv | hv
     ·exact ⟨(HB9.out v hv).1.grown hg8 (not_bytes HR9.out (by decide)), (HB9.out v hv).2⟩
     ·simp at hv
      subst hv
      exact ⟨HT9.out.grown hg8 (not_bytes HR9.out (by decide)), htl⟩)
    have HG10 := Lib.hid (show Gz w w8 s' from by
     have hb8 : Below (w.heap.size + 2) V9 w8 := ⟨hg8.os, hg8.tape, hg8.output, hg8.size, fun q hq => hfr q (by omega) (by have := HD9.out.lt; omega)⟩
     exact HG9.out.kept hb8 (by omega))
    have HR10 := Lib.hid ho8
    have HK10 := Lib.hid (Nat.le_trans HK9.out hg8.size)
    clear ho8 hg8 hne hfr
    refine hK.out _ _ (.inl (by decide)) ?_
    clear hK K
    try simp only [Act.put, lay_]
    refine wpAnyN_one (i := 7) (by kernel_rfl) rfl (fun K hK => ?_)
    go_simp
    refine hK.out _ _ (.inr (HS.out _ HD10.out)) ?_
    clear hK K
    try simp only [Act.put, lay_]
    refine wpAnyN_one (i := 8) (by kernel_rfl) rfl (fun K hK => ?_)
    go_simp
    refine hK.out _ _ (.inr (HS.out _ HD10.out)) ?_
    clear hK K
    try simp only [Act.put, lay_]
    have d5 := HD10.out.cell 5
    have f5 := HD10.out.free 5
    refine wpAnyN_one (i := 9) (by kernel_rfl) rfl (fun K hK => ?_)
    go_simp
    refine hK.out _ _ (.inl (by decide)) ?_
    clear hK K d5 f5
    try simp only [Act.put, lay_]
    refine wpAnyN_done (by kernel_rfl) ?_ _
    obtain ⟨W8, hW8⟩ : ∃ W8, W8 = w8.setCell ⟨D, 5, none⟩ (.slice A8 (i + 1) c8) := ⟨_, rfl⟩
    rw [← hW8]
    have hf8 : Frm [D] w8 W8 := by rw [hW8]; exact (Frm.refl _ _).set (by simp) _
    have HD11 := Lib.hid (show Cel W8 D 58 [.int .i64 1, .int .i64 (y1 - 3), .int .i64 (y2), .int .i64 (y3), .int .i64 (y4), .slice A8 (i + 1) c8, .int .i64 0, .int .i64 0, .int .i64 0, .int .i64 0, .int .i64 0, .int .i64 0, .slice none 0 0] from by rw [hW8]; exact HD10.out.set 5 _)
    have HG11 := Lib.hid (HG10.out.frm hf8 (by intro q hq; simp at hq; omega))
    have HB11 := Lib.hid (HB10.out.frm hf8 (cel_no HD10.out (by decide)))
    have HR11 := Lib.hid (own_frm HR10.out hf8 (fun q hq e => by have := own_ge HR10.out q e; simp at hq; omega))
    have HK11 := Lib.hid (Nat.le_trans HK10.out hf8.size)
    clear hW8 hf8
    go_wp2_with fail
    exact ⟨⟨i + 1, vs ++ [(⟨At, ct, tx⟩ : Vt)], A8, c8, s', by omega, by rw [show ((i + 1 : Nat) : Int) = (i : Int) + 1 by omega], by rw [List.length_append, HVL.out]; rfl, HG11, HD11, HR11, HB11, Lib.hid (by rw [HX8.out]; unfold txt; rw [List.map_append]; rfl), HK11⟩, by simp [intOf]; omega⟩
   ·obtain rfl : i = N := by omega
    have HG7 := HGR
    have HRS := Lib.hid (show rtexts i st6 = (txt vs, s) from by rw [HRT.out, Nat.sub_self]; unfold rtexts; rw [List.append_nil])
    have hvl := HVL.out
    subst hvl
    have HD7 := HDR
    obtain ⟨st7, hst⟩ : ∃ x, x = s := ⟨_, rfl⟩
    subst hst
    obtain ⟨v, hv⟩ : ∃ v : Rv, v = ⟨{ rc0 with kind := 1, s := ⟨y1 - 3, y2, y3, y4, txt vs⟩ }, Av, cv, vs, none, 0⟩ := ⟨_, rfl⟩
    have HRX := Lib.hid (show ∀ V', Frm [w.heap.size] W7 V' → Rok V' 0 v ∧ Trow V' 0 v.AL v.vs from by rw [hv]; exact fun V' hf => ⟨⟨rfl, tvs_of (own_frm HRR.out hf (fun q hq e => by have := own_ge HRR.out q e; simp at hq; omega)) (HBR.out.frm hf (cel_no HGR.out.res (by decide))), by show vs.length ≤ _; unfold maxLen; omega, .inl Bs.nil_, Nat.zero_le _⟩, trow_own (own_frm HRR.out hf (fun q hq e => by have := own_ge HRR.out q e; simp at hq; omega))⟩)
    have HRK := Lib.hid (HRX.out _ (Frm.refl _ _))
    have HRD := Lib.hid (show readRc bs = (v.r, st7) from by
     rw [hv]; unfold readRc; rw [HQ0.out]; dsimp only; unfold readK
     rw [if_pos rfl]; unfold readP; rw [HQ1.out]; dsimp only; rw [HQ2.out]; dsimp only; rw [HQ3.out]; dsimp only; rw [HQ4.out]; dsimp only; rw [HQ5.out]; dsimp only; rw [Int.toNat_natCast, HRS.out])
    have HCL := Lib.hid (show [.int .i64 1, .int .i64 (y1 - 3), .int .i64 (y2), .int .i64 (y3), .int .i64 (y4), .slice Av vs.length cv, .int .i64 0, .int .i64 0, .int .i64 0, .int .i64 0, .int .i64 0, .int .i64 0, .slice none 0 0] = v.cells from by rw [hv]; rfl)
    have HDD := HD7
    clear hv
    go_wp2_with fail
    refine (mEnd _ _ _ _ HG7.out.rm).mono ?_
    rintro e V ⟨rfl, rfl⟩
    have d0 := HDD.out.cell 0
    have d1 := HDD.out.cell 1
    have d2 := HDD.out.cell 2
    have d3 := HDD.out.cell 3
    have d4 := HDD.out.cell 4
    have d5 := HDD.out.cell 5
    have d6 := HDD.out.cell 6
    have d7 := HDD.out.cell 7
    have d8 := HDD.out.cell 8
    have d9 := HDD.out.cell 9
    have d10 := HDD.out.cell 10
    have d11 := HDD.out.cell 11
    have d12 := HDD.out.cell 12
    go_wp2_with fail
    have con := may_ W7 0 v HRK.out.1 (Nat.zero_le _)
    rw [← HCL.out] at con
    refine con.mono ?_
    clear con d0 d1 d2 d3 d4 d5 d6 d7 d8 d9 d10 d11 d12
    rintro e V ⟨rfl, hb⟩
    have HZ := Lib.hid (HG7.out.frm (l := []) (Frm.of_below hb) (by simp))
    have HDV := Lib.hid (HDD.out.below hb HDD.out.lt)
    have HFB := Lib.hid (Frm.of_below (l := []) hb)
    clear hb
    cases he : rend st7
    case false =>
     have HGT := Lib.hid (show get bs = none from by unfold get; rw [HRD.out]; dsimp only; rw [he]; rfl)
     clear he
     have r0 : V.cell? ⟨w.heap.size, 0, none⟩ = some (.int .i64 0) := HZ.out.res.cell 0
     have f0 := HZ.out.res.free 0
     have r1 : V.cell? ⟨w.heap.size, 1, none⟩ = some (.int .i64 0) := HZ.out.res.cell 1
     have f1 := HZ.out.res.free 1
     have r2 : V.cell? ⟨w.heap.size, 2, none⟩ = some (.int .i64 0) := HZ.out.res.cell 2
     have f2 := HZ.out.res.free 2
     have r3 : V.cell? ⟨w.heap.size, 3, none⟩ = some (.int .i64 0) := HZ.out.res.cell 3
     have f3 := HZ.out.res.free 3
     have r4 : V.cell? ⟨w.heap.size, 4, none⟩ = some (.int .i64 0) := HZ.out.res.cell 4
     have f4 := HZ.out.res.free 4
     have r5 : V.cell? ⟨w.heap.size, 5, none⟩ = some (.slice none 0 0) := HZ.out.res.cell 5
     have f5 := HZ.out.res.free 5
     have r6 : V.cell? ⟨w.heap.size, 6, none⟩ = some (.int .i64 0) := HZ.out.res.cell 6
     have f6 := HZ.out.res.free 6
     have r7 : V.cell? ⟨w.heap.size, 7, none⟩ = some (.int .i64 0) := HZ.out.res.cell 7
     have f7 := HZ.out.res.free 7
     have r8 : V.cell? ⟨w.heap.size, 8, none⟩ = some (.int .i64 0) := HZ.out.res.cell 8
     have f8 := HZ.out.res.free 8
     have r9 : V.cell? ⟨w.heap.size, 9, none⟩ = some (.int .i64 0) := HZ.out.res.cell 9
     have f9 := HZ.out.res.free 9
     have r10 : V.cell? ⟨w.heap.size, 10, none⟩ = some (.int .i64 0) := HZ.out.res.cell 10
     have f10 := HZ.out.res.free 10
     have r11 : V.cell? ⟨w.heap.size, 11, none⟩ = some (.int .i64 0) := HZ.out.res.cell 11
     have f11 := HZ.out.res.free 11
     have r12 : V.cell? ⟨w.heap.size, 12, none⟩ = some (.slice none 0 0) := HZ.out.res.cell 12
     have f12 := HZ.out.res.free 12
     go_wp2_with fail
     refine bodyPost_ret (v := .tuple #[.agg zeros.toArray, .bool false]) (results_recget 2 58 3 Try.results18 ⟨w.heap.size, 0, none⟩ rfl _ _ rfl (load_rec (store13 (Value.int .i64 0) (Value.int .i64 0) (Value.int .i64 0) (Value.int .i64 0) (Value.int .i64 0) (Value.slice none 0 0) (Value.int .i64 0) (Value.int .i64 0) (Value.int .i64 0) (Value.int .i64 0) (Value.int .i64 0) (Value.int .i64 0) (Value.slice none 0 0) HZ.out.res))) rfl (getSays_none HGT.out (get_to HG7.out HFB.out (frm13 _ _ _ _ _ _ _ _ _ _ _ _ _ _ _)).1)
    case true =>
     cases hm : may v.r
     case false =>
      have HGT := Lib.hid (show get bs = none from by unfold get; rw [HRD.out]; dsimp only; rw [he, hm]; rfl)
      clear he
      have r0 : V.cell? ⟨w.heap.size, 0, none⟩ = some (.int .i64 0) := HZ.out.res.cell 0
      have f0 := HZ.out.res.free 0
      have r1 : V.cell? ⟨w.heap.size, 1, none⟩ = some (.int .i64 0) := HZ.out.res.cell 1
      have f1 := HZ.out.res.free 1
      have r2 : V.cell? ⟨w.heap.size, 2, none⟩ = some (.int .i64 0) := HZ.out.res.cell 2
      have f2 := HZ.out.res.free 2
      have r3 : V.cell? ⟨w.heap.size, 3, none⟩ = some (.int .i64 0) := HZ.out.res.cell 3
      have f3 := HZ.out.res.free 3
      have r4 : V.cell? ⟨w.heap.size, 4, none⟩ = some (.int .i64 0) := HZ.out.res.cell 4
      have f4 := HZ.out.res.free 4
      have r5 : V.cell? ⟨w.heap.size, 5, none⟩ = some (.slice none 0 0) := HZ.out.res.cell 5
      have f5 := HZ.out.res.free 5
      have r6 : V.cell? ⟨w.heap.size, 6, none⟩ = some (.int .i64 0) := HZ.out.res.cell 6
      have f6 := HZ.out.res.free 6
      have r7 : V.cell? ⟨w.heap.size, 7, none⟩ = some (.int .i64 0) := HZ.out.res.cell 7
      have f7 := HZ.out.res.free 7
      have r8 : V.cell? ⟨w.heap.size, 8, none⟩ = some (.int .i64 0) := HZ.out.res.cell 8
      have f8 := HZ.out.res.free 8
      have r9 : V.cell? ⟨w.heap.size, 9, none⟩ = some (.int .i64 0) := HZ.out.res.cell 9
      have f9 := HZ.out.res.free 9
      have r10 : V.cell? ⟨w.heap.size, 10, none⟩ = some (.int .i64 0) := HZ.out.res.cell 10
      have f10 := HZ.out.res.free 10
      have r11 : V.cell? ⟨w.heap.size, 11, none⟩ = some (.int .i64 0) := HZ.out.res.cell 11
      have f11 := HZ.out.res.free 11
      have r12 : V.cell? ⟨w.heap.size, 12, none⟩ = some (.slice none 0 0) := HZ.out.res.cell 12
      have f12 := HZ.out.res.free 12
      go_wp2_with fail
      refine bodyPost_ret (v := .tuple #[.agg zeros.toArray, .bool false]) (results_recget 2 58 3 Try.results18 ⟨w.heap.size, 0, none⟩ rfl _ _ rfl (load_rec (store13 (Value.int .i64 0) (Value.int .i64 0) (Value.int .i64 0) (Value.int .i64 0) (Value.int .i64 0) (Value.slice none 0 0) (Value.int .i64 0) (Value.int .i64 0) (Value.int .i64 0) (Value.int .i64 0) (Value.int .i64 0) (Value.int .i64 0) (Value.slice none 0 0) HZ.out.res))) rfl (getSays_none HGT.out (get_to HG7.out HFB.out (frm13 _ _ _ _ _ _ _ _ _ _ _ _ _ _ _)).1)
     case true =>
      have HGT := Lib.hid (show get bs = some v.r from by unfold get; rw [HRD.out]; dsimp only; rw [he, hm]; rfl)
      clear he
      have r0 : V.cell? ⟨w.heap.size, 0, none⟩ = some (.int .i64 0) := HZ.out.res.cell 0
      have f0 := HZ.out.res.free 0
      have r1 : V.cell? ⟨w.heap.size, 1, none⟩ = some (.int .i64 0) := HZ.out.res.cell 1
      have f1 := HZ.out.res.free 1
      have r2 : V.cell? ⟨w.heap.size, 2, none⟩ = some (.int .i64 0) := HZ.out.res.cell 2
      have f2 := HZ.out.res.free 2
      have r3 : V.cell? ⟨w.heap.size, 3, none⟩ = some (.int .i64 0) := HZ.out.res.cell 3
      have f3 := HZ.out.res.free 3
      have r4 : V.cell? ⟨w.heap.size, 4, none⟩ = some (.int .i64 0) := HZ.out.res.cell 4
      have f4 := HZ.out.res.free 4
      have r5 : V.cell? ⟨w.heap.size, 5, none⟩ = some (.slice none 0 0) := HZ.out.res.cell 5
      have f5 := HZ.out.res.free 5
      have r6 : V.cell? ⟨w.heap.size, 6, none⟩ = some (.int .i64 0) := HZ.out.res.cell 6
      have f6 := HZ.out.res.free 6
      have r7 : V.cell? ⟨w.heap.size, 7, none⟩ = some (.int .i64 0) := HZ.out.res.cell 7
      have f7 := HZ.out.res.free 7
      have r8 : V.cell? ⟨w.heap.size, 8, none⟩ = some (.int .i64 0) := HZ.out.res.cell 8
      have f8 := HZ.out.res.free 8
      have r9 : V.cell? ⟨w.heap.size, 9, none⟩ = some (.int .i64 0) := HZ.out.res.cell 9
      have f9 := HZ.out.res.free 9
      have r10 : V.cell? ⟨w.heap.size, 10, none⟩ = some (.int .i64 0) := HZ.out.res.cell 10
      have f10 := HZ.out.res.free 10
      have r11 : V.cell? ⟨w.heap.size, 11, none⟩ = some (.int .i64 0) := HZ.out.res.cell 11
      have f11 := HZ.out.res.free 11
      have r12 : V.cell? ⟨w.heap.size, 12, none⟩ = some (.slice none 0 0) := HZ.out.res.cell 12
      have f12 := HZ.out.res.free 12
      have d0 := HDV.out.cell 0
      have d1 := HDV.out.cell 1
      have d2 := HDV.out.cell 2
      have d3 := HDV.out.cell 3
      have d4 := HDV.out.cell 4
      have d5 := HDV.out.cell 5
      have d6 := HDV.out.cell 6
      have d7 := HDV.out.cell 7
      have d8 := HDV.out.cell 8
      have d9 := HDV.out.cell 9
      have d10 := HDV.out.cell 10
      have d11 := HDV.out.cell 11
      have d12 := HDV.out.cell 12
      go_wp2_with fail
      refine bodyPost_ret (v := .tuple #[.agg #[.int .i64 1, .int .i64 (y1 - 3), .int .i64 (y2), .int .i64 (y3), .int .i64 (y4), .slice Av vs.length cv, .int .i64 0, .int .i64 0, .int .i64 0, .int .i64 0, .int .i64 0, .int .i64 0, .slice none 0 0], .bool true]) (results_recget 2 58 3 Try.results18 ⟨w.heap.size, 0, none⟩ rfl _ _ rfl (load_rec (store13 (Value.int .i64 1) (Value.int .i64 (y1 - 3)) (Value.int .i64 (y2)) (Value.int .i64 (y3)) (Value.int .i64 (y4)) (Value.slice Av vs.length cv) (Value.int .i64 0) (Value.int .i64 0) (Value.int .i64 0) (Value.int .i64 0) (Value.int .i64 0) (Value.int .i64 0) (Value.slice none 0 0) HZ.out.res))) rfl ?_
      rw [show (.agg #[.int .i64 1, .int .i64 (y1 - 3), .int .i64 (y2), .int .i64 (y3), .int .i64 (y4), .slice Av vs.length cv, .int .i64 0, .int .i64 0, .int .i64 0, .int .i64 0, .int .i64 0, .int .i64 0, .slice none 0 0] : Value) = .agg v.cells.toArray from by rw [← HCL.out]]
      exact getSays_some HGT.out (get_to HG7.out HFB.out (frm13 _ _ _ _ _ _ _ _ _ _ _ _ _ _ _)).1 (HRX.out _ (get_to HG7.out HFB.out (frm13 _ _ _ _ _ _ _ _ _ _ _ _ _ _ _)).2)
 have k1b : (y0 == 1) = false := by simpa using k1
 have HK := Lib.hid (And.intro k1 (And.intro k2 k3))
 clear k1 k2 k3
 go_upto_region 24 with fail
 clear c0
 obtain ⟨v, hv⟩ : ∃ v : Rv, v = ⟨{ rc0 with kind := y0 }, none, 0, [], none, 0⟩ := ⟨_, rfl⟩
 have HRX := Lib.hid (show ∀ V', Frm [w.heap.size] W1 V' → Rok V' 0 v ∧ Trow V' 0 v.AL v.vs from by rw [hv]; exact fun V' _ => ⟨rok_nil rfl rfl, trow_nil⟩)
 have HRK := Lib.hid (HRX.out _ (Frm.refl _ _))
 have HRD := Lib.hid (show readRc bs = (v.r, st1) from by
  rw [hv]; unfold readRc; rw [HQ0.out]; dsimp only; unfold readK
  rw [if_neg HK.out.1, if_neg HK.out.2.1, if_neg HK.out.2.2])
 have HCL := Lib.hid (show [.int .i64 y0, .int .i64 0, .int .i64 0, .int .i64 0, .int .i64 0, .slice none 0 0, .int .i64 0, .int .i64 0, .int .i64 0, .int .i64 0, .int .i64 0, .int .i64 0, .slice none 0 0] = v.cells from by rw [hv]; rfl)
 have HDD := HD1
 clear hv
 go_wp2_with fail
 refine (mEnd _ _ _ _ HG1.out.rm).mono ?_
 rintro e V ⟨rfl, rfl⟩
 have d0 := HDD.out.cell 0
 have d1 := HDD.out.cell 1
 have d2 := HDD.out.cell 2
 have d3 := HDD.out.cell 3
 have d4 := HDD.out.cell 4
 have d5 := HDD.out.cell 5
 have d6 := HDD.out.cell 6
 have d7 := HDD.out.cell 7
 have d8 := HDD.out.cell 8
 have d9 := HDD.out.cell 9
 have d10 := HDD.out.cell 10
 have d11 := HDD.out.cell 11
 have d12 := HDD.out.cell 12
 go_wp2_with fail
 have con := may_ W1 0 v HRK.out.1 (Nat.zero_le _)
 rw [← HCL.out] at con
 refine con.mono ?_
 clear con d0 d1 d2 d3 d4 d5 d6 d7 d8 d9 d10 d11 d12
 rintro e V ⟨rfl, hb⟩
 have HZ := Lib.hid (HG1.out.frm (l := []) (Frm.of_below hb) (by simp))
 have HDV := Lib.hid (HDD.out.below hb HDD.out.lt)
 have HFB := Lib.hid (Frm.of_below (l := []) hb)
 clear hb
 cases he : rend st1
 case false =>
  have HGT := Lib.hid (show get bs = none from by unfold get; rw [HRD.out]; dsimp only; rw [he]; rfl)
  clear he
  have r0 : V.cell? ⟨w.heap.size, 0, none⟩ = some (.int .i64 0) := HZ.out.res.cell 0
  have f0 := HZ.out.res.free 0
  have r1 : V.cell? ⟨w.heap.size, 1, none⟩ = some (.int .i64 0) := HZ.out.res.cell 1
  have f1 := HZ.out.res.free 1
  have r2 : V.cell? ⟨w.heap.size, 2, none⟩ = some (.int .i64 0) := HZ.out.res.cell 2
  have f2 := HZ.out.res.free 2
  have r3 : V.cell? ⟨w.heap.size, 3, none⟩ = some (.int .i64 0) := HZ.out.res.cell 3
  have f3 := HZ.out.res.free 3
  have r4 : V.cell? ⟨w.heap.size, 4, none⟩ = some (.int .i64 0) := HZ.out.res.cell 4
  have f4 := HZ.out.res.free 4
  have r5 : V.cell? ⟨w.heap.size, 5, none⟩ = some (.slice none 0 0) := HZ.out.res.cell 5
  have f5 := HZ.out.res.free 5
  have r6 : V.cell? ⟨w.heap.size, 6, none⟩ = some (.int .i64 0) := HZ.out.res.cell 6
  have f6 := HZ.out.res.free 6
  have r7 : V.cell? ⟨w.heap.size, 7, none⟩ = some (.int .i64 0) := HZ.out.res.cell 7
  have f7 := HZ.out.res.free 7
  have r8 : V.cell? ⟨w.heap.size, 8, none⟩ = some (.int .i64 0) := HZ.out.res.cell 8
  have f8 := HZ.out.res.free 8
  have r9 : V.cell? ⟨w.heap.size, 9, none⟩ = some (.int .i64 0) := HZ.out.res.cell 9
  have f9 := HZ.out.res.free 9
  have r10 : V.cell? ⟨w.heap.size, 10, none⟩ = some (.int .i64 0) := HZ.out.res.cell 10
  have f10 := HZ.out.res.free 10
  have r11 : V.cell? ⟨w.heap.size, 11, none⟩ = some (.int .i64 0) := HZ.out.res.cell 11
  have f11 := HZ.out.res.free 11
  have r12 : V.cell? ⟨w.heap.size, 12, none⟩ = some (.slice none 0 0) := HZ.out.res.cell 12
  have f12 := HZ.out.res.free 12
  go_wp2_with fail
  refine bodyPost_ret (v := .tuple #[.agg zeros.toArray, .bool false]) (results_recget 2 58 3 Try.results18 ⟨w.heap.size, 0, none⟩ rfl _ _ rfl (load_rec (store13 (Value.int .i64 0) (Value.int .i64 0) (Value.int .i64 0) (Value.int .i64 0) (Value.int .i64 0) (Value.slice none 0 0) (Value.int .i64 0) (Value.int .i64 0) (Value.int .i64 0) (Value.int .i64 0) (Value.int .i64 0) (Value.int .i64 0) (Value.slice none 0 0) HZ.out.res))) rfl (getSays_none HGT.out (get_to HG1.out HFB.out (frm13 _ _ _ _ _ _ _ _ _ _ _ _ _ _ _)).1)
 case true =>
  cases hm : may v.r
  case false =>
   have HGT := Lib.hid (show get bs = none from by unfold get; rw [HRD.out]; dsimp only; rw [he, hm]; rfl)
   clear he
   have r0 : V.cell? ⟨w.heap.size, 0, none⟩ = some (.int .i64 0) := HZ.out.res.cell 0
   have f0 := HZ.out.res.free 0
   have r1 : V.cell? ⟨w.heap.size, 1, none⟩ = some (.int .i64 0) := HZ.out.res.cell 1
   have f1 := HZ.out.res.free 1
   have r2 : V.cell? ⟨w.heap.size, 2, none⟩ = some (.int .i64 0) := HZ.out.res.cell 2
   have f2 := HZ.out.res.free 2
   have r3 : V.cell? ⟨w.heap.size, 3, none⟩ = some (.int .i64 0) := HZ.out.res.cell 3
   have f3 := HZ.out.res.free 3
   have r4 : V.cell? ⟨w.heap.size, 4, none⟩ = some (.int .i64 0) := HZ.out.res.cell 4
   have f4 := HZ.out.res.free 4
   have r5 : V.cell? ⟨w.heap.size, 5, none⟩ = some (.slice none 0 0) := HZ.out.res.cell 5
   have f5 := HZ.out.res.free 5
   have r6 : V.cell? ⟨w.heap.size, 6, none⟩ = some (.int .i64 0) := HZ.out.res.cell 6
   have f6 := HZ.out.res.free 6
   have r7 : V.cell? ⟨w.heap.size, 7, none⟩ = some (.int .i64 0) := HZ.out.res.cell 7
   have f7 := HZ.out.res.free 7
   have r8 : V.cell? ⟨w.heap.size, 8, none⟩ = some (.int .i64 0) := HZ.out.res.cell 8
   have f8 := HZ.out.res.free 8
   have r9 : V.cell? ⟨w.heap.size, 9, none⟩ = some (.int .i64 0) := HZ.out.res.cell 9
   have f9 := HZ.out.res.free 9
   have r10 : V.cell? ⟨w.heap.size, 10, none⟩ = some (.int .i64 0) := HZ.out.res.cell 10
   have f10 := HZ.out.res.free 10
   have r11 : V.cell? ⟨w.heap.size, 11, none⟩ = some (.int .i64 0) := HZ.out.res.cell 11
   have f11 := HZ.out.res.free 11
   have r12 : V.cell? ⟨w.heap.size, 12, none⟩ = some (.slice none 0 0) := HZ.out.res.cell 12
   have f12 := HZ.out.res.free 12
   go_wp2_with fail
   refine bodyPost_ret (v := .tuple #[.agg zeros.toArray, .bool false]) (results_recget 2 58 3 Try.results18 ⟨w.heap.size, 0, none⟩ rfl _ _ rfl (load_rec (store13 (Value.int .i64 0) (Value.int .i64 0) (Value.int .i64 0) (Value.int .i64 0) (Value.int .i64 0) (Value.slice none 0 0) (Value.int .i64 0) (Value.int .i64 0) (Value.int .i64 0) (Value.int .i64 0) (Value.int .i64 0) (Value.int .i64 0) (Value.slice none 0 0) HZ.out.res))) rfl (getSays_none HGT.out (get_to HG1.out HFB.out (frm13 _ _ _ _ _ _ _ _ _ _ _ _ _ _ _)).1)
  case true =>
   have HGT := Lib.hid (show get bs = some v.r from by unfold get; rw [HRD.out]; dsimp only; rw [he, hm]; rfl)
   clear he
   have r0 : V.cell? ⟨w.heap.size, 0, none⟩ = some (.int .i64 0) := HZ.out.res.cell 0
   have f0 := HZ.out.res.free 0
   have r1 : V.cell? ⟨w.heap.size, 1, none⟩ = some (.int .i64 0) := HZ.out.res.cell 1
   have f1 := HZ.out.res.free 1
   have r2 : V.cell? ⟨w.heap.size, 2, none⟩ = some (.int .i64 0) := HZ.out.res.cell 2
   have f2 := HZ.out.res.free 2
   have r3 : V.cell? ⟨w.heap.size, 3, none⟩ = some (.int .i64 0) := HZ.out.res.cell 3
   have f3 := HZ.out.res.free 3
   have r4 : V.cell? ⟨w.heap.size, 4, none⟩ = some (.int .i64 0) := HZ.out.res.cell 4
   have f4 := HZ.out.res.free 4
   have r5 : V.cell? ⟨w.heap.size, 5, none⟩ = some (.slice none 0 0) := HZ.out.res.cell 5
   have f5 := HZ.out.res.free 5
   have r6 : V.cell? ⟨w.heap.size, 6, none⟩ = some (.int .i64 0) := HZ.out.res.cell 6
   have f6 := HZ.out.res.free 6
   have r7 : V.cell? ⟨w.heap.size, 7, none⟩ = some (.int .i64 0) := HZ.out.res.cell 7
   have f7 := HZ.out.res.free 7
   have r8 : V.cell? ⟨w.heap.size, 8, none⟩ = some (.int .i64 0) := HZ.out.res.cell 8
   have f8 := HZ.out.res.free 8
   have r9 : V.cell? ⟨w.heap.size, 9, none⟩ = some (.int .i64 0) := HZ.out.res.cell 9
   have f9 := HZ.out.res.free 9
   have r10 : V.cell? ⟨w.heap.size, 10, none⟩ = some (.int .i64 0) := HZ.out.res.cell 10
   have f10 := HZ.out.res.free 10
   have r11 : V.cell? ⟨w.heap.size, 11, none⟩ = some (.int .i64 0) := HZ.out.res.cell 11
   have f11 := HZ.out.res.free 11
   have r12 : V.cell? ⟨w.heap.size, 12, none⟩ = some (.slice none 0 0) := HZ.out.res.cell 12
   have f12 := HZ.out.res.free 12
   have d0 := HDV.out.cell 0
   have d1 := HDV.out.cell 1
   have d2 := HDV.out.cell 2
   have d3 := HDV.out.cell 3
   have d4 := HDV.out.cell 4
   have d5 := HDV.out.cell 5
   have d6 := HDV.out.cell 6
   have d7 := HDV.out.cell 7
   have d8 := HDV.out.cell 8
   have d9 := HDV.out.cell 9
   have d10 := HDV.out.cell 10
   have d11 := HDV.out.cell 11
   have d12 := HDV.out.cell 12
   go_wp2_with fail
   refine bodyPost_ret (v := .tuple #[.agg #[.int .i64 y0, .int .i64 0, .int .i64 0, .int .i64 0, .int .i64 0, .slice none 0 0, .int .i64 0, .int .i64 0, .int .i64 0, .int .i64 0, .int .i64 0, .int .i64 0, .slice none 0 0], .bool true]) (results_recget 2 58 3 Try.results18 ⟨w.heap.size, 0, none⟩ rfl _ _ rfl (load_rec (store13 (Value.int .i64 y0) (Value.int .i64 0) (Value.int .i64 0) (Value.int .i64 0) (Value.int .i64 0) (Value.slice none 0 0) (Value.int .i64 0) (Value.int .i64 0) (Value.int .i64 0) (Value.int .i64 0) (Value.int .i64 0) (Value.int .i64 0) (Value.slice none 0 0) HZ.out.res))) rfl ?_
   rw [show (.agg #[.int .i64 y0, .int .i64 0, .int .i64 0, .int .i64 0, .int .i64 0, .slice none 0 0, .int .i64 0, .int .i64 0, .int .i64 0, .int .i64 0, .int .i64 0, .int .i64 0, .slice none 0 0] : Value) = .agg v.cells.toArray from by rw [← HCL.out]]
   exact getSays_some HGT.out (get_to HG1.out HFB.out (frm13 _ _ _ _ _ _ _ _ _ _ _ _ _ _ _)).1 (HRX.out _ (get_to HG1.out HFB.out (frm13 _ _ _ _ _ _ _ _ _ _ _ _ _ _ _)).2)
end Go.Proofs.Ytfmkkklcgiaacaa.Rec
