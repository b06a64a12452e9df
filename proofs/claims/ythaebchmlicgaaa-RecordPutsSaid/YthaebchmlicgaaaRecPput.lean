/-
  The program's records (layer 15): Put. (Written by gen_recpput.py.)
-/
import Derived.Test.YthaebchmlicgaaaRecWriter
namespace Go.Proofs.Ythaebchmlicgaaa.Rec
open Go.RowKit
open Go.Proofs.Ythaebchmlicgaaa.Lex (Tx Owb rowB lit_one)
open Go.Proofs.Ythaebchmlicgaaa.Pack (num text Own)
set_option linter.unusedVariables false
set_option linter.unusedSimpArgs false

theorem Wst.below {w w' : World} {B J : Nat} {bs : List B8} (h : Wst w B J bs) (hb : Below w.heap.size w w') : Wst w' B J bs := by
  obtain ⟨A, c, h1, h2⟩ := h
  exact ⟨A, c, h1.below hb h1.lt, h2.below hb⟩
theorem WrSays.of {B J : Nat} {bs : List B8} {w V w' : World} {e : Ending} (h : WrSays V B J bs e w') (hb : Below w.heap.size w V) : WrSays w B J bs e w' := ⟨h.1, h.2.1, (Wkp.of_below hb).trans h.2.2⟩
/-- The writer's passes so far. -/
structure Wrt (w : World) (B J : Nat) (bs : List B8) (W : World) : Prop where
  st : Wst W B J bs
  kp : Wkp B J w W
theorem wr_step {w W W' : World} {F rb R B J T : Nat} {ls : List Value} {bs bs' : List B8} {e : Ending} (hF : Fld W F R J T) (hrb : Cel W rb 1 ls) (h : Wrt w B J bs W) (hs : WrSays W B J bs' e W') :
    e = .returned (.tuple #[]) ∧ Wrt w B J bs' W' ∧ W'.heap[F]? = W.heap[F]? ∧ W'.heap[rb]? = W.heap[rb]? := by
  obtain ⟨rfl, h1, h2⟩ := hs
  obtain ⟨A, c, h3, _⟩ := h.st
  exact ⟨rfl, ⟨h1, h.kp.trans h2⟩, h2.block F (Cel.lt hF) (Cel.ne hF h3 (by decide)) (.inr (Cel.not_ty hF (by decide))), h2.block rb hrb.lt (hrb.ne h3 (by decide)) (.inr (hrb.not_ty (by decide)))⟩
section
variable {w W V : World} {B J R k : Nat} {cs : List Value} {bs : List B8}
theorem Wrt.num (h : Wrt w B J bs W) (hB : B ≤ w.heap.size) (hR : Cel w R 27 cs) (hne : R ≠ J) {x a b d : Int} {s : Nat} (hk : cs[k]? = some (.int .i64 x)) (hs1 : 1 ≤ s) (hs8 : s ≤ 8) (hx0 : 0 ≤ x + d) (hx1 : x + d < 9223372036854775808) (hl : bs.length ≤ 100000) (hb : Below W.heap.size W V) :
    Calls Try.prog 68 #[pp J 0, pp R k, spn a b d (s : Int)] V (WrSays W B J (bs ++ num s (n64 (x + d)))) := by
  have hr := (h.kp.cel hR hne (by decide)).below hb (h.kp.cel hR hne (by decide)).lt
  exact (w_number V (h.st.below hb) (Nat.le_trans hB (Nat.le_trans h.kp.size hb.size)) hr hk (by decide) hne hs1 hs8 hx0 hx1 hl).mono fun e V' hs => hs.of hb
theorem Wrt.text (h : Wrt w B J bs W) (hB : B ≤ w.heap.size) (hR : Cel w R 27 cs) (hne : R ≠ J) {A : Option Addr} {n c : Nat} {tx : List B8} (hk : cs[k]? = some (.slice A n c)) (hbs : ∀ V, Below B w V → Bs V V.heap.size A n tx) (hBJ : B ≤ J) (hn : n ≤ 65535) (hl : bs.length ≤ 100000) (hb : Below W.heap.size W V) :
    Calls Try.prog 69 #[pp J 0, pp R k] V (WrSays W B J (bs ++ Pack.text tx)) := by
  have hr := (h.kp.cel hR hne (by decide)).below hb (h.kp.cel hR hne (by decide)).lt
  exact (w_text V (h.st.below hb) (Nat.le_trans hB (Nat.le_trans h.kp.size hb.size)) hr hk (hbs V ((h.kp.below hB hBJ).trans (hb.mono (Nat.le_trans hB h.kp.size)))) hn hl).mono fun e V' hs => hs.of hb
theorem Wrt.texts (h : Wrt w B J bs W) (hB : B ≤ w.heap.size) (hR : Cel w R 27 cs) (hne : R ≠ J) {A : Option Addr} {n c K : Nat} {vs : List Vt} (hk : cs[k]? = some (.slice A n c)) (hT : ∀ V, Below B w V → Tvs V K A vs) (hBJ : B ≤ J) (hKB : K ≤ B) (hv : vs.length = n) (hn : n ≤ 8) (hx : ∀ v ∈ vs, v.t.length ≤ 100) (hl : bs.length ≤ 90000) (hb : Below W.heap.size W V) :
    Calls Try.prog 70 #[pp J 0, pp R k] V (WrSays W B J (bs ++ Pack.num 1 (n64 (n : Int)) ++ (txt vs).flatMap Pack.text)) := by
  have hr := (h.kp.cel hR hne (by decide)).below hb (h.kp.cel hR hne (by decide)).lt
  have hwv : Below B w V := (h.kp.below hB hBJ).trans (hb.mono (Nat.le_trans hB h.kp.size))
  exact (w_texts V (h.st.below hb) (Nat.le_trans hB (Nat.le_trans h.kp.size hb.size)) hBJ hr hk (by decide) hne (fun V' hb' => hT V' (hwv.trans hb')) hKB hv hn hx hl).mono fun e V' hs => hs.of hb
end
def wB1 (bs : List B8) (k1 k2 k3 k4 vi st tr dst of va : Int) (vs : List Vt) (vl : List B8) : Nat → List B8
  | 0 => bs
  | 1 => bs ++ num 1 (n64 (k1 + 3))
  | 2 => bs ++ num 1 (n64 (k1 + 3)) ++ num 2 (n64 (k2 + 0))
  | 3 => bs ++ num 1 (n64 (k1 + 3)) ++ num 2 (n64 (k2 + 0)) ++ num 1 (n64 (k3 + 0))
  | 4 => bs ++ num 1 (n64 (k1 + 3)) ++ num 2 (n64 (k2 + 0)) ++ num 1 (n64 (k3 + 0)) ++ num 4 (n64 (k4 + 0))
  | _ => bs ++ num 1 (n64 (k1 + 3)) ++ num 2 (n64 (k2 + 0)) ++ num 1 (n64 (k3 + 0)) ++ num 4 (n64 (k4 + 0)) ++ num 1 (n64 (vs.length : Int)) ++ (txt vs).flatMap text
set_option maxHeartbeats 1000000 in
theorem write1 (w : World) {B J R K : Nat} {bs : List B8} {k1 k2 k3 k4 vi st tr dst of va : Int} {AL AV : Option Addr} {cL cV : Nat} {vs : List Vt} {vl : List B8} (hm : may ⟨1, ⟨k1, k2, k3, k4, txt vs⟩, vi, st, tr, dst, of, va, vl⟩ = true) (hbs : bs.length ≤ 10) (hB : B ≤ w.heap.size) (hBJ : B ≤ J) (hKB : K ≤ B) (h0 : Wst w B J bs) (hR : Cel w R 27 [.int .i64 1, .int .i64 k1, .int .i64 k2, .int .i64 k3, .int .i64 k4, .slice AL vs.length cL, .int .i64 vi, .int .i64 st, .int .i64 tr, .int .i64 dst, .int .i64 of, .int .i64 va, .slice AV vl.length cV]) (hT : ∀ V, Below B w V → Tvs V K AL vs) (hV : ∀ V, Below B w V → Bs V V.heap.size AV vl.length vl) :
    Calls Try.prog 16 #[pp R 0, .iface 43 (pp J 0)] w fun e W => e = .returned (.tuple #[]) ∧ Wrt w B J (bs ++ num 1 (n64 (k1 + 3)) ++ num 2 (n64 (k2 + 0)) ++ num 1 (n64 (k3 + 0)) ++ num 4 (n64 (k4 + 0)) ++ num 1 (n64 (vs.length : Int)) ++ (txt vs).flatMap text) W := by
  have hne : R ≠ J := by
    obtain ⟨A, c, h1, _⟩ := h0
    exact hR.ne h1 (by decide)
  obtain ⟨_, hk1, hk2, hk3, hk4, hx, hn⟩ := may1 hm rfl
  dsimp only at *
  refine each_ w hR rfl (fun i W => Wrt w B J (wB1 bs k1 k2 k3 k4 vi st tr dst of va vs vl i) W) (fun W hb => ⟨h0.below hb, Wkp.of_below hb⟩) ?_
  intro F rb W i kf hFB hrB hi hF hrb h
  have hc : i = 0 ∨ i = 1 ∨ i = 2 ∨ i = 3 ∨ i = 4 ∨ 5 ≤ i := by omega
  rcases hc with rfl | rfl | rfl | rfl | rfl | hc
  · obtain rfl : 38 = kf := by injection hi
    exact (f_stateStep W hF (wm_number J) (fun e V hs => hs.1) (fun V hb => h.num hB hR hne (k := 1) (s := 1) rfl (by decide) (by decide) (by omega) (by omega) (by simp only [wB1, List.length_append, Pack.num_length]; omega) hb)).mono fun e V hs => wr_step hF hrb h hs
  · obtain rfl : 39 = kf := by injection hi
    exact (f_stateVisit W hF (wm_number J) (fun e V hs => hs.1) (fun V hb => h.num hB hR hne (k := 2) (s := 2) rfl (by decide) (by decide) (by omega) (by omega) (by simp only [wB1, List.length_append, Pack.num_length]; omega) hb)).mono fun e V hs => wr_step hF hrb h hs
  · obtain rfl : 40 = kf := by injection hi
    exact (f_stateTries W hF (wm_number J) (fun e V hs => hs.1) (fun V hb => h.num hB hR hne (k := 3) (s := 1) rfl (by decide) (by decide) (by omega) (by omega) (by simp only [wB1, List.length_append, Pack.num_length]; omega) hb)).mono fun e V hs => wr_step hF hrb h hs
  · obtain rfl : 41 = kf := by injection hi
    exact (f_stateOffset W hF (wm_number J) (fun e V hs => hs.1) (fun V hb => h.num hB hR hne (k := 4) (s := 4) rfl (by decide) (by decide) (by omega) (by omega) (by simp only [wB1, List.length_append, Pack.num_length]; omega) hb)).mono fun e V hs => wr_step hF hrb h hs
  · obtain rfl : 42 = kf := by injection hi
    exact (f_stateVars W hF (wm_texts J) (fun e V hs => hs.1) (fun V hb => h.texts hB hR hne (k := 5) rfl hT hBJ hKB rfl (by unfold txt at hn; rw [List.length_map] at hn; exact hn) (fun v hv => hx v.t (List.mem_map.2 ⟨v, hv, rfl⟩)) (by simp only [wB1, List.length_append, Pack.num_length]; omega) hb)).mono fun e V hs => wr_step hF hrb h hs
  · rw [List.getElem?_eq_none (by exact hc)] at hi
    cases hi
def wB2 (bs : List B8) (k1 k2 k3 k4 vi st tr dst of va : Int) (vs : List Vt) (vl : List B8) : Nat → List B8
  | 0 => bs
  | 1 => bs ++ num 2 (n64 (vi + 0))
  | 2 => bs ++ num 2 (n64 (vi + 0)) ++ num 1 (n64 (st + 0))
  | _ => bs ++ num 2 (n64 (vi + 0)) ++ num 1 (n64 (st + 0)) ++ num 1 (n64 (tr + 0))
set_option maxHeartbeats 1000000 in
theorem write2 (w : World) {B J R K : Nat} {bs : List B8} {k1 k2 k3 k4 vi st tr dst of va : Int} {AL AV : Option Addr} {cL cV : Nat} {vs : List Vt} {vl : List B8} (hm : may ⟨2, ⟨k1, k2, k3, k4, txt vs⟩, vi, st, tr, dst, of, va, vl⟩ = true) (hbs : bs.length ≤ 10) (hB : B ≤ w.heap.size) (hBJ : B ≤ J) (hKB : K ≤ B) (h0 : Wst w B J bs) (hR : Cel w R 27 [.int .i64 2, .int .i64 k1, .int .i64 k2, .int .i64 k3, .int .i64 k4, .slice AL vs.length cL, .int .i64 vi, .int .i64 st, .int .i64 tr, .int .i64 dst, .int .i64 of, .int .i64 va, .slice AV vl.length cV]) (hT : ∀ V, Below B w V → Tvs V K AL vs) (hV : ∀ V, Below B w V → Bs V V.heap.size AV vl.length vl) :
    Calls Try.prog 16 #[pp R 0, .iface 43 (pp J 0)] w fun e W => e = .returned (.tuple #[]) ∧ Wrt w B J (bs ++ num 2 (n64 (vi + 0)) ++ num 1 (n64 (st + 0)) ++ num 1 (n64 (tr + 0))) W := by
  have hne : R ≠ J := by
    obtain ⟨A, c, h1, _⟩ := h0
    exact hR.ne h1 (by decide)
  obtain ⟨_, hvi, hst, htr⟩ := may2 hm rfl
  dsimp only at *
  refine each_ w hR rfl (fun i W => Wrt w B J (wB2 bs k1 k2 k3 k4 vi st tr dst of va vs vl i) W) (fun W hb => ⟨h0.below hb, Wkp.of_below hb⟩) ?_
  intro F rb W i kf hFB hrB hi hF hrb h
  have hc : i = 0 ∨ i = 1 ∨ i = 2 ∨ 3 ≤ i := by omega
  rcases hc with rfl | rfl | rfl | hc
  · obtain rfl : 43 = kf := by injection hi
    exact (f_visit W hF (wm_number J) (fun e V hs => hs.1) (fun V hb => h.num hB hR hne (k := 6) (s := 2) rfl (by decide) (by decide) (by omega) (by omega) (by simp only [wB2, List.length_append, Pack.num_length]; omega) hb)).mono fun e V hs => wr_step hF hrb h hs
  · obtain rfl : 44 = kf := by injection hi
    exact (f_step W hF (wm_number J) (fun e V hs => hs.1) (fun V hb => h.num hB hR hne (k := 7) (s := 1) rfl (by decide) (by decide) (by omega) (by omega) (by simp only [wB2, List.length_append, Pack.num_length]; omega) hb)).mono fun e V hs => wr_step hF hrb h hs
  · obtain rfl : 45 = kf := by injection hi
    exact (f_try W hF (wm_number J) (fun e V hs => hs.1) (fun V hb => h.num hB hR hne (k := 8) (s := 1) rfl (by decide) (by decide) (by omega) (by omega) (by simp only [wB2, List.length_append, Pack.num_length]; omega) hb)).mono fun e V hs => wr_step hF hrb h hs
  · rw [List.getElem?_eq_none (by exact hc)] at hi
    cases hi
def wB3 (bs : List B8) (k1 k2 k3 k4 vi st tr dst of va : Int) (vs : List Vt) (vl : List B8) : Nat → List B8
  | 0 => bs
  | 1 => bs ++ num 2 (n64 (vi + 0))
  | 2 => bs ++ num 2 (n64 (vi + 0)) ++ num 1 (n64 (dst + 3))
  | 3 => bs ++ num 2 (n64 (vi + 0)) ++ num 1 (n64 (dst + 3)) ++ num 4 (n64 (of + 0))
  | 4 => bs ++ num 2 (n64 (vi + 0)) ++ num 1 (n64 (dst + 3)) ++ num 4 (n64 (of + 0)) ++ num 1 (n64 (va + 1))
  | _ => bs ++ num 2 (n64 (vi + 0)) ++ num 1 (n64 (dst + 3)) ++ num 4 (n64 (of + 0)) ++ num 1 (n64 (va + 1)) ++ text vl
set_option maxHeartbeats 1000000 in
theorem write3 (w : World) {B J R K : Nat} {bs : List B8} {k1 k2 k3 k4 vi st tr dst of va : Int} {AL AV : Option Addr} {cL cV : Nat} {vs : List Vt} {vl : List B8} (hm : may ⟨3, ⟨k1, k2, k3, k4, txt vs⟩, vi, st, tr, dst, of, va, vl⟩ = true) (hbs : bs.length ≤ 10) (hB : B ≤ w.heap.size) (hBJ : B ≤ J) (hKB : K ≤ B) (h0 : Wst w B J bs) (hR : Cel w R 27 [.int .i64 3, .int .i64 k1, .int .i64 k2, .int .i64 k3, .int .i64 k4, .slice AL vs.length cL, .int .i64 vi, .int .i64 st, .int .i64 tr, .int .i64 dst, .int .i64 of, .int .i64 va, .slice AV vl.length cV]) (hT : ∀ V, Below B w V → Tvs V K AL vs) (hV : ∀ V, Below B w V → Bs V V.heap.size AV vl.length vl) :
    Calls Try.prog 16 #[pp R 0, .iface 43 (pp J 0)] w fun e W => e = .returned (.tuple #[]) ∧ Wrt w B J (bs ++ num 2 (n64 (vi + 0)) ++ num 1 (n64 (dst + 3)) ++ num 4 (n64 (of + 0)) ++ num 1 (n64 (va + 1)) ++ text vl) W := by
  have hne : R ≠ J := by
    obtain ⟨A, c, h1, _⟩ := h0
    exact hR.ne h1 (by decide)
  obtain ⟨_, hvi, hdst, hof, hva, hm⟩ := may3 hm rfl
  dsimp only at *
  refine each_ w hR rfl (fun i W => Wrt w B J (wB3 bs k1 k2 k3 k4 vi st tr dst of va vs vl i) W) (fun W hb => ⟨h0.below hb, Wkp.of_below hb⟩) ?_
  intro F rb W i kf hFB hrB hi hF hrb h
  have hc : i = 0 ∨ i = 1 ∨ i = 2 ∨ i = 3 ∨ i = 4 ∨ 5 ≤ i := by omega
  rcases hc with rfl | rfl | rfl | rfl | rfl | hc
  · obtain rfl : 43 = kf := by injection hi
    exact (f_visit W hF (wm_number J) (fun e V hs => hs.1) (fun V hb => h.num hB hR hne (k := 6) (s := 2) rfl (by decide) (by decide) (by omega) (by omega) (by simp only [wB3, List.length_append, Pack.num_length]; omega) hb)).mono fun e V hs => wr_step hF hrb h hs
  · obtain rfl : 46 = kf := by injection hi
    exact (f_to W hF (wm_number J) (fun e V hs => hs.1) (fun V hb => h.num hB hR hne (k := 9) (s := 1) rfl (by decide) (by decide) (by omega) (by omega) (by simp only [wB3, List.length_append, Pack.num_length]; omega) hb)).mono fun e V hs => wr_step hF hrb h hs
  · obtain rfl : 47 = kf := by injection hi
    exact (f_offset W hF (wm_number J) (fun e V hs => hs.1) (fun V hb => h.num hB hR hne (k := 10) (s := 4) rfl (by decide) (by decide) (by omega) (by omega) (by simp only [wB3, List.length_append, Pack.num_length]; omega) hb)).mono fun e V hs => wr_step hF hrb h hs
  · obtain rfl : 48 = kf := by injection hi
    exact (f_variable W hF (wm_number J) (fun e V hs => hs.1) (fun V hb => h.num hB hR hne (k := 11) (s := 1) rfl (by decide) (by decide) (by omega) (by omega) (by simp only [wB3, List.length_append, Pack.num_length]; omega) hb)).mono fun e V hs => wr_step hF hrb h hs
  · obtain rfl : 49 = kf := by injection hi
    exact (f_value W hF (wm_text J) (fun e V hs => hs.1) (fun V hb => h.text hB hR hne (k := 12) rfl hV hBJ (by omega) (by simp only [wB3, List.length_append, Pack.num_length]; omega) hb)).mono fun e V hs => wr_step hF hrb h hs
  · rw [List.getElem?_eq_none (by exact hc)] at hi
    cases hi
def PputSays (w : World) (r : Rc) (e : Ending) (w' : World) : Prop := Below w.heap.size w w' ∧ (may r = false → e = .returned (.tuple #[.slice none 0 0, .int .i64 1])) ∧ (may r = true → ∃ A c, e = .returned (.tuple #[.slice A (put r).length c, .int .i64 0]) ∧ Owb w' w.heap.size A (put r).length c (put r))
section
variable (w : World) (kd x1 x2 x3 x4 : Int) (AL : Option Addr) (n cL : Nat) (x6 x7 x8 x9 x10 x11 : Int) (AV : Option Addr) (m cV : Nat)
set_option maxRecDepth 100000 in
theorem pput_no (hm : ∀ W, Below w.heap.size w W → Calls Try.prog 8 #[.agg ([.int .i64 kd, .int .i64 x1, .int .i64 x2, .int .i64 x3, .int .i64 x4, .slice AL n cL, .int .i64 x6, .int .i64 x7, .int .i64 x8, .int .i64 x9, .int .i64 x10, .int .i64 x11, .slice AV m cV] : List Value).toArray] W fun e w' => e = .returned (.bool false) ∧ Below W.heap.size W w') :
    Calls Try.prog 7 #[.agg ([.int .i64 kd, .int .i64 x1, .int .i64 x2, .int .i64 x3, .int .i64 x4, .slice AL n cL, .int .i64 x6, .int .i64 x7, .int .i64 x8, .int .i64 x9, .int .i64 x10, .int .i64 x11, .slice AV m cV] : List Value).toArray] w fun e w' => e = .returned (.tuple #[.slice none 0 0, .int .i64 1]) ∧ Below w.heap.size w w' := by
  obtain ⟨W1, hW1⟩ : ∃ w1, w1 = w.alloc (.cells ([.int .i64 kd, .int .i64 x1, .int .i64 x2, .int .i64 x3, .int .i64 x4, .slice AL n cL, .int .i64 x6, .int .i64 x7, .int .i64 x8, .int .i64 x9, .int .i64 x10, .int .i64 x11, .slice AV m cV] : List Value).toArray 27) := ⟨_, rfl⟩
  have HB : Hid (Below w.heap.size w W1) := Lib.hid (by rw [hW1]; exact (Below.refl _ _).alloc (Nat.le_refl _) _)
  have HC : Hid (Cel W1 w.heap.size 27 [.int .i64 kd, .int .i64 x1, .int .i64 x2, .int .i64 x3, .int .i64 x4, .slice AL n cL, .int .i64 x6, .int .i64 x7, .int .i64 x8, .int .i64 x9, .int .i64 x10, .int .i64 x11, .slice AV m cV]) := Lib.hid (by rw [hW1]; exact Cel.new w _ _)
  have con := hm W1 HB.out
  clear hm
  have c0 := HC.out.cell 0
  have c1 := HC.out.cell 1
  have c2 := HC.out.cell 2
  have c3 := HC.out.cell 3
  have c4 := HC.out.cell 4
  have c5 := HC.out.cell 5
  have c6 := HC.out.cell 6
  have c7 := HC.out.cell 7
  have c8 := HC.out.cell 8
  have c9 := HC.out.cell 9
  have c10 := HC.out.cell 10
  have c11 := HC.out.cell 11
  have c12 := HC.out.cell 12
  go_enter Try.func7, Try.ntmps7
  go_upto_region 1 with fail
  rw [← hW1]
  clear hW1
  go_wp2_with fail
  refine con.mono ?_
  rintro e w2 ⟨rfl, hb⟩
  have HB2 := Lib.hid (HB.out.trans (hb.mono HB.out.size))
  clear con hb c0 c1 c2 c3 c4 c5 c6 c7 c8 c9 c10 c11 c12
  go_wp2_with fail
  go_ret2
  exact ⟨rfl, HB2.out⟩
set_option maxRecDepth 100000 in
set_option maxHeartbeats 1000000 in
theorem pput_go (bs : List B8) (hk1 : 1 ≤ kd) (hk3 : kd ≤ 3) (hm : ∀ W, Below w.heap.size w W → Calls Try.prog 8 #[.agg ([.int .i64 kd, .int .i64 x1, .int .i64 x2, .int .i64 x3, .int .i64 x4, .slice AL n cL, .int .i64 x6, .int .i64 x7, .int .i64 x8, .int .i64 x9, .int .i64 x10, .int .i64 x11, .slice AV m cV] : List Value).toArray] W fun e w' => e = .returned (.bool true) ∧ Below W.heap.size W w')
    (con : ∀ W J, Below w.heap.size w W → w.heap.size ≤ J → Wst W w.heap.size J (num 1 (n64 kd)) → Cel W w.heap.size 27 [.int .i64 kd, .int .i64 x1, .int .i64 x2, .int .i64 x3, .int .i64 x4, .slice AL n cL, .int .i64 x6, .int .i64 x7, .int .i64 x8, .int .i64 x9, .int .i64 x10, .int .i64 x11, .slice AV m cV] → Calls Try.prog 16 #[pp w.heap.size 0, .iface 43 (pp J 0)] W fun e W' => e = .returned (.tuple #[]) ∧ Wrt W w.heap.size J bs W') :
    Calls Try.prog 7 #[.agg ([.int .i64 kd, .int .i64 x1, .int .i64 x2, .int .i64 x3, .int .i64 x4, .slice AL n cL, .int .i64 x6, .int .i64 x7, .int .i64 x8, .int .i64 x9, .int .i64 x10, .int .i64 x11, .slice AV m cV] : List Value).toArray] w fun e w' => (∃ A c, e = .returned (.tuple #[.slice A bs.length c, .int .i64 0]) ∧ Owb w' w.heap.size A bs.length c bs) ∧ Below w.heap.size w w' := by
  obtain ⟨W1, hW1⟩ : ∃ w1, w1 = w.alloc (.cells ([.int .i64 kd, .int .i64 x1, .int .i64 x2, .int .i64 x3, .int .i64 x4, .slice AL n cL, .int .i64 x6, .int .i64 x7, .int .i64 x8, .int .i64 x9, .int .i64 x10, .int .i64 x11, .slice AV m cV] : List Value).toArray 27) := ⟨_, rfl⟩
  have HB : Hid (Below w.heap.size w W1) := Lib.hid (by rw [hW1]; exact (Below.refl _ _).alloc (Nat.le_refl _) _)
  have HC : Hid (Cel W1 w.heap.size 27 [.int .i64 kd, .int .i64 x1, .int .i64 x2, .int .i64 x3, .int .i64 x4, .slice AL n cL, .int .i64 x6, .int .i64 x7, .int .i64 x8, .int .i64 x9, .int .i64 x10, .int .i64 x11, .slice AV m cV]) := Lib.hid (by rw [hW1]; exact Cel.new w _ _)
  have con2 := hm W1 HB.out
  have CON := Lib.hid con
  have e2 : IntKind.u64.wrap kd = kd := by rw [IntKind.wrap_u64]; omega
  clear hm con
  have c0 := HC.out.cell 0
  have c1 := HC.out.cell 1
  have c2 := HC.out.cell 2
  have c3 := HC.out.cell 3
  have c4 := HC.out.cell 4
  have c5 := HC.out.cell 5
  have c6 := HC.out.cell 6
  have c7 := HC.out.cell 7
  have c8 := HC.out.cell 8
  have c9 := HC.out.cell 9
  have c10 := HC.out.cell 10
  have c11 := HC.out.cell 11
  have c12 := HC.out.cell 12
  go_enter Try.func7, Try.ntmps7
  go_upto_region 1 with fail
  rw [← hW1]
  clear hW1
  go_wp2_with fail
  refine con2.mono ?_
  clear con2 c0 c1 c2 c3 c4 c5 c6 c7 c8 c9 c10 c11 c12
  rintro e w2 ⟨rfl, hb⟩
  have HB2 := Lib.hid (HB.out.trans (hb.mono HB.out.size))
  have HC2 := Lib.hid (HC.out.below hb HC.out.lt)
  clear hb HC HB
  have c0 := HC2.out.cell 0
  go_wp2_with fail
  refine (Pack.number_at (n64 kd) 1 (by decide) (by decide) _ _ (n64_val (by omega) (by omega)) rfl w2).mono ?_
  rintro e w3 ⟨A3, c3, rfl, ho, hb⟩
  have HB3 := Lib.hid (HB2.out.trans (hb.mono HB2.out.size))
  have HC3 := Lib.hid (HC2.out.below hb HC2.out.lt)
  have HO3 := Lib.hid (show Owb w3 w.heap.size A3 1 c3 (num 1 (n64 kd)) from Own.base ho HB2.out.size)
  clear hb ho HC2 HB2 c0 e2
  obtain ⟨W4, hW4⟩ : ∃ w1, w1 = w3.alloc (.cells #[.slice A3 1 c3] 47) := ⟨_, rfl⟩
  have hj : Cel W4 w3.heap.size 47 [.slice A3 1 c3] := by rw [hW4]; exact Cel.new w3 47 [.slice A3 1 c3]
  have hb4 : Below w3.heap.size w3 W4 := by rw [hW4]; exact (Below.refl _ _).alloc (Nat.le_refl _) _
  have HB4 := Lib.hid (HB3.out.trans (hb4.mono HB3.out.size))
  have hc4 := HC3.out.below hb4 HC3.out.lt
  have con := CON.out W4 w3.heap.size HB4.out HB3.out.size ⟨A3, c3, by rw [Pack.num_length]; exact hj, by rw [Pack.num_length]; exact HO3.out.below hb4⟩ hc4
  have HS := Lib.hid HB3.out.size
  clear hj hc4 hb4 HC3 CON
  go_upto_region 4 with fail
  rw [← hW4]
  clear hW4
  go_wp2_with fail
  refine con.mono ?_
  clear con
  rintro e W5 ⟨rfl, ⟨A5, c5, h1, h2⟩, h3⟩
  have HB5 := Lib.hid (HB4.out.trans (h3.below HB4.out.size HS.out))
  have HO5 := Lib.hid h2
  have j0 := h1.cell 0
  clear h1 h2 h3
  go_wp2_with fail
  go_ret2
  exact ⟨⟨A5, c5, rfl, HO5.out⟩, HB5.out⟩
end
/-- Put, of any record that can be read. -/
theorem pput_ (w : World) (K : Nat) (v : Rv) (h : Rok w K v) (ht : Trow w K v.AL v.vs) (hK : K ≤ w.heap.size) :
    Calls Try.prog 7 #[.agg v.cells.toArray] w (PputSays w v.r) := by
  have hmy : ∀ W, Below w.heap.size w W → Calls Try.prog 8 #[.agg v.cells.toArray] W fun e w' => e = .returned (.bool (may v.r)) ∧ Below W.heap.size W w' := fun W hb => pmay_ W K v (h.below hK hb) (ht.below hb) (Nat.le_trans hK hb.size)
  obtain ⟨⟨k, ⟨s1, s2, s3, s4, vars⟩, vi, st, tr, dst, of, va, vl⟩, AL, cL, vs, AV, cV⟩ := v
  have he : vars = txt vs := h.eq
  subst he
  unfold Rv.cells at hmy ⊢
  dsimp only at hmy ht ⊢
  have tv : ∀ V, Below w.heap.size w V → Tvs V K AL vs := fun V hb => h.vs.below hK hb
  have vv : ∀ V, Below w.heap.size w V → Bs V V.heap.size AV vl.length vl := fun V hb => tx_bs (h.val.below hK hb) (Nat.le_trans hK hb.size)
  cases hm : may ⟨k, ⟨s1, s2, s3, s4, txt vs⟩, vi, st, tr, dst, of, va, vl⟩ with
  | false =>
    rw [hm] at hmy
    refine (pput_no w k s1 s2 s3 s4 AL vs.length cL vi st tr dst of va AV vl.length cV hmy).mono ?_
    rintro e w' ⟨rfl, hb⟩
    exact ⟨hb, fun _ => rfl, fun hx => by rw [hm] at hx; cases hx⟩
  | true =>
    rw [hm] at hmy
    have key : ∀ bs, bs = put ⟨k, ⟨s1, s2, s3, s4, txt vs⟩, vi, st, tr, dst, of, va, vl⟩ → ∀ e w', ((∃ A c, e = .returned (.tuple #[.slice A bs.length c, .int .i64 0]) ∧ Owb w' w.heap.size A bs.length c bs) ∧ Below w.heap.size w w') → PputSays w ⟨k, ⟨s1, s2, s3, s4, txt vs⟩, vi, st, tr, dst, of, va, vl⟩ e w' := fun bs hbs e w' hh => by
      subst hbs
      exact ⟨hh.2, fun hx => by (rw [hm] at hx; cases hx), fun _ => hh.1⟩
    have hlt : (txt vs).length = vs.length := by unfold txt; rw [List.length_map]
    rcases may_kind hm with hk | hk | hk <;> dsimp only at hk <;> subst hk
    · refine (pput_go w 1 s1 s2 s3 s4 AL vs.length cL vi st tr dst of va AV vl.length cV _ (by decide) (by decide) hmy fun W J hb hJ c1 c2 => write1 W hm (by rw [Pack.num_length]; decide) hb.size hJ hK c1 c2 (fun V hV => tv V (hb.trans hV)) (fun V hV => vv V (hb.trans hV))).mono (key _ ?_)
      unfold put
      rw [if_pos rfl]
      simp only [List.append_assoc, Int.add_zero, hlt]
    · refine (pput_go w 2 s1 s2 s3 s4 AL vs.length cL vi st tr dst of va AV vl.length cV _ (by decide) (by decide) hmy fun W J hb hJ c1 c2 => write2 W hm (by rw [Pack.num_length]; decide) hb.size hJ hK c1 c2 (fun V hV => tv V (hb.trans hV)) (fun V hV => vv V (hb.trans hV))).mono (key _ ?_)
      unfold put
      rw [if_neg (by simp), if_pos rfl]
      simp only [List.append_assoc, Int.add_zero]
    · refine (pput_go w 3 s1 s2 s3 s4 AL vs.length cL vi st tr dst of va AV vl.length cV _ (by decide) (by decide) hmy fun W J hb hJ c1 c2 => write3 W hm (by rw [Pack.num_length]; decide) hb.size hJ hK c1 c2 (fun V hV => tv V (hb.trans hV)) (fun V hV => vv V (hb.trans hV))).mono (key _ ?_)
      unfold put
      rw [if_neg (by simp), if_neg (by simp)]
      simp only [List.append_assoc, Int.add_zero]
end Go.Proofs.Ythaebchmlicgaaa.Rec
