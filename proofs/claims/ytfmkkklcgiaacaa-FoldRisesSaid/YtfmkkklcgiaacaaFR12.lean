/-
The program's records (layer 15): May. (Written by gen_recpmay.py.)
-/
import Derived.Test.YtfmkkklcgiaacaaFR0
import Derived.Test.YtfmkkklcgiaacaaFR1
import Derived.Test.YtfmkkklcgiaacaaFR9
import Derived.Test.YtfmkkklcgiaacaaFR10
import Derived.Test.YtfmkkklcgiaacaaFR11
set_option linter.unusedVariables false
set_option linter.unusedSimpArgs false
set_option maxHeartbeats 4000000
set_option maxRecDepth 100000
namespace Go.Proofs.Ytfmkkklcgiaacaa.Rec
open Go.RowKit
open Lex (Tx)
theorem JgSays.of {J R : Nat} {t : TypeId} {cs : List Value} {b : Bool} {w V w' : World} {e : Ending} (h : JgSays J R t cs b V e w') (hb : Below w.heap.size w V) : JgSays J R t cs b w e w' := ⟨h.1, h.2.1, h.2.2.1, (Frm.of_below hb).trans h.2.2.2⟩
structure Jst (w : World) (J R : Nat) (cs : List Value) (b : Bool) (W : World) : Prop where
 j : Cel W J 88 [.bool b]
 r : Cel W R 42 cs
 f : Frm [J, R] w W
theorem jg_end {w W W' : World} {F rb R J T : Nat} {ls cs cs' : List Value} {b b' : Bool} {e : Ending} (hF : Fld W F R J T) (hrb : Cel W rb 1 ls) (h : Jst w J R cs b W) (hs : JgSays J R 42 cs' b' W e W') :
  e = .returned (.tuple #[]) ∧ Jst w J R cs' b' W' ∧ W'.heap[F]? = W.heap[F]? ∧ W'.heap[rb]? = W.heap[rb]? := by
 obtain ⟨rfl, h1, h2, h3⟩ := hs
 refine ⟨rfl, ⟨h1, h2, h.f.trans h3⟩, h3.block F (Cel.lt hF) ?_, h3.block rb hrb.lt ?_⟩
 ·have a := Cel.ne hF h.j (by decide)
  have b := Cel.ne hF h.r (by decide)
  simp [a, b]
 ·have a := hrb.ne h.j (by decide)
  have b := hrb.ne h.r (by decide)
  simp [a, b]
theorem Jst.num {w W : World} {J R k : Nat} {cs : List Value} {b : Bool} {x a1 a2 a3 a4 : Int} (h : Jst w J R cs b W) (hk : cs[k]? = some (.int .i64 x)) {V : World} (hb : Below W.heap.size W V) :
  Calls Try.prog 100 #[pp J 0, pp R k, spn a1 a2 a3 a4] V (JgSays J R 42 (cs.set k (.int .i64 0)) (b || !inR x a1 a2) W) :=
 (j_number V (h.j.below hb h.j.lt) (h.r.below hb h.r.lt) hk (h.r.ne h.j (by decide))).mono fun e V' hs => hs.of hb
theorem Jst.text {w W : World} {J R k : Nat} {cs : List Value} {b : Bool} {A : Option Addr} {n c : Nat} (h : Jst w J R cs b W) (hk : cs[k]? = some (.slice A n c)) {V : World} (hb : Below W.heap.size W V) :
  Calls Try.prog 101 #[pp J 0, pp R k] V (JgSays J R 42 (cs.set k (.slice none 0 0)) (b || decide (100 < n)) W) :=
 (j_text V (h.j.below hb h.j.lt) (h.r.below hb h.r.lt) hk (h.r.ne h.j (by decide))).mono fun e V' hs => hs.of hb
theorem Jst.texts {w W : World} {J R k K : Nat} {cs cs0 : List Value} {b b0 : Bool} {A : Option Addr} {n c : Nat} {vs : List Vt} (h : Jst w J R cs b W) (h0 : Jst w J R cs0 b0 w) (hk : cs[k]? = some (.slice A n c)) (hT : Tvs w K A vs) (hR : Trow w K A vs) (hKJ : K ≤ J) (hKR : K ≤ R) (hl : vs.length = n) (hn : n ≤ maxLen) {V : World} (hb : Below W.heap.size W V) :
  Calls Try.prog 102 #[pp J 0, pp R k] V (JgSays J R 42 (cs.set k (.slice none 0 0)) (b || !textsOk (txt vs)) W) := by
 obtain ⟨h1, h2⟩ := hT.frm hR (h.f.trans (Frm.of_below hb)) (fun q hq => by
  simp only [List.mem_cons, List.not_mem_nil, or_false] at hq
  rcases hq with rfl | rfl
  ·exact ⟨hKJ, h0.j.not_ty (by decide), h0.j.not_ty (by decide)⟩
  ·exact ⟨hKR, h0.r.not_ty (by decide), h0.r.not_ty (by decide)⟩)
 exact (j_texts V (h.j.below hb h.j.lt) (h.r.below hb h.r.lt) hk h1 h2 hKJ hl hn).mono fun e V' hs => hs.of hb
def jB1 (k1 k2 k3 k4 vi st tr dst of va : Int) (vs : List Vt) (m : Nat) : Nat → Bool
 | 0 => false
 | 1 => (false || !inR k1 (-3) (29))
 | 2 => ((false || !inR k1 (-3) (29)) || !inR k2 (1) (1001))
 | 3 => (((false || !inR k1 (-3) (29)) || !inR k2 (1) (1001)) || !inR k3 (0) (6))
 | 4 => ((((false || !inR k1 (-3) (29)) || !inR k2 (1) (1001)) || !inR k3 (0) (6)) || !inR k4 (0) (2147483647))
 | _ => (((((false || !inR k1 (-3) (29)) || !inR k2 (1) (1001)) || !inR k3 (0) (6)) || !inR k4 (0) (2147483647)) || !textsOk (txt vs))
def jC1 (k1 k2 k3 k4 : Int) (AL : Option Addr) (n cL : Nat) (vi st tr dst of va : Int) (AV : Option Addr) (m cV : Nat) : Nat → List Value
 | 0 => [.int .i64 1, .int .i64 k1, .int .i64 k2, .int .i64 k3, .int .i64 k4, .slice AL n cL, .int .i64 vi, .int .i64 st, .int .i64 tr, .int .i64 dst, .int .i64 of, .int .i64 va, .slice AV m cV]
 | 1 => [.int .i64 1, .int .i64 0, .int .i64 k2, .int .i64 k3, .int .i64 k4, .slice AL n cL, .int .i64 vi, .int .i64 st, .int .i64 tr, .int .i64 dst, .int .i64 of, .int .i64 va, .slice AV m cV]
 | 2 => [.int .i64 1, .int .i64 0, .int .i64 0, .int .i64 k3, .int .i64 k4, .slice AL n cL, .int .i64 vi, .int .i64 st, .int .i64 tr, .int .i64 dst, .int .i64 of, .int .i64 va, .slice AV m cV]
 | 3 => [.int .i64 1, .int .i64 0, .int .i64 0, .int .i64 0, .int .i64 k4, .slice AL n cL, .int .i64 vi, .int .i64 st, .int .i64 tr, .int .i64 dst, .int .i64 of, .int .i64 va, .slice AV m cV]
 | 4 => [.int .i64 1, .int .i64 0, .int .i64 0, .int .i64 0, .int .i64 0, .slice AL n cL, .int .i64 vi, .int .i64 st, .int .i64 tr, .int .i64 dst, .int .i64 of, .int .i64 va, .slice AV m cV]
 | _ => [.int .i64 1, .int .i64 0, .int .i64 0, .int .i64 0, .int .i64 0, .slice none 0 0, .int .i64 vi, .int .i64 st, .int .i64 tr, .int .i64 dst, .int .i64 of, .int .i64 va, .slice AV m cV]
theorem judge1 (w : World) {J R K : Nat} {k1 k2 k3 k4 vi st tr dst of va : Int} {AL AV : Option Addr} {n cL m cV : Nat} {vs : List Vt} (hJ : Cel w J 88 [.bool false]) (hR : Cel w R 42 [.int .i64 1, .int .i64 k1, .int .i64 k2, .int .i64 k3, .int .i64 k4, .slice AL n cL, .int .i64 vi, .int .i64 st, .int .i64 tr, .int .i64 dst, .int .i64 of, .int .i64 va, .slice AV m cV]) (hT : Tvs w K AL vs) (hTr : Trow w K AL vs) (hKJ : K ≤ J) (hKR : K ≤ R) (hl : vs.length = n) (hn : n ≤ maxLen) :
  Calls Try.prog 25 #[pp R 0, .iface 86 (pp J 0)] w fun e W => e = .returned (.tuple #[]) ∧ Jst w J R [.int .i64 1, .int .i64 0, .int .i64 0, .int .i64 0, .int .i64 0, .slice none 0 0, .int .i64 vi, .int .i64 st, .int .i64 tr, .int .i64 dst, .int .i64 of, .int .i64 va, .slice AV m cV] (((((false || !inR k1 (-3) (29)) || !inR k2 (1) (1001)) || !inR k3 (0) (6)) || !inR k4 (0) (2147483647)) || !textsOk (txt vs)) W := by
 have h0 : Jst w J R [.int .i64 1, .int .i64 k1, .int .i64 k2, .int .i64 k3, .int .i64 k4, .slice AL n cL, .int .i64 vi, .int .i64 st, .int .i64 tr, .int .i64 dst, .int .i64 of, .int .i64 va, .slice AV m cV] false w := ⟨hJ, hR, Frm.refl _ _⟩
 refine each_ w hR rfl (fun i W => Jst w J R (jC1 k1 k2 k3 k4 AL n cL vi st tr dst of va AV m cV i) (jB1 k1 k2 k3 k4 vi st tr dst of va vs m i) W) (fun W hb => ⟨hJ.below hb hJ.lt, hR.below hb hR.lt, Frm.of_below hb⟩) ?_
 intro F rb W i kf hFB hrB hi hF hrb h
 have hc : i = 0 ∨ i = 1 ∨ i = 2 ∨ i = 3 ∨ i = 4 ∨ 5 ≤ i := by omega
 rcases hc with rfl | rfl | rfl | rfl | rfl | hc
 ·obtain rfl : 49 = kf := by injection hi
  exact (f_stateStep W hF (jm_number J) (fun e V hs => hs.1) (fun V hb => h.num (k := 1) rfl hb)).mono fun e V hs => jg_end hF hrb h hs
 ·obtain rfl : 50 = kf := by injection hi
  exact (f_stateVisit W hF (jm_number J) (fun e V hs => hs.1) (fun V hb => h.num (k := 2) rfl hb)).mono fun e V hs => jg_end hF hrb h hs
 ·obtain rfl : 51 = kf := by injection hi
  exact (f_stateTries W hF (jm_number J) (fun e V hs => hs.1) (fun V hb => h.num (k := 3) rfl hb)).mono fun e V hs => jg_end hF hrb h hs
 ·obtain rfl : 52 = kf := by injection hi
  exact (f_stateOffset W hF (jm_number J) (fun e V hs => hs.1) (fun V hb => h.num (k := 4) rfl hb)).mono fun e V hs => jg_end hF hrb h hs
 ·obtain rfl : 53 = kf := by injection hi
  exact (f_stateVars W hF (jm_texts J) (fun e V hs => hs.1) (fun V hb => h.texts h0 (k := 5) rfl hT hTr hKJ hKR hl hn hb)).mono fun e V hs => jg_end hF hrb h hs
 ·rw [List.getElem?_eq_none (by exact hc)] at hi
  cases hi
def jB2 (k1 k2 k3 k4 vi st tr dst of va : Int) (vs : List Vt) (m : Nat) : Nat → Bool
 | 0 => false
 | 1 => (false || !inR vi (1) (1001))
 | 2 => ((false || !inR vi (1) (1001)) || !inR st (0) (29))
 | _ => (((false || !inR vi (1) (1001)) || !inR st (0) (29)) || !inR tr (0) (5))
def jC2 (k1 k2 k3 k4 : Int) (AL : Option Addr) (n cL : Nat) (vi st tr dst of va : Int) (AV : Option Addr) (m cV : Nat) : Nat → List Value
 | 0 => [.int .i64 2, .int .i64 k1, .int .i64 k2, .int .i64 k3, .int .i64 k4, .slice AL n cL, .int .i64 vi, .int .i64 st, .int .i64 tr, .int .i64 dst, .int .i64 of, .int .i64 va, .slice AV m cV]
 | 1 => [.int .i64 2, .int .i64 k1, .int .i64 k2, .int .i64 k3, .int .i64 k4, .slice AL n cL, .int .i64 0, .int .i64 st, .int .i64 tr, .int .i64 dst, .int .i64 of, .int .i64 va, .slice AV m cV]
 | 2 => [.int .i64 2, .int .i64 k1, .int .i64 k2, .int .i64 k3, .int .i64 k4, .slice AL n cL, .int .i64 0, .int .i64 0, .int .i64 tr, .int .i64 dst, .int .i64 of, .int .i64 va, .slice AV m cV]
 | _ => [.int .i64 2, .int .i64 k1, .int .i64 k2, .int .i64 k3, .int .i64 k4, .slice AL n cL, .int .i64 0, .int .i64 0, .int .i64 0, .int .i64 dst, .int .i64 of, .int .i64 va, .slice AV m cV]
theorem judge2 (w : World) {J R K : Nat} {k1 k2 k3 k4 vi st tr dst of va : Int} {AL AV : Option Addr} {n cL m cV : Nat} {vs : List Vt} (hJ : Cel w J 88 [.bool false]) (hR : Cel w R 42 [.int .i64 2, .int .i64 k1, .int .i64 k2, .int .i64 k3, .int .i64 k4, .slice AL n cL, .int .i64 vi, .int .i64 st, .int .i64 tr, .int .i64 dst, .int .i64 of, .int .i64 va, .slice AV m cV]) (hT : Tvs w K AL vs) (hTr : Trow w K AL vs) (hKJ : K ≤ J) (hKR : K ≤ R) (hl : vs.length = n) (hn : n ≤ maxLen) :
  Calls Try.prog 25 #[pp R 0, .iface 86 (pp J 0)] w fun e W => e = .returned (.tuple #[]) ∧ Jst w J R [.int .i64 2, .int .i64 k1, .int .i64 k2, .int .i64 k3, .int .i64 k4, .slice AL n cL, .int .i64 0, .int .i64 0, .int .i64 0, .int .i64 dst, .int .i64 of, .int .i64 va, .slice AV m cV] (((false || !inR vi (1) (1001)) || !inR st (0) (29)) || !inR tr (0) (5)) W := by
 have h0 : Jst w J R [.int .i64 2, .int .i64 k1, .int .i64 k2, .int .i64 k3, .int .i64 k4, .slice AL n cL, .int .i64 vi, .int .i64 st, .int .i64 tr, .int .i64 dst, .int .i64 of, .int .i64 va, .slice AV m cV] false w := ⟨hJ, hR, Frm.refl _ _⟩
 refine each_ w hR rfl (fun i W => Jst w J R (jC2 k1 k2 k3 k4 AL n cL vi st tr dst of va AV m cV i) (jB2 k1 k2 k3 k4 vi st tr dst of va vs m i) W) (fun W hb => ⟨hJ.below hb hJ.lt, hR.below hb hR.lt, Frm.of_below hb⟩) ?_
 intro F rb W i kf hFB hrB hi hF hrb h
 have hc : i = 0 ∨ i = 1 ∨ i = 2 ∨ 3 ≤ i := by omega
 rcases hc with rfl | rfl | rfl | hc
 ·obtain rfl : 54 = kf := by injection hi
  exact (f_visit W hF (jm_number J) (fun e V hs => hs.1) (fun V hb => h.num (k := 6) rfl hb)).mono fun e V hs => jg_end hF hrb h hs
 ·obtain rfl : 55 = kf := by injection hi
  exact (f_step W hF (jm_number J) (fun e V hs => hs.1) (fun V hb => h.num (k := 7) rfl hb)).mono fun e V hs => jg_end hF hrb h hs
 ·obtain rfl : 56 = kf := by injection hi
  exact (f_try W hF (jm_number J) (fun e V hs => hs.1) (fun V hb => h.num (k := 8) rfl hb)).mono fun e V hs => jg_end hF hrb h hs
 ·rw [List.getElem?_eq_none (by exact hc)] at hi
  cases hi
def jB3 (k1 k2 k3 k4 vi st tr dst of va : Int) (vs : List Vt) (m : Nat) : Nat → Bool
 | 0 => false
 | 1 => (false || !inR vi (1) (1001))
 | 2 => ((false || !inR vi (1) (1001)) || !inR dst (-3) (29))
 | 3 => (((false || !inR vi (1) (1001)) || !inR dst (-3) (29)) || !inR of (0) (2147483647))
 | 4 => ((((false || !inR vi (1) (1001)) || !inR dst (-3) (29)) || !inR of (0) (2147483647)) || !inR va (-1) (7))
 | _ => (((((false || !inR vi (1) (1001)) || !inR dst (-3) (29)) || !inR of (0) (2147483647)) || !inR va (-1) (7)) || decide (100 < m))
def jC3 (k1 k2 k3 k4 : Int) (AL : Option Addr) (n cL : Nat) (vi st tr dst of va : Int) (AV : Option Addr) (m cV : Nat) : Nat → List Value
 | 0 => [.int .i64 3, .int .i64 k1, .int .i64 k2, .int .i64 k3, .int .i64 k4, .slice AL n cL, .int .i64 vi, .int .i64 st, .int .i64 tr, .int .i64 dst, .int .i64 of, .int .i64 va, .slice AV m cV]
 | 1 => [.int .i64 3, .int .i64 k1, .int .i64 k2, .int .i64 k3, .int .i64 k4, .slice AL n cL, .int .i64 0, .int .i64 st, .int .i64 tr, .int .i64 dst, .int .i64 of, .int .i64 va, .slice AV m cV]
 | 2 => [.int .i64 3, .int .i64 k1, .int .i64 k2, .int .i64 k3, .int .i64 k4, .slice AL n cL, .int .i64 0, .int .i64 st, .int .i64 tr, .int .i64 0, .int .i64 of, .int .i64 va, .slice AV m cV]
 | 3 => [.int .i64 3, .int .i64 k1, .int .i64 k2, .int .i64 k3, .int .i64 k4, .slice AL n cL, .int .i64 0, .int .i64 st, .int .i64 tr, .int .i64 0, .int .i64 0, .int .i64 va, .slice AV m cV]
 | 4 => [.int .i64 3, .int .i64 k1, .int .i64 k2, .int .i64 k3, .int .i64 k4, .slice AL n cL, .int .i64 0, .int .i64 st, .int .i64 tr, .int .i64 0, .int .i64 0, .int .i64 0, .slice AV m cV]
 | _ => [.int .i64 3, .int .i64 k1, .int .i64 k2, .int .i64 k3, .int .i64 k4, .slice AL n cL, .int .i64 0, .int .i64 st, .int .i64 tr, .int .i64 0, .int .i64 0, .int .i64 0, .slice none 0 0]
theorem judge3 (w : World) {J R K : Nat} {k1 k2 k3 k4 vi st tr dst of va : Int} {AL AV : Option Addr} {n cL m cV : Nat} {vs : List Vt} (hJ : Cel w J 88 [.bool false]) (hR : Cel w R 42 [.int .i64 3, .int .i64 k1, .int .i64 k2, .int .i64 k3, .int .i64 k4, .slice AL n cL, .int .i64 vi, .int .i64 st, .int .i64 tr, .int .i64 dst, .int .i64 of, .int .i64 va, .slice AV m cV]) (hT : Tvs w K AL vs) (hTr : Trow w K AL vs) (hKJ : K ≤ J) (hKR : K ≤ R) (hl : vs.length = n) (hn : n ≤ maxLen) :
  Calls Try.prog 25 #[pp R 0, .iface 86 (pp J 0)] w fun e W => e = .returned (.tuple #[]) ∧ Jst w J R [.int .i64 3, .int .i64 k1, .int .i64 k2, .int .i64 k3, .int .i64 k4, .slice AL n cL, .int .i64 0, .int .i64 st, .int .i64 tr, .int .i64 0, .int .i64 0, .int .i64 0, .slice none 0 0] (((((false || !inR vi (1) (1001)) || !inR dst (-3) (29)) || !inR of (0) (2147483647)) || !inR va (-1) (7)) || decide (100 < m)) W := by
 have h0 : Jst w J R [.int .i64 3, .int .i64 k1, .int .i64 k2, .int .i64 k3, .int .i64 k4, .slice AL n cL, .int .i64 vi, .int .i64 st, .int .i64 tr, .int .i64 dst, .int .i64 of, .int .i64 va, .slice AV m cV] false w := ⟨hJ, hR, Frm.refl _ _⟩
 refine each_ w hR rfl (fun i W => Jst w J R (jC3 k1 k2 k3 k4 AL n cL vi st tr dst of va AV m cV i) (jB3 k1 k2 k3 k4 vi st tr dst of va vs m i) W) (fun W hb => ⟨hJ.below hb hJ.lt, hR.below hb hR.lt, Frm.of_below hb⟩) ?_
 intro F rb W i kf hFB hrB hi hF hrb h
 have hc : i = 0 ∨ i = 1 ∨ i = 2 ∨ i = 3 ∨ i = 4 ∨ 5 ≤ i := by omega
 rcases hc with rfl | rfl | rfl | rfl | rfl | hc
 ·obtain rfl : 54 = kf := by injection hi
  exact (f_visit W hF (jm_number J) (fun e V hs => hs.1) (fun V hb => h.num (k := 6) rfl hb)).mono fun e V hs => jg_end hF hrb h hs
 ·obtain rfl : 57 = kf := by injection hi
  exact (f_to W hF (jm_number J) (fun e V hs => hs.1) (fun V hb => h.num (k := 9) rfl hb)).mono fun e V hs => jg_end hF hrb h hs
 ·obtain rfl : 58 = kf := by injection hi
  exact (f_offset W hF (jm_number J) (fun e V hs => hs.1) (fun V hb => h.num (k := 10) rfl hb)).mono fun e V hs => jg_end hF hrb h hs
 ·obtain rfl : 59 = kf := by injection hi
  exact (f_variable W hF (jm_number J) (fun e V hs => hs.1) (fun V hb => h.num (k := 11) rfl hb)).mono fun e V hs => jg_end hF hrb h hs
 ·obtain rfl : 60 = kf := by injection hi
  exact (f_value W hF (jm_text J) (fun e V hs => hs.1) (fun V hb => h.text (k := 12) rfl hb)).mono fun e V hs => jg_end hF hrb h hs
 ·rw [List.getElem?_eq_none (by exact hc)] at hi
  cases hi
theorem nil_len {α : Type} {l : List α} {m : Nat} (h : l.length = m) : decide (l = []) = decide (m = 0) := by
 subst h
 cases l with
 | nil => rfl
 | cons x l => rw [decide_eq_false (by simp), decide_eq_false (by simp)]
theorem not_long {m : Nat} : (!decide (100 < m)) = decide (m ≤ 100) := by
 by_cases h : 100 < m
 ·rw [decide_eq_true h, decide_eq_false (by omega)]; rfl
 ·rw [decide_eq_false h, decide_eq_true (by omega)]; rfl
theorem may_k1 {k1 k2 k3 k4 vi st tr dst of va : Int} {vs : List Vt} {vl : List B} {m : Nat} (hm : vl.length = m) : (!jB1 k1 k2 k3 k4 vi st tr dst of va vs m 5 && bareOf 0 0 0 0 0 vi st tr dst of va m) = may ⟨1, ⟨k1, k2, k3, k4, txt vs⟩, vi, st, tr, dst, of, va, vl⟩ := by
 unfold may noOutcome noIntent bareOf jB1
 rw [if_pos rfl, nil_len hm]
 simp only [Bool.not_or, Bool.not_not, Bool.not_false, Bool.true_and, decide_true]
 ac_rfl
theorem may_k2 {k1 k2 k3 k4 vi st tr dst of va : Int} {vs : List Vt} {vl : List B} {n m : Nat} (hn : vs.length = n) (hm : vl.length = m) : (!jB2 k1 k2 k3 k4 vi st tr dst of va vs m 3 && bareOf k1 k2 k3 k4 n 0 0 0 dst of va m) = may ⟨2, ⟨k1, k2, k3, k4, txt vs⟩, vi, st, tr, dst, of, va, vl⟩ := by
 unfold may noOutcome noPoint bareOf jB2
 rw [if_neg (by simp), if_pos rfl, nil_len hm, nil_len (show (txt vs).length = n by unfold txt; rw [List.length_map, hn])]
 simp only [Bool.not_or, Bool.not_not, Bool.not_false, Bool.true_and, decide_true]
 ac_rfl
theorem may_k3 {k1 k2 k3 k4 vi st tr dst of va : Int} {vs : List Vt} {vl : List B} {n m : Nat} (hn : vs.length = n) (hm : vl.length = m) (hs : (decide ((3 : Int) = 3) && decide (va = -1) && decide (0 < m)) = false) : (!jB3 k1 k2 k3 k4 vi st tr dst of va vs m 5 && bareOf k1 k2 k3 k4 n 0 st tr 0 0 0 0) = may ⟨3, ⟨k1, k2, k3, k4, txt vs⟩, vi, st, tr, dst, of, va, vl⟩ := by
 unfold may noIntent noPoint bareOf jB3
 rw [if_neg (by simp), if_neg (by simp), if_pos rfl, nil_len hm, nil_len (show (txt vs).length = n by unfold txt; rw [List.length_map, hn]), hm, ← not_long]
 have e : inR va (-1) 7 = false ∨ (decide (0 ≤ va) || decide (m = 0)) = true := by
  cases h : inR va (-1) 7
  ·exact .inl rfl
  ·rw [inR_iff] at h
   right
   simp only [Bool.or_eq_true, decide_eq_true_eq]
   simp only [decide_true, Bool.true_and, Bool.and_eq_false_iff, decide_eq_false_iff_not] at hs
   omega
 simp only [Bool.not_or, Bool.not_not, Bool.not_false, Bool.true_and, decide_true, Bool.and_true, Bool.and_self]
 rcases e with e | e
 ·rw [e]
  simp only [Bool.and_false, Bool.false_and]
 ·rw [e]
  simp only [Bool.and_true]
  ac_rfl
theorem may_stray {k1 k2 k3 k4 vi st tr dst of va : Int} {vs : List Vt} {vl : List B} {m : Nat} (hm : vl.length = m) (hs : (decide ((3 : Int) = 3) && decide (va = -1) && decide (0 < m)) = true) : may ⟨3, ⟨k1, k2, k3, k4, txt vs⟩, vi, st, tr, dst, of, va, vl⟩ = false := by
 unfold may
 simp only [Bool.and_eq_true, decide_eq_true_eq] at hs
 rw [if_neg (by simp), if_neg (by simp), if_pos rfl, nil_len hm, decide_eq_false (show ¬ (m = 0) by omega), decide_eq_false (show ¬ (0 ≤ va) by omega)]
 simp
section
variable (w : World) (kd x1 x2 x3 x4 : Int) (AL : Option Addr) (n cL : Nat) (x6 x7 x8 x9 x10 x11 : Int) (AV : Option Addr) (m cV : Nat)
theorem pmay_go (y1 y2 y3 y4 : Int) (AL' : Option Addr) (n' cL' : Nat) (y6 y7 y8 y9 y10 y11 : Int) (AV' : Option Addr) (m' cV' : Nat) (b : Bool) (hk1 : 1 ≤ kd) (hk3 : kd ≤ 3) (hst : (decide (kd = 3) && decide (x11 = -1) && decide (0 < m)) = false)
  (con : ∀ W J, Below w.heap.size w W → w.heap.size ≤ J → Cel W J 88 [.bool false] → Cel W w.heap.size 42 [.int .i64 kd, .int .i64 x1, .int .i64 x2, .int .i64 x3, .int .i64 x4, .slice AL n cL, .int .i64 x6, .int .i64 x7, .int .i64 x8, .int .i64 x9, .int .i64 x10, .int .i64 x11, .slice AV m cV] → Calls Try.prog 25 #[pp w.heap.size 0, .iface 86 (pp J 0)] W fun e W' => e = .returned (.tuple #[]) ∧ Jst W J w.heap.size [.int .i64 kd, .int .i64 y1, .int .i64 y2, .int .i64 y3, .int .i64 y4, .slice AL' n' cL', .int .i64 y6, .int .i64 y7, .int .i64 y8, .int .i64 y9, .int .i64 y10, .int .i64 y11, .slice AV' m' cV'] b W') :
  Calls Try.prog 22 #[.agg ([.int .i64 kd, .int .i64 x1, .int .i64 x2, .int .i64 x3, .int .i64 x4, .slice AL n cL, .int .i64 x6, .int .i64 x7, .int .i64 x8, .int .i64 x9, .int .i64 x10, .int .i64 x11, .slice AV m cV] : List Value).toArray] w fun e w' => e = .returned (.bool (!b && bareOf y1 y2 y3 y4 n' y6 y7 y8 y9 y10 y11 m')) ∧ Below w.heap.size w w' := by
 obtain ⟨W1, hW1⟩ : ∃ w1, w1 = w.alloc (.cells ([.int .i64 kd, .int .i64 x1, .int .i64 x2, .int .i64 x3, .int .i64 x4, .slice AL n cL, .int .i64 x6, .int .i64 x7, .int .i64 x8, .int .i64 x9, .int .i64 x10, .int .i64 x11, .slice AV m cV] : List Value).toArray 42) := ⟨_, rfl⟩
 have HB : Hid (Below w.heap.size w W1) := Lib.hid (by rw [hW1]; exact (Below.refl _ _).alloc (Nat.le_refl _) _)
 have HC : Hid (Cel W1 w.heap.size 42 [.int .i64 kd, .int .i64 x1, .int .i64 x2, .int .i64 x3, .int .i64 x4, .slice AL n cL, .int .i64 x6, .int .i64 x7, .int .i64 x8, .int .i64 x9, .int .i64 x10, .int .i64 x11, .slice AV m cV]) := Lib.hid (by rw [hW1]; exact Cel.new w _ _)
 have con2 := stray_ W1 kd x1 x2 x3 x4 AL n cL x6 x7 x8 x9 x10 x11 AV m cV
 rw [hst] at con2
 unfold raw at con2
 have CON := Lib.hid con
 have d1 : decide (kd < 1) = false := decide_eq_false (by omega)
 have d2 : decide (3 < kd) = false := decide_eq_false (by omega)
 clear hst con hk1 hk3
 have c0 := HC.out.cell 0
 have c1 := HC.out.cell 1
 have c2 := HC.out.cell 2
 have c3 := HC.out.cell 3
 have c4 := HC.out.cell 4
 have c5 := HC.out.cell 5
 have c6 := HC.out.cell 6
 have c7 := HC.out.cell 7
 have c8 := HC.out.cell 8
 have c9 := HC.out.cell 9
 have c10 := HC.out.cell 10
 have c11 := HC.out.cell 11
 have c12 := HC.out.cell 12
 go_enter Try.func22, Try.ntmps22
 go_upto_region 1 with fail
 rw [← hW1]
 clear hW1
 go_wp2_with fail
 refine con2.mono ?_
 clear con2 c0 c1 c2 c3 c4 c5 c6 c7 c8 c9 c10 c11 c12
 rintro e w2 ⟨rfl, hb⟩
 have HB2 := Lib.hid (HB.out.trans (hb.mono HB.out.size))
 have HC2 := Lib.hid (HC.out.below hb HC.out.lt)
 clear hb HC HB
 obtain ⟨W3, hW3⟩ : ∃ w1, w1 = w2.alloc (.cells #[.bool false] 88) := ⟨_, rfl⟩
 have hj : Cel W3 w2.heap.size 88 [.bool false] := by rw [hW3]; exact Cel.new w2 88 [.bool false]
 have HB3 := Lib.hid (show Below w.heap.size w W3 from by rw [hW3]; exact HB2.out.alloc HB2.out.size _)
 have hc3 : Cel W3 w.heap.size 42 [.int .i64 kd, .int .i64 x1, .int .i64 x2, .int .i64 x3, .int .i64 x4, .slice AL n cL, .int .i64 x6, .int .i64 x7, .int .i64 x8, .int .i64 x9, .int .i64 x10, .int .i64 x11, .slice AV m cV] := by rw [hW3]; exact HC2.out.alloc _
 have con := CON.out W3 w2.heap.size HB3.out HB2.out.size hj hc3
 have HS := Lib.hid HB2.out.size
 clear hj hc3 HC2 HB2 CON d1 d2
 go_upto_region 4 with fail
 rw [← hW3]
 clear hW3
 go_wp2_with fail
 refine con.mono ?_
 clear con
 rintro e W4 ⟨rfl, hj⟩
 have HC4 := Lib.hid hj.r
 have HB4 := Lib.hid (HB3.out.trans (hj.f.below HB3.out.size (by intro q hq; simp at hq; have := HS.out; omega)))
 have j0 := hj.j.cell 0
 clear hj
 cases b
 case true =>
  go_wp2_with fail
  go_ret
  exact ⟨by simp, HB4.out⟩
 case false =>
  have con2 := bare_ W4 kd y1 y2 y3 y4 AL' n' cL' y6 y7 y8 y9 y10 y11 AV' m' cV'
  unfold raw at con2
  have c0 := HC4.out.cell 0
  have c1 := HC4.out.cell 1
  have c2 := HC4.out.cell 2
  have c3 := HC4.out.cell 3
  have c4 := HC4.out.cell 4
  have c5 := HC4.out.cell 5
  have c6 := HC4.out.cell 6
  have c7 := HC4.out.cell 7
  have c8 := HC4.out.cell 8
  have c9 := HC4.out.cell 9
  have c10 := HC4.out.cell 10
  have c11 := HC4.out.cell 11
  have c12 := HC4.out.cell 12
  generalize hZ : bareOf y1 y2 y3 y4 n' y6 y7 y8 y9 y10 y11 m' = Z at con2
  have HZ := Lib.hid hZ
  clear hZ
  go_wp2_with fail
  refine con2.mono ?_
  rintro e w5 ⟨rfl, hb⟩
  have HB5 := Lib.hid (HB4.out.trans (hb.mono HB4.out.size))
  clear hb con2 c0 c1 c2 c3 c4 c5 c6 c7 c8 c9 c10 c11 c12
  go_wp2_with fail
  go_ret
  exact ⟨by simp [HZ.out], HB5.out⟩
theorem pmay_no (hno : kd < 1 ∨ 3 < kd ∨ (decide (kd = 3) && decide (x11 = -1) && decide (0 < m)) = true) :
  Calls Try.prog 22 #[.agg ([.int .i64 kd, .int .i64 x1, .int .i64 x2, .int .i64 x3, .int .i64 x4, .slice AL n cL, .int .i64 x6, .int .i64 x7, .int .i64 x8, .int .i64 x9, .int .i64 x10, .int .i64 x11, .slice AV m cV] : List Value).toArray] w fun e w' => e = .returned (.bool false) ∧ Below w.heap.size w w' := by
 obtain ⟨W1, hW1⟩ : ∃ w1, w1 = w.alloc (.cells ([.int .i64 kd, .int .i64 x1, .int .i64 x2, .int .i64 x3, .int .i64 x4, .slice AL n cL, .int .i64 x6, .int .i64 x7, .int .i64 x8, .int .i64 x9, .int .i64 x10, .int .i64 x11, .slice AV m cV] : List Value).toArray 42) := ⟨_, rfl⟩
 have HB : Hid (Below w.heap.size w W1) := Lib.hid (by rw [hW1]; exact (Below.refl _ _).alloc (Nat.le_refl _) _)
 have HC : Hid (Cel W1 w.heap.size 42 [.int .i64 kd, .int .i64 x1, .int .i64 x2, .int .i64 x3, .int .i64 x4, .slice AL n cL, .int .i64 x6, .int .i64 x7, .int .i64 x8, .int .i64 x9, .int .i64 x10, .int .i64 x11, .slice AV m cV]) := Lib.hid (by rw [hW1]; exact Cel.new w _ _)
 have con2 := stray_ W1 kd x1 x2 x3 x4 AL n cL x6 x7 x8 x9 x10 x11 AV m cV
 unfold raw at con2
 have c0 := HC.out.cell 0
 have c1 := HC.out.cell 1
 have c2 := HC.out.cell 2
 have c3 := HC.out.cell 3
 have c4 := HC.out.cell 4
 have c5 := HC.out.cell 5
 have c6 := HC.out.cell 6
 have c7 := HC.out.cell 7
 have c8 := HC.out.cell 8
 have c9 := HC.out.cell 9
 have c10 := HC.out.cell 10
 have c11 := HC.out.cell 11
 have c12 := HC.out.cell 12
 by_cases t1 : kd < 1
 ·have d1 : decide (kd < 1) = true := decide_eq_true t1
  clear hno t1 con2
  go_enter Try.func22, Try.ntmps22
  go_upto_region 1 with fail
  rw [← hW1]
  clear hW1
  go_wp2_with fail
  go_ret
  exact ⟨rfl, HB.out⟩
 ·have d1 : decide (kd < 1) = false := decide_eq_false t1
  by_cases t2 : 3 < kd
  ·have d2 : decide (3 < kd) = true := decide_eq_true t2
   clear hno t1 t2 con2
   go_enter Try.func22, Try.ntmps22
   go_upto_region 1 with fail
   rw [← hW1]
   clear hW1
   go_wp2_with fail
   go_ret
   exact ⟨rfl, HB.out⟩
  ·have d2 : decide (3 < kd) = false := decide_eq_false t2
   have hst : (decide (kd = 3) && decide (x11 = -1) && decide (0 < m)) = true := (hno.resolve_left t1).resolve_left t2
   rw [hst] at con2
   clear hno t1 t2 hst
   go_enter Try.func22, Try.ntmps22
   go_upto_region 1 with fail
   rw [← hW1]
   clear hW1
   go_wp2_with fail
   refine con2.mono ?_
   rintro e w2 ⟨rfl, hb⟩
   have HB2 := Lib.hid (HB.out.trans (hb.mono HB.out.size))
   clear con2 hb c0 c1 c2 c3 c4 c5 c6 c7 c8 c9 c10 c11 c12
   go_wp2_with fail
   go_ret
   exact ⟨rfl, HB2.out⟩
end
theorem pmay_ (w : World) (K : Nat) (v : Rv) (h : Rok w K v) (ht : Trow w K v.AL v.vs) (hK : K ≤ w.heap.size) :
  Calls Try.prog 22 #[.agg v.cells.toArray] w fun e w' => e = .returned (.bool (may v.r)) ∧ Below w.heap.size w w' := by
 obtain ⟨⟨k, ⟨s1, s2, s3, s4, vars⟩, vi, st, tr, dst, of, va, vl⟩, AL, cL, vs, AV, cV⟩ := v
 have he : vars = txt vs := h.eq
 subst he
 unfold Rv.cells
 dsimp only at ht ⊢
 have hn := h.vl
 dsimp only at hn
 by_cases h0 : k < 1 ∨ 3 < k
 ·have e : may ⟨k, ⟨s1, s2, s3, s4, txt vs⟩, vi, st, tr, dst, of, va, vl⟩ = false := by
   unfold may
   rw [if_neg (by show ¬ k = 1; omega), if_neg (by show ¬ k = 2; omega), if_neg (by show ¬ k = 3; omega)]
  rw [e]
  exact pmay_no w k s1 s2 s3 s4 AL vs.length cL vi st tr dst of va AV vl.length cV (h0.imp id .inl)
 have hc : k = 1 ∨ k = 2 ∨ k = 3 := by omega
 have tv : ∀ W, Below w.heap.size w W → Tvs W K AL vs ∧ Trow W K AL vs := fun W hb => ⟨h.vs.below hK hb, ht.below hb⟩
 rcases hc with rfl | rfl | rfl
 ·rw [← may_k1 (vs := vs) (vl := vl) rfl]
  exact pmay_go w 1 s1 s2 s3 s4 AL vs.length cL vi st tr dst of va AV vl.length cV 0 0 0 0 none 0 0 vi st tr dst of va AV vl.length cV _ (by decide) (by decide) rfl fun W J hb hJ c1 c2 => judge1 W c1 c2 (tv W hb).1 (tv W hb).2 (Nat.le_trans hK hJ) hK rfl hn
 ·rw [← may_k2 (vs := vs) (vl := vl) rfl rfl]
  exact pmay_go w 2 s1 s2 s3 s4 AL vs.length cL vi st tr dst of va AV vl.length cV s1 s2 s3 s4 AL vs.length cL 0 0 0 dst of va AV vl.length cV _ (by decide) (by decide) rfl fun W J hb hJ c1 c2 => judge2 W c1 c2 (tv W hb).1 (tv W hb).2 (Nat.le_trans hK hJ) hK rfl hn
 ·by_cases hst : (decide ((3 : Int) = 3) && decide (va = -1) && decide (0 < vl.length)) = true
  ·rw [may_stray (vs := vs) (vl := vl) rfl hst]
   exact pmay_no w 3 s1 s2 s3 s4 AL vs.length cL vi st tr dst of va AV vl.length cV (.inr (.inr hst))
  ·rw [Bool.not_eq_true] at hst
   rw [← may_k3 (vs := vs) (vl := vl) rfl rfl hst]
   exact pmay_go w 3 s1 s2 s3 s4 AL vs.length cL vi st tr dst of va AV vl.length cV s1 s2 s3 s4 AL vs.length cL 0 st tr 0 0 0 none 0 0 _ (by decide) (by decide) hst fun W J hb hJ c1 c2 => judge3 W c1 c2 (tv W hb).1 (tv W hb).2 (Nat.le_trans hK hJ) hK rfl hn
end Go.Proofs.Ytfmkkklcgiaacaa.Rec
