/-
The program's check (layer 14): the names of a book, gathered.
-/
import Derived.Test.YteohlpmojfjjdaaGreatC1
import Derived.Test.YteohlpmojfjjdaaGreatC2
import Derived.Test.YteohlpmojfjjdaaGreatC3
import Derived.Test.YteohlpmojfjjdaaGreatC5
import Derived.Test.YteohlpmojfjjdaaGreatC7
import Derived.Test.YteohlpmojfjjdaaGreatC8
import Derived.Test.YteohlpmojfjjdaaGreatC9
import Derived.Test.YteohlpmojfjjdaaGreatC18
import Derived.Test.YteohlpmojfjjdaaGreatC24
import Derived.Test.YteohlpmojfjjdaaGreatC30
import Derived.Test.YteohlpmojfjjdaaGreatC31
set_option linter.unusedVariables false
set_option linter.unusedSimpArgs false
set_option maxRecDepth 100000
set_option maxHeartbeats 4000000
namespace Go.Proofs.YteohlpmojfjjdaaGreat.Chk
open Go.RowKit Go.Proofs.YteohlpmojfjjdaaGreat.Ord
open Lex (Tx Cr cr_ry)
open Vars (scell Ons rowStr)
structure No (D : Nat) (w0 w : World) (g b1 b2 : Nat) (ss : List GStep) (o : List (List B)) : Prop where
 bel : Below D w0 w
 low : D ≤ w0.heap.size
 gD : D ≤ g
 d1 : D ≤ b1
 d2 : D ≤ b2
 ne : b1 ≠ b2
 ex : ∃ A c n1 n2, Cel w g 83 [.map (some b1), .map (some b2), .slice A o.length c] ∧ Mp w b1 n1 (stF ss) ∧ n1 ≤ ss.length ∧ Mp w b2 n2 (vaF o) ∧ n2 ≤ o.length ∧ Ons w D A o.length c o
section
variable {D g b1 b2 : Nat} {w0 w w' : World} {ss : List GStep} {o : List (List B)}
theorem No.below (h : No D w0 w g b1 b2 ss o) (hb : Below w.heap.size w w') : No D w0 w' g b1 b2 ss o := by
 obtain ⟨A, c, n1, n2, h1, h2, h3, h4, h5, h6⟩ := h.ex
 exact ⟨h.bel.trans (hb.mono (Nat.le_trans h.low h.bel.size)), h.low, h.gD, h.d1, h.d2, h.ne, A, c, n1, n2, Cel.below h1 hb h1.lt, h2.below hb, h3, h4.below hb, h5, h6.below hb⟩
theorem No.nn (h : No D w0 w g b1 b2 ss o) : Nn w g ss o := by
 obtain ⟨A, c, n1, n2, h1, h2, h3, h4, h5, h6⟩ := h.ex
 exact ⟨b1, n1, b2, n2, A, c, h1, h2, h4, Ry.of_own h6 (by decide)⟩
theorem below_grown {B b : Nat} {w w' : World} (hg : w.grownBy w' (some b)) (hB : B ≤ w.heap.size) (hb : B ≤ b) : Below B w w' := ⟨hg.os, hg.tape, hg.output, hg.size, fun k hk => hg.block k (Nat.lt_of_lt_of_le hk hB) (fun e => by cases e; omega)⟩
theorem own_not_map {w : World} {base e size n b : Nat} {v : Value} {xs : List Value} {k : Nat} {f : List B → Option Int} (h : w.ownsRow base e size v n xs) (hm : Mp w b k f) : v.ownBlock ≠ some b := fun hv => by
 rcases h.2 with ⟨rfl, _⟩ | ⟨g', cap, cur, rfl, _, h1, _⟩
 ·simp [Value.ownBlock] at hv
 ·obtain rfl : g' = b := by simpa [Value.ownBlock] using hv
  exact hm.not_cells _ _ _ h1
theorem cel_not_map {w : World} {g b k : Nat} {t : TypeId} {cs : List Value} {f : List B → Option Int} (h : Cel w g t cs) (hm : Mp w b k f) : some b ≠ some g := fun e => by
 cases e
 exact hm.not_cells _ _ _ h
theorem frm_grown {w w' : World} {b : Nat} (hg : w.grownBy w' (some b)) : Frm [b] w w' := (Frm.refl [b] w).grown hg fun g e _ => by cases e; simp
theorem No.step (h : No D w0 w g b1 b2 ss o) {s : GStep} (hn : stF ss s.name = none) {n1 : Nat} (hm : Mp w' b1 (n1 + 1) (fun k => if k = s.name then some (ss.length : Int) else stF ss k)) (hl : n1 ≤ ss.length) (hg : w.grownBy w' (some b1)) : No D w0 w' g b1 b2 (ss ++ [s]) o := by
 obtain ⟨A, c, n1', n2, h1, h2, h3, h4, h5, h6⟩ := h.ex
 refine ⟨h.bel.trans (below_grown hg (Nat.le_trans h.low h.bel.size) h.d1), h.low, h.gD, h.d1, h.d2, h.ne, A, c, n1 + 1, n2, h1.grown hg (cel_not_map h1 h2), ?_, by rw [List.length_append]; simp; omega, h4.kept fun es k e => hg.block _ h4.lt (fun e' => by cases e'; exact h.ne rfl), h5, own_frm h6 (frm_grown hg) (fun q hq => by rw [List.mem_singleton.1 hq]; exact own_not_map h6 h2)⟩
 rw [stF_put hn]; exact hm
theorem No.same (h : No D w0 w g b1 b2 ss o) {s : GStep} {z : Int} (hn : stF ss s.name = some z) : No D w0 w g b1 b2 (ss ++ [s]) o := by
 obtain ⟨A, c, n1, n2, h1, h2, h3, h4, h5, h6⟩ := h.ex
 exact ⟨h.bel, h.low, h.gD, h.d1, h.d2, h.ne, A, c, n1, n2, h1, by rw [stF_keep hn]; exact h2, by rw [List.length_append]; omega, h4, h5, h6⟩
end
theorem addVariable_ {D g b1 b2 : Nat} {w0 w : World} {ss : List GStep} {o : List (List B)} (h : No D w0 w g b1 b2 ss o) (a : GArm) (hx : a.as_.length ≤ 100000) (ho : o.length ≤ 50000) :
  Calls Tryz.prog 25 #[pa g, .string (str a.as_)] w fun e w' => e = .returned (.tuple #[]) ∧ No D w0 w' g b1 b2 ss (varA o a) := by
 have HH := Lib.hid h
 have he := str_empty (a := a.as_)
 by_cases hx0 : a.as_ = []
 ·have HV := Lib.hid (show varA o a = o by unfold varA; rw [if_neg (by simp [hx0])])
  rw [decide_eq_true hx0] at he
  obtain ⟨st, hst⟩ : ∃ st, st = str a.as_ := ⟨_, rfl⟩
  rw [← hst] at he ⊢
  clear h hx0 hst
  go_enter Tryz.func25, Tryz.ntmps25
  go_wp2_with fail
  (try simp only [Exit.inBlock, Exit.then]); refine bodyPost_ret (results_none rfl _ _ _) rfl ?_
  rw [HV.out]
  exact ⟨rfl, HH.out⟩
 rw [decide_eq_false hx0] at he
 have con := isVariable_ h.nn a.as_ hx
 cases hq : (vaF o a.as_).isSome
 rotate_left
 ·have HV := Lib.hid (show varA o a = o by
   rw [vaF_some] at hq
   have := of_decide_eq_true hq
   unfold varA; rw [if_neg (fun q => by omega)])
  rw [hq] at con
  obtain ⟨st, hst⟩ : ∃ st, st = str a.as_ := ⟨_, rfl⟩
  rw [← hst] at he con ⊢
  clear h hx0 hst hq
  go_enter Tryz.func25, Tryz.ntmps25
  go_wp2_with fail
  refine con.mono ?_
  clear con
  rintro e w1 ⟨rfl, rfl⟩
  go_wp2_with fail
  (try simp only [Exit.inBlock, Exit.then]); refine bodyPost_ret (results_none rfl _ _ _) rfl ?_
  rw [HV.out]
  exact ⟨rfl, HH.out⟩
 have HV := Lib.hid (show varA o a = o ++ [a.as_] by
  rw [vaF_some] at hq
  have := of_decide_eq_false hq
  unfold varA; rw [if_pos ⟨hx0, by omega⟩])
 have hvn : vaF o a.as_ = none := by
  cases e : vaF o a.as_ with
  | none => rfl
  | some z => rw [e] at hq; cases hq
 obtain ⟨A, c, n1, n2, h1, h2, h3, h4, h5, h6⟩ := h.ex
 rw [hq] at con
 have hlow : D ≤ w.heap.size := Nat.le_trans h.low h.bel.size
 have hbd : Below w.heap.size w w.drew := (Below.refl _ _).drew
 obtain ⟨w2, hr2, hm2, hg2⟩ := (h4.below hbd).putS a.as_ hx (by omega) (o.length : Int)
 rw [show (fun i => if i = a.as_ then some (o.length : Int) else vaF o i) = vaF (o ++ [a.as_]) from (vaF_put hvn).symm] at hm2
 have hc2 : Cel w2 g 83 [.map (some b1), .map (some b2), .slice A o.length c] := (Cel.below h1 hbd h1.lt).grown hg2 (cel_not_map h1 h4)
 have hs2 : Mp w2 b1 n1 (stF ss) := (h2.below hbd).kept fun es k e => hg2.block _ h2.lt (fun e' => by cases e'; exact h.ne rfl)
 have ho2 : Ons w2 D A o.length c o := own_frm (h6.below hbd) (frm_grown hg2) (fun q hq => by rw [List.mem_singleton.1 hq]; exact own_not_map h6 h4)
 have hB2 : Below D w0 w2 := h.bel.trans ((hbd.mono hlow).trans (below_grown hg2 hlow h.d2))
 have hSC : scell a.as_ = .string (str a.as_) := rfl
 obtain ⟨m, hm⟩ : ∃ m, m = o.length := ⟨_, rfl⟩
 obtain ⟨st, hst⟩ : ∃ st, st = str a.as_ := ⟨_, rfl⟩
 rw [← hm] at h1 hr2 hc2 ho2
 rw [← hst] at he con hr2 hSC ⊢
 have hc := h1
 have hH : Cel w.drew g 83 [.map (some b1), .map (some b2), .slice A m c] := h1
 have HM := Lib.hid hm
 have HS2 := Lib.hid hs2
 have HO2 := Lib.hid ho2
 have HB2 := Lib.hid hB2
 have HM2 := Lib.hid hm2
 have HC2 := Lib.hid hc2
 have HN1 := Lib.hid h3
 have HN2 := Lib.hid h5
 have HSC := Lib.hid hSC
 have hm5 : m ≤ 50000 := by omega
 clear h h1 h2 h3 h4 h5 h6 hq hvn hx0 hm hst hs2 ho2 hB2 hm2 hbd hg2 hc2 hSC ho
 go_enter Tryz.func25, Tryz.ntmps25
 go_wp2_with fail
 refine con.mono ?_
 clear con
 rintro e w1 ⟨rfl, rfl⟩
 go_wp2_with fail
 refine wp_region_N [10] (fun V => Cel V g 83 [.map (some b1), .map (some b2), .slice A m c]) (by kernel_rfl) ?_
 refine tk_ 0 (.pointer (some ⟨g, 0, none⟩)) [10] rfl hH ?_ ?_
 ·intro V hV; go_simp
 try simp only [Act.put, lay_]
 refine tk_ 1 (.pointer (some ⟨g, 0, none⟩)) [10] rfl hH ?_ ?_
 ·intro V hV; go_simp
 try simp only [Act.put, lay_]
 refine tk_ 2 (.pointer (some ⟨g, 1, none⟩)) [10] rfl hH ?_ ?_
 ·intro V hV; go_simp
 try simp only [Act.put, lay_]
 refine tk_ 3 (.map (some b2)) [10] rfl hH ?_ ?_
 ·intro V hV; have c0 := hV.cell 0; have c1 := hV.cell 1; have c2 := hV.cell 2; change _ = some (Value.map (some b1)) at c0; change _ = some (Value.map (some b2)) at c1; change _ = some (Value.slice A m c) at c2; go_simp
 try simp only [Act.put, lay_]
 refine tk_ 4 (.string st) [10] rfl hH ?_ ?_
 ·intro V hV; go_simp
 try simp only [Act.put, lay_]
 refine tk_ 5 (.pointer (some ⟨g, 0, none⟩)) [10] rfl hH ?_ ?_
 ·intro V hV; go_simp
 try simp only [Act.put, lay_]
 refine tk_ 6 (.pointer (some ⟨g, 0, none⟩)) [10] rfl hH ?_ ?_
 ·intro V hV; go_simp
 try simp only [Act.put, lay_]
 refine tk_ 7 (.pointer (some ⟨g, 2, none⟩)) [10] rfl hH ?_ ?_
 ·intro V hV; go_simp
 try simp only [Act.put, lay_]
 refine tk_ 8 (.slice A m c) [10] rfl hH ?_ ?_
 ·intro V hV; have c0 := hV.cell 0; have c1 := hV.cell 1; have c2 := hV.cell 2; change _ = some (Value.map (some b1)) at c0; change _ = some (Value.map (some b2)) at c1; change _ = some (Value.slice A m c) at c2; go_simp
 try simp only [Act.put, lay_]
 refine tk_ 9 (.int .i64 (m : Int)) [10] rfl hH ?_ ?_
 ·intro V hV; go_simp
 try simp only [Act.put, lay_]
 refine wpAnyN_one (i := 10) (by kernel_rfl) rfl (fun K hK => ?_)
 go_simp
 refine hK.out _ _ (.inl (by decide)) ?_
 clear hK K
 refine wpAnyN_done (by kernel_rfl) ?_ _
 obtain ⟨W2, hW2⟩ : ∃ W2, W2 = w2.alloc (.cells #[.string st] 9) := ⟨_, rfl⟩
 have hbA : Below w2.heap.size w2 W2 := by rw [hW2]; exact (Below.refl _ _).alloc (Nat.le_refl _) _
 have HOA := Lib.hid (Vars.Ons.below HO2.out hbA)
 have HBA := Lib.hid (HB2.out.trans (hbA.mono (Nat.le_trans HH.out.low HB2.out.size)))
 have HCA := Lib.hid (Cel.below HC2.out hbA HC2.out.lt)
 have HSA := Lib.hid (HS2.out.below hbA)
 have HMA := Lib.hid (HM2.out.below hbA)
 have hBA : D ≤ W2.heap.size := Nat.le_trans (Nat.le_trans HH.out.low HB2.out.size) hbA.size
 have HSRC := Lib.hid (show Src W2 (some ⟨w2.heap.size, 0, none⟩) 1 [.string st] by rw [hW2]; exact Ry.src (m := 1) (Ry.of_cel (Cel.new w2 9 [.string st])) (by simp))
 have h1c : ∀ u ∈ [Value.string st], u.oneCell' = true := by intro u hu; rw [List.mem_singleton.1 hu]; rfl
 have q0 := HC2.out.cell 2
 change _ = some (Value.slice A m c) at q0
 rw [hW2] at HOA HBA HCA HSA HMA hBA HSRC
 clear hbA
 go_wp2_with ((at_builtin; refine wpList_append_any _ rfl _ _ 28 rfl D 9 rowStr (.slice A m c) m (o.map scell) rfl HOA.out (some ⟨w2.heap.size, 0, none⟩) 1 1 [.string st] rfl rfl HSRC.out h1c (m + 1) _ rfl rfl (by unfold maxLen; omega) (by omega) hBA ?_; intro A8 c8 w8 ho8 hg8 _; have HB8 := Lib.hid (HBA.out.trans (Vars.Ons.grew HOA.out hg8 hBA)); have HO8 := Lib.hid (show Ons w8 D A8 (m + 1) c8 (o ++ [a.as_]) by unfold Ons; rw [List.map_append, List.map_cons, List.map_nil, HSC.out]; exact ho8); have hc8 := Cel.grown HCA.out hg8 (own_ty_ne HOA.out HCA.out (by decide)); have HS8 := Lib.hid (HSA.out.kept fun es k e => hg8.block _ HSA.out.lt (fun e' => own_not_map HOA.out HSA.out e'.symm)); have HM8 := Lib.hid (HMA.out.kept fun es k e => hg8.block _ HMA.out.lt (fun e' => own_not_map HOA.out HMA.out e'.symm)); have p2 := hc8.cell 2; have f2 := hc8.free 2; change _ = some (Value.slice A m c) at p2; have HC8 := Lib.hid hc8; clear ho8 hg8 hc8))
 go_end0
 refine ⟨rfl, ?_⟩
 rw [HV.out]
 have hf : Frm [g] w8 (w8.setCell ⟨g, 2, none⟩ (.slice A8 (m + 1) c8)) := (Frm.refl [g] w8).set (by simp) _
 have hc9 := HC8.out.set 2 (.slice A8 (m + 1) c8)
 refine ⟨HB8.out.trans (hf.below (Nat.le_trans HH.out.low HB8.out.size) (by intro q hq; rw [List.mem_singleton.1 hq]; exact HH.out.gD)), HH.out.low, HH.out.gD, HH.out.d1, HH.out.d2, HH.out.ne, A8, c8, n1, n2 + 1, ?_, ?_, HN1.out, ?_, by rw [List.length_append]; have := HN2.out; simp; omega, ?_⟩
 ·rw [List.length_append, ← HM.out]; exact hc9
 ·exact HS8.out.kept fun es k e => hf.block _ HS8.out.lt (fun e' => cel_not_map HC8.out HS8.out (by rw [List.mem_singleton.1 e']))
 ·exact HM8.out.kept fun es k e => hf.block _ HM8.out.lt (fun e' => cel_not_map HC8.out HM8.out (by rw [List.mem_singleton.1 e']))
 ·rw [List.length_append, ← HM.out]
  exact own_frm HO8.out hf (fun q hq => by rw [List.mem_singleton.1 hq]; exact own_ty_ne HO8.out HC8.out (by decide))
theorem take_snoc {α : Type} {l : List α} {i : Nat} {x : α} (h : l[i]? = some x) : l.take (i + 1) = l.take i ++ [x] := by rw [List.take_add_one, h]; rfl
def NmSaysP (w : World) (b : GBook) (e : Ending) (w' : World) : Prop := ∃ g, e = .returned (pa g) ∧ Nn w' g b.steps (varsOf b) ∧ Below w.heap.size w w'
theorem namesOf_ (w : World) (T : Nat) (A : Option Addr) (n c : Nat) (vs : List Gs) (h : Gbk w T A vs) (hT : T ≤ w.heap.size) (hl : vs.length = n) (hn : n ≤ 50000) (hs : sumA vs ≤ 50000) (hz : ∀ v ∈ vs, Szs v) (b : GBook) (hbs : b.steps = vs.map (·.g)) :
  Calls Tryz.prog 14 #[.slice A n c] w (NmSaysP w b) := by
 have hmm := @run_makeMap Tryz.prog
 obtain ⟨W1, hW1⟩ : ∃ W1, W1 = ((w.alloc (.map #[] 0)).alloc (.map #[] 0)).alloc (.cells #[.map (some w.heap.size), .map (some (w.heap.size + 1)), .slice none 0 0] 83) := ⟨_, rfl⟩
 have hno : No w.heap.size w W1 (w.heap.size + 1 + 1) w.heap.size (w.heap.size + 1) [] [] := by
  have hb : Below w.heap.size w W1 := by rw [hW1]; exact (((Below.refl _ _).alloc (Nat.le_refl _) _).alloc (by simp) _).alloc (by simp; omega) _
  have m1 := Mp.made w
  have m2 := Mp.made (w.alloc (.map #[] 0))
  rw [World.size_alloc] at m2
  have hc := Cel.new ((w.alloc (.map #[] 0)).alloc (.map #[] 0)) 83 [.map (some w.heap.size), .map (some (w.heap.size + 1)), .slice none 0 0]
  simp only [World.size_alloc] at hc
  refine ⟨hb, Nat.le_refl _, by omega, Nat.le_refl _, by omega, by omega, none, 0, 0, 0, ?_, ?_, Nat.le_refl _, ?_, Nat.le_refl _, Vars.Ons.nil_ _ _⟩
  ·rw [hW1]; exact hc
  ·rw [hW1]; exact (m1.below ((Below.refl _ _).alloc (Nat.le_refl _) _)).below ((Below.refl _ _).alloc (Nat.le_refl _) _)
  ·rw [hW1]; exact m2.below ((Below.refl _ _).alloc (Nat.le_refl _) _)
 have H := Lib.hid h
 have HL := Lib.hid hl
 have HZ := Lib.hid hz
 have HNO := Lib.hid hno
 have HBS := Lib.hid hbs
 have HVB := Lib.hid (show varsOf b = b.steps.foldl varS [] from rfl)
 have HSUM := Lib.hid hs
 clear h hl hno hz hbs hs
 go_enter Tryz.func14, Tryz.ntmps14
 go_wp2_with fail
 rw [← hW1]
 clear hW1 hmm
 go_loopw [16] (fun v16 wr => ∃ (i : Nat) (o : List (List B)), i ≤ n ∧ v16 = .int .i64 (i : Int) ∧ No w.heap.size w wr (w.heap.size + 1 + 1) w.heap.size (w.heap.size + 1) (b.steps.take i) o ∧ o.length + sumA (vs.drop i) ≤ 50000 ∧ Hid (varsOf b = (b.steps.drop i).foldl varS o)) (fun v16 _ => n - (intOf v16).toNat)
 case atStart => exact ⟨0, [], Nat.zero_le _, rfl, by rw [List.take_zero]; exact HNO.out, by rw [List.drop_zero]; simpa using HSUM.out, Lib.hid (by rw [List.drop_zero]; exact HVB.out)⟩
 case round =>
  obtain ⟨i, o, hi, rfl, hno, hsum, HK⟩ := hrel
  obtain ⟨W0, hW0⟩ : ∃ W0, W0 = wr := ⟨_, rfl⟩
  rw [← hW0] at hno ⊢
  clear hW0
  have HN0 := Lib.hid hno
  rcases Nat.lt_or_ge i n with hlt | hge
  ·obtain ⟨x, hx⟩ : ∃ x, vs[i]? = some x := ⟨_, List.getElem?_eq_getElem (by rw [HL.out]; exact hlt)⟩
   rw [sumA_at hx] at hsum
   have hxm := List.mem_of_getElem? hx
   have hb0 : Below w.heap.size w W0 := hno.bel
   have hG0 := H.out.below hT hb0
   obtain ⟨ad, rfl, hcell⟩ := hG0.cell hx
   have k0 := hcell 0 _ rfl
   have k1 := hcell 1 _ rfl
   have k2 := hcell 2 _ rfl
   have k3 := hcell 3 _ rfl
   have k4 := hcell 4 _ rfl
   have k5 := hcell 5 _ rfl
   have k6 := hcell 6 _ rfl
   have k7 := hcell 7 _ rfl
   have k8 := hcell 8 _ rfl
   rw [Nat.add_zero] at k0
   rw [← add_at9 ad (i * 9) _ (by decide)] at k1 k2 k3 k4 k5 k6 k7 k8
   have HXS := Lib.hid (HZ.out x hxm)
   have HX := Lib.hid hx
   have hbx : b.steps[i]? = some x.g := by rw [HBS.out, List.getElem?_map, hx]; rfl
   have HTK := Lib.hid (take_snoc hbx)
   have HDR := Lib.hid (drop_at' hbx)
   have HIL := Lib.hid (show (b.steps.take i).length = i by rw [List.length_take, HBS.out, List.length_map, HL.out]; omega)
   obtain ⟨W4, hW4⟩ : ∃ W4, W4 = W0.alloc (.cells #[.int .i64 x.g.at_, .string (str x.g.name), .int .i64 x.g.tag, .bool x.g.sends, .slice x.A4 x.g.send.length x.c4, .slice x.A5 x.g.arms.length x.c5, .int .i64 x.g.time, .int .i64 x.g.try_, .string (str x.g.els)] 52) := ⟨_, rfl⟩
   have hb4 : Below W0.heap.size W0 W4 := by rw [hW4]; exact (Below.refl _ _).alloc (Nat.le_refl _) _
   have hc4 : Cel W4 W0.heap.size 52 x.cells := by rw [hW4]; exact Cel.new W0 _ x.cells
   have hn4 := hno.below hb4
   obtain ⟨A1, c1, n1, n2, h1, h2, h3, h4, h5, h6⟩ := hn4.ex
   have c0 := h1.cell 0
   change _ = some (Value.map (some w.heap.size)) at c0
   have r := fun m => (h2.below (show Below W4.heap.size W4 (W4.drewN m) from Lex.lbelow_drew (Below.refl _ _) m)).lookS x.g.name HXS.out.1
   have HN4 := Lib.hid hn4
   have HC4 := Lib.hid hc4
   have HMP := Lib.hid h2
   have HN1 := Lib.hid h3
   rw [hW4] at c0 r
   clear hx hxm hG0 hcell hbx hno hb0 hb4 hc4 hn4 h1 h2 h3 h4 h5 h6
   have d1 := (Cel.new W0 52 x.cells).cell 1
   change (W0.alloc (.cells #[.int .i64 x.g.at_, .string (str x.g.name), .int .i64 x.g.tag, .bool x.g.sends, .slice x.A4 x.g.send.length x.c4, .slice x.A5 x.g.arms.length x.c5, .int .i64 x.g.time, .int .i64 x.g.try_, .string (str x.g.els)] 52)).cell? ⟨W0.heap.size, 1, none⟩ = some (Value.string (str x.g.name)) at d1
   go_wp2_with fail
   go_quiet (fail)
   cases hk : stF (b.steps.take i) x.g.name with
   | some z =>
    have HHK := Lib.hid hk
    dsimp only [Option.getD, Option.isSome]
    obtain ⟨V6, hV6⟩ : ∃ V6, V6 = (W0.alloc (.cells #[.int .i64 x.g.at_, .string (str x.g.name), .int .i64 x.g.tag, .bool x.g.sends, .slice x.A4 x.g.send.length x.c4, .slice x.A5 x.g.arms.length x.c5, .int .i64 x.g.time, .int .i64 x.g.try_, .string (str x.g.els)] 52)).drewN nq := ⟨_, rfl⟩
    rw [← hV6]
    rw [← hW4] at hV6
    have hb6 : Below W4.heap.size W4 V6 := by rw [hV6]; exact Lex.lbelow_drew (Below.refl _ _) nq
    have HN6 := Lib.hid (show No w.heap.size w V6 (w.heap.size + 1 + 1) w.heap.size (w.heap.size + 1) (b.steps.take (i + 1)) o by rw [HTK.out]; exact (HN4.out.below hb6).same HHK.out)
    have HC6 := Lib.hid (Cel.below HC4.out hb6 HC4.out.lt)
    clear hk r c0 d1 hb6 hV6 hW4 k0 k1 k2 k3 k4 k5 k6 k7 k8
    have k5 := HC6.out.cell 5
    change _ = some (Value.slice x.A5 x.g.arms.length x.c5) at k5
    obtain ⟨m, hm⟩ : ∃ m, m = x.g.arms.length := ⟨_, rfl⟩
    rw [← hm] at k5 hsum
    have hm5 : m ≤ 50000 := by rw [hm]; exact HXS.out.2.2.2.2.1
    have hG6 := H.out.below hT (show Below w.heap.size w V6 from HN6.out.bel)
    have ham : x.avs.length = m := by rw [hm, ← (hG6.arms x (List.mem_of_getElem? HX.out)).2]; simp
    have HAM := Lib.hid ham
    have HAG := Lib.hid (hG6.arms x (List.mem_of_getElem? HX.out)).2
    obtain ⟨S, hS⟩ : ∃ S, S = sumA (vs.drop (i + 1)) := ⟨_, rfl⟩
    rw [← hS] at hsum
    have HS := Lib.hid hS
    clear hm ham hG6 hS
    go_wp2_with fail
    go_loopw [43] (fun v43 wr => ∃ (j : Nat) (o' : List (List B)), j ≤ m ∧ v43 = .int .i64 (j : Int) ∧ No w.heap.size w wr (w.heap.size + 1 + 1) w.heap.size (w.heap.size + 1) (b.steps.take (i + 1)) o' ∧ o'.length + (m - j) + S ≤ 50000 ∧ Hid (varS o x.g = (x.g.arms.drop j).foldl varA o')) (fun v43 _ => m - (intOf v43).toNat)
    case atStart => exact ⟨0, o, Nat.zero_le _, rfl, HN6.out, by omega, Lib.hid (by rw [List.drop_zero]; rfl)⟩
    case round =>
     obtain ⟨j, o', hj, rfl, hno2, hsm, HK2⟩ := hrel
     obtain ⟨W7, hW7⟩ : ∃ W7, W7 = wr := ⟨_, rfl⟩
     rw [← hW7] at hno2 ⊢
     clear hW7 k5
     have HN7 := Lib.hid hno2
     rcases Nat.lt_or_ge j m with hlj | hgj
     ·obtain ⟨a, ha⟩ : ∃ a, x.avs[j]? = some a := ⟨_, List.getElem?_eq_getElem (by rw [HAM.out]; exact hlj)⟩
      have hG1 := H.out.below hT (show Below w.heap.size w W7 from hno2.bel)
      obtain ⟨ad5, h5, hac⟩ := hG1.acell HX.out ha
      have k0 := hac 0 _ rfl
      have k1 := hac 1 _ rfl
      have k2 := hac 2 _ rfl
      have k3 := hac 3 _ rfl
      rw [Nat.add_zero] at k0
      rw [← add_at9 ad5 (j * 4) _ (by decide)] at k1 k2 k3
      have haj : x.g.arms[j]? = some a.g := by rw [← HAG.out, List.getElem?_map, ha]; rfl
      have HDJ := Lib.hid (show varS o x.g = (x.g.arms.drop (j + 1)).foldl varA (varA o' a.g) by rw [HK2.out, drop_at' haj, List.foldl_cons])
      obtain ⟨W8, hW8⟩ : ∃ W8, W8 = W7.alloc (.cells #[.int .i64 a.g.at_, .slice a.A a.g.pat.length a.c, .string (str a.g.as_), .string (str a.g.go)] 56) := ⟨_, rfl⟩
      have hb8 : Below W7.heap.size W7 W8 := by rw [hW8]; exact (Below.refl _ _).alloc (Nat.le_refl _) _
      have con := addVariable_ (hno2.below hb8) a.g (HXS.out.2.2.2.2.2 a (List.mem_of_getElem? ha)).1 (by omega)
      have HVL := Lib.hid (show (varA o' a.g).length ≤ o'.length + 1 by unfold varA; split <;> simp)
      rw [h5]
      rw [hW8] at con
      clear ha hG1 hac haj HK2 hb8 h5 hno2 hW8
      go_wp2_with fail
      refine con.mono ?_
      clear con
      rintro e w9 ⟨rfl, hn9⟩
      have HN9 := Lib.hid hn9
      clear hn9 k0 k1 k2 k3
      go_wp2_with fail
      exact ⟨⟨j + 1, varA o' a.g, hlj, by rw [show ((j + 1 : Nat) : Int) = (j : Int) + 1 by omega], HN9.out, by have := HVL.out; omega, HDJ⟩, by simp [intOf]; omega⟩
     ·obtain rfl : j = m := by omega
      have HE := Lib.hid (show varS o x.g = o' by
       rw [HK2.out, List.drop_eq_nil_of_le (by rw [← HAM.out, ← HAG.out, List.length_map]; exact Nat.le_refl _)]; rfl)
      have HK3 := Lib.hid (show varsOf b = (b.steps.drop (i + 1)).foldl varS o' by rw [HK.out, HDR.out, List.foldl_cons, HE.out])
      clear hno2
      go_wp2_with fail
      exact ⟨⟨i + 1, o', hlt, by rw [show ((i + 1 : Nat) : Int) = (i : Int) + 1 by omega], HN7.out, by rw [← HS.out]; omega, HK3⟩, by simp [intOf]; omega⟩
   | none =>
    have HHK := Lib.hid hk
    dsimp only [Option.getD, Option.isSome]
    go_wp2_with fail
    obtain ⟨V5, hV5⟩ : ∃ V5, V5 = (W0.alloc (.cells #[.int .i64 x.g.at_, .string (str x.g.name), .int .i64 x.g.tag, .bool x.g.sends, .slice x.A4 x.g.send.length x.c4, .slice x.A5 x.g.arms.length x.c5, .int .i64 x.g.time, .int .i64 x.g.try_, .string (str x.g.els)] 52)).drewN nq := ⟨_, rfl⟩
    rw [← hV5]
    rw [← hW4] at hV5
    have hb5 : Below W4.heap.size W4 V5.drew := by rw [hV5]; exact (Lex.lbelow_drew (Below.refl _ _) nq).drew
    have hn5 := HN4.out.below hb5
    have hc5 := Cel.below HC4.out hb5 HC4.out.lt
    obtain ⟨A1, c1, n1, n2, h1, h2, h3, h4, h5, h6⟩ := hn5.ex
    obtain ⟨V6, hr6, hm6, hg6⟩ := h2.putS x.g.name HXS.out.1 (by rw [HIL.out] at h3; omega) (i : Int)
    have hn6 := hn5.step HHK.out (n1 := n1) (by rw [HIL.out]; exact hm6) h3 hg6
    have HN6 := Lib.hid (show No w.heap.size w V6 (w.heap.size + 1 + 1) w.heap.size (w.heap.size + 1) (b.steps.take (i + 1)) o by rw [HTK.out]; exact hn6)
    have HC6 := Lib.hid (show Cel V6 W0.heap.size 52 x.cells from hc5.grown hg6 (cel_not_map hc5 h2))
    have HN1' := Lib.hid h1
    have hH : Cel V5.drew (w.heap.size + 1 + 1) 83 [.map (some w.heap.size), .map (some (w.heap.size + 1)), .slice A1 o.length c1] ∧ Cel V5.drew W0.heap.size 52 x.cells := ⟨h1, hc5⟩
    clear hk r c0 d1 hb5 hV5 hW4 hn5 hc5 h1 h2 h3 h4 h5 h6 hm6 hg6 hn6 k0 k1 k2 k3 k4 k5 k6 k7 k8
    refine wp_region_N [7] (fun V => Cel V (w.heap.size + 1 + 1) 83 [.map (some w.heap.size), .map (some (w.heap.size + 1)), .slice A1 o.length c1] ∧ Cel V W0.heap.size 52 x.cells) (by kernel_rfl) ?_
    refine tk_ 0 (.pointer (some ⟨w.heap.size + 1 + 1, 0, none⟩)) [7] rfl hH ?_ ?_
    ·intro V hV; go_simp
    try simp only [Act.put, lay_]
    refine tk_ 1 (.pointer (some ⟨w.heap.size + 1 + 1, 0, none⟩)) [7] rfl hH ?_ ?_
    ·intro V hV; go_simp
    try simp only [Act.put, lay_]
    refine tk_ 2 (.pointer (some ⟨w.heap.size + 1 + 1, 0, none⟩)) [7] rfl hH ?_ ?_
    ·intro V hV; go_simp
    try simp only [Act.put, lay_]
    refine tk_ 3 (.map (some w.heap.size)) [7] rfl hH ?_ ?_
    ·intro V hV; obtain ⟨hV1, hV2⟩ := hV; have c0 := hV1.cell 0; have c1 := hV2.cell 1; change _ = some (Value.map (some w.heap.size)) at c0; change _ = some (Value.string (str x.g.name)) at c1; go_simp
    try simp only [Act.put, lay_]
    refine tk_ 4 (.pointer (some ⟨W0.heap.size, 1, none⟩)) [7] rfl hH ?_ ?_
    ·intro V hV; go_simp
    try simp only [Act.put, lay_]
    refine tk_ 5 (.string (str x.g.name)) [7] rfl hH ?_ ?_
    ·intro V hV; obtain ⟨hV1, hV2⟩ := hV; have c0 := hV1.cell 0; have c1 := hV2.cell 1; change _ = some (Value.map (some w.heap.size)) at c0; change _ = some (Value.string (str x.g.name)) at c1; go_simp
    try simp only [Act.put, lay_]
    refine tk_ 6 (.int .i64 (i : Int)) [7] rfl hH ?_ ?_
    ·intro V hV; go_simp
    try simp only [Act.put, lay_]
    refine wpAnyN_one (i := 7) (by kernel_rfl) rfl (fun K hK => ?_)
    go_simp
    refine hK.out _ _ (.inl (by decide)) ?_
    clear hK K hr6 hH
    refine wpAnyN_done (by kernel_rfl) ?_ _
    have k5 := HC6.out.cell 5
    change _ = some (Value.slice x.A5 x.g.arms.length x.c5) at k5
    obtain ⟨m, hm⟩ : ∃ m, m = x.g.arms.length := ⟨_, rfl⟩
    rw [← hm] at k5 hsum
    have hm5 : m ≤ 50000 := by rw [hm]; exact HXS.out.2.2.2.2.1
    have hG6 := H.out.below hT (show Below w.heap.size w V6 from HN6.out.bel)
    have ham : x.avs.length = m := by rw [hm, ← (hG6.arms x (List.mem_of_getElem? HX.out)).2]; simp
    have HAM := Lib.hid ham
    have HAG := Lib.hid (hG6.arms x (List.mem_of_getElem? HX.out)).2
    obtain ⟨S, hS⟩ : ∃ S, S = sumA (vs.drop (i + 1)) := ⟨_, rfl⟩
    rw [← hS] at hsum
    have HS := Lib.hid hS
    clear hm ham hG6 hS
    go_wp2_with fail
    go_loopw [43] (fun v43 wr => ∃ (j : Nat) (o' : List (List B)), j ≤ m ∧ v43 = .int .i64 (j : Int) ∧ No w.heap.size w wr (w.heap.size + 1 + 1) w.heap.size (w.heap.size + 1) (b.steps.take (i + 1)) o' ∧ o'.length + (m - j) + S ≤ 50000 ∧ Hid (varS o x.g = (x.g.arms.drop j).foldl varA o')) (fun v43 _ => m - (intOf v43).toNat)
    case atStart => exact ⟨0, o, Nat.zero_le _, rfl, HN6.out, by omega, Lib.hid (by rw [List.drop_zero]; rfl)⟩
    case round =>
     obtain ⟨j, o', hj, rfl, hno2, hsm, HK2⟩ := hrel
     obtain ⟨W7, hW7⟩ : ∃ W7, W7 = wr := ⟨_, rfl⟩
     rw [← hW7] at hno2 ⊢
     clear hW7 k5
     have HN7 := Lib.hid hno2
     rcases Nat.lt_or_ge j m with hlj | hgj
     ·obtain ⟨a, ha⟩ : ∃ a, x.avs[j]? = some a := ⟨_, List.getElem?_eq_getElem (by rw [HAM.out]; exact hlj)⟩
      have hG1 := H.out.below hT (show Below w.heap.size w W7 from hno2.bel)
      obtain ⟨ad5, h5, hac⟩ := hG1.acell HX.out ha
      have k0 := hac 0 _ rfl
      have k1 := hac 1 _ rfl
      have k2 := hac 2 _ rfl
      have k3 := hac 3 _ rfl
      rw [Nat.add_zero] at k0
      rw [← add_at9 ad5 (j * 4) _ (by decide)] at k1 k2 k3
      have haj : x.g.arms[j]? = some a.g := by rw [← HAG.out, List.getElem?_map, ha]; rfl
      have HDJ := Lib.hid (show varS o x.g = (x.g.arms.drop (j + 1)).foldl varA (varA o' a.g) by rw [HK2.out, drop_at' haj, List.foldl_cons])
      obtain ⟨W8, hW8⟩ : ∃ W8, W8 = W7.alloc (.cells #[.int .i64 a.g.at_, .slice a.A a.g.pat.length a.c, .string (str a.g.as_), .string (str a.g.go)] 56) := ⟨_, rfl⟩
      have hb8 : Below W7.heap.size W7 W8 := by rw [hW8]; exact (Below.refl _ _).alloc (Nat.le_refl _) _
      have con := addVariable_ (hno2.below hb8) a.g (HXS.out.2.2.2.2.2 a (List.mem_of_getElem? ha)).1 (by omega)
      have HVL := Lib.hid (show (varA o' a.g).length ≤ o'.length + 1 by unfold varA; split <;> simp)
      rw [h5]
      rw [hW8] at con
      clear ha hG1 hac haj HK2 hb8 h5 hno2 hW8
      go_wp2_with fail
      refine con.mono ?_
      clear con
      rintro e w9 ⟨rfl, hn9⟩
      have HN9 := Lib.hid hn9
      clear hn9 k0 k1 k2 k3
      go_wp2_with fail
      exact ⟨⟨j + 1, varA o' a.g, hlj, by rw [show ((j + 1 : Nat) : Int) = (j : Int) + 1 by omega], HN9.out, by have := HVL.out; omega, HDJ⟩, by simp [intOf]; omega⟩
     ·obtain rfl : j = m := by omega
      have HE := Lib.hid (show varS o x.g = o' by
       rw [HK2.out, List.drop_eq_nil_of_le (by rw [← HAM.out, ← HAG.out, List.length_map]; exact Nat.le_refl _)]; rfl)
      have HK3 := Lib.hid (show varsOf b = (b.steps.drop (i + 1)).foldl varS o' by rw [HK.out, HDR.out, List.foldl_cons, HE.out])
      clear hno2
      go_wp2_with fail
      exact ⟨⟨i + 1, o', hlt, by rw [show ((i + 1 : Nat) : Int) = (i : Int) + 1 by omega], HN7.out, by rw [← HS.out]; omega, HK3⟩, by simp [intOf]; omega⟩
  ·obtain rfl : i = n := by omega
   have HE := Lib.hid (show varsOf b = o by rw [HK.out, List.drop_eq_nil_of_le (by rw [HBS.out, List.length_map, HL.out]; exact Nat.le_refl _)]; rfl)
   have HN9 := Lib.hid (show Nn W0 (w.heap.size + 1 + 1) b.steps (varsOf b) by
    rw [HE.out]
    have := hno.nn
    rwa [List.take_of_length_le (by rw [HBS.out, List.length_map, HL.out]; exact Nat.le_refl _)] at this)
   have HB9 := Lib.hid hno.bel
   clear hno
   go_wp2_with fail
   go_ret
   exact ⟨_, rfl, HN9.out, HB9.out⟩
end Go.Proofs.YteohlpmojfjjdaaGreat.Chk
