/-
The program's records (layer 15): Get. (Written by gen_recpget.py.)
-/
import Derived.Test.YtfmkkklcgiaacaaFA0
import Derived.Test.YtfmkkklcgiaacaaFA1
import Derived.Test.YtfmkkklcgiaacaaFA2
import Derived.Test.YtfmkkklcgiaacaaFA3
import Derived.Test.YtfmkkklcgiaacaaFA4
import Derived.Test.YtfmkkklcgiaacaaFA5
import Derived.Test.YtfmkkklcgiaacaaFA17
import Derived.Test.YtfmkkklcgiaacaaFA18
import Derived.Test.YtfmkkklcgiaacaaFA20
import Derived.Test.YtfmkkklcgiaacaaFA21
set_option linter.unusedVariables false
set_option linter.unusedSimpArgs false
set_option maxRecDepth 100000
set_option maxHeartbeats 4000000
namespace Go.Proofs.Ytfmkkklcgiaacaa.Rec
open Go.RowKit
open Lex (Tx)
open Pack (Own Rd St rnum rtext rend)
structure Rdt (w : World) (B d g R : Nat) (st : St) (cs : List Value) (W : World) : Prop where
 rd : Rd W B d g st
 r : Cel W R 42 cs
 f : Frm [d, g, R] w W
def Fin (w : World) (B d g R : Nat) (p : Rc × St) (W : World) : Prop := ∃ v : Rv, v.r = p.1 ∧ Rok W 0 v ∧ Trow W 0 v.AL v.vs ∧ Rdt w B d g R p.2 v.cells W
section
variable {w W V : World} {B d g J R : Nat} {st : St} {cs : List Value}
theorem Rdt.num (h : Rdt w B d g R st cs W) (hJ : Cel w J 72 [pp g 0]) (hgJ : g < J) (hgR : g < R) (hRJ : R ≠ J) (k : Nat) (s : Nat) {z : Value} {y a b c : Int} (hk : cs[k]? = some z) (hy : y = (Rec.rd s st).1 - c) (hs1 : 1 ≤ s) (hs4 : s ≤ 4) (hc0 : 0 ≤ c) (hc1 : c ≤ 10) (hb : Below W.heap.size W V) :
  Calls Try.prog 96 #[pp J 0, pp R k, spn a b c (s : Int)] V (fun e V' => e = .returned (.tuple #[]) ∧ Rdt w B d g R (Rec.rd s st).2 (cs.set k (.int .i64 y)) V' ∧ Frm [d, g, R] W V') := by
 have hdg := h.rd.2.1
 have hj : Cel V J 72 [pp g 0] := (hJ.frm h.f (by simp; omega)).below hb ((hJ.frm h.f (by simp; omega)).lt)
 refine (r_number V (h.rd.frm (l := []) (Frm.of_below hb) (by simp)) hj (h.r.below hb h.r.lt) hk hgJ hgR hs1 hs4 hc0 hc1).mono ?_
 rintro e V' ⟨rfl, h1, h2, h3⟩
 have hf : Frm [d, g, R] W V' := (Frm.of_below hb).trans h3
 subst hy
 exact ⟨rfl, ⟨h1, h2, h.f.trans hf⟩, hf⟩
theorem rg_step {P : Nat → World → Prop} {W W' : World} {F rb d g R i : Nat} {ls fs : List Value} {e : Ending} {Q : World → Prop} (hF : Cel W F 102 fs) (hrb : Cel W rb 1 ls) (h1 : d < F ∧ g < F ∧ R < F) (h2 : d < rb ∧ g < rb ∧ R < rb) (hs : e = .returned (.tuple #[]) ∧ Q W' ∧ Frm [d, g, R] W W') (hq : Q W' → P (i + 1) W') :
  e = .returned (.tuple #[]) ∧ P (i + 1) W' ∧ W'.heap[F]? = W.heap[F]? ∧ W'.heap[rb]? = W.heap[rb]? :=
 ⟨hs.1, hq hs.2.1, hs.2.2.block F hF.lt (by simp; omega), hs.2.2.block rb hrb.lt (by simp; omega)⟩
theorem rok_plain {w : World} {r : Rc} (h1 : r.s.vars = []) (h2 : r.value = []) : Rok w 0 ⟨r, none, 0, [], none, 0⟩ := rok_nil h1 h2
end
def rS1 (s : St) : Nat → St
 | 0 => s
 | 1 => (Rec.rd 1 (s)).2
 | 2 => (Rec.rd 2 ((Rec.rd 1 (s)).2)).2
 | 3 => (Rec.rd 1 ((Rec.rd 2 ((Rec.rd 1 (s)).2)).2)).2
 | _ => (Rec.rd 4 ((Rec.rd 1 ((Rec.rd 2 ((Rec.rd 1 (s)).2)).2)).2)).2
def rC1 (s : St) : Nat → List Value
 | 0 => [.int .i64 1, .int .i64 0, .int .i64 0, .int .i64 0, .int .i64 0, .slice none 0 0, .int .i64 0, .int .i64 0, .int .i64 0, .int .i64 0, .int .i64 0, .int .i64 0, .slice none 0 0]
 | 1 => [.int .i64 1, .int .i64 ((Rec.rd 1 (s)).1 - 3), .int .i64 0, .int .i64 0, .int .i64 0, .slice none 0 0, .int .i64 0, .int .i64 0, .int .i64 0, .int .i64 0, .int .i64 0, .int .i64 0, .slice none 0 0]
 | 2 => [.int .i64 1, .int .i64 ((Rec.rd 1 (s)).1 - 3), .int .i64 ((Rec.rd 2 ((Rec.rd 1 (s)).2)).1), .int .i64 0, .int .i64 0, .slice none 0 0, .int .i64 0, .int .i64 0, .int .i64 0, .int .i64 0, .int .i64 0, .int .i64 0, .slice none 0 0]
 | 3 => [.int .i64 1, .int .i64 ((Rec.rd 1 (s)).1 - 3), .int .i64 ((Rec.rd 2 ((Rec.rd 1 (s)).2)).1), .int .i64 ((Rec.rd 1 ((Rec.rd 2 ((Rec.rd 1 (s)).2)).2)).1), .int .i64 0, .slice none 0 0, .int .i64 0, .int .i64 0, .int .i64 0, .int .i64 0, .int .i64 0, .int .i64 0, .slice none 0 0]
 | _ => [.int .i64 1, .int .i64 ((Rec.rd 1 (s)).1 - 3), .int .i64 ((Rec.rd 2 ((Rec.rd 1 (s)).2)).1), .int .i64 ((Rec.rd 1 ((Rec.rd 2 ((Rec.rd 1 (s)).2)).2)).1), .int .i64 ((Rec.rd 4 ((Rec.rd 1 ((Rec.rd 2 ((Rec.rd 1 (s)).2)).2)).2)).1), .slice none 0 0, .int .i64 0, .int .i64 0, .int .i64 0, .int .i64 0, .int .i64 0, .int .i64 0, .slice none 0 0]
theorem read1 (w : World) {B d g J R : Nat} {s : St} (hd : Rd w B d g s) (hJ : Cel w J 72 [pp g 0]) (hgJ : g < J) (hgR : g < R) (hR : Cel w R 42 [.int .i64 1, .int .i64 0, .int .i64 0, .int .i64 0, .int .i64 0, .slice none 0 0, .int .i64 0, .int .i64 0, .int .i64 0, .int .i64 0, .int .i64 0, .int .i64 0, .slice none 0 0]) :
  Calls Try.prog 25 #[pp R 0, .iface 70 (pp J 0)] w fun e W => e = .returned (.tuple #[]) ∧ Fin w B d g R (readK 1 s) W := by
 have hRJ : R ≠ J := hR.ne hJ (by decide)
 have hdg := hd.2.1
 have hRw := hR.lt
 have c1 : d < w.heap.size ∧ g < w.heap.size ∧ R < w.heap.size := by omega
 refine (each_ w hR rfl (fun i W => if i = 5 then Fin w B d g R (readK 1 s) W else Rdt w B d g R (rS1 s i) (rC1 s i) W) (fun W hb => by rw [if_neg (by decide)]; exact ⟨hd.frm (l := []) (Frm.of_below hb) (by simp), hR.below hb hR.lt, Frm.of_below hb⟩) ?_).mono ?_
 ·intro F rb W i kf hFB hrB hi hF hrb h
  have c2 : d < F ∧ g < F ∧ R < F := by omega
  have c3 : d < rb ∧ g < rb ∧ R < rb := by omega
  have hc : i = 0 ∨ i = 1 ∨ i = 2 ∨ i = 3 ∨ i = 4 ∨ 5 ≤ i := by omega
  rcases hc with rfl | rfl | rfl | rfl | rfl | hc
  ·obtain rfl : 49 = kf := by injection hi
   rw [if_neg (by decide)] at h
   exact (f_stateStep W hF (rm_number J) (fun e V hs => hs.1) (fun V hb => h.num hJ hgJ hgR hRJ 1 1 (y := (Rec.rd 1 (s)).1 - 3) rfl rfl (by decide) (by decide) (by decide) (by decide) hb)).mono fun e V hs => rg_step (P := fun i W => if i = 5 then Fin w B d g R (readK 1 s) W else Rdt w B d g R (rS1 s i) (rC1 s i) W) (i := 0) (Q := fun V => Rdt w B d g R (rS1 s 1) (rC1 s 1) V) hF hrb c2 c3 hs (fun hq => by rw [if_neg (by decide)]; exact hq)
  ·obtain rfl : 50 = kf := by injection hi
   rw [if_neg (by decide)] at h
   exact (f_stateVisit W hF (rm_number J) (fun e V hs => hs.1) (fun V hb => h.num hJ hgJ hgR hRJ 2 2 (y := (Rec.rd 2 ((Rec.rd 1 (s)).2)).1) rfl (Int.sub_zero _).symm (by decide) (by decide) (by decide) (by decide) hb)).mono fun e V hs => rg_step (P := fun i W => if i = 5 then Fin w B d g R (readK 1 s) W else Rdt w B d g R (rS1 s i) (rC1 s i) W) (i := 1) (Q := fun V => Rdt w B d g R (rS1 s 2) (rC1 s 2) V) hF hrb c2 c3 hs (fun hq => by rw [if_neg (by decide)]; exact hq)
  ·obtain rfl : 51 = kf := by injection hi
   rw [if_neg (by decide)] at h
   exact (f_stateTries W hF (rm_number J) (fun e V hs => hs.1) (fun V hb => h.num hJ hgJ hgR hRJ 3 1 (y := (Rec.rd 1 ((Rec.rd 2 ((Rec.rd 1 (s)).2)).2)).1) rfl (Int.sub_zero _).symm (by decide) (by decide) (by decide) (by decide) hb)).mono fun e V hs => rg_step (P := fun i W => if i = 5 then Fin w B d g R (readK 1 s) W else Rdt w B d g R (rS1 s i) (rC1 s i) W) (i := 2) (Q := fun V => Rdt w B d g R (rS1 s 3) (rC1 s 3) V) hF hrb c2 c3 hs (fun hq => by rw [if_neg (by decide)]; exact hq)
  ·obtain rfl : 52 = kf := by injection hi
   rw [if_neg (by decide)] at h
   exact (f_stateOffset W hF (rm_number J) (fun e V hs => hs.1) (fun V hb => h.num hJ hgJ hgR hRJ 4 4 (y := (Rec.rd 4 ((Rec.rd 1 ((Rec.rd 2 ((Rec.rd 1 (s)).2)).2)).2)).1) rfl (Int.sub_zero _).symm (by decide) (by decide) (by decide) (by decide) hb)).mono fun e V hs => rg_step (P := fun i W => if i = 5 then Fin w B d g R (readK 1 s) W else Rdt w B d g R (rS1 s i) (rC1 s i) W) (i := 3) (Q := fun V => Rdt w B d g R (rS1 s 4) (rC1 s 4) V) hF hrb c2 c3 hs (fun hq => by rw [if_neg (by decide)]; exact hq)
  ·obtain rfl : 53 = kf := by injection hi
   rw [if_neg (by decide)] at h
   refine (f_stateVars W hF (rm_texts J) (Q := fun e V' => e = .returned (.tuple #[]) ∧ Fin w B d g R (readK 1 s) V' ∧ Frm [d, g, R] W V') (fun e V hs => hs.1) (fun V hb => ?_)).mono fun e V hs => rg_step (P := fun i W => if i = 5 then Fin w B d g R (readK 1 s) W else Rdt w B d g R (rS1 s i) (rC1 s i) W) (i := 4) (Q := fun V => Fin w B d g R (readK 1 s) V) hF hrb c2 c3 hs (fun hq => by rw [if_pos rfl]; exact hq)
   have hj : Cel V J 72 [pp g 0] := (hJ.frm h.f (by simp; omega)).below hb ((hJ.frm h.f (by simp; omega)).lt)
   refine (r_texts V (h.rd.frm (l := []) (Frm.of_below hb) (by simp)) hj (h.r.below hb h.r.lt) (k := 5) rfl (by decide) hgJ hgR).mono ?_
   rintro e V' ⟨rfl, L, vs, st', h1, h2, h3, h4, h5, h6, h7, h8⟩
   have hf : Frm [d, g, R] W V' := (Frm.of_below hb).trans h8
   have hv : (readK 1 s).1.s.vars = txt vs := by
    show (rtexts (Rec.rd 1 (rS1 s 4)).1.toNat (Rec.rd 1 (rS1 s 4)).2).1 = _
    rw [h1]
   have hs2 : (readK 1 s).2 = st' := by
    show (rtexts (Rec.rd 1 (rS1 s 4)).1.toNat (Rec.rd 1 (rS1 s 4)).2).2 = _
    rw [h1]
   have hcl : (⟨(readK 1 s).1, some ⟨L, 0, none⟩, vs.length, vs, none, 0⟩ : Rv).cells = (rC1 s 4).set 5 (.slice (some ⟨L, 0, none⟩) vs.length vs.length) := rfl
   refine ⟨rfl, ⟨⟨(readK 1 s).1, some ⟨L, 0, none⟩, vs.length, vs, none, 0⟩, rfl, ⟨hv, ⟨fun i v hi => ⟨_, rfl, ?_⟩, fun v hv => ⟨.inr (h7 v hv).1, ?_⟩⟩, by show vs.length ≤ maxLen; unfold maxLen; omega, .inl Bs.nil_, Nat.zero_le _⟩, fun _ => ⟨_, rfl, .inr ⟨_, _, h6⟩⟩, by rw [hs2]; exact h4, by rw [hcl]; exact h5, h.f.trans hf⟩, hf⟩
   ·have := h6.cell i
    rw [List.getElem?_map, hi] at this
    cases i <;> simpa [Addr.add] using this
   ·have := (h7 v hv).2
    unfold maxLen
    omega
  ·rw [List.getElem?_eq_none (by exact hc)] at hi
   cases hi
 ·rintro e W ⟨rfl, h⟩
  rw [if_pos (by rfl)] at h
  exact ⟨rfl, h⟩
def rS2 (s : St) : Nat → St
 | 0 => s
 | 1 => (Rec.rd 2 (s)).2
 | 2 => (Rec.rd 1 ((Rec.rd 2 (s)).2)).2
 | _ => (Rec.rd 1 ((Rec.rd 1 ((Rec.rd 2 (s)).2)).2)).2
def rC2 (s : St) : Nat → List Value
 | 0 => [.int .i64 2, .int .i64 0, .int .i64 0, .int .i64 0, .int .i64 0, .slice none 0 0, .int .i64 0, .int .i64 0, .int .i64 0, .int .i64 0, .int .i64 0, .int .i64 0, .slice none 0 0]
 | 1 => [.int .i64 2, .int .i64 0, .int .i64 0, .int .i64 0, .int .i64 0, .slice none 0 0, .int .i64 ((Rec.rd 2 (s)).1), .int .i64 0, .int .i64 0, .int .i64 0, .int .i64 0, .int .i64 0, .slice none 0 0]
 | 2 => [.int .i64 2, .int .i64 0, .int .i64 0, .int .i64 0, .int .i64 0, .slice none 0 0, .int .i64 ((Rec.rd 2 (s)).1), .int .i64 ((Rec.rd 1 ((Rec.rd 2 (s)).2)).1), .int .i64 0, .int .i64 0, .int .i64 0, .int .i64 0, .slice none 0 0]
 | _ => [.int .i64 2, .int .i64 0, .int .i64 0, .int .i64 0, .int .i64 0, .slice none 0 0, .int .i64 ((Rec.rd 2 (s)).1), .int .i64 ((Rec.rd 1 ((Rec.rd 2 (s)).2)).1), .int .i64 ((Rec.rd 1 ((Rec.rd 1 ((Rec.rd 2 (s)).2)).2)).1), .int .i64 0, .int .i64 0, .int .i64 0, .slice none 0 0]
theorem read2 (w : World) {B d g J R : Nat} {s : St} (hd : Rd w B d g s) (hJ : Cel w J 72 [pp g 0]) (hgJ : g < J) (hgR : g < R) (hR : Cel w R 42 [.int .i64 2, .int .i64 0, .int .i64 0, .int .i64 0, .int .i64 0, .slice none 0 0, .int .i64 0, .int .i64 0, .int .i64 0, .int .i64 0, .int .i64 0, .int .i64 0, .slice none 0 0]) :
  Calls Try.prog 25 #[pp R 0, .iface 70 (pp J 0)] w fun e W => e = .returned (.tuple #[]) ∧ Fin w B d g R (readK 2 s) W := by
 have hRJ : R ≠ J := hR.ne hJ (by decide)
 have hdg := hd.2.1
 have hRw := hR.lt
 have c1 : d < w.heap.size ∧ g < w.heap.size ∧ R < w.heap.size := by omega
 refine (each_ w hR rfl (fun i W => if i = 3 then Fin w B d g R (readK 2 s) W else Rdt w B d g R (rS2 s i) (rC2 s i) W) (fun W hb => by rw [if_neg (by decide)]; exact ⟨hd.frm (l := []) (Frm.of_below hb) (by simp), hR.below hb hR.lt, Frm.of_below hb⟩) ?_).mono ?_
 ·intro F rb W i kf hFB hrB hi hF hrb h
  have c2 : d < F ∧ g < F ∧ R < F := by omega
  have c3 : d < rb ∧ g < rb ∧ R < rb := by omega
  have hc : i = 0 ∨ i = 1 ∨ i = 2 ∨ 3 ≤ i := by omega
  rcases hc with rfl | rfl | rfl | hc
  ·obtain rfl : 54 = kf := by injection hi
   rw [if_neg (by decide)] at h
   exact (f_visit W hF (rm_number J) (fun e V hs => hs.1) (fun V hb => h.num hJ hgJ hgR hRJ 6 2 (y := (Rec.rd 2 (s)).1) rfl (Int.sub_zero _).symm (by decide) (by decide) (by decide) (by decide) hb)).mono fun e V hs => rg_step (P := fun i W => if i = 3 then Fin w B d g R (readK 2 s) W else Rdt w B d g R (rS2 s i) (rC2 s i) W) (i := 0) (Q := fun V => Rdt w B d g R (rS2 s 1) (rC2 s 1) V) hF hrb c2 c3 hs (fun hq => by rw [if_neg (by decide)]; exact hq)
  ·obtain rfl : 55 = kf := by injection hi
   rw [if_neg (by decide)] at h
   exact (f_step W hF (rm_number J) (fun e V hs => hs.1) (fun V hb => h.num hJ hgJ hgR hRJ 7 1 (y := (Rec.rd 1 ((Rec.rd 2 (s)).2)).1) rfl (Int.sub_zero _).symm (by decide) (by decide) (by decide) (by decide) hb)).mono fun e V hs => rg_step (P := fun i W => if i = 3 then Fin w B d g R (readK 2 s) W else Rdt w B d g R (rS2 s i) (rC2 s i) W) (i := 1) (Q := fun V => Rdt w B d g R (rS2 s 2) (rC2 s 2) V) hF hrb c2 c3 hs (fun hq => by rw [if_neg (by decide)]; exact hq)
  ·obtain rfl : 56 = kf := by injection hi
   rw [if_neg (by decide)] at h
   exact (f_try W hF (rm_number J) (fun e V hs => hs.1) (fun V hb => h.num hJ hgJ hgR hRJ 8 1 (y := (Rec.rd 1 ((Rec.rd 1 ((Rec.rd 2 (s)).2)).2)).1) rfl (Int.sub_zero _).symm (by decide) (by decide) (by decide) (by decide) hb)).mono fun e V hs => rg_step (P := fun i W => if i = 3 then Fin w B d g R (readK 2 s) W else Rdt w B d g R (rS2 s i) (rC2 s i) W) (i := 2) (Q := fun V => Rdt w B d g R (rS2 s 3) (rC2 s 3) V) hF hrb c2 c3 hs (fun hq => by rw [if_pos rfl]; exact ⟨⟨(readK 2 s).1, none, 0, [], none, 0⟩, rfl, rok_plain rfl rfl, trow_nil, hq⟩)
  ·rw [List.getElem?_eq_none (by exact hc)] at hi
   cases hi
 ·rintro e W ⟨rfl, h⟩
  rw [if_pos (by rfl)] at h
  exact ⟨rfl, h⟩
def rS3 (s : St) : Nat → St
 | 0 => s
 | 1 => (Rec.rd 2 (s)).2
 | 2 => (Rec.rd 1 ((Rec.rd 2 (s)).2)).2
 | 3 => (Rec.rd 4 ((Rec.rd 1 ((Rec.rd 2 (s)).2)).2)).2
 | _ => (Rec.rd 1 ((Rec.rd 4 ((Rec.rd 1 ((Rec.rd 2 (s)).2)).2)).2)).2
def rC3 (s : St) : Nat → List Value
 | 0 => [.int .i64 3, .int .i64 0, .int .i64 0, .int .i64 0, .int .i64 0, .slice none 0 0, .int .i64 0, .int .i64 0, .int .i64 0, .int .i64 0, .int .i64 0, .int .i64 0, .slice none 0 0]
 | 1 => [.int .i64 3, .int .i64 0, .int .i64 0, .int .i64 0, .int .i64 0, .slice none 0 0, .int .i64 ((Rec.rd 2 (s)).1), .int .i64 0, .int .i64 0, .int .i64 0, .int .i64 0, .int .i64 0, .slice none 0 0]
 | 2 => [.int .i64 3, .int .i64 0, .int .i64 0, .int .i64 0, .int .i64 0, .slice none 0 0, .int .i64 ((Rec.rd 2 (s)).1), .int .i64 0, .int .i64 0, .int .i64 ((Rec.rd 1 ((Rec.rd 2 (s)).2)).1 - 3), .int .i64 0, .int .i64 0, .slice none 0 0]
 | 3 => [.int .i64 3, .int .i64 0, .int .i64 0, .int .i64 0, .int .i64 0, .slice none 0 0, .int .i64 ((Rec.rd 2 (s)).1), .int .i64 0, .int .i64 0, .int .i64 ((Rec.rd 1 ((Rec.rd 2 (s)).2)).1 - 3), .int .i64 ((Rec.rd 4 ((Rec.rd 1 ((Rec.rd 2 (s)).2)).2)).1), .int .i64 0, .slice none 0 0]
 | _ => [.int .i64 3, .int .i64 0, .int .i64 0, .int .i64 0, .int .i64 0, .slice none 0 0, .int .i64 ((Rec.rd 2 (s)).1), .int .i64 0, .int .i64 0, .int .i64 ((Rec.rd 1 ((Rec.rd 2 (s)).2)).1 - 3), .int .i64 ((Rec.rd 4 ((Rec.rd 1 ((Rec.rd 2 (s)).2)).2)).1), .int .i64 ((Rec.rd 1 ((Rec.rd 4 ((Rec.rd 1 ((Rec.rd 2 (s)).2)).2)).2)).1 - 1), .slice none 0 0]
theorem read3 (w : World) {B d g J R : Nat} {s : St} (hd : Rd w B d g s) (hJ : Cel w J 72 [pp g 0]) (hgJ : g < J) (hgR : g < R) (hR : Cel w R 42 [.int .i64 3, .int .i64 0, .int .i64 0, .int .i64 0, .int .i64 0, .slice none 0 0, .int .i64 0, .int .i64 0, .int .i64 0, .int .i64 0, .int .i64 0, .int .i64 0, .slice none 0 0]) :
  Calls Try.prog 25 #[pp R 0, .iface 70 (pp J 0)] w fun e W => e = .returned (.tuple #[]) ∧ Fin w B d g R (readK 3 s) W := by
 have hRJ : R ≠ J := hR.ne hJ (by decide)
 have hdg := hd.2.1
 have hRw := hR.lt
 have c1 : d < w.heap.size ∧ g < w.heap.size ∧ R < w.heap.size := by omega
 refine (each_ w hR rfl (fun i W => if i = 5 then Fin w B d g R (readK 3 s) W else Rdt w B d g R (rS3 s i) (rC3 s i) W) (fun W hb => by rw [if_neg (by decide)]; exact ⟨hd.frm (l := []) (Frm.of_below hb) (by simp), hR.below hb hR.lt, Frm.of_below hb⟩) ?_).mono ?_
 ·intro F rb W i kf hFB hrB hi hF hrb h
  have c2 : d < F ∧ g < F ∧ R < F := by omega
  have c3 : d < rb ∧ g < rb ∧ R < rb := by omega
  have hc : i = 0 ∨ i = 1 ∨ i = 2 ∨ i = 3 ∨ i = 4 ∨ 5 ≤ i := by omega
  rcases hc with rfl | rfl | rfl | rfl | rfl | hc
  ·obtain rfl : 54 = kf := by injection hi
   rw [if_neg (by decide)] at h
   exact (f_visit W hF (rm_number J) (fun e V hs => hs.1) (fun V hb => h.num hJ hgJ hgR hRJ 6 2 (y := (Rec.rd 2 (s)).1) rfl (Int.sub_zero _).symm (by decide) (by decide) (by decide) (by decide) hb)).mono fun e V hs => rg_step (P := fun i W => if i = 5 then Fin w B d g R (readK 3 s) W else Rdt w B d g R (rS3 s i) (rC3 s i) W) (i := 0) (Q := fun V => Rdt w B d g R (rS3 s 1) (rC3 s 1) V) hF hrb c2 c3 hs (fun hq => by rw [if_neg (by decide)]; exact hq)
  ·obtain rfl : 57 = kf := by injection hi
   rw [if_neg (by decide)] at h
   exact (f_to W hF (rm_number J) (fun e V hs => hs.1) (fun V hb => h.num hJ hgJ hgR hRJ 9 1 (y := (Rec.rd 1 ((Rec.rd 2 (s)).2)).1 - 3) rfl rfl (by decide) (by decide) (by decide) (by decide) hb)).mono fun e V hs => rg_step (P := fun i W => if i = 5 then Fin w B d g R (readK 3 s) W else Rdt w B d g R (rS3 s i) (rC3 s i) W) (i := 1) (Q := fun V => Rdt w B d g R (rS3 s 2) (rC3 s 2) V) hF hrb c2 c3 hs (fun hq => by rw [if_neg (by decide)]; exact hq)
  ·obtain rfl : 58 = kf := by injection hi
   rw [if_neg (by decide)] at h
   exact (f_offset W hF (rm_number J) (fun e V hs => hs.1) (fun V hb => h.num hJ hgJ hgR hRJ 10 4 (y := (Rec.rd 4 ((Rec.rd 1 ((Rec.rd 2 (s)).2)).2)).1) rfl (Int.sub_zero _).symm (by decide) (by decide) (by decide) (by decide) hb)).mono fun e V hs => rg_step (P := fun i W => if i = 5 then Fin w B d g R (readK 3 s) W else Rdt w B d g R (rS3 s i) (rC3 s i) W) (i := 2) (Q := fun V => Rdt w B d g R (rS3 s 3) (rC3 s 3) V) hF hrb c2 c3 hs (fun hq => by rw [if_neg (by decide)]; exact hq)
  ·obtain rfl : 59 = kf := by injection hi
   rw [if_neg (by decide)] at h
   exact (f_variable W hF (rm_number J) (fun e V hs => hs.1) (fun V hb => h.num hJ hgJ hgR hRJ 11 1 (y := (Rec.rd 1 ((Rec.rd 4 ((Rec.rd 1 ((Rec.rd 2 (s)).2)).2)).2)).1 - 1) rfl rfl (by decide) (by decide) (by decide) (by decide) hb)).mono fun e V hs => rg_step (P := fun i W => if i = 5 then Fin w B d g R (readK 3 s) W else Rdt w B d g R (rS3 s i) (rC3 s i) W) (i := 3) (Q := fun V => Rdt w B d g R (rS3 s 4) (rC3 s 4) V) hF hrb c2 c3 hs (fun hq => by rw [if_neg (by decide)]; exact hq)
  ·obtain rfl : 60 = kf := by injection hi
   rw [if_neg (by decide)] at h
   refine (f_value W hF (rm_text J) (Q := fun e V' => e = .returned (.tuple #[]) ∧ Fin w B d g R (readK 3 s) V' ∧ Frm [d, g, R] W V') (fun e V hs => hs.1) (fun V hb => ?_)).mono fun e V hs => rg_step (P := fun i W => if i = 5 then Fin w B d g R (readK 3 s) W else Rdt w B d g R (rS3 s i) (rC3 s i) W) (i := 4) (Q := fun V => Fin w B d g R (readK 3 s) V) hF hrb c2 c3 hs (fun hq => by rw [if_pos rfl]; exact hq)
   have hj : Cel V J 72 [pp g 0] := (hJ.frm h.f (by simp; omega)).below hb ((hJ.frm h.f (by simp; omega)).lt)
   refine (r_text V (h.rd.frm (l := []) (Frm.of_below hb) (by simp)) hj (h.r.below hb h.r.lt) (k := 12) rfl (by decide) hgR).mono ?_
   rintro e V' ⟨rfl, A, c, h1, h2, h3, h4, h5⟩
   have hf : Frm [d, g, R] W V' := (Frm.of_below hb).trans h5
   have hlen := Pack.rtext_len (rS3 s 4)
   exact ⟨rfl, ⟨⟨(readK 3 s).1, none, 0, [], A, c⟩, rfl, ⟨rfl, ⟨by simp, by simp⟩, Nat.zero_le _, .inr h2, by show (rtext (rS3 s 4)).1.length ≤ maxLen; unfold maxLen; omega⟩, trow_nil, h4, h1, h.f.trans hf⟩, hf⟩
  ·rw [List.getElem?_eq_none (by exact hc)] at hi
   cases hi
 ·rintro e W ⟨rfl, h⟩
  rw [if_pos (by rfl)] at h
  exact ⟨rfl, h⟩
theorem read0 (w : World) {B d g J R : Nat} {s : St} {kd : Int} (h1 : kd ≠ 1) (h2 : kd ≠ 2) (h3 : kd ≠ 3) (hd : Rd w B d g s) (hR : Cel w R 42 [.int .i64 kd, .int .i64 0, .int .i64 0, .int .i64 0, .int .i64 0, .slice none 0 0, .int .i64 0, .int .i64 0, .int .i64 0, .int .i64 0, .int .i64 0, .int .i64 0, .slice none 0 0]) :
  Calls Try.prog 25 #[pp R 0, .iface 70 (pp J 0)] w fun e W => e = .returned (.tuple #[]) ∧ Fin w B d g R (readK kd s) W := by
 have hfn : fns kd = [] := by unfold fns; rw [if_neg h1, if_neg h2, if_neg h3]
 have hrk : readK kd s = ({ rc0 with kind := kd }, s) := by unfold readK; rw [if_neg h1, if_neg h2, if_neg h3]
 rw [hrk]
 refine (each_ w hR rfl (fun i W => Fin w B d g R ({ rc0 with kind := kd }, s) W) (fun W hb => ⟨⟨{ rc0 with kind := kd }, none, 0, [], none, 0⟩, rfl, rok_plain rfl rfl, trow_nil, hd.frm (l := []) (Frm.of_below hb) (by simp), hR.below hb hR.lt, Frm.of_below hb⟩) ?_).mono fun e W h => h
 intro F rb W i kf _ _ hi
 rw [hfn] at hi
 cases hi
theorem results_pget {P : Program} {fn : Func} {tmps : Array Value} {w : World} (a : Tmp) (t : TypeId) (b : Tmp) (hr : fn.results = #[.cell a t, .tmp b]) (ad : Addr) (ha : tmps.getD a undef = .pointer (some ad)) (v u : Value) (hu : tmps.getD b undef = u) (hl : (loadVar t ad).run P w = .ok v w) :
  (results fn tmps).run P w = .ok (.tuple #[v, u]) w := results_recget a t b hr ad ha v u hu hl
theorem load_prec {w : World} {g : Nat} {x0 x1 x2 x3 x4 x5 x6 x7 x8 x9 x10 x11 x12 : Value} (h : Cel w g 42 [x0, x1, x2, x3, x4, x5, x6, x7, x8, x9, x10, x11, x12]) : (loadVar 42 ⟨g, 0, none⟩).run Try.prog w = .ok (.agg #[x0, x1, x2, x3, x4, x5, x6, x7, x8, x9, x10, x11, x12]) w :=
 run_loadVar_mid (P := Try.prog) w g 0 42 [x0, x1, x2, x3, x4, x5, x6, x7, x8, x9, x10, x11, x12] _ (fun j v hv => by rw [Nat.zero_add, h.cell j, hv]) Try.underlying42 rfl (by kernel_rfl)
theorem tx_frm0 {w w' : World} {Z : Nat} {A : Option Addr} {t : List B8} (h : Tx w 0 A t) (hf : Frm [Z] w w') (hz : ∀ cs fz, w.heap[Z]? ≠ some (Obj.cells cs 5 fz)) : Tx w' 0 A t := by
 rcases h with hs | hs
 ·refine .inl ((Bs.bp hs).keep fun k hk hlt => ?_)
  have hk0 : k < 0 := hk
  omega
 ·refine .inr ⟨hs.1, fun hn => ?_⟩
  obtain ⟨ad, e, ⟨cs, fz, hg⟩, hc⟩ := hs.2 hn
  have hb : w'.heap[ad.block]? = w.heap[ad.block]? := hf.block _ (Array.getElem?_eq_some_iff.1 hg).1 fun hm => by
   simp at hm
   rw [hm] at hg
   exact hz _ _ hg
  exact ⟨ad, e, ⟨cs, fz, hb.trans hg⟩, fun j hj => (World.cell?_of_block (by rw [add_block]; exact hb)).trans (hc j hj)⟩
theorem rok_frm0 {w w' : World} {Z : Nat} {v : Rv} {cs : List Value} (h : Rok w 0 v) (ht : Trow w 0 v.AL v.vs) (hf : Frm [Z] w w') (hz : Cel w Z 42 cs) : Rok w' 0 v ∧ Trow w' 0 v.AL v.vs := by
 have h1 := h.vs.frm ht hf (fun q hq => by simp at hq; subst hq; exact ⟨Nat.zero_le _, hz.not_ty (by decide), hz.not_ty (by decide)⟩)
 exact ⟨⟨h.eq, h1.1, h.vl, tx_frm0 h.val hf (hz.not_ty (by decide)), h.ml⟩, h1.2⟩
def PgetSays (w : World) (bs : List B8) (e : Ending) (w' : World) : Prop := Below w.heap.size w w' ∧ match get bs with
 | none => e = .returned (.tuple #[.agg zeros.toArray, .int .i64 2])
 | some r => ∃ v : Rv, v.r = r ∧ e = .returned (.tuple #[.agg v.cells.toArray, .int .i64 0]) ∧ Rok w' 0 v ∧ Trow w' 0 v.AL v.vs
theorem pg_none {w w' : World} {bs : List B8} (h : get bs = none) (hb : Below w.heap.size w w') : PgetSays w bs (.returned (.tuple #[.agg zeros.toArray, .int .i64 2])) w' := ⟨hb, by rw [h]⟩
theorem pg_some {w w' : World} {bs : List B8} {v : Rv} (h : get bs = some v.r) (hb : Below w.heap.size w w') (hr : Rok w' 0 v ∧ Trow w' 0 v.AL v.vs) : PgetSays w bs (.returned (.tuple #[.agg v.cells.toArray, .int .i64 0])) w' := ⟨hb, by rw [h]; exact ⟨v, rfl, rfl, hr.1, hr.2⟩⟩
theorem pget_ (w : World) (A : Option Addr) (n c : Nat) (bs : List B8) (h : Bs w w.heap.size A n bs) (hn : n ≤ 1000000) :
  Calls Try.prog 15 #[.slice A n c] w (PgetSays w bs) := by
 obtain ⟨Z, hZ⟩ : ∃ Z, Z = w.heap.size := ⟨_, rfl⟩
 obtain ⟨W1, hW1⟩ : ∃ w1, w1 = w.alloc (.cells zeros.toArray 42) := ⟨_, rfl⟩
 have hb1 : Below w.heap.size w W1 := by rw [hW1]; exact (Below.refl _ _).alloc (Nat.le_refl _) _
 have hz1 : Cel W1 Z 42 zeros := by rw [hW1, hZ]; exact Cel.new w _ _
 have HZB : Hid (∀ V V', Below w.heap.size w V → Frm [Z] V V' → Below w.heap.size w V') := Lib.hid fun V V' h1 h2 => h1.trans (h2.below h1.size (by simp [hZ]))
 have con := Pack.read W1.heap.size A n c bs W1 ((h.below hb1).more hb1.size) (Nat.le_refl _) (by omega)
 have HB1 := Lib.hid hb1
 have HZ1 := Lib.hid hz1
 have hZ1 := hz1.lt
 have HZE := Lib.hid hZ
 clear hb1 hz1 h
 unfold zeros at hW1
 go_enter Try.func15, Try.ntmps15
 go_upto_region 1 with fail
 rw [← hW1, ← hZ]
 clear hW1 hZ
 go_wp2_with fail
 refine con.mono ?_
 clear con
 rintro e W2 ⟨d, g, rfl, hd, hs, hb⟩
 have hdg := hd.2.1
 have hBd := hd.1
 have HD2 := Lib.hid hd
 have HB2 := Lib.hid (HB1.out.trans (hb.mono HB1.out.size))
 have HZ2 := Lib.hid (HZ1.out.below hb hZ1)
 clear hd hb HB1 HZ1
 generalize W1.heap.size = BB at *
 have hy := rnum_small 1 (by decide) (by decide) (some bs)
 obtain ⟨y, hyy⟩ : ∃ y, y = (rnum 1 (some bs)).1.toNat := ⟨_, rfl⟩
 obtain ⟨s1, hs1⟩ : ∃ s, s = (rnum 1 (some bs)).2 := ⟨_, rfl⟩
 have HP := Lib.hid (show readRc bs = readK (y : Int) s1 by rw [hyy, hs1]; rfl)
 have con := Pack.rNumber BB d g 1 (some bs) W2 HD2.out
 unfold Pack.v64 at con
 rw [← hyy, ← hs1] at con
 change (rnum 1 (some bs)).1.toNat < 256 at hy
 rw [← hyy] at hy
 have e1 : IntKind.i64.wrap (y : Int) = (y : Int) := by rw [IntKind.wrap_i64]; omega
 clear hyy hs1
 go_wp2_with fail
 refine con.mono ?_
 clear con
 rintro e W3 ⟨rfl, hd3, hf3⟩
 have hsz3 := hf3.size
 obtain ⟨R, hR⟩ : ∃ R, R = W3.heap.size := ⟨_, rfl⟩
 have hwB : w.heap.size < BB := by rw [← HZE.out]; exact hZ1
 have HB3 := Lib.hid (HB2.out.trans (hf3.below HB2.out.size (by intro q hq; simp at hq; omega)))
 have HZ3 := Lib.hid (HZ2.out.frm hf3 (by simp; omega))
 have HD3 := Lib.hid hd3
 have hgR : g < R := by omega
 clear hd3 hf3 HD2 HB2 HZ2
 obtain ⟨W4, hW4⟩ : ∃ w1, w1 = W3.alloc (.cells ([.int .i64 (y : Int), .int .i64 0, .int .i64 0, .int .i64 0, .int .i64 0, .slice none 0 0, .int .i64 0, .int .i64 0, .int .i64 0, .int .i64 0, .int .i64 0, .int .i64 0, .slice none 0 0] : List Value).toArray 42) := ⟨_, rfl⟩
 have hf4 : Frm [] W3 W4 := by rw [hW4]; exact (Frm.refl _ _).alloc _
 have hr4 : Cel W4 R 42 [.int .i64 (y : Int), .int .i64 0, .int .i64 0, .int .i64 0, .int .i64 0, .slice none 0 0, .int .i64 0, .int .i64 0, .int .i64 0, .int .i64 0, .int .i64 0, .int .i64 0, .slice none 0 0] := by rw [hW4, hR]; exact Cel.new W3 _ _
 go_upto_region 3 with fail
 rw [← hW4, ← hR]
 clear hW4
 obtain ⟨J, hJ⟩ : ∃ J, J = W4.heap.size := ⟨_, rfl⟩
 obtain ⟨W5, hW5⟩ : ∃ w1, w1 = W4.alloc (.cells #[.pointer (some ⟨g, 0, none⟩)] 72) := ⟨_, rfl⟩
 have hf5 : Frm [] W4 W5 := by rw [hW5]; exact (Frm.refl _ _).alloc _
 have hj5 : Cel W5 J 72 [pp g 0] := by rw [hW5, hJ]; exact Cel.new W4 72 [pp g 0]
 have hf35 := hf4.trans hf5
 have hd5 : Rd W5 BB d g s1 := HD3.out.frm hf35 (by simp)
 have hr5 : Cel W5 R 42 [.int .i64 (y : Int), .int .i64 0, .int .i64 0, .int .i64 0, .int .i64 0, .slice none 0 0, .int .i64 0, .int .i64 0, .int .i64 0, .int .i64 0, .int .i64 0, .int .i64 0, .slice none 0 0] := hr4.frm hf5 (by simp)
 have hgJ : g < J := by have := hr4.lt; omega
 have HB5 := Lib.hid (HB3.out.trans (hf35.below HB3.out.size (by simp)))
 have HZ5 := Lib.hid (HZ3.out.frm hf35 (by simp))
 have con : Calls Try.prog 25 #[pp R 0, .iface 70 (pp J 0)] W5 fun e W => e = .returned (.tuple #[]) ∧ Fin W5 BB d g R (readK (y : Int) s1) W := by
  by_cases t1 : y = 1
  ·subst t1
   exact read1 W5 hd5 hj5 hgJ hgR hr5
  ·by_cases t2 : y = 2
   ·subst t2
    exact read2 W5 hd5 hj5 hgJ hgR hr5
   ·by_cases t3 : y = 3
    ·subst t3
     exact read3 W5 hd5 hj5 hgJ hgR hr5
    ·exact read0 W5 (by omega) (by omega) (by omega) hd5 hr5
 have hZR : Z ≠ R := by have := HZE.out; omega
 have hZd : Z ≠ d := by have := HZE.out; omega
 have hZg : Z ≠ g := by have := HZE.out; omega
 have hwd : w.heap.size ≤ d := by omega
 clear hf4 hr4 hf5 hj5 hf35 hd5 hr5 HD3 HB3 HZ3 hR
 unfold pp at con
 go_wp2_with fail
 rw [← hW5, ← hJ]
 clear hW5 hJ
 refine con.mono ?_
 clear con
 rintro e W6 ⟨rfl, v, hv, hok, htr, hrd⟩
 have HB6 := Lib.hid (HB5.out.trans (hrd.f.below HB5.out.size (by intro q hq; simp at hq; omega)))
 have HZ6 := Lib.hid (HZ5.out.frm hrd.f (by simp; omega))
 have HR6 := Lib.hid hrd.r
 have HOK := Lib.hid hok
 have HTR := Lib.hid htr
 have HV := Lib.hid hv
 have con := Pack.rEnd BB d g _ W6 hrd.rd
 obtain ⟨E, hE⟩ : ∃ E, E = rend (readK (y : Int) s1).2 := ⟨_, rfl⟩
 rw [← hE] at con
 have HE := Lib.hid hE
 clear hrd hok htr hv hE HB5 HZ5
 go_wp2_with fail
 refine con.mono ?_
 clear con
 rintro e w6 ⟨rfl, rfl⟩
 cases E
 case false =>
  have HG := Lib.hid (show get bs = none by unfold get; rw [HP.out, ← HE.out]; rfl)
  have hzz := HZ6.out
  unfold zeros at hzz
  have z1 := hzz.cell 0
  have f1 := hzz.free 0
  have z2 := hzz.cell 1
  have f2 := hzz.free 1
  have z3 := hzz.cell 2
  have f3 := hzz.free 2
  have z4 := hzz.cell 3
  have f4 := hzz.free 3
  have z5 := hzz.cell 4
  have f5 := hzz.free 4
  have z6 := hzz.cell 5
  have f6 := hzz.free 5
  have z7 := hzz.cell 6
  have f7 := hzz.free 6
  have z8 := hzz.cell 7
  have f8 := hzz.free 7
  have z9 := hzz.cell 8
  have f9 := hzz.free 8
  have z10 := hzz.cell 9
  have f10 := hzz.free 9
  have z11 := hzz.cell 10
  have f11 := hzz.free 10
  have z12 := hzz.cell 11
  have f12 := hzz.free 11
  have z13 := hzz.cell 12
  have f13 := hzz.free 12
  clear hzz
  go_wp2_with fail
  refine bodyPost_ret (v := .tuple #[.agg zeros.toArray, .int .i64 2]) (results_pget 2 42 3 Try.results15 ⟨Z, 0, none⟩ rfl _ _ rfl (load_prec (store13 (Value.int .i64 0) (Value.int .i64 0) (Value.int .i64 0) (Value.int .i64 0) (Value.int .i64 0) (Value.slice none 0 0) (Value.int .i64 0) (Value.int .i64 0) (Value.int .i64 0) (Value.int .i64 0) (Value.int .i64 0) (Value.int .i64 0) (Value.slice none 0 0) HZ6.out))) rfl (pg_none HG.out (HZB.out _ _ HB6.out (frm13 _ _ _ _ _ _ _ _ _ _ _ _ _ _ _)))
 case true =>
  obtain ⟨M, hM⟩ : ∃ M, M = may v.r := ⟨_, rfl⟩
  have con := pmay_ W6 0 v HOK.out HTR.out (Nat.zero_le _)
  rw [← hM] at con
  have HG : Hid (get bs = if M then some v.r else none) := Lib.hid (by unfold get; rw [HP.out, ← HE.out, ← HV.out, ← hM]; simp)
  clear hM
  have HCL := Lib.hid (show v.cells = v.cells from rfl)
  obtain ⟨vv, hvv⟩ : ∃ u, u = v := ⟨_, rfl⟩
  rw [← hvv] at HG HOK HTR
  have HVV := Lib.hid (congrArg Rv.cells hvv)
  clear hvv HCL HV
  obtain ⟨⟨k, ⟨s1, s2, s3, s4, vars⟩, vi, st, tr, dst, of, va, vl⟩, AL, cL, vs, AV, cV⟩ := v
  unfold Rv.cells at HR6 con
  have HVV := Lib.hid (show vv.cells = [.int .i64 k, .int .i64 s1, .int .i64 s2, .int .i64 s3, .int .i64 s4, .slice AL vs.length cL, .int .i64 vi, .int .i64 st, .int .i64 tr, .int .i64 dst, .int .i64 of, .int .i64 va, .slice AV vl.length cV] from HVV.out)
  dsimp only at HR6 con
  generalize vs.length = n at *
  generalize vl.length = m at *
  have c0 := HR6.out.cell 0
  have c1 := HR6.out.cell 1
  have c2 := HR6.out.cell 2
  have c3 := HR6.out.cell 3
  have c4 := HR6.out.cell 4
  have c5 := HR6.out.cell 5
  have c6 := HR6.out.cell 6
  have c7 := HR6.out.cell 7
  have c8 := HR6.out.cell 8
  have c9 := HR6.out.cell 9
  have c10 := HR6.out.cell 10
  have c11 := HR6.out.cell 11
  have c12 := HR6.out.cell 12
  go_wp2_with fail
  refine con.mono ?_
  clear con
  rintro e W7 ⟨rfl, hb7⟩
  have HB7 := Lib.hid (HB6.out.trans (hb7.mono HB6.out.size))
  have HZ7 := Lib.hid (HZ6.out.below hb7 HZ6.out.lt)
  have HR7 := Lib.hid (HR6.out.below hb7 HR6.out.lt)
  have HOK7 := Lib.hid (HOK.out.below (Nat.zero_le _) hb7)
  have HTR7 := Lib.hid (HTR.out.below hb7)
  clear hb7 c0 c1 c2 c3 c4 c5 c6 c7 c8 c9 c10 c11 c12
  cases M
  case false =>
   have HG2 := Lib.hid (show get bs = none from HG.out)
   have hzz := HZ7.out
   unfold zeros at hzz
   have z1 := hzz.cell 0
   have f1 := hzz.free 0
   have z2 := hzz.cell 1
   have f2 := hzz.free 1
   have z3 := hzz.cell 2
   have f3 := hzz.free 2
   have z4 := hzz.cell 3
   have f4 := hzz.free 3
   have z5 := hzz.cell 4
   have f5 := hzz.free 4
   have z6 := hzz.cell 5
   have f6 := hzz.free 5
   have z7 := hzz.cell 6
   have f7 := hzz.free 6
   have z8 := hzz.cell 7
   have f8 := hzz.free 7
   have z9 := hzz.cell 8
   have f9 := hzz.free 8
   have z10 := hzz.cell 9
   have f10 := hzz.free 9
   have z11 := hzz.cell 10
   have f11 := hzz.free 10
   have z12 := hzz.cell 11
   have f12 := hzz.free 11
   have z13 := hzz.cell 12
   have f13 := hzz.free 12
   clear hzz
   go_wp2_with fail
   refine bodyPost_ret (v := .tuple #[.agg zeros.toArray, .int .i64 2]) (results_pget 2 42 3 Try.results15 ⟨Z, 0, none⟩ rfl _ _ rfl (load_prec (store13 (Value.int .i64 0) (Value.int .i64 0) (Value.int .i64 0) (Value.int .i64 0) (Value.int .i64 0) (Value.slice none 0 0) (Value.int .i64 0) (Value.int .i64 0) (Value.int .i64 0) (Value.int .i64 0) (Value.int .i64 0) (Value.int .i64 0) (Value.slice none 0 0) HZ7.out))) rfl (pg_none HG2.out (HZB.out _ _ HB7.out (frm13 _ _ _ _ _ _ _ _ _ _ _ _ _ _ _)))
  case true =>
   have HG2 := Lib.hid (show get bs = some vv.r from HG.out)
   have c0 := HR7.out.cell 0
   have c1 := HR7.out.cell 1
   have c2 := HR7.out.cell 2
   have c3 := HR7.out.cell 3
   have c4 := HR7.out.cell 4
   have c5 := HR7.out.cell 5
   have c6 := HR7.out.cell 6
   have c7 := HR7.out.cell 7
   have c8 := HR7.out.cell 8
   have c9 := HR7.out.cell 9
   have c10 := HR7.out.cell 10
   have c11 := HR7.out.cell 11
   have c12 := HR7.out.cell 12
   have hzz := HZ7.out
   unfold zeros at hzz
   have z1 := hzz.cell 0
   have f1 := hzz.free 0
   have z2 := hzz.cell 1
   have f2 := hzz.free 1
   have z3 := hzz.cell 2
   have f3 := hzz.free 2
   have z4 := hzz.cell 3
   have f4 := hzz.free 3
   have z5 := hzz.cell 4
   have f5 := hzz.free 4
   have z6 := hzz.cell 5
   have f6 := hzz.free 5
   have z7 := hzz.cell 6
   have f7 := hzz.free 6
   have z8 := hzz.cell 7
   have f8 := hzz.free 7
   have z9 := hzz.cell 8
   have f9 := hzz.free 8
   have z10 := hzz.cell 9
   have f10 := hzz.free 9
   have z11 := hzz.cell 10
   have f11 := hzz.free 10
   have z12 := hzz.cell 11
   have f12 := hzz.free 11
   have z13 := hzz.cell 12
   have f13 := hzz.free 12
   clear hzz
   go_wp2_with fail
   refine bodyPost_ret (v := .tuple #[.agg #[.int .i64 k, .int .i64 s1, .int .i64 s2, .int .i64 s3, .int .i64 s4, .slice AL n cL, .int .i64 vi, .int .i64 st, .int .i64 tr, .int .i64 dst, .int .i64 of, .int .i64 va, .slice AV m cV], .int .i64 0]) (results_pget 2 42 3 Try.results15 ⟨Z, 0, none⟩ rfl _ _ rfl (load_prec (store13 (Value.int .i64 k) (Value.int .i64 s1) (Value.int .i64 s2) (Value.int .i64 s3) (Value.int .i64 s4) (Value.slice AL n cL) (Value.int .i64 vi) (Value.int .i64 st) (Value.int .i64 tr) (Value.int .i64 dst) (Value.int .i64 of) (Value.int .i64 va) (Value.slice AV m cV) HZ7.out))) rfl ?_
   rw [show (.agg #[.int .i64 k, .int .i64 s1, .int .i64 s2, .int .i64 s3, .int .i64 s4, .slice AL n cL, .int .i64 vi, .int .i64 st, .int .i64 tr, .int .i64 dst, .int .i64 of, .int .i64 va, .slice AV m cV] : Value) = .agg vv.cells.toArray from by rw [HVV.out]]
   exact pg_some HG2.out (HZB.out _ _ HB7.out (frm13 _ _ _ _ _ _ _ _ _ _ _ _ _ _ _)) (rok_frm0 HOK7.out HTR7.out (frm13 _ _ _ _ _ _ _ _ _ _ _ _ _ _ _) HZ7.out)
end Go.Proofs.Ytfmkkklcgiaacaa.Rec
