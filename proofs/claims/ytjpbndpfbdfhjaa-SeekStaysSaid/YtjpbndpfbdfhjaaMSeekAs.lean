/-
  The program's arms as the document's (layer 10): davitlaw10.As.
-/
import Derived.Test.YtjpbndpfbdfhjaaMNfaAs
import Derived.Test.YtjpbndpfbdfhjaaMSeekLook
namespace Go.Proofs.Ytjpbndpfbdfhjaa.Seek
open Go.RowKit Go.Proofs.Ytjpbndpfbdfhjaa.Nfa
open Go.Proofs.Ytjpbndpfbdfhjaa.Reg (Sp RSpn sflat)
set_option linter.unusedVariables false
set_option linter.unusedSimpArgs false

theorem infoArm : (Try.prog.info? 34).map (fun i => (i.zero, i.size, i.bytes)) = some (some (.slice none 0 0), 1, 24) := by kernel_rfl
theorem rowArm : ElemRow Try.prog 29 34 1 24 := ElemRow.mk' Try.underlying29 infoArm rfl (by decide)
theorem arm_one (xs : List Av) : ∀ u ∈ xs.map Av.cell, u.oneCell' = true := by
  intro u hu
  obtain ⟨x, _, rfl⟩ := List.mem_map.1 hu
  rfl
/-- The program's arms, that can be read. -/
structure Pas (w : World) (A : Option Addr) (xs : List Av) : Prop where
  ry : Cz w A (xs.map Av.cell)
  arms : ∀ x ∈ xs, Pr9 w x.A x.us
theorem Pr9.below' {w w' : World} {A : Option Addr} {vs : List Iv} (h : Pr9 w A vs) (hb : Below w.heap.size w w') : Pr9 w' A vs := ⟨h.ry.below hb, fun u hu => (h.sp u hu).below hb⟩
theorem Pas.below {w w' : World} {A : Option Addr} {xs : List Av} (h : Pas w A xs) (hb : Below w.heap.size w w') : Pas w' A xs := ⟨h.ry.below hb, fun x hx => Pr9.below' (h.arms x hx) hb⟩
theorem Pas.at_ {w : World} {A : Option Addr} {xs : List Av} (h : Pas w A xs) {i : Nat} {x : Av} (hi : xs[i]? = some x) : ∃ ad, A = some ad ∧ w.cell? (ad.add i) = some (.slice x.A x.us.length x.c) := by
  have e : (xs.map Av.cell)[i]? = some x.cell := by rw [List.getElem?_map, hi]; rfl
  obtain ⟨ad, rfl, hc⟩ := h.ry (fun q => by rw [q] at e; simp at e)
  exact ⟨ad, rfl, hc i _ e⟩
/-- The document's arms, in an own row. -/
structure Rao (w : World) (B : Nat) (A : Option Addr) (n c : Nat) (ys : List Av) : Prop where
  own : w.ownsRow B 34 1 (.slice A n c) n (ys.map Av.cell)
  len : ys.length = n
  arms : ∀ y ∈ ys, Rr w y.A y.us
theorem Rao.nil_ (w : World) (B : Nat) : Rao w B none 0 0 [] := ⟨World.ownsRow_nil _ _ _ _, rfl, by simp⟩
theorem Rao.below {w w' : World} {B n c : Nat} {A : Option Addr} {ys : List Av} (h : Rao w B A n c ys) (hb : Below w.heap.size w w') : Rao w' B A n c ys := ⟨own_frm (l := []) h.own (Frm.of_below hb) (by simp), h.len, fun y hy => Rr.below' (h.arms y hy) hb⟩
theorem Rao.ras {w : World} {B n c : Nat} {A : Option Addr} {ys : List Av} (h : Rao w B A n c ys) : Ras w A ys := ⟨cz_ry (Ry.of_own h.own (by decide)), h.arms⟩
theorem Rr.grown {w w' : World} {A : Option Addr} {us : List Iv} {B size n : Nat} {v : Value} {cs : List Value} (h : Rr w A us) (ho : w.ownsRow B 34 size v n cs) (hg : w.grownBy w' v.ownBlock) : Rr w' A us :=
  ⟨Ry.grown h.ry hg (own_not_ty ho (by decide)), fun u hu => Ry.grown (h.sp u hu) hg (own_not_ty ho (by decide))⟩
theorem Rao.pushed {w w' : World} {B n c c' : Nat} {A A' : Option Addr} {ys : List Av} {y : Av} (h : Rao w B A n c ys) (hy : Rr w y.A y.us) (hg : w.grownBy w' (Value.slice A n c).ownBlock) (ho : w'.ownsRow B 34 1 (.slice A' (n + 1) c') (n + 1) ((ys ++ [y]).map Av.cell)) : Rao w' B A' (n + 1) c' (ys ++ [y]) := by
  refine ⟨ho, by rw [List.length_append, h.len]; rfl, fun z hz => ?_⟩
  rcases List.mem_append.1 hz with hz | hz
  · exact Rr.grown (h.arms z hz) h.own hg
  · rw [List.mem_singleton.1 hz]; exact Rr.grown hy h.own hg
theorem Rao.grew {w w' : World} {B n c : Nat} {A : Option Addr} {ys : List Av} (h : Rao w B A n c ys) (hg : w.grownBy w' (Value.slice A n c).ownBlock) (hB : B ≤ w.heap.size) : Below B w w' :=
  ⟨hg.os, hg.tape, hg.output, hg.size, fun k hk => hg.block k (by omega) fun e => by have := own_ge h.own k e.symm; omega⟩
theorem take_snocA (l : List Av) (k : Nat) (x : Av) (h : l[k]? = some x) : l.take (k + 1) = l.take k ++ [x] := by rw [List.take_add_one, h]; rfl

def As10Says (w : World) (n : Nat) (xs : List Av) (e : Ending) (w' : World) : Prop := ∃ A' c' ys, e = .returned (.slice A' n c') ∧ Rao w' w.heap.size A' n c' ys ∧ ys.map Av.p = xs.map Av.p ∧ Below w.heap.size w w'
set_option maxRecDepth 100000 in
set_option maxHeartbeats 2000000 in
theorem as10 (w : World) (A : Option Addr) (n c : Nat) (xs : List Av) (h : Pas w A xs) (hl : xs.length = n) (hn : n ≤ 1000) (few : ∀ x ∈ xs, x.us.length ≤ 1000 ∧ ∀ u ∈ x.us, u.i.sp.length ≤ 1000) :
    Calls Try.prog 9 #[.slice A n c] w (As10Says w n xs) := by
  have H := Lib.hid h
  have HL := Lib.hid hl
  have HF := Lib.hid few
  clear h hl few
  go_enter Try.func9, Try.ntmps9
  go_wp2_with fail
  go_loopw [3, 4] (fun v3 v4 wr => ∃ (i c3 : Nat) (A3 : Option Addr) (ys : List Av), i ≤ n ∧ v4 = .int .i64 (i : Int) ∧ v3 = .slice A3 i c3 ∧ Rao wr w.heap.size A3 i c3 ys ∧ ys.map Av.p = (xs.take i).map Av.p ∧ Below w.heap.size w wr) (fun _ v4 _ => n - (intOf v4).toNat)
  case atStart => exact ⟨0, 0, none, [], Nat.zero_le _, rfl, rfl, Rao.nil_ _ _, by simp, Below.refl _ _⟩
  case round =>
    obtain ⟨i, c3, A3, ys, hi, rfl, rfl, hra, hys, hb⟩ := hrel
    obtain ⟨W0, rfl⟩ : ∃ W0, W0 = wr := ⟨_, rfl⟩
    have HRA := Lib.hid hra
    have HYS := Lib.hid hys
    have HB := Lib.hid hb
    clear hra hys hb
    rcases Nat.lt_or_ge i n with hlt | hge
    · obtain ⟨x, hx⟩ : ∃ x, xs[i]? = some x := ⟨_, List.getElem?_eq_getElem (by rw [HL.out]; exact hlt)⟩
      obtain ⟨ad, rfl, a0⟩ := (H.out.below HB.out).at_ hx
      obtain ⟨f1, f2⟩ := HF.out x (List.mem_of_getElem? hx)
      have con := as9 W0 x.A x.us.length x.c x.us ((H.out.below HB.out).arms x (List.mem_of_getElem? hx)) rfl f1 f2
      have HX := Lib.hid hx
      clear hx f1 f2
      go_wp2_with fail
      refine con.mono ?_
      clear con
      rintro e w2 ⟨A2, c2, vs, rfl, hri, hvi, hb2⟩
      have hvl : vs.length = x.us.length := hri.len
      have HR2 := Lib.hid (HRA.out.below hb2)
      have HB2 := Lib.hid (HB.out.trans (hb2.mono HB.out.size))
      have hw4 : Below w2.heap.size w2 (w2.alloc (.cells #[.slice A2 x.us.length c2] 34)) := (Below.refl _ _).alloc (Nat.le_refl _) _
      have HR4 := Lib.hid (HR2.out.below hw4)
      have HY4 := Lib.hid (Rr.below' hri.rr hw4)
      have HB4 := Lib.hid (HB2.out.trans (hw4.mono HB2.out.size))
      have HSRC := Lib.hid (show Src (w2.alloc (.cells #[.slice A2 x.us.length c2] 34)) (some ⟨w2.heap.size, 0, none⟩) 1 [Av.cell ⟨vs, A2, c2⟩] from fun _ => ⟨_, rfl, fun j u hj => by
        have hc := Cel.new w2 34 [.slice A2 x.us.length c2]
        rw [add_row, hc.cell j]
        rw [show Av.cell ⟨vs, A2, c2⟩ = .slice A2 x.us.length c2 by rw [← hvl]; rfl] at hj
        exact hj⟩)
      have HVI := Lib.hid hvi
      have hws := HB4.out.size
      clear hri hvi hb2 hw4 hvl
      go_wp2_with ((at_builtin; refine wpList_append_any _ rfl _ _ 29 rfl w.heap.size 34 rowArm (.slice A3 i c3) i (ys.map Av.cell) rfl HR4.out.own (some ⟨w2.heap.size, 0, none⟩) 1 1 [Av.cell ⟨vs, A2, c2⟩] rfl rfl HSRC.out (arm_one [⟨vs, A2, c2⟩]) (i + 1) _ rfl rfl (by unfold maxLen; omega) (by omega) hws ?_; intro A8 c8 w8 ho8 hg8 _; have HR8 := Lib.hid (HR4.out.pushed (y := ⟨vs, A2, c2⟩) HY4.out hg8 (by rw [List.map_append]; exact ho8)); have HB8 := Lib.hid (HB4.out.trans (HR4.out.grew hg8 hws)); clear ho8 hg8))
      exact ⟨⟨i + 1, c8, A8, _, by omega, by rw [show ((i + 1 : Nat) : Int) = (i : Int) + 1 by omega], rfl, HR8.out, by rw [take_snocA xs i x HX.out, List.map_append, List.map_append, HYS.out]; simp [Av.p, HVI.out], HB8.out⟩, by simp [intOf]; omega⟩
    · obtain rfl : i = n := by omega
      have HYE := Lib.hid (show ys.map Av.p = xs.map Av.p by have := HYS.out; rwa [List.take_of_length_le (by rw [HL.out]; exact Nat.le_refl _)] at this)
      go_wp2_with fail
      go_ret
      exact ⟨A3, c3, ys, rfl, HRA.out, HYE.out, HB.out⟩
end Go.Proofs.Ytjpbndpfbdfhjaa.Seek
