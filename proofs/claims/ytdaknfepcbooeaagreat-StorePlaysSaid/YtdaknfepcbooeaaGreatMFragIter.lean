/-
  The iterators of frag: pieces and groups.
-/
import Derived.Test.YtdaknfepcbooeaaGreatMFragA
import Derived.Test.YtdaknfepcbooeaaGreatMOrd
import Derived.Shelf.Abstract
import Derived.Shelf.RegionOpen
import Derived.OwnWalkIn
import Derived.TacticsInMore
import Derived.LoopNIn
import Derived.LoopIn
namespace Go.Proofs.YtdaknfepcbooeaaGreat.Frag
open Go.RowKit Go.Shelf
set_option linter.unusedVariables false
attribute [local go_sem] Oper.semAt_some

/-- A piece: flags, and where the body lies. -/
structure Pc where
  f : Int
  A : Option Addr
  n : Nat
  c : Nat
  bs : List (BitVec 8)
/-- Those that lie in a world, below a block. -/
abbrev PcIn (w : World) (B : Nat) : Type := { x : Pc // Bs w B x.A x.n x.bs ∧ x.n ≤ 493 }
def encP {w : World} {B : Nat} (x : PcIn w B) : Array Value := #[.int .i64 x.1.f, .slice x.1.A x.1.n x.1.c]
def Pc.two (x : Pc) : Int × List (BitVec 8) := (x.f, x.bs)
def said {w : World} {B : Nat} (xs : List (PcIn w B)) : List (Int × List (BitVec 8)) := xs.map (·.1.two)

def lenOf : Value → Nat
  | .slice _ n _ => n
  | _ => 0

set_option maxRecDepth 100000 in
set_option maxHeartbeats 2000000 in
theorem pieces1 (w : World) (B : Nat) (A : Option Addr) (n c : Nat) (bs : List (BitVec 8)) (hbs : Bs w B A n bs) (hnc : n ≤ c) (hc : c ≤ maxLen) (hn9 : n ≤ 9860) (l Bn : Nat) (J Jx : List (PcIn w B) → World → Prop)
    (hY : ∀ pre x W, J pre W → pre.length < (pcs 1 bs).length → YieldAt Fence.wide 8 Tryz.prog l (encP x) W fun e W' =>
      (e = .returned (.bool true) ∧ J (pre ++ [x]) W' ∧ Below B W W') ∨ (e = .returned (.bool false) ∧ Jx (pre ++ [x]) W'))
    (W : World) (hW : Below B w W) (hBn : W.cell? ⟨Bn, 0, none⟩ = some (.slice A n c)) (h0 : J [] W) :
    CallsIn Fence.wide 9 Tryz.prog 117 #[.func (.yield l) #[] #[], .pointer (some ⟨Bn, 0, none⟩)] W fun e W' => (∃ v, e = .returned v) ∧
      ((∃ ys, said ys = pcs 1 bs ∧ J ys W') ∨ (∃ pre, True ∧ Jx pre W')) := by
  refine callsIn_of_wp Tryz.func117 rfl trivial ?_ rfl
  simp only [Tryz.ntmps117, List.size_toArray, List.length_cons, List.length_nil, Nat.reduceAdd, Nat.reduceSub, Array.replicate_succ, Array.replicate_zero, List.push_toArray, List.append_toArray, List.nil_append, List.cons_append]
  have hC0 : (0 : Int) ≤ 9860 := by decide
  gi_wp2
  have HB := Lib.hid hbs
  clear hbs
  gi_loopw [3, 4] (fun p q wr => ∃ (pre : List (PcIn w B)) (A' : Option Addr) (m c' : Nat) (cur : List (BitVec 8)) (f : Int), p = .slice A' m c' ∧ q = .int .i64 f ∧ (f = 0 ∨ f = 1) ∧ Hid (Bs w B A' m cur) ∧ m ≤ c' ∧ c' ≤ maxLen ∧ m ≤ 9860 ∧ Hid (said pre ++ pcs f cur = pcs 1 bs) ∧ J pre wr ∧ Below B w wr)
    (fun p _ _ => lenOf p)
  case atStart => exact ⟨[], A, n, c, bs, 1, rfl, rfl, .inr rfl, HB, hnc, hc, hn9, Lib.hid rfl, h0, hW⟩
  case round =>
    obtain ⟨pre, A', m, c', cur, f, rfl, rfl, hf, HB1, hmc, hcm, hm9, HS, hJ, hb⟩ := hrel
    have hl := HB1.out.len
    by_cases hlt : 493 < m
    · obtain ⟨ad, rfl, hbl, hcell⟩ := HB1.out.2 (by omega)
      have hxp : Bs w B (some ad) 493 (cur.take 493) := (Bs.bp HB1.out).take (by omega)
      have hsp := HS.out
      rw [pcs_more (by omega)] at hsp
      have hlen : pre.length < (pcs 1 bs).length := by rw [← hsp]; simp [said]
      obtain ⟨x, hx⟩ : ∃ x : PcIn w B, x.1 = ⟨f, some ad, 493, c', cur.take 493⟩ := ⟨⟨⟨f, some ad, 493, c', cur.take 493⟩, hxp, Nat.le_refl _⟩, rfl⟩
      obtain ⟨fn, tmps, assign, body, hy, hR⟩ := hY pre x wr hJ hlen
      rw [show encP x = #[.int .i64 f, .slice (some ad) 493 c'] from by rw [encP, hx]] at hy
      have HX := Lib.hid hx
      have HSP := Lib.hid hsp
      have hcc := (Bs.bp HB1.out).cut (k := 493) (cap := c') (by omega) hmc
      rw [if_neg (by omega)] at hcc
      have HC := Lib.hid hcc
      clear hcell hxp hsp hcc hlen hx
      unfold maxLen at hcm
      gi_wp2
      refine hR.mono ?_
      rintro e W3 (⟨rfl, hJ3, hk3⟩ | ⟨rfl, hJx3⟩)
      · gi_wp2
        go_roundw
        case rel =>
          refine ⟨pre ++ [x], some (ad.add 493), m - 493, c' - 493, cur.drop 493, 0, ?_, rfl, .inl rfl, HC, by omega, by unfold maxLen; omega, by omega, Lib.hid ?_, hJ3, hb.trans hk3⟩
          · rfl
          · rw [said, List.map_append, List.append_assoc, ← HSP.out]
            simp [said, HX.out, Pc.two]
        case measure => simp only [lenOf]; omega
      · gi_wp2
        refine bodyPost_ret (results_none rfl _ _ _) rfl ?_
        exact ⟨⟨_, rfl⟩, .inr ⟨_, trivial, hJx3⟩⟩
    · have hsp := HS.out
      rw [pcs_last (by omega)] at hsp
      have hlen : pre.length < (pcs 1 bs).length := by rw [← hsp]; simp [said]
      have HSP := Lib.hid hsp
      have hor : bits BinOp.or IntKind.i64 f 2 = f + 2 := by rcases hf with rfl | rfl <;> decide
      obtain ⟨x, hx⟩ : ∃ x : PcIn w B, x.1 = ⟨f + 2, A', m, c', cur⟩ := ⟨⟨⟨f + 2, A', m, c', cur⟩, HB1.out, by simp; omega⟩, rfl⟩
      obtain ⟨fn, tmps, assign, body, hy, hR⟩ := hY pre x wr hJ hlen
      rw [show encP x = #[.int .i64 (f + 2), .slice A' m c'] from by rw [encP, hx]] at hy
      have HX := Lib.hid hx
      clear hsp hlen hx hl
      unfold maxLen at hcm
      gi_wp2
      refine hR.mono ?_
      rintro e W3 (⟨rfl, hJ3, hk3⟩ | ⟨rfl, hJx3⟩)
      · gi_wp2
        go_end0
        refine ⟨⟨_, rfl⟩, .inl ⟨pre ++ [x], ?_, hJ3⟩⟩
        rw [said, List.map_append, ← HSP.out]
        simp [said, HX.out, Pc.two]
      · gi_wp2
        go_end0
        exact ⟨⟨_, rfl⟩, .inr ⟨_, trivial, hJx3⟩⟩

set_option maxHeartbeats 1000000 in
theorem pieces (A : Option Addr) (n c : Nat) (w : World) :
    Calls Tryz.prog 106 #[.slice A n c] w fun e w' => e = .returned (.func (.func 117) #[] #[.pointer (some ⟨w.heap.size, 0, none⟩)]) ∧ w' = w.alloc (.cells #[.slice A n c] 44) := by
  go_enter Tryz.func106, Tryz.ntmps106
  go_wp2_with fail
  go_ret
  exact ⟨rfl, rfl⟩
theorem pieces_stops (w : World) (B : Nat) (A : Option Addr) (n c : Nat) (bs : List (BitVec 8)) (hbs : Bs w B A n bs) (hnc : n ≤ c) (hc : c ≤ maxLen) (hn9 : n ≤ 9860) (Bn : Nat) (w0 : World) (h0 : Below B w w0) (hB : B ≤ w0.heap.size) (hBn : Bn < w0.heap.size)
    (hcell : w0.cell? ⟨Bn, 0, none⟩ = some (.slice A n c)) :
    SeqStopsK Fence.wide 9 Tryz.prog 117 #[.pointer (some ⟨Bn, 0, none⟩)] (encP (w := w) (B := B)) (Below B) (fun ys => said ys = pcs 1 bs) (fun _ => True) (pcs 1 bs).length w0 := fun l J Jx W hW _ _ hY hJ =>
  pieces1 w B A n c bs hbs hnc hc hn9 l Bn J Jx hY W (h0.trans (hW.mono hB)) ((hW.cell (p := ⟨Bn, 0, none⟩) hBn).trans hcell) hJ

/-- A record's parts, and where they lie. -/
structure Gr where
  A : Option Addr
  n : Nat
  c : Nat
  xs : List Pv
def Gr.pts (x : Gr) : List Pt := x.xs.map (·.p)
abbrev GrIn (w : World) (B : Nat) : Type := { x : Gr // Pr w B x.A x.n x.xs ∧ x.n ≤ x.c ∧ x.n ≤ 4096 ∧ (x.pts.flatMap (·.body)).length ≤ 100000 }
def encG {w : World} {B : Nat} (x : GrIn w B) : Array Value := #[.slice x.1.A x.1.n x.1.c]
def told {w : World} {B : Nat} (gs : List (GrIn w B)) : List (List Pt) := gs.map (·.1.pts)

set_option maxRecDepth 100000 in
set_option maxHeartbeats 2000000 in
theorem groups1 (w : World) (B : Nat) (A : Option Addr) (n c : Nat) (xs : List Pv) (hxs : Pr w B A n xs) (hnc : n ≤ c) (hc : c ≤ maxLen) (hn9 : n ≤ 4096) (hfit : ∀ x ∈ xs, fits x.p.flags) (hG : ∀ g ∈ grp (xs.map (·.p)), (g.flatMap (·.body)).length ≤ 100000) (l Bn : Nat) (J Jx : List (GrIn w B) → World → Prop)
    (hY : ∀ pre x W, J pre W → pre.length < (grp (xs.map (·.p))).length → YieldAt Fence.wide 8 Tryz.prog l (encG x) W fun e W' =>
      (e = .returned (.bool true) ∧ J (pre ++ [x]) W' ∧ Below B W W') ∨ (e = .returned (.bool false) ∧ Jx (pre ++ [x]) W'))
    (hJa : ∀ pre W W', J pre W → Below W.heap.size W W' → J pre W')
    (W : World) (hW : Below B w W) (hBW : B ≤ W.heap.size) (hBn : W.cell? ⟨Bn, 0, none⟩ = some (.slice A n c)) (h0 : J [] W) :
    CallsIn Fence.wide 9 Tryz.prog 126 #[.func (.yield l) #[] #[], .pointer (some ⟨Bn, 0, none⟩)] W fun e W' => (∃ v, e = .returned v) ∧
      ((∃ ys, told ys = grp (xs.map (·.p)) ∧ J ys W') ∨ (∃ pre, True ∧ Jx pre W')) := by
  refine callsIn_of_wp Tryz.func126 rfl trivial ?_ rfl
  simp only [Tryz.ntmps126, List.size_toArray, List.length_cons, List.length_nil, Nat.reduceAdd, Nat.reduceSub, Array.replicate_succ, Array.replicate_zero, List.push_toArray, List.append_toArray, List.nil_append, List.cons_append]
  have HP := Lib.hid hxs
  have HF := Lib.hid hfit
  have HG := Lib.hid hG
  clear hxs hfit hG
  gi_wp2
  refine ⟨trivial, (callsIn_wide.2 (leading A n c xs _ B (HP.out.below hW) hBW hnc hn9 HF.out)).mono ?_⟩
  rintro e w1 ⟨rfl, hb1⟩
  have hJ1 := hJa _ _ _ h0 hb1
  have hW1 := hW.trans (hb1.mono hBW)
  have hBW1 := Nat.le_trans hBW hb1.size
  clear hb1 h0
  gi_wp2
  gi_loopw [3, 4] (fun p q wr => ∃ (pre : List (GrIn w B)) (A' : Option Addr) (m c' k : Nat) (cur : List Pv), p = .slice A' m c' ∧ q = .int .i64 (k : Int) ∧ Hid (lead true (cur.map (·.p)) = k) ∧ Hid (Pr w B A' m cur) ∧ m ≤ c' ∧ c' ≤ maxLen ∧ m ≤ 4096 ∧ Hid (∀ x ∈ cur, fits x.p.flags) ∧ Hid (told pre ++ grp (cur.map (·.p)) = grp (xs.map (·.p))) ∧ J pre wr ∧ Below B w wr ∧ B ≤ wr.heap.size)
    (fun p _ _ => lenOf p)
  case atStart => exact ⟨[], A, n, c, _, xs, rfl, rfl, Lib.hid rfl, HP, hnc, hc, hn9, HF, Lib.hid rfl, hJ1, hW1, hBW1⟩
  case round =>
    obtain ⟨pre, A', m, c', k, cur, rfl, rfl, HL, HP1, hmc, hcm, hm9, HF1, HS, hJ, hb, hBr⟩ := hrel
    have hkm : k ≤ m := by
      have := lead_le true (cur.map (·.p))
      rw [HL.out, List.length_map, HP1.out.len] at this
      exact this
    by_cases hlt : 0 < k
    · obtain ⟨ad, rfl, hbl, hcell⟩ := HP1.out.cells (by omega)
      have hsp := HS.out
      rw [grp_more (by rw [HL.out]; exact hlt), HL.out, ← List.map_take, ← List.map_drop] at hsp
      have hlen : pre.length < (grp (xs.map (·.p))).length := by rw [← hsp]; simp [told]
      obtain ⟨x, hx⟩ : ∃ x : GrIn w B, x.1 = ⟨some ad, k, c', cur.take k⟩ := ⟨⟨⟨some ad, k, c', cur.take k⟩, HP1.out.take hkm, by simp only []; omega, by simp only []; omega, HG.out _ (by rw [← hsp]; simp [Gr.pts])⟩, rfl⟩
      obtain ⟨fn, tmps, assign, body, hy, hR⟩ := hY pre x wr hJ hlen
      rw [show encG x = #[.slice (some ad) k c'] from by rw [encG, hx]] at hy
      have HX := Lib.hid hx
      have HSP := Lib.hid hsp
      have HD := Lib.hid (HP1.out.drop hkm hmc)
      clear hcell hsp hlen hx hbl
      unfold maxLen at hcm
      gi_wp2
      refine hR.mono ?_
      rintro e W3 (⟨rfl, hJ3, hk3⟩ | ⟨rfl, hJx3⟩)
      · have hb3 := hb.trans hk3
        have hB3 := Nat.le_trans hBr hk3.size
        by_cases hck : c' = k
        · have PD := Lib.hid (show Pr w B (some ad) (m - k) (cur.drop k) from by have := HD.out; rwa [if_pos hck] at this)
          gi_wp2
          refine ⟨trivial, (callsIn_wide.2 (leading _ (m - k) _ (cur.drop k) _ B (PD.out.below hb3) hB3 (by omega) (by omega) (fun x hx => HF1.out x (List.mem_of_mem_drop hx)))).mono ?_⟩
          rintro e w4 ⟨rfl, hb4⟩
          have hJ4 := hJa _ _ _ hJ3 hb4
          have HB4 := Lib.hid (hb3.trans (hb4.mono hB3))
          have hB4 := Nat.le_trans hB3 hb4.size
          clear hb4
          gi_wp2
          go_roundw
          case rel =>
            refine ⟨pre ++ [x], _, m - k, _, _, cur.drop k, rfl, rfl, Lib.hid (by rw [List.map_drop]), PD, by omega, by unfold maxLen; omega, by omega, Lib.hid (fun x hx => HF1.out x (List.mem_of_mem_drop hx)), Lib.hid ?_, hJ4, HB4.out, hB4⟩
            rw [told, List.map_append, List.append_assoc, ← HSP.out]
            simp [told, HX.out, Gr.pts]
          case measure => simp only [lenOf]; omega
        · have PD := Lib.hid (show Pr w B (some (ad.add (k * 4))) (m - k) (cur.drop k) from by have := HD.out; rwa [if_neg hck] at this)
          gi_wp2
          refine ⟨trivial, (callsIn_wide.2 (leading _ (m - k) _ (cur.drop k) _ B (PD.out.below hb3) hB3 (by omega) (by omega) (fun x hx => HF1.out x (List.mem_of_mem_drop hx)))).mono ?_⟩
          rintro e w4 ⟨rfl, hb4⟩
          have hJ4 := hJa _ _ _ hJ3 hb4
          have HB4 := Lib.hid (hb3.trans (hb4.mono hB3))
          have hB4 := Nat.le_trans hB3 hb4.size
          clear hb4
          gi_wp2
          go_roundw
          case rel =>
            refine ⟨pre ++ [x], _, m - k, _, _, cur.drop k, rfl, rfl, Lib.hid (by rw [List.map_drop]), PD, by omega, by unfold maxLen; omega, by omega, Lib.hid (fun x hx => HF1.out x (List.mem_of_mem_drop hx)), Lib.hid ?_, hJ4, HB4.out, hB4⟩
            rw [told, List.map_append, List.append_assoc, ← HSP.out]
            simp [told, HX.out, Gr.pts]
          case measure => simp only [lenOf]; omega
      · gi_wp2
        refine bodyPost_ret (results_none rfl _ _ _) rfl ?_
        exact ⟨⟨_, rfl⟩, .inr ⟨_, trivial, hJx3⟩⟩
    · obtain rfl : k = 0 := by omega
      have HE := Lib.hid (show told pre = grp (xs.map (·.p)) from by
        have := HS.out
        rwa [grp_none HL.out, List.append_nil] at this)
      gi_wp2
      go_end0
      exact ⟨⟨_, rfl⟩, .inl ⟨pre, HE.out, hJ⟩⟩
set_option maxHeartbeats 1000000 in
theorem groups (A : Option Addr) (n c : Nat) (w : World) :
    Calls Tryz.prog 113 #[.slice A n c] w fun e w' => e = .returned (.func (.func 126) #[] #[.pointer (some ⟨w.heap.size, 0, none⟩)]) ∧ w' = w.alloc (.cells #[.slice A n c] 116) := by
  go_enter Tryz.func113, Tryz.ntmps113
  go_wp2_with fail
  go_ret
  exact ⟨rfl, rfl⟩
theorem groups_stops (w : World) (B : Nat) (A : Option Addr) (n c : Nat) (xs : List Pv) (hxs : Pr w B A n xs) (hnc : n ≤ c) (hc : c ≤ maxLen) (hn9 : n ≤ 4096) (hfit : ∀ x ∈ xs, fits x.p.flags) (hG : ∀ g ∈ grp (xs.map (·.p)), (g.flatMap (·.body)).length ≤ 100000) (Bn : Nat) (w0 : World) (h0 : Below B w w0) (hB : B ≤ w0.heap.size) (hBn : Bn < w0.heap.size)
    (hcell : w0.cell? ⟨Bn, 0, none⟩ = some (.slice A n c)) :
    SeqStopsK Fence.wide 9 Tryz.prog 126 #[.pointer (some ⟨Bn, 0, none⟩)] (encG (w := w) (B := B)) (Below B) (fun ys => told ys = grp (xs.map (·.p))) (fun _ => True) (grp (xs.map (·.p))).length w0 := fun l J Jx W hW hJ _ hY hJ0 =>
  groups1 w B A n c xs hxs hnc hc hn9 hfit hG l Bn J Jx hY
    (fun pre W1 W2 h hb => hJ pre W1 W2 none h ⟨hb.os, hb.tape, hb.output, hb.size, fun k hk _ => hb.block k hk⟩ (fun r e => by cases e)) W (h0.trans (hW.mono hB)) (Nat.le_trans hB hW.size) ((hW.cell (p := ⟨Bn, 0, none⟩) hBn).trans hcell) hJ0
end Go.Proofs.YtdaknfepcbooeaaGreat.Frag
