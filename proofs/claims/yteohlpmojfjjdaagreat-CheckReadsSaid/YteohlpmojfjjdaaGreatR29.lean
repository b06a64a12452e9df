/-
Texts: VarsIter VarsPnames
-/
import Derived.Test.YteohlpmojfjjdaaGreatR0
import Derived.Test.YteohlpmojfjjdaaGreatR1
import Derived.Test.YteohlpmojfjjdaaGreatR2
import Derived.Test.YteohlpmojfjjdaaGreatR4
import Derived.Test.YteohlpmojfjjdaaGreatR14
import Derived.Test.YteohlpmojfjjdaaGreatR28
import Derived.Shelf.Abstract
import Derived.Shelf.RegionOpen
import Derived.OwnWalkIn
import Derived.TacticsInMore
import Derived.LoopNIn
import Derived.LoopIn
set_option linter.unusedVariables false
set_option linter.unusedSimpArgs false
set_option maxRecDepth 100000
set_option maxHeartbeats 4000000
section
namespace Go.Proofs.YteohlpmojfjjdaaGreat.Vars
open Go.RowKit Go.Shelf
attribute [local go_sem] Oper.semAt_some
structure Kp (B Bl : Nat) (W W' : World) : Prop where
 low : Below B W W'
 cells : ∀ k cs t fz, W.heap[k]? = some (.cells cs t fz) → k ≠ Bl → t ≠ 5 → t ≠ 9 → W'.heap[k]? = some (.cells cs t fz)
namespace Kp
variable {B Bl : Nat} {W W' X : World}
theorem refl (B Bl : Nat) (W : World) : Kp B Bl W W := ⟨Below.refl _ _, fun _ _ _ _ h _ _ _ => h⟩
theorem trans (h : Kp B Bl W W') (h2 : Kp B Bl W' X) : Kp B Bl W X := ⟨h.low.trans h2.low, fun k cs t fz e a b c => h2.cells k cs t fz (h.cells k cs t fz e a b c) a b c⟩
theorem of_below (h : Below W.heap.size W W') (hB : B ≤ W.heap.size) : Kp B Bl W W' := ⟨h.mono hB, fun k cs t fz e _ _ _ => (h.block k (Array.getElem?_eq_some_iff.1 e).1).trans e⟩
theorem call (h : Kp B Bl W W') (hc : Below W'.heap.size W' X) (hB : B ≤ W.heap.size) : Kp B Bl W X := h.trans (of_below hc (Nat.le_trans hB h.low.size))
theorem turn (h : Kp B Bl W W') {l : Nat} {r : Obj} (hl : W'.heap[l]? = some r) (hr : r.isCells = false) (hB : B ≤ l) (o : Obj) : Kp B Bl W (W'.putObj l o) :=
 h.trans ⟨⟨rfl, rfl, rfl, by simp, fun k hk => World.putObj_heap_other (by omega)⟩, fun k cs t fz e _ _ _ => (World.putObj_heap_other (by rintro rfl; rw [hl] at e; cases e; cases hr)).trans e⟩
theorem set (h : Kp B Bl W W') (hB : B ≤ Bl) (j : Nat) (u : Value) : Kp B Bl W (W'.setCell ⟨Bl, j, none⟩ u) :=
 h.trans ⟨(Below.refl _ _).setCell (p := ⟨Bl, j, none⟩) hB u, fun k cs t fz e hk _ _ => (Below.heap_setCell _ _ _ _ (fun q => hk (by rw [q]))).trans e⟩
theorem grown (h : Kp B Bl W W') {row : Option Nat} (hg : W'.grownBy X row) (hB : B ≤ W'.heap.size) (hr : ∀ g, row = some g → B ≤ g) (ht : ∀ g cs t fz, row = some g → W'.heap[g]? = some (.cells cs t fz) → t = 5 ∨ t = 9) : Kp B Bl W X :=
 h.trans ⟨(Below.refl _ _).grown hg hB hr, fun k cs t fz e _ h1 h2 => (hg.block k (Array.getElem?_eq_some_iff.1 e).1 (fun q => by rcases ht k cs t fz q.symm e with r | r; exact h1 r; exact h2 r)).trans e⟩
theorem cel (h : Kp B Bl W W') {g : Nat} {t : TypeId} {cs : List Value} (hc : Cel W g t cs) (hg : g ≠ Bl) (h1 : t ≠ 5) (h2 : t ≠ 9) : Cel W' g t cs := h.cells _ _ _ _ hc hg h1 h2
end Kp
structure Pq where
 at_ : Nat
 p : Pce
 A : Option Addr
 c : Nat
abbrev PqIn (w : World) (B : Nat) (G : Pce → Prop) : Type := { x : Pq // Bs w B x.A x.p.t.length x.p.t ∧ G x.p }
def encQ {w : World} {B : Nat} {G : Pce → Prop} (x : PqIn w B G) : Array Value := #[.int .i64 (x.1.at_ : Int), .agg #[.int .i64 (x.1.p.k : Int), .int .i64 (x.1.p.n : Int), .slice x.1.A x.1.p.t.length x.1.c]]
def saidQ {w : World} {B : Nat} {G : Pce → Prop} (xs : List (PqIn w B G)) : List (Nat × Pce) := xs.map fun x => (x.1.at_, x.1.p)
theorem pieces1 (w : World) (B : Nat) (G : Pce → Prop) (A : Option Addr) (n c : Nat) (s : List (BitVec 8)) (hs : Bs w B A n s) (hn : n ≤ 100000) (hcap : n ≤ c) (hG : ∀ x ∈ pcs s, G x.2) (l Bn Bl : Nat) (J Jx : List (PqIn w B G) → World → Prop)
  (hY : ∀ pre x W, J pre W → pre.length < (pcs s).length → YieldAt Fence.wide 8 Tryz.prog l (encQ x) W fun e W' =>
   (e = .returned (.bool true) ∧ J (pre ++ [x]) W' ∧ Kp B Bl W W') ∨ (e = .returned (.bool false) ∧ Jx (pre ++ [x]) W'))
  (hJa : ∀ pre W W', J pre W → Below W.heap.size W W' → J pre W')
  (W : World) (hW : Below B w W) (hBW : B ≤ W.heap.size) (hBn : Cel W Bn 41 [.slice A n c]) (hne : Bn ≠ Bl) (hBl : Bl < W.heap.size) (h0 : J [] W) :
  CallsIn Fence.wide 9 Tryz.prog 152 #[.func (.yield l) #[] #[], .pointer (some ⟨Bn, 0, none⟩)] W fun e W' => (∃ v, e = .returned v) ∧
   ((∃ ys, saidQ ys = pcs s ∧ J ys W') ∨ (∃ pre, (∃ r, saidQ pre ++ r = pcs s) ∧ Jx pre W')) := by
 refine callsIn_of_wp Tryz.func152 rfl trivial ?_ rfl
 simp only [Tryz.ntmps152, List.size_toArray, List.length_cons, List.length_nil, Nat.reduceAdd, Nat.reduceSub, Array.replicate_succ, Array.replicate_zero, List.push_toArray, List.append_toArray, List.nil_append, List.cons_append]
 have HS := Lib.hid hs
 have HSL := Lib.hid hs.len
 have HT := Lib.hid (show ∀ f, n - 0 < f → saidQ ([] : List (PqIn w B G)) ++ pcsR f 0 (s.drop 0) = pcs s from fun f hf => by
  have := HSL.out
  rw [List.drop_zero]; exact pcsR_fuel _ _ _ _ (by omega) (by omega))
 clear hs
 gi_wp2
 gi_loopw [3] (fun v3 wr => ∃ (pre : List (PqIn w B G)) (q : Nat), q ≤ n ∧ v3 = .int .i64 (q : Int) ∧ Hid (∀ f, n - q < f → saidQ pre ++ pcsR f q (s.drop q) = pcs s) ∧ J pre wr ∧ Below B w wr ∧ B ≤ wr.heap.size ∧ Cel wr Bn 41 [.slice A n c] ∧ Bl < wr.heap.size)
  (fun v3 _ => n - (intOf v3).toNat)
 case atStart => exact ⟨[], 0, Nat.zero_le _, rfl, HT, h0, hW, hBW, hBn, hBl⟩
 case round =>
  obtain ⟨pre, q, hq, rfl, HK, hJ, hb, hBr, hcn, hbl⟩ := hrel
  clear HT h0 hW hBW hBn hBl
  have kn := hcn.cell 0
  have HCN := Lib.hid hcn
  have HB := Lib.hid hb
  clear hb hcn
  rcases Nat.lt_or_ge q n with hlt | hge
  ·have hne0 : s.drop q ≠ [] := fun e => by have := congrArg List.length e; rw [List.length_drop, HSL.out] at this; simp at this; omega
   obtain ⟨A2, n2, c2, hcut, hs2, hn2, hc2, hp2⟩ : ∃ A2 n2 c2, (∀ V : World, (Instr.sliceAt 41 (.slice A n c) (some (.int .i64 (q : Int))) none none).run Tryz.prog V = .ok (.slice A2 n2 c2) V) ∧ Bs w B A2 n2 (s.drop q) ∧ n2 ≤ 100000 ∧ n2 ≤ c2 ∧ 0 < n2 :=
    ⟨_, _, _, fun V => run_cutFrom (P := Tryz.prog) V (t := 41) (e := 5) (size := 1) Tryz.underlying41 rfl A n c q .i64 (by omega), by have := (Bs.bp HS.out).cut (k := q) (cap := c) (by omega) hcap; rw [Nat.mul_one]; exact this, by omega, by omega, by omega⟩
   have con := plead wr B A2 n2 c2 (s.drop q) (hs2.below HB.out) hBr hp2 hn2 hc2
   have hsz := lead_size _ hne0
   rw [List.length_drop, HSL.out] at hsz
   obtain ⟨p, hp⟩ : ∃ p, p = leadR (s.drop q) := ⟨_, rfl⟩
   rw [← hp] at con hsz
   obtain ⟨hz1, hz2, hz3, _⟩ := hsz
   have hsp := HK.out (n - q + 1) (by omega)
   rw [pcsR_go hne0, ← hp] at hsp
   have hlen : pre.length < (pcs s).length := by rw [← hsp]; simp [saidQ]
   have HN := Lib.hid (show ∀ f, n - (q + p.n) < f → saidQ pre ++ [(q, p)] ++ pcsR f (q + p.n) (s.drop (q + p.n)) = pcs s from fun f hf => by
    have := HK.out (f + (n - q) + 1) (by omega)
    rw [pcsR_go hne0, ← hp, List.drop_drop] at this
    rw [← this, List.append_assoc]
    show saidQ pre ++ ((q, p) :: _) = _
    rw [pcsR_fuel f (f + (n - q)) _ _ (by rw [List.length_drop, HSL.out]; omega) (by rw [List.length_drop, HSL.out]; omega)]
    rfl)
   have HPR := Lib.hid (show ∃ r, saidQ pre ++ [(q, p)] ++ r = pcs s from ⟨_, HN.out (n + 1) (by omega)⟩)
   have HGP := Lib.hid (hG (q, p) (by rw [← hsp]; simp))
   clear hs2 hne0 hsp HK hp
   gi_wp2
   refine ⟨trivial, (callsIn_wide.2 con).mono ?_⟩
   clear con hcut
   rintro e w1 ⟨hb1, A', c', rfl, hy⟩
   obtain ⟨x, hx⟩ : ∃ x : PqIn w B G, x.1 = ⟨q, p, A', c'⟩ := ⟨⟨⟨q, p, A', c'⟩, hy.back (HB.out.trans (hb1.mono hBr)), HGP.out⟩, rfl⟩
   obtain ⟨W1, hW1⟩ : ∃ W1, W1 = w1.alloc (.cells #[.int .i64 (p.k : Int), .int .i64 (p.n : Int), .slice A' p.t.length c'] 187) := ⟨_, rfl⟩
   have hb2 : Below wr.heap.size wr W1 := by rw [hW1]; exact hb1.alloc hb1.size _
   have hcx : Cel W1 w1.heap.size 187 [.int .i64 (p.k : Int), .int .i64 (p.n : Int), .slice A' p.t.length c'] := by rw [hW1]; exact Cel.new w1 _ _
   have hJ1 := hJa _ _ _ hJ hb2
   obtain ⟨fn, tmps, assign, body, hyy, hR⟩ := hY pre x W1 hJ1 hlen
   rw [show encQ x = #[.int .i64 (q : Int), .agg #[.int .i64 (p.k : Int), .int .i64 (p.n : Int), .slice A' p.t.length c']] from by rw [encQ, hx]] at hyy
   have HR := Lib.hid hR
   have HX := Lib.hid hx
   have HCX := Lib.hid hcx
   have HCN1 := Lib.hid (HCN.out.below hb2 HCN.out.lt)
   have HB1 := Lib.hid (HB.out.trans (hb2.mono hBr))
   have hbx : Bl ≠ w1.heap.size := by have := hb1.size; omega
   have hb1s := hb2.size
   have hpk : p.k ≤ 2 := hz3
   rw [hW1] at hyy
   generalize p.t.length = tl at *
   generalize p.k = pk at *
   clear hb1 hy hx hcx hlen hR hb2 kn HCN hJ hJ1
   gi_wp2
   rw [← hW1]
   refine HR.out.mono ?_
   clear hyy HR hW1
   rintro e W3 (⟨rfl, hJ3, hk3⟩ | ⟨rfl, hJx3⟩)
   ·have hc3 := hk3.cel HCX.out (fun e => hbx e.symm) (by decide) (by decide)
    have k3 := hc3.cell 1
    have HCN3 := Lib.hid (hk3.cel HCN1.out hne (by decide) (by decide))
    have HB3 := Lib.hid (HB1.out.trans hk3.low)
    have hs3 := hk3.low.size
    have HSAY := Lib.hid (show saidQ (pre ++ [x]) = saidQ pre ++ [(q, p)] by rw [saidQ, List.map_append]; simp [saidQ, HX.out])
    clear hc3 hk3
    gi_wp2
    go_roundw
    case rel =>
     refine ⟨pre ++ [x], q + p.n, by omega, by rw [show ((q + p.n : Nat) : Int) = (q : Int) + (p.n : Int) by omega], Lib.hid ?_, hJ3, HB3.out, by omega, HCN3.out, by omega⟩
     rw [HSAY.out]; exact HN.out
    case measure => simp [intOf]; omega
   ·gi_wp2
    refine bodyPost_ret (results_none rfl _ _ _) rfl ?_
    refine ⟨⟨_, rfl⟩, .inr ⟨_, ?_, hJx3⟩⟩
    obtain ⟨r, hr⟩ := HPR.out
    refine ⟨r, ?_⟩
    rw [← hr]; simp [saidQ, HX.out]
  ·have HE := Lib.hid (show saidQ pre = pcs s from by
    have := HK.out 1 (by omega)
    rw [List.drop_eq_nil_of_le (by rw [HSL.out]; exact hge), pcsR_nil, List.append_nil] at this
    exact this)
   gi_wp2
   go_end0
   exact ⟨⟨_, rfl⟩, .inl ⟨pre, HE.out, hJ⟩⟩
theorem ppieces (A : Option Addr) (n c : Nat) (w : World) :
  Calls Tryz.prog 136 #[.slice A n c] w fun e w' => e = .returned (.func (.func 152) #[] #[.pointer (some ⟨w.heap.size, 0, none⟩)]) ∧ w' = w.alloc (.cells #[.slice A n c] 41) := by
 go_enter Tryz.func136, Tryz.ntmps136
 go_wp2_with fail
 go_ret
 exact ⟨rfl, rfl⟩
theorem pieces_stops (w : World) (B : Nat) (G : Pce → Prop) (A : Option Addr) (n c : Nat) (s : List (BitVec 8)) (hs : Bs w B A n s) (hn : n ≤ 100000) (hcap : n ≤ c) (hG : ∀ x ∈ pcs s, G x.2) (m Bn Bl : Nat) (w0 : World) (h0 : Below B w w0) (hB : B ≤ w0.heap.size) (hBn : Cel w0 Bn 41 [.slice A n c]) (hne : Bn ≠ Bl) (hBl : Bl < w0.heap.size) :
  SeqStopsK Fence.wide m Tryz.prog 152 #[.pointer (some ⟨Bn, 0, none⟩)] (encQ (w := w) (B := B) (G := G)) (Kp B Bl) (fun ys => saidQ ys = pcs s) (fun pre => ∃ r, saidQ pre ++ r = pcs s) (pcs s).length w0 := fun l J Jx W hW hJ _ hY hJ0 =>
 callsIn_wide.2 (callsIn_wide.1 (pieces1 w B G A n c s hs hn hcap hG l Bn Bl J Jx (fun pre x W' h h' => yield_any (hY pre x W' h h'))
  (fun pre W1 W2 h hb => hJ pre W1 W2 none h ⟨hb.os, hb.tape, hb.output, hb.size, fun k hk _ => hb.block k hk⟩ (fun r e => by cases e)) W (h0.trans (hW.mono hB)) (Nat.le_trans hB hW.size) (hBn.below hW hBn.lt) hne (Nat.lt_of_lt_of_le hBl hW.size) hJ0))
end Go.Proofs.YteohlpmojfjjdaaGreat.Vars
end
section
namespace Go.Proofs.YteohlpmojfjjdaaGreat.Vars
open Go.RowKit Go.Shelf
attribute [local go_sem] Oper.semAt_some
structure Nb (w : World) (xs : List (Nat × Pce)) (W : World) (A' : Option Addr) (m c' : Nat) : Prop where
 r0 : Cel W w.heap.size 28 [.slice none 0 0]
 r1 : Cel W (w.heap.size + 1) 3 [.int .i64 0]
 r2 : Cel W (w.heap.size + 1 + 1) 31 [.int .i64 0]
 r3 : Cel W (w.heap.size + 1 + 1 + 1) 28 [.slice A' m c']
 row : Ons W w.heap.size A' m c' (nms xs)
 low : Below w.heap.size w W
 ok : ∀ x ∈ xs, x.2.k ≠ 2
 few : m ≤ xs.length
structure Nx (w : World) (xs : List (Nat × Pce)) (W : World) (p : Nat) : Prop where
 bad : ∀ r, nmP (xs ++ r) = .error p
 r0 : Cel W w.heap.size 28 [.slice none 0 0]
 r1 : Cel W (w.heap.size + 1) 3 [.int .i64 (p : Int)]
 r2 : Cel W (w.heap.size + 1 + 1) 31 [.int .i64 2]
 low : Below w.heap.size w W
theorem nb_own (w : World) (w0 : World) (G : Pce → Prop) (B B' : Nat) (hB : w.heap.size ≤ B') : OwnFrom B' (fun (pre : List (PqIn w0 B G)) W => ∃ A' m c', Nb w (saidQ pre) W A' m c') := by
 rintro s X Y row ⟨A', m, c', h⟩ hg hr
 have hr' : ∀ r, row = some r → ∃ o : Obj, X.heap[r]? = some o ∧ o.isCells = false := fun r e => (hr r e).2
 exact ⟨A', m, c', h.r0.own_ hg hr', h.r1.own_ hg hr', h.r2.own_ hg hr', h.r3.own_ hg hr', own_own h.row hg hr', ownFrom_below (Nat.le_refl _) hB s X Y row h.low hg hr, h.ok, h.few⟩
theorem nx_own (w : World) (w0 : World) (G : Pce → Prop) (B B' : Nat) (hB : w.heap.size ≤ B') (c : Code) : OwnFrom B' (fun (pre : List (PqIn w0 B G)) W => c = .ret ∧ ∃ p, Nx w (saidQ pre) W p) := by
 rintro s X Y row ⟨hc, p, h⟩ hg hr
 have hr' : ∀ r, row = some r → ∃ o : Obj, X.heap[r]? = some o ∧ o.isCells = false := fun r e => (hr r e).2
 exact ⟨hc, p, h.bad, h.r0.own_ hg hr', h.r1.own_ hg hr', h.r2.own_ hg hr', ownFrom_below (Nat.le_refl _) hB s X Y row h.low hg hr⟩
theorem saidQ_snoc {w : World} {B : Nat} {G : Pce → Prop} (pre : List (PqIn w B G)) (x : PqIn w B G) : saidQ (pre ++ [x]) = saidQ pre ++ [(x.1.at_, x.1.p)] := by simp [saidQ]
theorem nms_snoc (xs : List (Nat × Pce)) (x : Nat × Pce) : nms (xs ++ [x]) = nms xs ++ (if x.2.k = 1 then [x.2.t] else []) := by simp [nms]
theorem loopK_turn {w : World} {B Bl : Nat} (hB : B ≤ w.heap.size) : ∀ (W : World) (l : Nat) (o o' : Obj), w.heap.size ≤ l → W.heap[l]? = some o → o.isCells = false → o.isWalk = false → Kp B Bl W (W.putObj l o') :=
 fun W l o o' hl h hc _ => (Kp.refl B Bl W).turn h hc (Nat.le_trans hB hl) o'
def PnSays (w : World) (r : Except Nat (List (List (BitVec 8)))) (e : Ending) (w' : World) : Prop := Below w.heap.size w w' ∧ match r with
 | .error p => e = .returned (.tuple #[.slice none 0 0, .int .i64 (p : Int), .int .i64 2])
 | .ok ns => ∃ A' m c', e = .returned (.tuple #[.slice A' m c', .int .i64 0, .int .i64 0]) ∧ Ons w' w.heap.size A' m c' ns
theorem three {w W : World} {t0 t1 t2 : TypeId} {x y z : Value} (h0 : Cel W w.heap.size t0 [x]) (h1 : Cel W (w.heap.size + 1) t1 [y]) (h2 : Cel W (w.heap.size + 1 + 1) t2 [z]) (a b c : Value) :
  Cel (((W.setCell ⟨w.heap.size, 0, none⟩ a).setCell ⟨w.heap.size + 1, 0, none⟩ b).setCell ⟨w.heap.size + 1 + 1, 0, none⟩ c) w.heap.size t0 [a] ∧
  Cel (((W.setCell ⟨w.heap.size, 0, none⟩ a).setCell ⟨w.heap.size + 1, 0, none⟩ b).setCell ⟨w.heap.size + 1 + 1, 0, none⟩ c) (w.heap.size + 1) t1 [b] ∧
  Cel (((W.setCell ⟨w.heap.size, 0, none⟩ a).setCell ⟨w.heap.size + 1, 0, none⟩ b).setCell ⟨w.heap.size + 1 + 1, 0, none⟩ c) (w.heap.size + 1 + 1) t2 [c] ∧
  Frm [w.heap.size, w.heap.size + 1, w.heap.size + 1 + 1] W (((W.setCell ⟨w.heap.size, 0, none⟩ a).setCell ⟨w.heap.size + 1, 0, none⟩ b).setCell ⟨w.heap.size + 1 + 1, 0, none⟩ c) ∧
  KeepsOthers W (((W.setCell ⟨w.heap.size, 0, none⟩ a).setCell ⟨w.heap.size + 1, 0, none⟩ b).setCell ⟨w.heap.size + 1 + 1, 0, none⟩ c) :=
 ⟨((h0.set 0 a).far (p := ⟨w.heap.size + 1, 0, none⟩) (by simp) _).far (p := ⟨w.heap.size + 1 + 1, 0, none⟩) (by simp; omega) _,
  ((h1.far (p := ⟨w.heap.size, 0, none⟩) (by simp) _).set 0 b).far (p := ⟨w.heap.size + 1 + 1, 0, none⟩) (by simp) _,
  ((h2.far (p := ⟨w.heap.size, 0, none⟩) (by simp; omega) _).far (p := ⟨w.heap.size + 1, 0, none⟩) (by simp) _).set 0 c,
  (((Frm.refl _ W).set (p := ⟨w.heap.size, 0, none⟩) (by simp) a).set (p := ⟨w.heap.size + 1, 0, none⟩) (by simp) b).set (p := ⟨w.heap.size + 1 + 1, 0, none⟩) (by simp) c,
  ((KeepsOthers.setCell _ _ _).trans (KeepsOthers.setCell _ _ _)).trans (KeepsOthers.setCell _ _ _)⟩
theorem grow_cel {W W' : World} {base e size n g : Nat} {t : TypeId} {v : Value} {us cs : List Value} (h : Cel W g t cs) (hr : W.ownsRow base e size v n us) (hne : e ≠ t) (hg : W.grownBy W' v.ownBlock) : Cel W' g t cs := (hg.block g h.lt (fun q => own_ty_ne hr h hne q.symm)).trans h
theorem Nb.push {w W Wa w8 : World} {xs : List (Nat × Pce)} {A' A8 : Option Addr} {m c' c8 : Nat} (h : Nb w xs W A' m c') (x : Nat × Pce) (hx2 : x.2.k ≠ 2) (hba : Below W.heap.size W Wa) (hg : Wa.grownBy w8 (Value.slice A' m c').ownBlock)
  (ho : w8.ownsRow w.heap.size 9 1 (.slice A8 (m + 1) c8) (m + 1) ((nms (xs ++ [x])).map scell)) :
  Cel w8 (w.heap.size + 1 + 1 + 1) 28 [.slice A' m c'] ∧ KeepsOthers Wa (w8.setCell ⟨w.heap.size + 1 + 1 + 1, 0, none⟩ (.slice A8 (m + 1) c8)) ∧ Kp w.heap.size (w.heap.size + 1 + 1 + 1) W (w8.setCell ⟨w.heap.size + 1 + 1 + 1, 0, none⟩ (.slice A8 (m + 1) c8)) ∧
   Nb w (xs ++ [x]) (w8.setCell ⟨w.heap.size + 1 + 1 + 1, 0, none⟩ (.slice A8 (m + 1) c8)) A8 (m + 1) c8 := by
 have hlw := h.low.size
 have hra : Wa.ownsRow w.heap.size 9 1 (.slice A' m c') m ((nms xs).map scell) := h.row.below hba
 have go : ∀ {g : Nat} {t : TypeId} {cs : List Value}, Cel W g t cs → 9 ≠ t → Cel w8 g t cs := fun hc hne => grow_cel (hc.below hba hc.lt) hra hne hg
 have k3 := go h.r3 (by decide)
 refine ⟨k3, (KeepsOthers.of_grownBy hg (fun j o ej hj => by obtain ⟨cs, fz, rfl⟩ := own_cells hra j o ej hj; rfl)).trans (KeepsOthers.setCell _ _ _), ?_, ?_⟩
 ·refine ((((Kp.refl _ _ W).call hba hlw).grown hg (Nat.le_trans hlw hba.size) (own_ge hra) (fun g cs t fz e hgg => .inr ?_))).set (by omega) 0 _
  obtain ⟨_, _, q⟩ := own_cells hra g _ e hgg
  injection q
 ·refine ⟨(go h.r0 (by decide)).far (by simp <;> omega) _, (go h.r1 (by decide)).far (by simp <;> omega) _, (go h.r2 (by decide)).far (by simp) _, k3.set 0 _, ?_, ?_, ?_, ?_⟩
  ·exact own_frm (l := [w.heap.size + 1 + 1 + 1]) ho ((Frm.refl _ _).set (p := ⟨w.heap.size + 1 + 1 + 1, 0, none⟩) (by simp) _) (by intro g hgm; simp at hgm; subst hgm; exact own_ty_ne ho k3 (by decide))
  ·exact ((h.low.trans (hba.mono hlw)).grown hg (Nat.le_trans hlw hba.size) (own_ge hra)).setCell (p := ⟨w.heap.size + 1 + 1 + 1, 0, none⟩) (by simp; omega) _
  ·intro y hy
   rcases List.mem_append.1 hy with hy | hy
   ·exact h.ok y hy
   ·rw [List.mem_singleton.1 hy]; exact hx2
  ·rw [List.length_append]; have := h.few; simp; omega
theorem pnames (w : World) (A : Option Addr) (n c : Nat) (s : List (BitVec 8)) (hs : Bs w w.heap.size A n s) (hn : n ≤ 100000) (hcap : n ≤ c) :
  Calls Tryz.prog 104 #[.slice A n c] w (PnSays w (names s)) := by
 rw [names_pcs]
 obtain ⟨i0, hi, hz0, hz1, hz2⟩ := info_parts infoStr
 refine (callsIn_wide (n := 10)).1 ?_
 refine callsIn_of_wp_marks Tryz.func104 rfl trivial ?_ rfl
 simp only [Tryz.ntmps104, List.size_toArray, List.length_cons, List.length_nil, Nat.reduceAdd, Nat.reduceSub, Array.replicate_succ, Array.replicate_zero, List.push_toArray, List.append_toArray, List.nil_append, List.cons_append]
 gi_wp2_with ((refine ⟨trivial, ?_⟩; refine (callsIn_wide.2 (ppieces A n c _)).mono ?_; rintro e w' ⟨rfl, rfl⟩))
 obtain ⟨W0, hW0⟩ : ∃ W0, W0 = ((((w.alloc (.cells #[.slice none 0 0] 28)).alloc (.cells #[.int .i64 0] 3)).alloc (.cells #[.int .i64 0] 31)).alloc (.cells #[.slice none 0 0] 28)).alloc (.cells #[.slice A n c] 41) := ⟨_, rfl⟩
 rw [← hW0]
 have c0 := Cel.new w 28 [.slice none 0 0]
 have c1 := Cel.new (w.alloc (.cells #[.slice none 0 0] 28)) 3 [.int .i64 0]
 have c2 := Cel.new ((w.alloc (.cells #[.slice none 0 0] 28)).alloc (.cells #[.int .i64 0] 3)) 31 [.int .i64 0]
 have c3 := Cel.new (((w.alloc (.cells #[.slice none 0 0] 28)).alloc (.cells #[.int .i64 0] 3)).alloc (.cells #[.int .i64 0] 31)) 28 [.slice none 0 0]
 have c4 := Cel.new ((((w.alloc (.cells #[.slice none 0 0] 28)).alloc (.cells #[.int .i64 0] 3)).alloc (.cells #[.int .i64 0] 31)).alloc (.cells #[.slice none 0 0] 28)) 41 [.slice A n c]
 simp only [World.size_alloc] at c1 c2 c3 c4
 have hl0 : Below w.heap.size w W0 := by rw [hW0]; exact (((((Below.refl _ w).alloc (Nat.le_refl _) _).alloc (by simp) _).alloc (by simp; omega) _).alloc (by simp; omega) _).alloc (by simp; omega) _
 have hsz0 : W0.heap.size = w.heap.size + 1 + 1 + 1 + 1 + 1 := by rw [hW0]; simp
 have hNB : Nb w (saidQ ([] : List (PqIn w w.heap.size fun _ => True))) W0 none 0 0 := ⟨by rw [hW0]; exact (((c0.alloc _).alloc _).alloc _).alloc _, by rw [hW0]; exact ((c1.alloc _).alloc _).alloc _, by rw [hW0]; exact (c2.alloc _).alloc _, by rw [hW0]; exact c3.alloc _, Ons.nil_ _ _, hl0, by simp [saidQ], Nat.le_refl _⟩
 rw [← hW0] at c4
 have hN := pcsR_len (s.length + 1) 0 s
 have hNl : (pcs s).length ≤ 100000 := by have := hs.len; unfold pcs; omega
 have hlow : w.heap.size ≤ W0.heap.size := by omega
 have HC4 := Lib.hid c4
 have HNB := Lib.hid hNB
 have HL0 := Lib.hid hl0
 clear c0 c1 c2 c3 hN c4 hNB hl0
 refine wpIn_rangeFunc_ownH rfl (by decide) (gf := 152) (lb := #[.pointer (some ⟨w.heap.size + 1 + 1 + 1 + 1, 0, none⟩)]) rfl trivial (enters_of Tryz.func152 (by kernel_rfl) rfl)
  (pieces_stops w w.heap.size (fun _ => True) A n c s hs hn hcap (fun _ _ => trivial) (10 - 1) (w.heap.size + 1 + 1 + 1 + 1) (w.heap.size + 1 + 1 + 1) W0 HL0.out hlow HC4.out (by omega) (by omega)) (fun h k => h.trans k) (loopK_turn hlow) (Below.refl _ _) (fun _ => rfl)
  (fun pre W => ∃ A' m c', Nb w (saidQ pre) W A' m c') (fun c pre W => c = .ret ∧ ∃ p, Nx w (saidQ pre) W p) (nb_own w w _ _ _ hlow) (nx_own w w _ _ _ hlow) ⟨_, _, _, HNB.out⟩
  (fun x a' W => ∃ Bx, Cel W Bx 187 [.int .i64 (x.1.p.k : Int), .int .i64 (x.1.p.n : Int), .slice x.1.A x.1.p.t.length x.1.c] ∧ a' = { tmps := #[.slice A n c, undef, .pointer (some ⟨w.heap.size, 0, none⟩), .pointer (some ⟨w.heap.size + 1, 0, none⟩), .pointer (some ⟨w.heap.size + 1 + 1, 0, none⟩), .pointer (some ⟨w.heap.size + 1 + 1 + 1, 0, none⟩), .int .i64 (x.1.at_ : Int), .pointer (some ⟨Bx, 0, none⟩), .slice A n c, .func (.func 152) #[] #[.pointer (some ⟨w.heap.size + 1 + 1 + 1 + 1, 0, none⟩)], .int .i64 (x.1.at_ : Int), .agg #[.int .i64 (x.1.p.k : Int), .int .i64 (x.1.p.n : Int), .slice x.1.A x.1.p.t.length x.1.c], undef, undef, undef, undef, undef, undef, undef, undef, undef, undef, undef, undef, undef, undef], defers := [] })
  (fun x a' s X Y row h hg hr => by obtain ⟨Bx, h1, h2⟩ := h; exact ⟨Bx, h1.own_ hg (fun r e => (hr r e).2), h2⟩) ?assign ?body ?done ?stop
 case assign =>
  rintro l pre x W K ⟨A', m, c', hI⟩ hK
  have hb := (Below.refl W.heap.size W).alloc (Nat.le_refl _) (.cells #[.int .i64 (x.1.p.k : Int), .int .i64 (x.1.p.n : Int), .slice x.1.A x.1.p.t.length x.1.c] 187)
  have hKK := hK _ _ ((KeepsOthers.alloc W (.cells #[.int .i64 (x.1.p.k : Int), .int .i64 (x.1.p.n : Int), .slice x.1.A x.1.p.t.length x.1.c] 187)).from _) (Kp.of_below hb hI.low.size) ⟨A', m, c', hI.r0.alloc _, hI.r1.alloc _, hI.r2.alloc _, hI.r3.alloc _, hI.row.below hb, hI.low.trans (hb.mono hI.low.size), hI.ok, hI.few⟩ ⟨W.heap.size, Cel.new W _ _, rfl⟩
  dsimp only [encQ]
  gi_wp2
  exact hKK
 case body =>
  rintro l pre x a' W hl ⟨r, hr⟩ ⟨A', m, c', hI⟩ ⟨Bx, hx, rfl⟩ hlt
  have hpl : (saidQ pre).length = pre.length := by rw [saidQ, List.length_map]
  have hmb : m ≤ 100000 := by have := hI.few; omega
  have hlw := hI.low.size
  have j0 := hx.cell 0
  have j2 := hx.cell 2
  have HI := Lib.hid hI
  have hxs := x.2.1
  obtain ⟨at_, p, xA, xc, hX⟩ : ∃ at_ p xA xc, x.1 = ⟨at_, p, xA, xc⟩ := ⟨_, _, _, _, rfl⟩
  rw [hX] at hxs
  simp only [hX] at hx j0 j2 ⊢
  have HX := Lib.hid hX
  have HXS := Lib.hid (hxs.below hI.low)
  clear hX hxs hI hx hpl
  by_cases hk2 : p.k = 2
  ·have k0 := HI.out.r0.cell 0
   have k1 := HI.out.r1.cell 0
   have k2 := HI.out.r2.cell 0
   have f0 := HI.out.r0.free 0
   have f1 := HI.out.r1.free 0
   have f2 := HI.out.r2.free 0
   have z2 : ((p.k : Int) == 2) = true := by rw [hk2]; rfl
   have HN := Lib.hid (show Nx w (saidQ (pre ++ [x])) (((W.setCell ⟨w.heap.size, 0, none⟩ (.slice none 0 0)).setCell ⟨w.heap.size + 1, 0, none⟩ (.int .i64 (at_ : Int))).setCell ⟨w.heap.size + 1 + 1, 0, none⟩ (.int .i64 2)) at_ from
    ⟨fun r => by rw [saidQ_snoc, HX.out, List.append_assoc]; exact nmP_bad HI.out.ok hk2,
     (((HI.out.r0.set 0 (.slice none 0 0)).far (p := ⟨w.heap.size + 1, 0, none⟩) (by simp) _).far (p := ⟨w.heap.size + 1 + 1, 0, none⟩) (by simp; omega) _),
     (((HI.out.r1.far (p := ⟨w.heap.size, 0, none⟩) (by simp) _).set 0 (.int .i64 (at_ : Int))).far (p := ⟨w.heap.size + 1 + 1, 0, none⟩) (by simp) _),
     (((HI.out.r2.far (p := ⟨w.heap.size, 0, none⟩) (by simp; omega) _).far (p := ⟨w.heap.size + 1, 0, none⟩) (by simp) _).set 0 (.int .i64 2)),
     ((HI.out.low.setCell (p := ⟨w.heap.size, 0, none⟩) (by simp) _).setCell (p := ⟨w.heap.size + 1, 0, none⟩) (by simp) _).setCell (p := ⟨w.heap.size + 1 + 1, 0, none⟩) (by simp; omega) _⟩)
   generalize p.k = pk at *
   generalize p.t.length = tl at *
   clear hk2
   gi_wp2
   exact ⟨(((KeepsOthers.setCell _ _ _).trans (KeepsOthers.setCell _ _ _)).trans (KeepsOthers.setCell _ _ _)).from _, rfl, _, HN.out⟩
  ·have z2 : ((p.k : Int) == 2) = false := by simp; omega
   by_cases hk1 : p.k = 1
   ·have z1 : ((p.k : Int) == 1) = true := by rw [hk1]; rfl
    obtain ⟨st, hst⟩ : ∃ st, st = str p.t := ⟨_, rfl⟩
    have hcv : (convert 41 9 (.slice xA p.t.length xc)).run Tryz.prog W = .ok (.string st) W := by
     rw [hst]
     exact (Bs.bp HXS.out).string xc (P := Tryz.prog) (src := 41) (dst := 9) Tryz.underlying41 Tryz.underlying5 Tryz.underlying9
    have HNM := Lib.hid (show (nms (saidQ pre)).map scell ++ [.string st] = (nms (saidQ (pre ++ [x]))).map scell by rw [saidQ_snoc, nms_snoc, HX.out]; dsimp only; rw [if_pos hk1, List.map_append, hst]; rfl)
    have HPU := Lib.hid (fun (Wa w8 : World) (A8 : Option Addr) (c8 : Nat) => HI.out.push (Wa := Wa) (w8 := w8) (A8 := A8) (c8 := c8) (at_, p) hk2)
    have k3 := HI.out.r3.cell 0
    have f3 := HI.out.r3.free 0
    clear hst hk1 hk2
    generalize p.k = pk at *
    generalize p.t.length = tl at *
    obtain ⟨Wa, hWa⟩ : ∃ Wa, Wa = W.alloc (.cells #[.string st] 9) := ⟨_, rfl⟩
    have hba : Below W.heap.size W Wa := by rw [hWa]; exact (Below.refl _ _).alloc (Nat.le_refl _) _
    have HBA := Lib.hid hba
    have HRA := Lib.hid (HI.out.row.below hba)
    have hba1 := hba.size
    have hca : ∀ j u, ([.string st] : List Value)[j]? = some u → Wa.cell? ((⟨W.heap.size, 0, none⟩ : Addr).add j) = some u := by
     intro j u hu
     rw [add_row, hWa]
     exact ((Cel.new W 9 [.string st]).cell j).trans hu
    have HCA := Lib.hid hca
    have HKA := Lib.hid (show KeepsOthers W Wa by rw [hWa]; exact KeepsOthers.alloc _ _)
    clear hba hca
    gi_wp2_with ((rw [← hWa]; clear hWa; gi_at_builtin; refine wpListIn_append_own _ rfl _ _ 28 rfl w.heap.size 9 i0 (.string ByteArray.empty) 1 16 Tryz.underlying28 hi hz0 hz1 hz2 rfl (by decide) _ _ _ rfl HRA.out ⟨W.heap.size, 0, none⟩ 1 1 [.string st] rfl rfl HCA.out (by intro u hu; rw [List.mem_singleton.1 hu]; rfl) (by unfold maxLen; omega) (by omega) (by omega) ?_; intro v8 w8 ho8 hg8 _; obtain ⟨g8, c8, rfl⟩ := ownsRow_succ ho8; rw [HNM.out, saidQ_snoc, HX.out] at ho8; obtain ⟨h81, h82, h83, h84⟩ := HPU.out _ _ _ _ HBA.out hg8 ho8; have k8 := h81.cell 0; have f8 := h81.free 0; have H82 := Lib.hid (HKA.out.trans h82); have H83 := Lib.hid h83; have H84 := Lib.hid h84; clear h81 h82 h83 h84 ho8 hg8 k3 f3))
    exact ⟨H82.out.from _, H83.out, _, _, _, by rw [saidQ_snoc, HX.out]; exact H84.out⟩
   ·have z1 : ((p.k : Int) == 1) = false := by simp; omega
    have HN := Lib.hid (show Nb w (saidQ (pre ++ [x])) W A' m c' from by
     have h := HI.out
     rw [saidQ_snoc, HX.out]
     refine ⟨h.r0, h.r1, h.r2, h.r3, ?_, h.low, ?_, ?_⟩
     ·rw [nms_snoc, if_neg hk1, List.append_nil]; exact h.row
     ·intro y hy
      rcases List.mem_append.1 hy with hy | hy
      ·exact h.ok y hy
      ·rw [List.mem_singleton.1 hy]; exact hk2
     ·rw [List.length_append]; have := h.few; omega)
    generalize p.k = pk at *
    generalize p.t.length = tl at *
    clear hk1 hk2
    gi_wp2
    exact ⟨KeepsFrom.refl _ _, Kp.refl _ _ _, _, _, _, HN.out⟩
 case done =>
  rintro D ys W hD hys ⟨A', m, c', hI⟩ hK
  have hok : nmP (pcs s) = .ok (nms (saidQ ys)) := by rw [← hys]; exact nmP_all hI.ok
  have k0 := hI.r0.cell 0
  have k1 := hI.r1.cell 0
  have k2 := hI.r2.cell 0
  have k3 := hI.r3.cell 0
  have f0 := hI.r0.free 0
  have f1 := hI.r1.free 0
  have f2 := hI.r2.free 0
  have HI := Lib.hid hI
  have HOK := Lib.hid hok
  have HT := Lib.hid (three hI.r0 hI.r1 hI.r2 (.slice A' m c') (.int .i64 0) (.int .i64 0))
  have hsz := hI.low.size
  have HHK := Lib.hid hK
  clear hI hys hok hK
  gi_wp2
  obtain ⟨q0, q1, q2, qf, qk⟩ := HT.out
  have hK := qk.same D _ HHK.out rfl
  clear k0 k1 k2 k3 f0 f1 f2
  refine ⟨by simp, .inl ⟨_, _, rfl, run_takeDeferred hK, ?_⟩⟩
  have hg := grownBy_putObj' (((W.setCell ⟨w.heap.size, 0, none⟩ (.slice A' m c')).setCell ⟨w.heap.size + 1, 0, none⟩ (.int .i64 0)).setCell ⟨w.heap.size + 1 + 1, 0, none⟩ (.int .i64 0)) D (.deferred none)
  have hr : ∀ r, some D = some r → ∃ o : Obj, (((W.setCell ⟨w.heap.size, 0, none⟩ (.slice A' m c')).setCell ⟨w.heap.size + 1, 0, none⟩ (.int .i64 0)).setCell ⟨w.heap.size + 1 + 1, 0, none⟩ (.int .i64 0)).heap[r]? = some o ∧ o.isCells = false := fun r e => by cases e; exact ⟨_, hK, rfl⟩
  have p0 := (q0.own_ hg hr).cell 0
  have p1 := (q1.own_ hg hr).cell 0
  have p2 := (q2.own_ hg hr).cell 0
  refine ⟨.tuple #[.slice A' m c', .int .i64 0, .int .i64 0], ?_, ?_, ?_⟩
  ·simp [results, Tryz.f104, go_sem, p0, p1, p2]
  ·exact (HI.out.low.trans (qf.below hsz (by intro g hgm; simp at hgm; omega))).trans (belowK_b (w := w) (Nat.le_refl _) _ D _ _ (by omega) hK rfl rfl)
  ·rw [HOK.out]
   refine ⟨A', m, c', rfl, own_own (own_frm HI.out.row qf (fun g hgm => ?_)) hg hr⟩
   simp at hgm
   rcases hgm with rfl | rfl | rfl
   ·exact own_ty_ne HI.out.row HI.out.r0 (by decide)
   ·exact own_ty_ne HI.out.row HI.out.r1 (by decide)
   ·exact own_ty_ne HI.out.row HI.out.r2 (by decide)
 case stop =>
  rintro D c pre W hD ⟨r, hr⟩ ⟨rfl, p, hI⟩ hK
  have hbad := hI.bad r
  rw [hr] at hbad
  gi_wp2
  refine ⟨by simp, .inl ⟨_, _, rfl, run_takeDeferred hK, ?_⟩⟩
  have hg := grownBy_putObj' W D (.deferred none)
  have hrr : ∀ r, some D = some r → ∃ o : Obj, W.heap[r]? = some o ∧ o.isCells = false := fun r e => by cases e; exact ⟨_, hK, rfl⟩
  have p0 := (hI.r0.own_ hg hrr).cell 0
  have p1 := (hI.r1.own_ hg hrr).cell 0
  have p2 := (hI.r2.own_ hg hrr).cell 0
  refine ⟨.tuple #[.slice none 0 0, .int .i64 (p : Int), .int .i64 2], ?_, ?_, ?_⟩
  ·simp [results, Tryz.f104, go_sem, p0, p1, p2]
  ·exact hI.low.trans (belowK_b (w := w) (Nat.le_refl _) _ D _ _ (by omega) hK rfl rfl)
  ·rw [hbad]
end Go.Proofs.YteohlpmojfjjdaaGreat.Vars
end
