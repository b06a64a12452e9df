/-
  The program's lines (layer 13): the iterator over a text's pieces.
-/
import Derived.Test.YtamklllmjppinaaVarsLead
import Derived.Test.YtamklllmjppinaaVarsRange
import Derived.Shelf.Abstract
import Derived.Shelf.RegionOpen
import Derived.OwnWalkIn
import Derived.TacticsInMore
import Derived.LoopNIn
import Derived.LoopIn
namespace Go.Proofs.Ytamklllmjppinaa.Vars
open Go.RowKit Go.Shelf
set_option linter.unusedVariables false
set_option linter.unusedSimpArgs false
attribute [local go_sem] Oper.semAt_some

/-- What a loop's round may write: block Bl, rows of bytes and of strings from block B on, and what is no cells. -/
structure Kp (B Bl : Nat) (W W' : World) : Prop where
  low : Below B W W'
  cells : ∀ k cs t fz, W.heap[k]? = some (.cells cs t fz) → k ≠ Bl → t ≠ 5 → t ≠ 9 → W'.heap[k]? = some (.cells cs t fz)
namespace Kp
variable {B Bl : Nat} {W W' X : World}
theorem refl (B Bl : Nat) (W : World) : Kp B Bl W W := ⟨Below.refl _ _, fun _ _ _ _ h _ _ _ => h⟩
theorem trans (h : Kp B Bl W W') (h2 : Kp B Bl W' X) : Kp B Bl W X := ⟨h.low.trans h2.low, fun k cs t fz e a b c => h2.cells k cs t fz (h.cells k cs t fz e a b c) a b c⟩
theorem of_below (h : Below W.heap.size W W') (hB : B ≤ W.heap.size) : Kp B Bl W W' := ⟨h.mono hB, fun k cs t fz e _ _ _ => (h.block k (Array.getElem?_eq_some_iff.1 e).1).trans e⟩
theorem call (h : Kp B Bl W W') (hc : Below W'.heap.size W' X) (hB : B ≤ W.heap.size) : Kp B Bl W X := h.trans (of_below hc (Nat.le_trans hB h.low.size))
theorem turn (h : Kp B Bl W W') {l : Nat} {r : Obj} (hl : W'.heap[l]? = some r) (hr : r.isCells = false) (hB : B ≤ l) (o : Obj) : Kp B Bl W (W'.putObj l o) :=
  h.trans ⟨⟨rfl, rfl, rfl, by simp, fun k hk => World.putObj_heap_other (by omega)⟩, fun k cs t fz e _ _ _ => (World.putObj_heap_other (by rintro rfl; rw [hl] at e; cases e; cases hr)).trans e⟩
theorem set (h : Kp B Bl W W') (hB : B ≤ Bl) (j : Nat) (u : Value) : Kp B Bl W (W'.setCell ⟨Bl, j, none⟩ u) :=
  h.trans ⟨(Below.refl _ _).setCell (p := ⟨Bl, j, none⟩) hB u, fun k cs t fz e hk _ _ => (Below.heap_setCell _ _ _ _ (fun q => hk (by rw [q]))).trans e⟩
theorem grown (h : Kp B Bl W W') {row : Option Nat} (hg : W'.grownBy X row) (hB : B ≤ W'.heap.size) (hr : ∀ g, row = some g → B ≤ g) (ht : ∀ g cs t fz, row = some g → W'.heap[g]? = some (.cells cs t fz) → t = 5 ∨ t = 9) : Kp B Bl W X :=
  h.trans ⟨(Below.refl _ _).grown hg hB hr, fun k cs t fz e _ h1 h2 => (hg.block k (Array.getElem?_eq_some_iff.1 e).1 (fun q => by rcases ht k cs t fz q.symm e with r | r; exact h1 r; exact h2 r)).trans e⟩
theorem cel (h : Kp B Bl W W') {g : Nat} {t : TypeId} {cs : List Value} (hc : Cel W g t cs) (hg : g ≠ Bl) (h1 : t ≠ 5) (h2 : t ≠ 9) : Cel W' g t cs := h.cells _ _ _ _ hc hg h1 h2
end Kp

/-- A piece, where it begins, and where its text lies. -/
structure Pq where
  at_ : Nat
  p : Pce
  A : Option Addr
  c : Nat
abbrev PqIn (w : World) (B : Nat) (G : Pce → Prop) : Type := { x : Pq // Bs w B x.A x.p.t.length x.p.t ∧ G x.p }
def encQ {w : World} {B : Nat} {G : Pce → Prop} (x : PqIn w B G) : Array Value := #[.int .i64 (x.1.at_ : Int), .agg #[.int .i64 (x.1.p.k : Int), .int .i64 (x.1.p.n : Int), .slice x.1.A x.1.p.t.length x.1.c]]
def saidQ {w : World} {B : Nat} {G : Pce → Prop} (xs : List (PqIn w B G)) : List (Nat × Pce) := xs.map fun x => (x.1.at_, x.1.p)

set_option maxRecDepth 100000 in
set_option maxHeartbeats 2000000 in
theorem pieces1 (w : World) (B : Nat) (G : Pce → Prop) (A : Option Addr) (n c : Nat) (s : List (BitVec 8)) (hs : Bs w B A n s) (hn : n ≤ 100000) (hcap : n ≤ c) (hG : ∀ x ∈ pcs s, G x.2) (l Bn Bl : Nat) (J Jx : List (PqIn w B G) → World → Prop)
    (hY : ∀ pre x W, J pre W → pre.length < (pcs s).length → YieldAt Fence.wide 8 Try.prog l (encQ x) W fun e W' =>
      (e = .returned (.bool true) ∧ J (pre ++ [x]) W' ∧ Kp B Bl W W') ∨ (e = .returned (.bool false) ∧ Jx (pre ++ [x]) W'))
    (hJa : ∀ pre W W', J pre W → Below W.heap.size W W' → J pre W')
    (W : World) (hW : Below B w W) (hBW : B ≤ W.heap.size) (hBn : Cel W Bn 22 [.slice A n c]) (hne : Bn ≠ Bl) (hBl : Bl < W.heap.size) (h0 : J [] W) :
    CallsIn Fence.wide 9 Try.prog 17 #[.func (.yield l) #[] #[], .pointer (some ⟨Bn, 0, none⟩)] W fun e W' => (∃ v, e = .returned v) ∧
      ((∃ ys, saidQ ys = pcs s ∧ J ys W') ∨ (∃ pre, (∃ r, saidQ pre ++ r = pcs s) ∧ Jx pre W')) := by
  refine callsIn_of_wp Try.func17 rfl trivial ?_ rfl
  simp only [Try.ntmps17, List.size_toArray, List.length_cons, List.length_nil, Nat.reduceAdd, Nat.reduceSub, Array.replicate_succ, Array.replicate_zero, List.push_toArray, List.append_toArray, List.nil_append, List.cons_append]
  have HS := Lib.hid hs
  have HSL := Lib.hid hs.len
  have HT := Lib.hid (show ∀ f, n - 0 < f → saidQ ([] : List (PqIn w B G)) ++ pcsR f 0 (s.drop 0) = pcs s from fun f hf => by
    have := HSL.out
    rw [List.drop_zero]; exact pcsR_fuel _ _ _ _ (by omega) (by omega))
  clear hs
  gi_wp2
  gi_loopw [3] (fun v3 wr => ∃ (pre : List (PqIn w B G)) (q : Nat), q ≤ n ∧ v3 = .int .i64 (q : Int) ∧ Hid (∀ f, n - q < f → saidQ pre ++ pcsR f q (s.drop q) = pcs s) ∧ J pre wr ∧ Below B w wr ∧ B ≤ wr.heap.size ∧ Cel wr Bn 22 [.slice A n c] ∧ Bl < wr.heap.size)
    (fun v3 _ => n - (intOf v3).toNat)
  case atStart => exact ⟨[], 0, Nat.zero_le _, rfl, HT, h0, hW, hBW, hBn, hBl⟩
  case round =>
    obtain ⟨pre, q, hq, rfl, HK, hJ, hb, hBr, hcn, hbl⟩ := hrel
    clear HT h0 hW hBW hBn hBl
    have kn := hcn.cell 0
    have HCN := Lib.hid hcn
    have HB := Lib.hid hb
    clear hb hcn
    rcases Nat.lt_or_ge q n with hlt | hge
    · have hne0 : s.drop q ≠ [] := fun e => by have := congrArg List.length e; rw [List.length_drop, HSL.out] at this; simp at this; omega
      obtain ⟨A2, n2, c2, hcut, hs2, hn2, hc2, hp2⟩ : ∃ A2 n2 c2, (∀ V : World, (Instr.sliceAt 22 (.slice A n c) (some (.int .i64 (q : Int))) none none).run Try.prog V = .ok (.slice A2 n2 c2) V) ∧ Bs w B A2 n2 (s.drop q) ∧ n2 ≤ 100000 ∧ n2 ≤ c2 ∧ 0 < n2 :=
        ⟨_, _, _, fun V => run_cutFrom (P := Try.prog) V (t := 22) (e := 5) (size := 1) Try.underlying22 rfl A n c q .i64 (by omega), by have := (Bs.bp HS.out).cut (k := q) (cap := c) (by omega) hcap; rw [Nat.mul_one]; exact this, by omega, by omega, by omega⟩
      have con := plead wr B A2 n2 c2 (s.drop q) (hs2.below HB.out) hBr hp2 hn2 hc2
      have hsz := lead_size _ hne0
      rw [List.length_drop, HSL.out] at hsz
      obtain ⟨p, hp⟩ : ∃ p, p = leadR (s.drop q) := ⟨_, rfl⟩
      rw [← hp] at con hsz
      obtain ⟨hz1, hz2, hz3, _⟩ := hsz
      have hsp := HK.out (n - q + 1) (by omega)
      rw [pcsR_go hne0, ← hp] at hsp
      have hlen : pre.length < (pcs s).length := by rw [← hsp]; simp [saidQ]
      have HN := Lib.hid (show ∀ f, n - (q + p.n) < f → saidQ pre ++ [(q, p)] ++ pcsR f (q + p.n) (s.drop (q + p.n)) = pcs s from fun f hf => by
        have := HK.out (f + (n - q) + 1) (by omega)
        rw [pcsR_go hne0, ← hp, List.drop_drop] at this
        rw [← this, List.append_assoc]
        show saidQ pre ++ ((q, p) :: _) = _
        rw [pcsR_fuel f (f + (n - q)) _ _ (by rw [List.length_drop, HSL.out]; omega) (by rw [List.length_drop, HSL.out]; omega)]
        rfl)
      have HPR := Lib.hid (show ∃ r, saidQ pre ++ [(q, p)] ++ r = pcs s from ⟨_, HN.out (n + 1) (by omega)⟩)
      have HGP := Lib.hid (hG (q, p) (by rw [← hsp]; simp))
      clear hs2 hne0 hsp HK hp
      gi_wp2
      refine ⟨trivial, (callsIn_wide.2 con).mono ?_⟩
      clear con hcut
      rintro e w1 ⟨hb1, A', c', rfl, hy⟩
      obtain ⟨x, hx⟩ : ∃ x : PqIn w B G, x.1 = ⟨q, p, A', c'⟩ := ⟨⟨⟨q, p, A', c'⟩, hy.back (HB.out.trans (hb1.mono hBr)), HGP.out⟩, rfl⟩
      obtain ⟨W1, hW1⟩ : ∃ W1, W1 = w1.alloc (.cells #[.int .i64 (p.k : Int), .int .i64 (p.n : Int), .slice A' p.t.length c'] 41) := ⟨_, rfl⟩
      have hb2 : Below wr.heap.size wr W1 := by rw [hW1]; exact hb1.alloc hb1.size _
      have hcx : Cel W1 w1.heap.size 41 [.int .i64 (p.k : Int), .int .i64 (p.n : Int), .slice A' p.t.length c'] := by rw [hW1]; exact Cel.new w1 _ _
      have hJ1 := hJa _ _ _ hJ hb2
      obtain ⟨fn, tmps, assign, body, hyy, hR⟩ := hY pre x W1 hJ1 hlen
      rw [show encQ x = #[.int .i64 (q : Int), .agg #[.int .i64 (p.k : Int), .int .i64 (p.n : Int), .slice A' p.t.length c']] from by rw [encQ, hx]] at hyy
      have HR := Lib.hid hR
      have HX := Lib.hid hx
      have HCX := Lib.hid hcx
      have HCN1 := Lib.hid (HCN.out.below hb2 HCN.out.lt)
      have HB1 := Lib.hid (HB.out.trans (hb2.mono hBr))
      have hbx : Bl ≠ w1.heap.size := by have := hb1.size; omega
      have hb1s := hb2.size
      have hpk : p.k ≤ 2 := hz3
      rw [hW1] at hyy
      generalize p.t.length = tl at *
      generalize p.k = pk at *
      clear hb1 hy hx hcx hlen hR hb2 kn HCN hJ hJ1
      gi_wp2
      rw [← hW1]
      refine HR.out.mono ?_
      clear hyy HR hW1
      rintro e W3 (⟨rfl, hJ3, hk3⟩ | ⟨rfl, hJx3⟩)
      · have hc3 := hk3.cel HCX.out (fun e => hbx e.symm) (by decide) (by decide)
        have k3 := hc3.cell 1
        have HCN3 := Lib.hid (hk3.cel HCN1.out hne (by decide) (by decide))
        have HB3 := Lib.hid (HB1.out.trans hk3.low)
        have hs3 := hk3.low.size
        have HSAY := Lib.hid (show saidQ (pre ++ [x]) = saidQ pre ++ [(q, p)] by rw [saidQ, List.map_append]; simp [saidQ, HX.out])
        clear hc3 hk3
        gi_wp2
        go_roundw
        case rel =>
          refine ⟨pre ++ [x], q + p.n, by omega, by rw [show ((q + p.n : Nat) : Int) = (q : Int) + (p.n : Int) by omega], Lib.hid ?_, hJ3, HB3.out, by omega, HCN3.out, by omega⟩
          rw [HSAY.out]; exact HN.out
        case measure => simp [intOf]; omega
      · gi_wp2
        refine bodyPost_ret (results_none rfl _ _ _) rfl ?_
        refine ⟨⟨_, rfl⟩, .inr ⟨_, ?_, hJx3⟩⟩
        obtain ⟨r, hr⟩ := HPR.out
        refine ⟨r, ?_⟩
        rw [← hr]; simp [saidQ, HX.out]
    · have HE := Lib.hid (show saidQ pre = pcs s from by
        have := HK.out 1 (by omega)
        rw [List.drop_eq_nil_of_le (by rw [HSL.out]; exact hge), pcsR_nil, List.append_nil] at this
        exact this)
      gi_wp2
      go_end0
      exact ⟨⟨_, rfl⟩, .inl ⟨pre, HE.out, hJ⟩⟩
set_option maxHeartbeats 1000000 in
set_option maxRecDepth 100000 in
theorem ppieces (A : Option Addr) (n c : Nat) (w : World) :
    Calls Try.prog 11 #[.slice A n c] w fun e w' => e = .returned (.func (.func 17) #[] #[.pointer (some ⟨w.heap.size, 0, none⟩)]) ∧ w' = w.alloc (.cells #[.slice A n c] 22) := by
  go_enter Try.func11, Try.ntmps11
  go_wp2_with fail
  go_ret
  exact ⟨rfl, rfl⟩
theorem pieces_stops (w : World) (B : Nat) (G : Pce → Prop) (A : Option Addr) (n c : Nat) (s : List (BitVec 8)) (hs : Bs w B A n s) (hn : n ≤ 100000) (hcap : n ≤ c) (hG : ∀ x ∈ pcs s, G x.2) (m Bn Bl : Nat) (w0 : World) (h0 : Below B w w0) (hB : B ≤ w0.heap.size) (hBn : Cel w0 Bn 22 [.slice A n c]) (hne : Bn ≠ Bl) (hBl : Bl < w0.heap.size) :
    SeqStopsK Fence.wide m Try.prog 17 #[.pointer (some ⟨Bn, 0, none⟩)] (encQ (w := w) (B := B) (G := G)) (Kp B Bl) (fun ys => saidQ ys = pcs s) (fun pre => ∃ r, saidQ pre ++ r = pcs s) (pcs s).length w0 := fun l J Jx W hW hJ _ hY hJ0 =>
  callsIn_wide.2 (callsIn_wide.1 (pieces1 w B G A n c s hs hn hcap hG l Bn Bl J Jx (fun pre x W' h h' => yield_any (hY pre x W' h h'))
    (fun pre W1 W2 h hb => hJ pre W1 W2 none h ⟨hb.os, hb.tape, hb.output, hb.size, fun k hk _ => hb.block k hk⟩ (fun r e => by cases e)) W (h0.trans (hW.mono hB)) (Nat.le_trans hB hW.size) (hBn.below hW hBn.lt) hne (Nat.lt_of_lt_of_le hBl hW.size) hJ0))
end Go.Proofs.Ytamklllmjppinaa.Vars
