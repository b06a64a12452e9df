/-
  What the program's makers do (layer 9): set, none, cat, alt, star, plus, opt.
-/
import Derived.Test.YtpfogoncholiaaaNfaSeq
namespace Go.Proofs.Ytpfogoncholiaaa.Nfa
open Go.RowKit Go.Proofs.Ytpfogoncholiaaa.Ord
open Go.Proofs.Ytpfogoncholiaaa.Reg (Sp sflat Rop)
set_option linter.unusedVariables false
set_option linter.unusedSimpArgs false

theorem Wr.cel {w w' : World} (h : Wr w w') {g : Nat} {t : TypeId} {cs : List Value} (hc : Cel w g t cs) (ht : t ≠ 53 ∧ t ≠ 38 ∧ t ≠ 3) : Cel w' g t cs :=
  (h.keep g hc.lt (fun o t' fz e => by have := hc.symm.trans e; cases this; exact ht)).trans hc
theorem Below.drewN_ (w : World) (B k : Nat) : Below B w (w.drewN k) := ⟨rfl, rfl, rfl, Nat.le_refl _, fun _ _ => rfl⟩
theorem alt_len (q : Lw) (a b : Nat) (r : List Nat) (x : In) (hal : a ≤ q.code.length) (hbl : b ≤ q.code.length) : a ≤ (Lw.ins ⟨q.code, a :: r, q.big⟩ b x).code.length := Nat.le_trans hal (ins_len ⟨q.code, a :: r, q.big⟩ b x hbl).1
/-- What a maker does: r, where its op can be done. -/
def MSays (w0 w : World) (s : Nat) (r : Option Lw) (e : Ending) (w' : World) : Prop := match r with
  | none => e = .returned (.bool false) ∧ Below w0.heap.size w0 w' ∧ Wr w w'
  | some q => e = .returned (.bool true) ∧ Sq w0 w' s q ∧ Wr w w'

set_option maxRecDepth 100000 in
set_option maxHeartbeats 1000000 in
theorem set_call (w0 w : World) (s : Nat) (q : Lw) (h : Sq w0 w s q) (hlen : q.bs.length ≤ 100000) (kd : Int) (ng : Bool) (A : Option Addr) (l c : Nat) (sp : List Sp) (hsp : Cz w0 A (sflat sp)) (hl : sp.length = l) :
    Calls Try.prog 31 #[.pointer (some ⟨s, 0, none⟩), .agg #[.int .i64 kd, .bool ng, .slice A l c]] w (MSays w0 w s (some (q.push.emit ⟨1, 0, 0, ng, sp⟩))) := by
  generalize hW : w.alloc (.cells #[.int .i64 kd, .bool ng, .slice A l c] 49) = W
  have hbW : Below w.heap.size w W := by rw [← hW]; exact (Below.refl _ _).alloc (Nat.le_refl _) _
  have hcW : Cel W w.heap.size 49 [.int .i64 kd, .bool ng, .slice A l c] := by rw [← hW]; exact Cel.new w _ _
  have hqW := h.below hbW
  have HC := Lib.hid hcW
  have HW := Lib.hid (Wr.of_below hbW)
  have hle := h.ok.len
  have con := push_call w0 W s q hqW hlen
  clear h hbW hcW hqW
  go_enter Try.func31, Try.ntmps31
  go_wp2_with fail
  clear hW
  refine con.mono ?_
  rintro e w1 ⟨rfl, hq1, hw1⟩
  have hc1 := hw1.cel HC.out (by decide)
  have x1 := hc1.cell 1
  have x2 := hc1.cell 2
  have HW1 := Lib.hid (HW.out.trans hw1)
  have con2 := emit_call w0 w1 s q.push hq1 1 0 0 ng A sp l c hsp hl
  clear hq1 hw1 hc1
  go_wp2_with fail
  refine con2.mono ?_
  rintro e w2 ⟨rfl, hq2, hw2⟩
  have HQ := Lib.hid hq2
  have HWW := Lib.hid (HW1.out.trans hw2)
  clear hq2 hw2
  go_wp2_with fail
  go_ret
  exact ⟨rfl, HQ.out, HWW.out⟩

set_option maxRecDepth 100000 in
set_option maxHeartbeats 1000000 in
theorem none_call (w0 w : World) (s : Nat) (q : Lw) (h : Sq w0 w s q) (hlen : q.bs.length ≤ 100000) (kd : Int) (ng : Bool) (A : Option Addr) (l c : Nat) :
    Calls Try.prog 32 #[.pointer (some ⟨s, 0, none⟩), .agg #[.int .i64 kd, .bool ng, .slice A l c]] w (MSays w0 w s (some q.push)) := by
  generalize hW : w.alloc (.cells #[.int .i64 kd, .bool ng, .slice A l c] 49) = W
  have hbW : Below w.heap.size w W := by rw [← hW]; exact (Below.refl _ _).alloc (Nat.le_refl _) _
  have hcW : Cel W w.heap.size 49 [.int .i64 kd, .bool ng, .slice A l c] := by rw [← hW]; exact Cel.new w _ _
  have hqW := h.below hbW
  have HC := Lib.hid hcW
  have HW := Lib.hid (Wr.of_below hbW)
  have hle := h.ok.len
  have con := push_call w0 W s q hqW hlen
  clear h hbW hcW hqW
  go_enter Try.func32, Try.ntmps32
  go_wp2_with fail
  clear hW
  refine con.mono ?_
  rintro e w1 ⟨rfl, hq1, hw1⟩
  have HQ := Lib.hid hq1
  have HWW := Lib.hid (HW.out.trans hw1)
  clear hq1 hw1
  go_wp2_with fail
  go_ret
  exact ⟨rfl, HQ.out, HWW.out⟩

set_option maxRecDepth 100000 in
set_option maxHeartbeats 1000000 in
theorem cat_no (w0 w : World) (s : Nat) (q : Lw) (h : Sq w0 w s q) (hlen : q.bs.length ≤ 100000) (kd : Int) (ng : Bool) (A : Option Addr) (l c : Nat) (hb : q.bs.length < 2) :
    Calls Try.prog 33 #[.pointer (some ⟨s, 0, none⟩), .agg #[.int .i64 kd, .bool ng, .slice A l c]] w (MSays w0 w s (none)) := by
  generalize hW : w.alloc (.cells #[.int .i64 kd, .bool ng, .slice A l c] 49) = W
  have hbW : Below w.heap.size w W := by rw [← hW]; exact (Below.refl _ _).alloc (Nat.le_refl _) _
  have hcW : Cel W w.heap.size 49 [.int .i64 kd, .bool ng, .slice A l c] := by rw [← hW]; exact Cel.new w _ _
  have hqW := h.below hbW
  have HC := Lib.hid hcW
  have HW := Lib.hid (Wr.of_below hbW)
  have hle := h.ok.len
  have con := join_no w0 W s q hqW hb
  have HQ0 := Lib.hid hqW
  clear h hbW hcW hqW
  go_enter Try.func33, Try.ntmps33
  go_wp2_with fail
  clear hW
  refine con.mono ?_
  rintro e w1 ⟨rfl, hb1⟩
  have HB := Lib.hid (HQ0.out.low.trans (hb1.mono HQ0.out.low.size))
  have HWW := Lib.hid (HW.out.trans (Wr.of_below hb1))
  clear hb1
  go_wp2_with fail
  go_ret
  exact ⟨rfl, HB.out, HWW.out⟩

set_option maxRecDepth 100000 in
set_option maxHeartbeats 1000000 in
theorem alt_no (w0 w : World) (s : Nat) (q : Lw) (h : Sq w0 w s q) (hlen : q.bs.length ≤ 100000) (kd : Int) (ng : Bool) (A : Option Addr) (l c : Nat) (hb : q.bs.length < 2) :
    Calls Try.prog 34 #[.pointer (some ⟨s, 0, none⟩), .agg #[.int .i64 kd, .bool ng, .slice A l c]] w (MSays w0 w s (none)) := by
  generalize hW : w.alloc (.cells #[.int .i64 kd, .bool ng, .slice A l c] 49) = W
  have hbW : Below w.heap.size w W := by rw [← hW]; exact (Below.refl _ _).alloc (Nat.le_refl _) _
  have hcW : Cel W w.heap.size 49 [.int .i64 kd, .bool ng, .slice A l c] := by rw [← hW]; exact Cel.new w _ _
  have hqW := h.below hbW
  have HC := Lib.hid hcW
  have HW := Lib.hid (Wr.of_below hbW)
  have hle := h.ok.len
  have con := join_no w0 W s q hqW hb
  have HQ0 := Lib.hid hqW
  clear h hbW hcW hqW
  go_enter Try.func34, Try.ntmps34
  go_wp2_with fail
  clear hW
  refine con.mono ?_
  rintro e w1 ⟨rfl, hb1⟩
  have HB := Lib.hid (HQ0.out.low.trans (hb1.mono HQ0.out.low.size))
  have HWW := Lib.hid (HW.out.trans (Wr.of_below hb1))
  clear hb1
  go_wp2_with fail
  go_ret
  exact ⟨rfl, HB.out, HWW.out⟩

set_option maxRecDepth 100000 in
set_option maxHeartbeats 1000000 in
theorem star_no (w0 w : World) (s : Nat) (q : Lw) (h : Sq w0 w s q) (hlen : q.bs.length ≤ 100000) (kd : Int) (ng : Bool) (A : Option Addr) (l c : Nat) (hb : q.bs = []) :
    Calls Try.prog 35 #[.pointer (some ⟨s, 0, none⟩), .agg #[.int .i64 kd, .bool ng, .slice A l c]] w (MSays w0 w s (none)) := by
  generalize hW : w.alloc (.cells #[.int .i64 kd, .bool ng, .slice A l c] 49) = W
  have hbW : Below w.heap.size w W := by rw [← hW]; exact (Below.refl _ _).alloc (Nat.le_refl _) _
  have hcW : Cel W w.heap.size 49 [.int .i64 kd, .bool ng, .slice A l c] := by rw [← hW]; exact Cel.new w _ _
  have hqW := h.below hbW
  have HC := Lib.hid hcW
  have HW := Lib.hid (Wr.of_below hbW)
  have hle := h.ok.len
  have con := last_no w0 W s q hqW hb
  have HQ0 := Lib.hid hqW
  clear h hbW hcW hqW
  go_enter Try.func35, Try.ntmps35
  go_wp2_with fail
  clear hW
  refine con.mono ?_
  rintro e w1 ⟨rfl, hb1⟩
  have HB := Lib.hid (HQ0.out.low.trans (hb1.mono HQ0.out.low.size))
  have HWW := Lib.hid (HW.out.trans (Wr.of_below hb1))
  clear hb1
  go_wp2_with fail
  go_ret
  exact ⟨rfl, HB.out, HWW.out⟩

set_option maxRecDepth 100000 in
set_option maxHeartbeats 1000000 in
theorem plus_no (w0 w : World) (s : Nat) (q : Lw) (h : Sq w0 w s q) (hlen : q.bs.length ≤ 100000) (kd : Int) (ng : Bool) (A : Option Addr) (l c : Nat) (hb : q.bs = []) :
    Calls Try.prog 36 #[.pointer (some ⟨s, 0, none⟩), .agg #[.int .i64 kd, .bool ng, .slice A l c]] w (MSays w0 w s (none)) := by
  generalize hW : w.alloc (.cells #[.int .i64 kd, .bool ng, .slice A l c] 49) = W
  have hbW : Below w.heap.size w W := by rw [← hW]; exact (Below.refl _ _).alloc (Nat.le_refl _) _
  have hcW : Cel W w.heap.size 49 [.int .i64 kd, .bool ng, .slice A l c] := by rw [← hW]; exact Cel.new w _ _
  have hqW := h.below hbW
  have HC := Lib.hid hcW
  have HW := Lib.hid (Wr.of_below hbW)
  have hle := h.ok.len
  have con := last_no w0 W s q hqW hb
  have HQ0 := Lib.hid hqW
  clear h hbW hcW hqW
  go_enter Try.func36, Try.ntmps36
  go_wp2_with fail
  clear hW
  refine con.mono ?_
  rintro e w1 ⟨rfl, hb1⟩
  have HB := Lib.hid (HQ0.out.low.trans (hb1.mono HQ0.out.low.size))
  have HWW := Lib.hid (HW.out.trans (Wr.of_below hb1))
  clear hb1
  go_wp2_with fail
  go_ret
  exact ⟨rfl, HB.out, HWW.out⟩

set_option maxRecDepth 100000 in
set_option maxHeartbeats 1000000 in
theorem opt_no (w0 w : World) (s : Nat) (q : Lw) (h : Sq w0 w s q) (hlen : q.bs.length ≤ 100000) (kd : Int) (ng : Bool) (A : Option Addr) (l c : Nat) (hb : q.bs = []) :
    Calls Try.prog 37 #[.pointer (some ⟨s, 0, none⟩), .agg #[.int .i64 kd, .bool ng, .slice A l c]] w (MSays w0 w s (none)) := by
  generalize hW : w.alloc (.cells #[.int .i64 kd, .bool ng, .slice A l c] 49) = W
  have hbW : Below w.heap.size w W := by rw [← hW]; exact (Below.refl _ _).alloc (Nat.le_refl _) _
  have hcW : Cel W w.heap.size 49 [.int .i64 kd, .bool ng, .slice A l c] := by rw [← hW]; exact Cel.new w _ _
  have hqW := h.below hbW
  have HC := Lib.hid hcW
  have HW := Lib.hid (Wr.of_below hbW)
  have hle := h.ok.len
  have con := last_no w0 W s q hqW hb
  have HQ0 := Lib.hid hqW
  clear h hbW hcW hqW
  go_enter Try.func37, Try.ntmps37
  go_wp2_with fail
  clear hW
  refine con.mono ?_
  rintro e w1 ⟨rfl, hb1⟩
  have HB := Lib.hid (HQ0.out.low.trans (hb1.mono HQ0.out.low.size))
  have HWW := Lib.hid (HW.out.trans (Wr.of_below hb1))
  clear hb1
  go_wp2_with fail
  go_ret
  exact ⟨rfl, HB.out, HWW.out⟩

set_option maxRecDepth 100000 in
set_option maxHeartbeats 1000000 in
theorem cat_ok (w0 w : World) (s : Nat) (q : Lw) (h : Sq w0 w s q) (hlen : q.bs.length ≤ 100000) (kd : Int) (ng : Bool) (A : Option Addr) (l c : Nat) (a b : Nat) (r : List Nat) (hb : q.bs = b :: a :: r) :
    Calls Try.prog 33 #[.pointer (some ⟨s, 0, none⟩), .agg #[.int .i64 kd, .bool ng, .slice A l c]] w (MSays w0 w s (some ⟨q.code, a :: r, q.big⟩)) := by
  generalize hW : w.alloc (.cells #[.int .i64 kd, .bool ng, .slice A l c] 49) = W
  have hbW : Below w.heap.size w W := by rw [← hW]; exact (Below.refl _ _).alloc (Nat.le_refl _) _
  have hcW : Cel W w.heap.size 49 [.int .i64 kd, .bool ng, .slice A l c] := by rw [← hW]; exact Cel.new w _ _
  have hqW := h.below hbW
  have HC := Lib.hid hcW
  have HW := Lib.hid (Wr.of_below hbW)
  have hle := h.ok.len
  have con := join_ok w0 W s q a b r hqW hb hlen
  clear h hbW hcW hqW
  go_enter Try.func33, Try.ntmps33
  go_wp2_with fail
  clear hW
  refine con.mono ?_
  rintro e w1 ⟨rfl, hq1, hw1⟩
  have HQ := Lib.hid hq1
  have HWW := Lib.hid (HW.out.trans hw1)
  clear hq1 hw1
  go_wp2_with fail
  go_ret
  exact ⟨rfl, HQ.out, HWW.out⟩

set_option maxRecDepth 100000 in
set_option maxHeartbeats 1000000 in
theorem alt_ok (w0 w : World) (s : Nat) (q : Lw) (h : Sq w0 w s q) (hlen : q.bs.length ≤ 100000) (kd : Int) (ng : Bool) (A : Option Addr) (l c : Nat) (a b : Nat) (r : List Nat) (hb : q.bs = b :: a :: r) :
    Calls Try.prog 34 #[.pointer (some ⟨s, 0, none⟩), .agg #[.int .i64 kd, .bool ng, .slice A l c]] w (MSays w0 w s (some ((Lw.ins ⟨q.code, a :: r, q.big⟩ b (go (q.size b + 1))).ins a (two 1 ((b : Int) - a + 2))))) := by
  generalize hW : w.alloc (.cells #[.int .i64 kd, .bool ng, .slice A l c] 49) = W
  have hbW : Below w.heap.size w W := by rw [← hW]; exact (Below.refl _ _).alloc (Nat.le_refl _) _
  have hcW : Cel W w.heap.size 49 [.int .i64 kd, .bool ng, .slice A l c] := by rw [← hW]; exact Cel.new w _ _
  have hqW := h.below hbW
  have HC := Lib.hid hcW
  have HW := Lib.hid (Wr.of_below hbW)
  have hle := h.ok.len
  have con := join_ok w0 W s q a b r hqW hb hlen
  have hbl : b ≤ q.code.length := h.ok.bs b (by rw [hb]; simp)
  have hal : a ≤ q.code.length := h.ok.bs a (by rw [hb]; simp)
  obtain ⟨n, hn⟩ : ∃ n, n = q.code.length := ⟨_, rfl⟩
  rw [← hn] at hbl hal hle
  have hz : q.size b = (n : Int) - (b : Int) := by rw [hn]; rfl
  rw [hz]
  clear h hbW hcW hqW
  go_enter Try.func34, Try.ntmps34
  go_wp2_with fail
  clear hW
  refine con.mono ?_
  rintro e w1 ⟨rfl, hq1, hw1⟩
  obtain ⟨Ac, cc, Ab, cb, us, _, _, h3⟩ := hq1.ex
  have c0 := h3.cel.cell 0
  clear h3
  replace c0 : w1.cell? ⟨s, 0, none⟩ = some (.slice Ac n cc) := by rw [hn]; exact c0
  have ew1 : IntKind.i64.wrap ((n : Int) - (b : Int)) = (n : Int) - (b : Int) := (IntWalk.i64_in _ (by omega))
  have ew2 : IntKind.i64.wrap ((b : Int) - (a : Int)) = (b : Int) - (a : Int) := (IntWalk.i64_in _ (by omega))
  have ew3 : IntKind.i64.wrap ((n : Int) - (b : Int) + 1) = (n : Int) - (b : Int) + 1 := (IntWalk.i64_in _ (by omega))
  have ew4 : IntKind.i64.wrap ((b : Int) - (a : Int) + 2) = (b : Int) - (a : Int) + 2 := (IntWalk.i64_in _ (by omega))
  have con2 := fun k => ins_call w0 (w1.drewN k) s b ⟨q.code, a :: r, q.big⟩ (hq1.below (Below.drewN_ _ _ k)) (by rw [← hn]; exact hbl) 3 ((n : Int) - (b : Int) + 1) 0 false none [] 0 0 (cz_nil _ _) rfl
  have HAL := Lib.hid (fun z => alt_len q a b r (go z) (by rw [← hn]; exact hal) (by rw [← hn]; exact hbl))
  have HW1 := Lib.hid (fun k => (HW.out.trans hw1).trans (Wr.of_below (Below.drewN_ w1 w1.heap.size k)))
  have HN := Lib.hid hn
  clear hq1 hw1 hz hn
  go_wp2_with fail
  go_quiet (fail)
  go_wp2_with fail
  refine (con2 _).mono ?_
  rintro e w2 ⟨rfl, hq2, hw2⟩
  have hn2 := HAL.out ((n : Int) - (b : Int) + 1)
  have con3 := ins_call w0 w2 s a (Lw.ins ⟨q.code, a :: r, q.big⟩ b (go ((n : Int) - (b : Int) + 1))) hq2 hn2 2 1 ((b : Int) - (a : Int) + 2) false none [] 0 0 (cz_nil _ _) rfl
  have HW2 := Lib.hid ((HW1.out _).trans hw2)
  clear hq2 hw2 hn2
  go_wp2_with fail
  refine con3.mono ?_
  rintro e w3 ⟨rfl, hq3, hw3⟩
  have HQ := Lib.hid hq3
  have HWW := Lib.hid (HW2.out.trans hw3)
  clear hq3 hw3
  go_wp2_with fail
  go_ret
  exact ⟨rfl, HQ.out, HWW.out⟩

set_option maxRecDepth 100000 in
set_option maxHeartbeats 1000000 in
theorem star_ok (w0 w : World) (s : Nat) (q : Lw) (h : Sq w0 w s q) (hlen : q.bs.length ≤ 100000) (kd : Int) (ng : Bool) (A : Option Addr) (l c : Nat) (a : Nat) (r : List Nat) (hb : q.bs = a :: r) :
    Calls Try.prog 35 #[.pointer (some ⟨s, 0, none⟩), .agg #[.int .i64 kd, .bool ng, .slice A l c]] w (MSays w0 w s (some ((q.ins a (two 1 (q.size a + 2))).emit (go (-q.size a - 1))))) := by
  generalize hW : w.alloc (.cells #[.int .i64 kd, .bool ng, .slice A l c] 49) = W
  have hbW : Below w.heap.size w W := by rw [← hW]; exact (Below.refl _ _).alloc (Nat.le_refl _) _
  have hcW : Cel W w.heap.size 49 [.int .i64 kd, .bool ng, .slice A l c] := by rw [← hW]; exact Cel.new w _ _
  have hqW := h.below hbW
  have HC := Lib.hid hcW
  have HW := Lib.hid (Wr.of_below hbW)
  have hle := h.ok.len
  have con := last_ok w0 W s q a r hqW hb hlen
  have hal : a ≤ q.code.length := h.ok.bs a (by rw [hb]; simp)
  obtain ⟨n, hn⟩ : ∃ n, n = q.code.length := ⟨_, rfl⟩
  have HQ0 := Lib.hid hqW
  rw [← hn] at hal hle
  have hz : q.size a = (n : Int) - (a : Int) := by rw [hn]; rfl
  rw [hz] at con ⊢
  have ew0 : IntKind.i64.wrap ((n : Int) - (a : Int) + 2) = (n : Int) - (a : Int) + 2 := (IntWalk.i64_in _ (by omega))
  have ew1 : IntKind.i64.wrap (-((n : Int) - (a : Int))) = -((n : Int) - (a : Int)) := (IntWalk.i64_in _ (by omega))
  have ew2 : IntKind.i64.wrap (-((n : Int) - (a : Int)) - 1) = -((n : Int) - (a : Int)) - 1 := (IntWalk.i64_in _ (by omega))
  have HN := Lib.hid hn
  clear hz hn
  clear h hbW hcW hqW
  go_enter Try.func35, Try.ntmps35
  go_wp2_with fail
  clear hW
  refine con.mono ?_
  rintro e w1 ⟨rfl, hb1⟩
  have HW1 := Lib.hid (HW.out.trans (Wr.of_below hb1))
  have hq1 := HQ0.out.below hb1
  have con2 := ins_call w0 w1 s a q hq1 (by rw [← HN.out]; exact hal) 2 1 ((n : Int) - (a : Int) + 2) false none [] 0 0 (cz_nil _ _) rfl
  clear hb1 hq1
  go_wp2_with fail
  refine con2.mono ?_
  rintro e w2 ⟨rfl, hq2, hw2⟩
  have con3 := emit_call w0 w2 s _ hq2 3 (-((n : Int) - (a : Int)) - 1) 0 false none [] 0 0 (cz_nil _ _) rfl
  have HW2 := Lib.hid (HW1.out.trans hw2)
  clear hq2 hw2
  go_wp2_with fail
  refine con3.mono ?_
  rintro e w3 ⟨rfl, hq3, hw3⟩
  have HQ := Lib.hid hq3
  have HWW := Lib.hid (HW2.out.trans hw3)
  clear hq3 hw3
  go_wp2_with fail
  go_ret
  exact ⟨rfl, HQ.out, HWW.out⟩

set_option maxRecDepth 100000 in
set_option maxHeartbeats 1000000 in
theorem plus_ok (w0 w : World) (s : Nat) (q : Lw) (h : Sq w0 w s q) (hlen : q.bs.length ≤ 100000) (kd : Int) (ng : Bool) (A : Option Addr) (l c : Nat) (a : Nat) (r : List Nat) (hb : q.bs = a :: r) :
    Calls Try.prog 36 #[.pointer (some ⟨s, 0, none⟩), .agg #[.int .i64 kd, .bool ng, .slice A l c]] w (MSays w0 w s (some (q.emit (two (-q.size a) 1)))) := by
  generalize hW : w.alloc (.cells #[.int .i64 kd, .bool ng, .slice A l c] 49) = W
  have hbW : Below w.heap.size w W := by rw [← hW]; exact (Below.refl _ _).alloc (Nat.le_refl _) _
  have hcW : Cel W w.heap.size 49 [.int .i64 kd, .bool ng, .slice A l c] := by rw [← hW]; exact Cel.new w _ _
  have hqW := h.below hbW
  have HC := Lib.hid hcW
  have HW := Lib.hid (Wr.of_below hbW)
  have hle := h.ok.len
  have con := last_ok w0 W s q a r hqW hb hlen
  have hal : a ≤ q.code.length := h.ok.bs a (by rw [hb]; simp)
  obtain ⟨n, hn⟩ : ∃ n, n = q.code.length := ⟨_, rfl⟩
  have HQ0 := Lib.hid hqW
  rw [← hn] at hal hle
  have hz : q.size a = (n : Int) - (a : Int) := by rw [hn]; rfl
  rw [hz] at con ⊢
  have ew0 : IntKind.i64.wrap (-((n : Int) - (a : Int))) = -((n : Int) - (a : Int)) := (IntWalk.i64_in _ (by omega))
  have HN := Lib.hid hn
  clear hz hn
  clear h hbW hcW hqW
  go_enter Try.func36, Try.ntmps36
  go_wp2_with fail
  clear hW
  refine con.mono ?_
  rintro e w1 ⟨rfl, hb1⟩
  have HW1 := Lib.hid (HW.out.trans (Wr.of_below hb1))
  have hq1 := HQ0.out.below hb1
  have con2 := emit_call w0 w1 s q hq1 2 (-((n : Int) - (a : Int))) 1 false none [] 0 0 (cz_nil _ _) rfl
  clear hb1 hq1
  go_wp2_with fail
  refine con2.mono ?_
  rintro e w2 ⟨rfl, hq2, hw2⟩
  have HQ := Lib.hid hq2
  have HWW := Lib.hid (HW1.out.trans hw2)
  clear hq2 hw2
  go_wp2_with fail
  go_ret
  exact ⟨rfl, HQ.out, HWW.out⟩

set_option maxRecDepth 100000 in
set_option maxHeartbeats 1000000 in
theorem opt_ok (w0 w : World) (s : Nat) (q : Lw) (h : Sq w0 w s q) (hlen : q.bs.length ≤ 100000) (kd : Int) (ng : Bool) (A : Option Addr) (l c : Nat) (a : Nat) (r : List Nat) (hb : q.bs = a :: r) :
    Calls Try.prog 37 #[.pointer (some ⟨s, 0, none⟩), .agg #[.int .i64 kd, .bool ng, .slice A l c]] w (MSays w0 w s (some (q.ins a (two 1 (q.size a + 1))))) := by
  generalize hW : w.alloc (.cells #[.int .i64 kd, .bool ng, .slice A l c] 49) = W
  have hbW : Below w.heap.size w W := by rw [← hW]; exact (Below.refl _ _).alloc (Nat.le_refl _) _
  have hcW : Cel W w.heap.size 49 [.int .i64 kd, .bool ng, .slice A l c] := by rw [← hW]; exact Cel.new w _ _
  have hqW := h.below hbW
  have HC := Lib.hid hcW
  have HW := Lib.hid (Wr.of_below hbW)
  have hle := h.ok.len
  have con := last_ok w0 W s q a r hqW hb hlen
  have hal : a ≤ q.code.length := h.ok.bs a (by rw [hb]; simp)
  obtain ⟨n, hn⟩ : ∃ n, n = q.code.length := ⟨_, rfl⟩
  have HQ0 := Lib.hid hqW
  rw [← hn] at hal hle
  have hz : q.size a = (n : Int) - (a : Int) := by rw [hn]; rfl
  rw [hz] at con ⊢
  have ew0 : IntKind.i64.wrap ((n : Int) - (a : Int) + 1) = (n : Int) - (a : Int) + 1 := (IntWalk.i64_in _ (by omega))
  have HN := Lib.hid hn
  clear hz hn
  clear h hbW hcW hqW
  go_enter Try.func37, Try.ntmps37
  go_wp2_with fail
  clear hW
  refine con.mono ?_
  rintro e w1 ⟨rfl, hb1⟩
  have HW1 := Lib.hid (HW.out.trans (Wr.of_below hb1))
  have hq1 := HQ0.out.below hb1
  have con2 := ins_call w0 w1 s a q hq1 (by rw [← HN.out]; exact hal) 2 1 ((n : Int) - (a : Int) + 1) false none [] 0 0 (cz_nil _ _) rfl
  clear hb1 hq1
  go_wp2_with fail
  refine con2.mono ?_
  rintro e w2 ⟨rfl, hq2, hw2⟩
  have HQ := Lib.hid hq2
  have HWW := Lib.hid (HW1.out.trans hw2)
  clear hq2 hw2
  go_wp2_with fail
  go_ret
  exact ⟨rfl, HQ.out, HWW.out⟩

end Go.Proofs.Ytpfogoncholiaaa.Nfa
