/-
  The program's parser of patterns (layer 8): atoms, and the *, + or ? behind them.
-/
import Derived.Test.YtjpbndpfbdfhjaaMRegSet
namespace Go.Proofs.Ytjpbndpfbdfhjaa.Reg
open Go.RowKit
set_option linter.unusedVariables false
set_option linter.unusedSimpArgs false

theorem ne_lit {x : BitVec 8} {k : Nat} (hk : k < 256) (h : x ≠ BitVec.ofNat 8 k) : ((x.toNat : Int) == (k : Int)) = false := by rw [v8_lit hk]; exact decide_eq_false h
theorem newOn2 (w : World) (b : Nat) (u : Value) (i : Nat) (t : TypeId) (cs : List Value) (o : Obj) : Cel (((w.setCell ⟨b, i, none⟩ u).alloc o).alloc (.cells cs.toArray t)) (w.heap.size + 1) t cs := by
  have := Cel.new ((w.setCell ⟨b, i, none⟩ u).alloc o) t cs
  rwa [show ((w.setCell ⟨b, i, none⟩ u).alloc o).heap.size = w.heap.size + 1 by simp [World.setCell, World.alloc]] at this

set_option maxRecDepth 100000 in
set_option maxHeartbeats 1000000 in
theorem atom_bad (w : World) (b : Nat) (A : Option Addr) (n c k : Nat) (s : List (BitVec 8)) (x : BitVec 8) (ov : Value) (hb hp : Bool) (iv : Value) (h : Pc w b (.slice A n c) k ov hb hp iv) (hx : x = 42#8 ∨ x = 43#8 ∨ x = 63#8 ∨ x = 93#8) :
    Calls Try.prog 54 #[.pointer (some ⟨b, 0, none⟩), v8 x] w (OpSays w b (.slice A n c) ov hb hp iv (atomL s k x)) := by
  have hbw := h.lt
  have HP := Lib.hid ((At.refl h).below ((Below.refl _ _).alloc (Nat.le_refl _) (.cells #[.int .i64 0, .bool false, .slice none 0 0] 122)))
  have HC := Lib.hid (Cel.new w 122 [.int .i64 0, .bool false, .slice none 0 0])
  have e : atomL s k x = .error k := by unfold atomL; rw [if_pos hx]
  rw [e]
  clear h e
  rcases hx with rfl | rfl | rfl | rfl
  all_goals
    go_enter Try.func54, Try.ntmps54
    go_wp2_with fail
    refine bodyPost_ret (v := .tuple #[noOp, .bool false]) (results_at 4 122 5 Try.results54 ⟨w.heap.size, 0, none⟩ rfl _ _ rfl (load_op HC.out)) rfl ?_
    exact ⟨rfl, HP.out⟩

/-- An atom's result, that another call returned. -/
theorem OpSays.on {w : World} {b : Nat} {sv ov iv : Value} {hb hp : Bool} {r : Except Nat (Rop × Nat)} {e : Ending} {w1 : World} (h : OpSays (w.alloc (.cells #[.int .i64 0, .bool false, .slice none 0 0] 122)) b sv ov hb hp iv r e w1) (hc : Cel w1 w.heap.size 122 [.int .i64 0, .bool false, .slice none 0 0]) (hbw : b < w.heap.size) {k : Nat} (h0 : At w (w.alloc (.cells #[.int .i64 0, .bool false, .slice none 0 0] 122)) b sv k ov hb hp iv) :
    ∃ z g A m c ok, e = .returned (.tuple #[.agg #[.int .i64 z, .bool g, .slice A m c], .bool ok]) ∧ OpSays w b sv ov hb hp iv r (.returned (.tuple #[.agg #[.int .i64 z, .bool g, .slice A m c], .bool ok])) (((w1.setCell ⟨w.heap.size, 0, none⟩ (.int .i64 z)).setCell ⟨w.heap.size, 1, none⟩ (.bool g)).setCell ⟨w.heap.size, 2, none⟩ (.slice A m c)) := by
  rcases r with p | ⟨o, j⟩
  · obtain ⟨rfl, ha⟩ := h
    exact ⟨_, _, _, _, _, _, rfl, rfl, (h0.from_ ha).setNew3 (Nat.le_refl _) hbw _ _ _⟩
  · obtain ⟨A, c, rfl, hs, ha⟩ := h
    exact ⟨_, _, _, _, _, _, rfl, A, c, rfl, hs.setCells3 hc _ _ _, (h0.from_ ha).setNew3 (Nat.le_refl _) hbw _ _ _⟩
theorem OpSays.at_ {w : World} {b : Nat} {sv ov iv : Value} {hb hp : Bool} {r : Except Nat (Rop × Nat)} {e : Ending} {w1 : World} (h : OpSays w b sv ov hb hp iv r e w1) : Frm [b] w w1 := by
  rcases r with p | ⟨o, j⟩
  · exact h.2.frm
  · obtain ⟨A, c, _, _, ha⟩ := h
    exact ha.frm

set_option maxRecDepth 100000 in
set_option maxHeartbeats 1000000 in
theorem atom_calls (w : World) (B b : Nat) (A : Option Addr) (n c k : Nat) (s : List (BitVec 8)) (x : BitVec 8) (ov : Value) (hb hp : Bool) (iv : Value) (h : Pc w b (.slice A n c) k ov hb hp iv) (hs : Bs w B A n s) (hB : B ≤ b) (hk : k < n) (hn : n ≤ 100000) (hx : x = 91#8 ∨ x = 92#8) :
    Calls Try.prog 54 #[.pointer (some ⟨b, 0, none⟩), v8 x] w (OpSays w b (.slice A n c) ov hb hp iv (atomL s k x)) := by
  have hbw := h.lt
  have hp0 := (At.refl h).below ((Below.refl _ _).alloc (Nat.le_refl _) (.cells #[.int .i64 0, .bool false, .slice none 0 0] 122))
  have HP := Lib.hid hp0
  have HC := Lib.hid (Cel.new w 122 [.int .i64 0, .bool false, .slice none 0 0])
  have con1 := set_call _ B b A n c k s ov hb hp iv hp0.pc (hp0.bs hs hB hbw) hB hk hn
  have con2 := escape_call _ B b A n c k s ov hb hp iv hp0.pc (hp0.bs hs hB hbw) hB hk hn
  clear h hs hp0
  rcases hx with rfl | rfl
  · have e : atomL s k 91#8 = setR s k := by unfold atomL; rw [if_neg (by decide), if_pos rfl]
    rw [e]
    clear e con2
    go_enter Try.func54, Try.ntmps54
    go_wp2_with fail
    refine con1.mono ?_
    rintro e w1 hsay
    have hc1 := HC.out.frm hsay.at_ (by simp; omega)
    obtain ⟨z, ng, A3, m3, c3, ok, rfl, hs2⟩ := hsay.on hc1 hbw HP.out
    have c0 := hc1.cell 0
    have c1 := hc1.cell 1
    have c2 := hc1.cell 2
    have f0 := hc1.free 0
    have f1 := hc1.free 1
    have f2 := hc1.free 2
    have HC1 := Lib.hid hc1
    have HS2 := Lib.hid hs2
    clear hc1 hs2 hsay con1
    go_wp2_with fail
    refine bodyPost_ret (v := .tuple #[.agg #[.int .i64 z, .bool ng, .slice A3 m3 c3], .bool ok]) (results_at 4 122 5 Try.results54 ⟨w.heap.size, 0, none⟩ rfl _ _ rfl (load_op (setCells3 HC1.out))) rfl HS2.out
  · have e : atomL s k 92#8 = escape s k := by unfold atomL; rw [if_neg (by decide), if_neg (by decide), if_pos rfl]
    rw [e]
    clear e con1
    go_enter Try.func54, Try.ntmps54
    go_wp2_with fail
    refine con2.mono ?_
    rintro e w1 hsay
    have hc1 := HC.out.frm hsay.at_ (by simp; omega)
    obtain ⟨z, ng, A3, m3, c3, ok, rfl, hs2⟩ := hsay.on hc1 hbw HP.out
    have c0 := hc1.cell 0
    have c1 := hc1.cell 1
    have c2 := hc1.cell 2
    have f0 := hc1.free 0
    have f1 := hc1.free 1
    have f2 := hc1.free 2
    have HC1 := Lib.hid hc1
    have HS2 := Lib.hid hs2
    clear hc1 hs2 hsay con2
    go_wp2_with fail
    refine bodyPost_ret (v := .tuple #[.agg #[.int .i64 z, .bool ng, .slice A3 m3 c3], .bool ok]) (results_at 4 122 5 Try.results54 ⟨w.heap.size, 0, none⟩ rfl _ _ rfl (load_op (setCells3 HC1.out))) rfl HS2.out

set_option maxRecDepth 100000 in
set_option maxHeartbeats 1000000 in
theorem atom_one (w : World) (b : Nat) (A : Option Addr) (n c k : Nat) (s : List (BitVec 8)) (x : BitVec 8) (ov : Value) (hb hp : Bool) (iv : Value) (h : Pc w b (.slice A n c) k ov hb hp iv) (hk : k < n) (hn : n ≤ 100000) (h1 : ¬ (x = 42#8 ∨ x = 43#8 ∨ x = 63#8 ∨ x = 93#8)) (h2 : x ≠ 91#8) (h3 : x ≠ 92#8) :
    Calls Try.prog 54 #[.pointer (some ⟨b, 0, none⟩), v8 x] w (OpSays w b (.slice A n c) ov hb hp iv (atomL s k x)) := by
  have hbw := h.lt
  have p1 := Cel.cell h 1
  have pf1 := Cel.free h 1
  have HP := Lib.hid (fun o : Obj => h.next.below ((Below.refl _ _).alloc (Nat.le_refl _) o))
  have d1 : ((x.toNat : Int) == 42) = false := ne_lit (x := x) (k := 42) (by decide) (fun q => h1 (.inl q))
  have d2 : ((x.toNat : Int) == 43) = false := ne_lit (x := x) (k := 43) (by decide) (fun q => h1 (.inr (.inl q)))
  have d3 : ((x.toNat : Int) == 63) = false := ne_lit (x := x) (k := 63) (by decide) (fun q => h1 (.inr (.inr (.inl q))))
  have d4 : ((x.toNat : Int) == 93) = false := ne_lit (x := x) (k := 93) (by decide) (fun q => h1 (.inr (.inr (.inr q))))
  have d5 : ((x.toNat : Int) == 91) = false := ne_lit (x := x) (k := 91) (by decide) h2
  have d6 : ((x.toNat : Int) == 92) = false := ne_lit (x := x) (k := 92) (by decide) h3
  have e : atomL s k x = if x = 46#8 then .ok (⟨1, true, [⟨10#8, 10#8⟩]⟩, k + 1) else .ok (⟨1, false, [⟨x, x⟩]⟩, k + 1) := by unfold atomL; rw [if_neg h1, if_neg h2, if_neg h3]
  rw [e]
  clear h e h1 h2 h3
  by_cases h46 : x = 46#8
  · rw [if_pos h46]
    subst h46
    go_enter Try.func54, Try.ntmps54
    go_wp2_with fail
    refine bodyPost_ret (v := .tuple #[opV ⟨1, true, [⟨10#8, 10#8⟩]⟩ (some ⟨w.heap.size + 1, 0, none⟩) 1, .bool true]) (results_at 4 122 5 Try.results54 ⟨w.heap.size, 0, none⟩ rfl _ _ rfl (load_op ((newOn w b (.int .i64 ((k : Int) + 1)) 1 122 [.int .i64 1, .bool true, .slice (some ⟨w.heap.size + 1, 0, none⟩) 1 1]).alloc _))) rfl ?_
    exact ⟨_, _, rfl, Ry.of_cel (newOn2 w b _ 1 71 [.int .u8 10, .int .u8 10] _), (HP.out _).below ((Below.refl _ _).alloc (Nat.le_refl _) _)⟩
  · rw [if_neg h46]
    have d7 : ((x.toNat : Int) == 46) = false := ne_lit (x := x) (k := 46) (by decide) h46
    clear h46
    go_enter Try.func54, Try.ntmps54
    go_wp2_with fail
    refine bodyPost_ret (v := .tuple #[opV ⟨1, false, [⟨x, x⟩]⟩ (some ⟨w.heap.size + 1, 0, none⟩) 1, .bool true]) (results_at 4 122 5 Try.results54 ⟨w.heap.size, 0, none⟩ rfl _ _ rfl (load_op ((newOn w b (.int .i64 ((k : Int) + 1)) 1 122 [.int .i64 1, .bool false, .slice (some ⟨w.heap.size + 1, 0, none⟩) 1 1]).alloc _))) rfl ?_
    exact ⟨_, _, rfl, Ry.of_cel (newOn2 w b _ 1 71 [v8 x, v8 x] _), (HP.out _).below ((Below.refl _ _).alloc (Nat.le_refl _) _)⟩
/-- The program's atom. -/
theorem atom_call (w : World) (B b : Nat) (A : Option Addr) (n c k : Nat) (s : List (BitVec 8)) (x : BitVec 8) (ov : Value) (hb hp : Bool) (iv : Value) (h : Pc w b (.slice A n c) k ov hb hp iv) (hs : Bs w B A n s) (hB : B ≤ b) (hk : k < n) (hn : n ≤ 100000) :
    Calls Try.prog 54 #[.pointer (some ⟨b, 0, none⟩), v8 x] w (OpSays w b (.slice A n c) ov hb hp iv (atomL s k x)) := by
  by_cases h1 : x = 42#8 ∨ x = 43#8 ∨ x = 63#8 ∨ x = 93#8
  · exact atom_bad w b A n c k s x ov hb hp iv h h1
  by_cases h2 : x = 91#8 ∨ x = 92#8
  · exact atom_calls w B b A n c k s x ov hb hp iv h hs hB hk hn h2
  · exact atom_one w b A n c k s x ov hb hp iv h hk hn h1 (fun q => h2 (.inl q)) (fun q => h2 (.inr q))

set_option maxRecDepth 100000 in
set_option maxHeartbeats 1000000 in
/-- The program's repetition: reads a *, + or ?. -/
theorem repet_call (w : World) (B b : Nat) (A : Option Addr) (n c k : Nat) (s : List (BitVec 8)) (ov : Value) (hb hp : Bool) (iv : Value) (h : Pc w b (.slice A n c) k ov hb hp iv) (hs : Bs w B A n s) (hB : B ≤ b) (hk : k ≤ n) (hn : n ≤ 100000) :
    Calls Try.prog 72 #[.pointer (some ⟨b, 0, none⟩)] w fun e w' => e = .returned (.int .i64 (repet s k)) ∧ At w w' b (.slice A n c) (if repet s k = 0 then k else k + 1) ov hb hp iv := by
  have hbw := h.lt
  have H := Lib.hid h
  have HS := Lib.hid hs
  clear h hs
  generalize hr : repet s k = r
  have hr2 := hr
  unfold repet at hr2
  have HR := Lib.hid hr2
  clear hr hr2
  go_enter Try.func72, Try.ntmps72
  go_wp2_with fail
  refine (skip_call w B b A n c k s 42#8 ov hb hp iv H.out HS.out hk hn).mono ?_
  rintro e w1 ⟨rfl, hw1⟩
  by_cases h1 : s[k]? = some 42#8
  · have hz := HR.out
    rw [if_pos h1] at hw1 hz
    rw [decide_eq_true h1]
    subst hz
    have HW1 := Lib.hid hw1
    clear hw1 h1
    go_wp2_with fail
    go_ret
    exact ⟨rfl, HW1.out⟩
  · have hz := HR.out
    rw [if_neg h1] at hw1 hz
    rw [decide_eq_false h1]
    have HW1 := Lib.hid hw1
    have HZ := Lib.hid hz
    clear hw1 h1 hz HR
    go_wp2_with fail
    refine (skip_call w1 B b A n c k s 43#8 ov hb hp iv HW1.out.pc (HW1.out.bs HS.out hB hbw) hk hn).mono ?_
    rintro e w2 ⟨rfl, hw2⟩
    by_cases h2 : s[k]? = some 43#8
    · have hz := HZ.out
      rw [if_pos h2] at hw2 hz
      rw [decide_eq_true h2]
      subst hz
      have HW2 := Lib.hid (HW1.out.from_ hw2)
      clear hw2 h2
      go_wp2_with fail
      go_ret
      exact ⟨rfl, HW2.out⟩
    · have hz := HZ.out
      rw [if_neg h2] at hw2 hz
      rw [decide_eq_false h2]
      have HW2 := Lib.hid (HW1.out.from_ hw2)
      have HY := Lib.hid hz
      clear hw2 h2 hz HZ
      go_wp2_with fail
      refine (skip_call w2 B b A n c k s 63#8 ov hb hp iv HW2.out.pc (HW2.out.bs HS.out hB hbw) hk hn).mono ?_
      rintro e w3 ⟨rfl, hw3⟩
      by_cases h3 : s[k]? = some 63#8
      · have hz := HY.out
        rw [if_pos h3] at hw3 hz
        rw [decide_eq_true h3]
        subst hz
        have HW3 := Lib.hid (HW2.out.from_ hw3)
        clear hw3 h3
        go_wp2_with fail
        go_ret
        exact ⟨rfl, HW3.out⟩
      · have hz := HY.out
        rw [if_neg h3] at hw3 hz
        rw [decide_eq_false h3]
        subst hz
        have HW3 := Lib.hid (HW2.out.from_ hw3)
        clear hw3 h3
        go_wp2_with fail
        go_ret
        exact ⟨rfl, HW3.out⟩
end Go.Proofs.Ytjpbndpfbdfhjaa.Reg
