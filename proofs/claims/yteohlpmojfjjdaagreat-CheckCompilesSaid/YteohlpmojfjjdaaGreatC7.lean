/-
Texts: RegParse ChkPlain ChkRows LexRef LexText LexOne LexCut
-/
import Derived.Test.YteohlpmojfjjdaaGreatC0
import Derived.Test.YteohlpmojfjjdaaGreatC1
import Derived.Test.YteohlpmojfjjdaaGreatC2
import Derived.Test.YteohlpmojfjjdaaGreatC3
import Derived.Test.YteohlpmojfjjdaaGreatC4
import Derived.Test.YteohlpmojfjjdaaGreatC5
import Derived.Test.YteohlpmojfjjdaaGreatC6
import Derived.Test.YteohlpmojfjjdaaGreatChecked
import Derived.WalkKit
import Derived.ProofKit
import Derived.Deep.CutBlock
import Derived.Deep.CutRange
import Derived.Deep.DeepCutAuto
set_option linter.unusedVariables false
set_option linter.unusedSimpArgs false
set_option maxRecDepth 100000
set_option maxHeartbeats 4000000
section
namespace Go.Proofs.YteohlpmojfjjdaaGreat.Reg
open Go.RowKit
theorem results3 {P : Program} {fn : Func} {tmps : Array Value} {w : World} (a b c : Tmp) (hr : fn.results = #[.tmp a, .tmp b, .tmp c]) (u v x : Value) (ha : tmps.getD a undef = u) (hb : tmps.getD b undef = v) (hc : tmps.getD c undef = x) : (results fn tmps).run P w = .ok (.tuple #[u, v, x]) w := by
 unfold results
 rw [hr]
 simp only [List.mapM_toArray, List.mapM_cons, List.mapM_nil, ha, hb, hc]
 simp
theorem Below.drewN9 {B : Nat} {w w' : World} (h : Below B w w') (m : Nat) : Below B w (w'.drewN m) := ⟨h.os, h.tape, h.output, h.size, h.block⟩
theorem pieceEnd_length (s : List (BitVec 8)) (x : St) : (pieceEnd s x).ops.length ≤ x.ops.length + 2 := by
 show (x.ops ++ (if repet s x.at_ = 0 then [] else [one (repet s x.at_)]) ++ (if x.inner.hp then [one 3] else [])).length ≤ _
 split <;> cases x.inner.hp <;> simp
theorem step_few {s : List (BitVec 8)} {x y : St} {c : BitVec 8} (h : step s x c = .ok y) : y.ops.length ≤ x.ops.length + 4 ∧ (x.outer.length ≤ 8 → y.outer.length ≤ 8) := by
 unfold step at h
 split at h
 ·split at h
  ·cases h
  ·rename_i hn
   injection h with h; subst h
   exact ⟨Nat.le_add_right _ _, fun q => by show (x.inner :: x.outer).length ≤ 8; simp; omega⟩
 ·split at h
  ·split at h
   ·cases h
   ·rename_i l K hK
    injection h with h; subst h
    have h1 := branchEnd_length x
    have h2 := pieceEnd_length s ⟨x.at_ + 1, (branchEnd x).ops, l, K⟩
    refine ⟨by simp only at h2; omega, fun q => ?_⟩
    show K.length ≤ 8
    rw [hK] at q; simp at q; omega
  ·split at h
   ·injection h with h; subst h
    have h1 := branchEnd_length ⟨x.at_ + 1, x.ops, x.inner, x.outer⟩
    exact ⟨by simp only at h1; omega, fun q => q⟩
   ·split at h
    ·cases h
    ·rename_i o j hj
     injection h with h; subst h
     have h2 := pieceEnd_length s ⟨j, x.ops ++ [o], x.inner, x.outer⟩
     exact ⟨by simp at h2; omega, fun q => q⟩
theorem step_call (w : World) (B b : Nat) (A : Option Addr) (n c : Nat) (s : List (BitVec 8)) (x : St) (y : BitVec 8) (h : Pz w B b A n c s x) (hB : B ≤ w.heap.size) (hd : x.outer.length ≤ 8) (hn : n ≤ 100000) (hlen : x.ops.length ≤ 8000) (hy : s[x.at_]? = some y) :
  Calls Tryz.prog 155 #[.pointer (some ⟨b, 0, none⟩), v8 y] w (StSays w B b A n c s (step s x y)) := by
 have hk : x.at_ < n := by rw [← h.bs.len]; exact get_lt hy
 by_cases h40 : y = 40#8
 ·subst h40; exact step_open w B b A n c s x h hB hd hk hn
 by_cases h41 : y = 41#8
 ·subst h41; exact step_close w B b A n c s x h hB hd hk hn hlen
 by_cases h124 : y = 124#8
 ·subst h124; exact step_bar w B b A n c s x h hB hk hn hlen
 exact step_atom w B b A n c s x y h hB hk hn hlen hy h40 h41 h124
def PaSays (w : World) (B b : Nat) (A : Option Addr) (n c : Nat) (s : List (BitVec 8)) (r : Except (Nat × Nat) (List Rop)) (e : Ending) (w' : World) : Prop := match r with
 | .error (bad, p) => e = .returned (.int .i64 (bad : Int)) ∧ bad ≠ 0 ∧ (∃ y, Pz w' B b A n c s y ∧ y.at_ = p) ∧ Below B w w'
 | .ok l => e = .returned (.int .i64 0) ∧ (∃ y, Pz w' B b A n c s y ∧ y.ops = l) ∧ Below B w w'
theorem step_bad {s : List (BitVec 8)} {x : St} {c : BitVec 8} {bad p : Nat} (h : step s x c = .error (bad, p)) : bad ≠ 0 := by
 unfold step at h
 split at h
 ·split at h
  ·injection h with h; injection h with h1 h2; omega
  ·cases h
 ·split at h
  ·split at h
   ·injection h with h; injection h with h1 h2; omega
   ·cases h
  ·split at h
   ·cases h
   ·split at h
    ·injection h with h; injection h with h1 h2; omega
    ·cases h
theorem PkSays_none {s : List (BitVec 8)} {k : Nat} (h : s[k]? = none) : PkSays s k = .tuple #[.int .u8 0, .bool false] := by unfold PkSays; rw [h]
theorem PkSays_some {s : List (BitVec 8)} {k : Nat} {x : BitVec 8} (h : s[k]? = some x) : PkSays s k = .tuple #[v8 x, .bool true] := by unfold PkSays; rw [h]
def Seen (s : List (BitVec 8)) (k : Nat) (u v : Value) : Prop := (s[k]? = none ∧ u = .int .u8 0 ∧ v = .bool false) ∨ ∃ x, s[k]? = some x ∧ u = v8 x ∧ v = .bool true
theorem parse_call (w : World) (B b : Nat) (A : Option Addr) (n c : Nat) (s : List (BitVec 8)) (x : St) (h : Pz w B b A n c s x) (hB : B ≤ w.heap.size) (hk : x.at_ ≤ n) (hd : x.outer.length ≤ 8) (hn : n ≤ 100) (hlen : x.ops.length ≤ 4 * x.at_) :
  Calls Tryz.prog 137 #[.pointer (some ⟨b, 0, none⟩)] w (PaSays w B b A n c s (run s x)) := by
 have hlow := h.low
 have hsl := h.bs.len
 obtain ⟨ov, iv, hp, hre⟩ := h.open_
 have con := peek_call w B b A n c x.at_ s ov x.inner.hb x.inner.hp iv hp h.bs hk
 have HP := Lib.hid hp
 have HRE := Lib.hid hre
 clear h hp hre
 go_enter Tryz.func137, Tryz.ntmps137
 go_wp2_with fail
 refine con.mono ?_
 clear con
 rintro e w1 ⟨rfl, hd1⟩
 have hz1 : Pz w1 B b A n c s x := HRE.out w1 _ (At.of_dr HP.out hd1)
 obtain ⟨u0, v0, hs0, hp0⟩ : ∃ u v, Seen s x.at_ u v ∧ PkSays s x.at_ = .tuple #[u, v] := by
  rcases hq : s[x.at_]? with _ | q
  ·exact ⟨_, _, .inl ⟨hq, rfl, rfl⟩, PkSays_none hq⟩
  ·exact ⟨_, _, .inr ⟨q, hq, rfl, rfl⟩, PkSays_some hq⟩
 rw [hp0]
 have HS0 := Lib.hid hs0
 have HZ1 := Lib.hid hz1
 have HB1 := Lib.hid (hd1.below B)
 clear hs0 hp0 hz1 hd1
 go_wp2_with fail
 go_loopw [3, 4] (fun u v wr => ∃ y, Pz wr B b A n c s y ∧ Below B w wr ∧ run s x = run s y ∧ y.at_ ≤ n ∧ y.outer.length ≤ 8 ∧ y.ops.length ≤ 4 * y.at_ ∧ Seen s y.at_ u v) (fun _ _ wr => n - kOf b wr)
 case atStart => exact ⟨x, HZ1.out, HB1.out, rfl, hk, hd, hlen, HS0.out⟩
 case round =>
  obtain ⟨y, hz, hby, hrun, hyk, hyd, hyl, hseen⟩ := hrel
  have HZ := Lib.hid hz
  have HBY := Lib.hid hby
  have HRUN := Lib.hid hrun
  have hsy := hby.size
  have HYL := Lib.hid hyl
  have hyo : y.ops.length ≤ 400 := by omega
  clear hz hby hrun hyl hlen
  rcases hseen with ⟨hno, rfl, rfl⟩ | ⟨ch, hch, rfl, rfl⟩
  ·have hyn : y.at_ = s.length := by
    rcases Nat.lt_or_ge y.at_ s.length with q | q
    ·rw [List.getElem?_eq_getElem q] at hno; cases hno
    ·omega
   have hre := HRUN.out.trans (run_end hyn)
   have HRE2 := Lib.hid hre
   clear hno hre
   go_wp2_with fail
   refine (size_call wr B b A n c s y HZ.out).mono ?_
   rintro e w2 ⟨rfl, rfl⟩
   by_cases ho : y.outer = []
   ·have d0 : decide (0 < y.outer.length) = false := by simp [ho]
    have hre := HRE2.out
    rw [if_neg (by simp [ho])] at hre
    have HRE3 := Lib.hid hre
    clear hre ho
    go_wp2_with fail
    refine (endBranch_call wr B b A n c s y HZ.out (by omega) (by omega)).mono ?_
    rintro e w3 ⟨rfl, hz3, hb3⟩
    have HZ3 := Lib.hid hz3
    have HB3 := Lib.hid (HBY.out.trans hb3.low)
    clear hz3 hb3
    go_wp2_with fail
    go_ret
    rw [HRE3.out]
    exact ⟨rfl, ⟨_, HZ3.out, rfl⟩, HB3.out⟩
   ·have d0 : decide (0 < y.outer.length) = true := decide_eq_true (List.length_pos_iff.2 ho)
    have hre := HRE2.out
    rw [if_pos ho] at hre
    have HRE3 := Lib.hid hre
    clear hre ho
    go_wp2_with fail
    go_ret
    rw [HRE3.out]
    exact ⟨rfl, by decide, ⟨_, HZ.out, rfl⟩, HBY.out⟩
  ·have hre := HRUN.out.trans (run_step hch)
   have HRE2 := Lib.hid hre
   have con := step_call wr B b A n c s y ch HZ.out (by omega) hyd (by omega) (by omega) hch
   have HCH := Lib.hid hch
   clear hch hre
   go_wp2_with fail
   refine con.mono ?_
   clear con
   rintro e w2 hsay
   rcases hst : step s y ch with ⟨bad, p⟩ | z <;> rw [hst] at hsay HRE2 <;> dsimp only [StSays] at hsay HRE2
   ·obtain ⟨rfl, hz2, hb2⟩ := hsay
    have hbad := step_bad hst
    have d0 : ((bad : Int) != 0) = true := by rw [bne_iff_ne]; omega
    have HZ2 := Lib.hid hz2
    have HB2 := Lib.hid (HBY.out.trans hb2)
    clear hz2 hb2 hst
    go_wp2_with fail
    go_ret
    rw [HRE2.out]
    exact ⟨rfl, hbad, HZ2.out, HB2.out⟩
   ·obtain ⟨rfl, hz2, hb2⟩ := hsay
    have hat := step_at hst HCH.out
    rw [hsl] at hat
    have hfew := step_few hst
    have hzd := hfew.2 hyd
    have hzl : z.ops.length ≤ 4 * z.at_ := by have := HYL.out; omega
    have hza := hat.1
    have hzn := hat.2
    obtain ⟨ov2, iv2, hp2, hre2⟩ := hz2.open_
    have HP2 := Lib.hid hp2
    have HR2 := Lib.hid hre2
    have HBS2 := Lib.hid hz2.bs
    have HB2 := Lib.hid (HBY.out.trans hb2)
    clear hst hat hfew hz2 hb2 hp2 hre2
    go_wp2_with fail
    refine (peek_call w2 B b A n c z.at_ s ov2 z.inner.hb z.inner.hp iv2 HP2.out HBS2.out hzn).mono ?_
    rintro e w3 ⟨rfl, hd3⟩
    have hz3 : Pz w3 B b A n c s z := HR2.out w3 _ (At.of_dr HP2.out hd3)
    obtain ⟨u0, v0, hs0, hp0⟩ : ∃ u v, Seen s z.at_ u v ∧ PkSays s z.at_ = .tuple #[u, v] := by
     rcases hq : s[z.at_]? with _ | q
     ·exact ⟨_, _, .inl ⟨hq, rfl, rfl⟩, PkSays_none hq⟩
     ·exact ⟨_, _, .inr ⟨q, hq, rfl, rfl⟩, PkSays_some hq⟩
    rw [hp0]
    have HS3 := Lib.hid hs0
    have HZ3 := Lib.hid hz3
    have HB3 := Lib.hid (HB2.out.trans (hd3.below B))
    clear hs0 hp0 hz3 hd3
    go_wp2_with fail
    obtain ⟨ov3, iv3, hp3, -⟩ := HZ3.out.open_
    obtain ⟨ov4, iv4, hp4, -⟩ := HZ.out.open_
    exact ⟨⟨z, HZ3.out, HB3.out, HRE2.out, hzn, hzd, hzl, HS3.out⟩, by rw [kOf_pc hp3, kOf_pc hp4]; omega⟩
theorem parseR_full {s : List (BitVec 8)} (h : 80 < s.length) : parse s = .error (3, 0) := by unfold parse; rw [if_pos h]
theorem parseR_run {s : List (BitVec 8)} (h : ¬ 80 < s.length) : parse s = run s St0 := by unfold parse; rw [if_neg h]
def ParseSays (w : World) (r : Except (Nat × Nat) (List Rop)) (e : Ending) (w' : World) : Prop := Below w.heap.size w w' ∧ match r with
 | .error (bad, p) => bad ≠ 0 ∧ e = .returned (.tuple #[.slice none 0 0, .int .i64 (p : Int), .int .i64 (bad : Int)])
 | .ok l => ∃ A' c', e = .returned (.tuple #[.slice A' l.length c', .int .i64 0, .int .i64 0]) ∧ Ows w' w.heap.size (.slice A' l.length c') l
theorem parse_top (w : World) (B : Nat) (A : Option Addr) (n c : Nat) (s : List (BitVec 8)) (hs : Bs w B A n s) (hB : B ≤ w.heap.size) :
  Calls Tryz.prog 105 #[.slice A n c] w (ParseSays w (parse s)) := by
 have hl := hs.len
 by_cases h80 : 80 < n
 ·rw [parseR_full (by omega)]
  have d1 : decide (80 < n) = true := decide_eq_true h80
  clear hs
  go_enter Tryz.func105, Tryz.ntmps105
  go_wp2_with fail
  refine bodyPost_ret (v := .tuple #[.slice none 0 0, .int .i64 0, .int .i64 3]) (results3 2 3 4 rfl _ _ _ rfl rfl rfl) rfl ?_
  exact ⟨Below.refl _ _, by decide, rfl⟩
 ·rw [parseR_run (by omega)]
  have d1 : decide (80 < n) = false := decide_eq_false h80
  have hn80 : n ≤ 80 := by omega
  generalize hW : w.alloc (.cells #[.slice A n c, .int .i64 0, .slice none 0 0, .bool false, .bool false, .slice none 0 0] 195) = W
  have hWs : W.heap.size = w.heap.size + 1 := by rw [← hW]; simp
  have hbW : Below w.heap.size w W := by rw [← hW]; exact (Below.refl _ _).alloc (Nat.le_refl _) _
  have hcW : Cel W w.heap.size 195 [.slice A n c, .int .i64 0, .slice none 0 0, .bool false, .bool false, .slice none 0 0] := by rw [← hW]; exact Cel.new w _ _
  have hzW : Pz W w.heap.size w.heap.size A n c s St0 := ⟨Nat.le_refl _, (hs.below (hbW.mono hB)).more hB, _, _, hcW, ⟨[], World.ownsRow_nil _ _ _ _, rfl, by simp⟩, World.ownsRow_nil _ _ _ _⟩
  have con := parse_call W w.heap.size w.heap.size A n c s St0 hzW (by omega) (Nat.zero_le _) (by simp [St0]) (by omega) (by simp [St0])
  have HBW := Lib.hid hbW
  clear hs hbW hcW hzW
  go_enter Tryz.func105, Tryz.ntmps105
  go_wp2_with fail
  refine con.mono ?_
  clear con hW
  rintro e w2 hsay
  rcases hr : run s St0 with ⟨bad, p⟩ | l <;> rw [hr] at hsay <;> dsimp only [PaSays] at hsay
  ·obtain ⟨rfl, hbad, ⟨y, hy, hyp⟩, hb2⟩ := hsay
   have d0 : ((bad : Int) != 0) = true := by rw [bne_iff_ne]; omega
   obtain ⟨ov, iv, hp, -⟩ := hy.open_
   have p1 := Cel.cell hp 1
   have HB2 := Lib.hid (HBW.out.trans hb2)
   rw [hyp] at p1
   have HR := Lib.hid hr
   clear hy hp hb2 hr
   go_wp2_with fail
   go_quiet (fail)
   go_wp2_with fail
   refine bodyPost_ret (v := .tuple #[.slice none 0 0, .int .i64 (p : Int), .int .i64 (bad : Int)]) (results3 2 3 4 rfl _ _ _ rfl rfl rfl) rfl ?_
   unfold ParseSays
   rw [HR.out]
   exact ⟨Below.drewN9 HB2.out _, hbad, rfl⟩
  ·obtain ⟨rfl, ⟨y, hy, hyl⟩, hb2⟩ := hsay
   subst hyl
   obtain ⟨ov, iv, hp, ho, -⟩ := hy.st
   obtain ⟨us, q1, q2, q3⟩ := ho.row
   obtain ⟨Ao, co, rfl⟩ := own_form q1
   have p2 := Cel.cell hp 2
   have HB2 := Lib.hid (HBW.out.trans hb2)
   have HO := Lib.hid ho
   have HR := Lib.hid hr
   clear hy hp hb2 hr ho q1 q2 q3
   go_wp2_with fail
   refine bodyPost_ret (v := .tuple #[.slice Ao y.ops.length co, .int .i64 0, .int .i64 0]) (results3 2 3 4 rfl _ _ _ rfl rfl rfl) rfl ?_
   unfold ParseSays
   rw [HR.out]
   exact ⟨HB2.out, Ao, co, rfl, HO.out⟩
end Go.Proofs.YteohlpmojfjjdaaGreat.Reg
end
section
namespace Go.Proofs.YteohlpmojfjjdaaGreat.Chk
theorem runF_bad : ∀ (n : Nat) (s : List B) (x : Reg.St) (bad p : Nat), Reg.runF s n x = .error (bad, p) → bad ≠ 0
 | 0, s, x, bad, p, h => by unfold Reg.runF at h; cases h <;> decide
 | n + 1, s, x, bad, p, h => by
  unfold Reg.runF at h
  cases hc : s[x.at_]? with
  | none =>
   rw [hc] at h
   dsimp only at h
   split at h
   ·injection h with h; injection h with h1 h2; omega
   ·cases h
  | some c =>
   rw [hc] at h
   dsimp only at h
   cases e : Reg.step s x c with
   | error q =>
    obtain ⟨bad', p'⟩ := q
    rw [e] at h
    injection h with h
    injection h with h1 h2
    subst h1
    exact Reg.step_bad e
   | ok y =>
    rw [e] at h
    exact runF_bad n s y bad p h
theorem parse_bad {s : List B} {bad p : Nat} (h : Reg.parse s = .error (bad, p)) : bad ≠ 0 := by
 unfold Reg.parse at h
 split at h
 ·injection h with h; injection h with h1 h2; omega
 ·exact runF_bad _ _ _ _ _ h
theorem build_bad {l : List Reg.Rop} {bad : Nat} (h : Nfa.build l = .error bad) : bad ≠ 0 := by
 unfold Nfa.build at h
 split at h
 ·split at h
  ·injection h with h; omega
  ·cases h
 ·injection h with h; omega
theorem armBad_ok {b : GBook} {k : Nat} {a : GArm} (h : armBad b k a = 0) : k < 6 ∧ atOf (varsOf b) a.as_ < 8 ∧ (target b a.go).2 = true := by
 unfold armBad at h
 split at h
 ·cases h
 ·rename_i hk
  cases hp : Reg.parse a.pat with
  | error q =>
   obtain ⟨bad, p⟩ := q
   rw [hp] at h
   have := parse_bad hp
   dsimp only at h
   omega
  | ok ops =>
   rw [hp] at h
   dsimp only at h
   cases hb : Nfa.build ops with
   | error bad =>
    rw [hb] at h
    have := build_bad hb
    dsimp only at h
    omega
   | ok l =>
    rw [hb] at h
    dsimp only at h
    split at h
    ·cases h
    ·split at h
     ·rename_i h8 ht
      exact ⟨by omega, by omega, ht⟩
     ·cases h
theorem armsBad_ok {b : GBook} : ∀ (l : List GArm) (k : Nat), (armsBad b k l).1 = 0 → ∀ j a, l[j]? = some a → armBad b (k + j) a = 0
 | [], k, h, j, a, hj => by simp at hj
 | x :: l, k, h, j, a, hj => by
  unfold armsBad at h
  split at h
  ·rename_i hb
   exact absurd h hb
  ·rename_i hb
   cases j with
   | zero => simp at hj; subst hj; simpa using hb
   | succ j =>
    have := armsBad_ok l (k + 1) h j a (by simpa using hj)
    rwa [show k + 1 + j = k + (j + 1) by omega] at this
theorem stepsBad_ok {b : GBook} : ∀ (l : List GStep) (i : Nat), (stepsBad b i l).1 = 0 → ∀ j s, l[j]? = some s → stepBad b (i + j) s = 0 ∧ (armsBad b 0 s.arms).1 = 0
 | [], i, h, j, s, hj => by simp at hj
 | x :: l, i, h, j, s, hj => by
  unfold stepsBad at h
  split at h
  ·rename_i hb
   exact absurd h hb
  ·rename_i hb
   split at h
   ·rename_i ha
    exact absurd h ha
   ·rename_i ha
    cases j with
    | zero => simp at hj; subst hj; exact ⟨by simpa using hb, by simpa using ha⟩
    | succ j =>
     have := stepsBad_ok l (i + 1) h j s (by simpa using hj)
     rwa [show i + 1 + j = i + (j + 1) by omega] at this
theorem check_ok {b : GBook} (h : (check b).1 = 0) : b.steps ≠ [] ∧ ∀ j s, b.steps[j]? = some s → stepBad b j s = 0 ∧ (armsBad b 0 s.arms).1 = 0 := by
 unfold check at h
 split at h
 ·cases h
 ·rename_i hne
  split at h
  ·cases h
  ·refine ⟨hne, fun j s hj => ?_⟩
   have := stepsBad_ok b.steps 0 h j s hj
   rwa [Nat.zero_add] at this
theorem atF_mem (l : List (List B)) (n : List B) : ∀ i, 0 ≤ atF l n i → n ∈ l := by
 induction l with
 | nil => intro i h; unfold atF at h; omega
 | cons x l ih =>
  intro i h
  unfold atF at h
  split at h
  ·rename_i e; rw [e]; exact List.mem_cons_self ..
  ·exact List.mem_cons_of_mem _ (ih _ h)
theorem atF_app (l : List (List B)) (n x : List B) : ∀ i, 0 ≤ atF l n i → atF (l ++ [x]) n i = atF l n i := by
 induction l with
 | nil => intro i h; unfold atF at h; omega
 | cons y l ih =>
  intro i h
  unfold atF at h ⊢
  rw [List.cons_append]
  dsimp only
  split
  ·rfl
  ·rename_i e
   rw [if_neg e] at h
   exact ih _ h
theorem atF_new (l : List (List B)) (n : List B) : ∀ i, atF l n i < 0 → atF (l ++ [n]) n i = ((i + l.length : Nat) : Int) := by
 induction l with
 | nil => intro i h; unfold atF; rw [List.nil_append]; simp
 | cons y l ih =>
  intro i h
  unfold atF at h ⊢
  rw [List.cons_append]
  dsimp only
  split
  ·rename_i e; rw [if_pos e] at h; omega
  ·rename_i e
   rw [if_neg e] at h
   rw [ih _ h, List.length_cons]
   congr 1
   omega
def Vok (P : List B → Prop) (o : List (List B)) : Prop := ∀ (i : Nat) (x : List B), o[i]? = some x → P x ∧ atOf o x = (i : Int)
theorem vok_arm {P : List B → Prop} {o : List (List B)} {a : GArm} (h : Vok P o) (ha : P a.as_) : Vok P (varA o a) := by
 unfold varA
 split
 ·rename_i hc
  intro i x hx
  rcases Nat.lt_or_ge i o.length with hi | hi
  ·rw [List.getElem?_append_left hi] at hx
   obtain ⟨h1, h2⟩ := h i x hx
   refine ⟨h1, ?_⟩
   unfold atOf at h2 ⊢
   rw [atF_app _ _ _ _ (by rw [h2]; omega), h2]
  ·have hil : i = o.length := by have := (List.getElem?_eq_some_iff.1 hx).1; simp at this; omega
   subst hil
   rw [List.getElem?_append_right (Nat.le_refl _), Nat.sub_self] at hx
   simp at hx
   subst hx
   refine ⟨ha, ?_⟩
   have := atF_new o a.as_ 0 hc.2
   unfold atOf
   rw [this, Nat.zero_add]
 ·exact h
theorem vok_arms {P : List B → Prop} : ∀ (l : List GArm) (o : List (List B)), Vok P o → (∀ a ∈ l, P a.as_) → Vok P (l.foldl varA o)
 | [], o, h, _ => h
 | a :: l, o, h, ha => vok_arms l _ (vok_arm h (ha a (List.mem_cons_self ..))) fun x hx => ha x (List.mem_cons_of_mem _ hx)
theorem vok_steps {P : List B → Prop} : ∀ (l : List GStep) (o : List (List B)), Vok P o → (∀ s ∈ l, ∀ a ∈ s.arms, P a.as_) → Vok P (l.foldl varS o)
 | [], o, h, _ => h
 | s :: l, o, h, ha => vok_steps l _ (vok_arms s.arms o h (ha s (List.mem_cons_self ..))) fun x hx => ha x (List.mem_cons_of_mem _ hx)
theorem arm_ok {b : GBook} (h : (check b).1 = 0) {s : GStep} (hs : s ∈ b.steps) {a : GArm} (ha : a ∈ s.arms) : atOf (varsOf b) a.as_ < 8 ∧ (target b a.go).2 = true := by
 obtain ⟨j, hj⟩ := List.mem_iff_getElem?.1 hs
 obtain ⟨k, hk⟩ := List.mem_iff_getElem?.1 ha
 have h1 := ((check_ok h).2 j s hj).2
 have h2 := armsBad_ok s.arms 0 h1 k a hk
 exact (armBad_ok h2).2
theorem vars_few {b : GBook} (h : (check b).1 = 0) : (varsOf b).length ≤ 8 := by
 have hv : Vok (fun x => atOf (varsOf b) x < 8) (varsOf b) := vok_steps b.steps [] (fun i x hx => by simp at hx) fun s hs a ha => (arm_ok h hs ha).1
 rcases Nat.eq_zero_or_pos (varsOf b).length with h0 | h0
 ·omega
 ·obtain ⟨x, hx⟩ : ∃ x, (varsOf b)[(varsOf b).length - 1]? = some x := ⟨_, List.getElem?_eq_getElem (by omega)⟩
  obtain ⟨h1, h2⟩ := hv _ x hx
  rw [h2] at h1
  omega
end Go.Proofs.YteohlpmojfjjdaaGreat.Chk
end
section
namespace Go.Proofs.YteohlpmojfjjdaaGreat.Chk
def firstE : List Int → Int
 | [] => 0
 | e :: l => if e ≠ 0 then e else firstE l
theorem firstE_hit {e : Int} {l : List Int} (h : e ≠ 0) : firstE (e :: l) = e := if_pos h
theorem firstE_miss {e : Int} {l : List Int} (h : e = 0) : firstE (e :: l) = firstE l := if_neg (by simp [h])
def stF (ss : List GStep) (k : List B) : Option Int := if (tgF ss k 0).2 = true then some (tgF ss k 0).1 else none
def vaF (o : List (List B)) (k : List B) : Option Int := if atOf o k < 0 then none else some (atOf o k)
theorem tgF_app (s : GStep) (k : List B) : ∀ (ss : List GStep) (i : Nat), tgF (ss ++ [s]) k i = if (tgF ss k i).2 = true then tgF ss k i else if s.name = k then (((i + ss.length : Nat) : Int), true) else (0, false)
 | [], i => by
  rw [List.nil_append]
  unfold tgF
  split
  ·rfl
  ·rfl
 | x :: ss, i => by
  by_cases h : x.name = k
  ·rw [List.cons_append, tgF_hit h, tgF_hit h, if_pos rfl]
  ·rw [List.cons_append, tgF_miss h, tgF_miss h, tgF_app s k ss (i + 1), List.length_cons]
   rw [show i + 1 + ss.length = i + (ss.length + 1) by omega]
theorem stF_put {ss : List GStep} {s : GStep} (h : stF ss s.name = none) : stF (ss ++ [s]) = fun k => if k = s.name then some (ss.length : Int) else stF ss k := by
 have h0 : (tgF ss s.name 0).2 = false := by
  unfold stF at h
  split at h
  ·cases h
  ·rename_i e; simpa using e
 funext k
 unfold stF
 rw [tgF_app]
 by_cases hk : k = s.name
 ·subst hk
  have e : (if (tgF ss s.name 0).2 = true then tgF ss s.name 0 else if s.name = s.name then (((0 + ss.length : Nat) : Int), true) else (0, false)) = (((0 + ss.length : Nat) : Int), true) := by rw [if_neg (by simp [h0]), if_pos rfl]
  rw [e, Nat.zero_add, if_pos rfl, if_pos rfl]
 ·rw [if_neg hk]
  cases hq : (tgF ss k 0).2
  ·rw [if_neg (show ¬ (false = true) by decide), if_neg (show ¬ s.name = k from fun e => hk e.symm)]; rfl
  ·rw [if_pos rfl, if_pos hq]; rfl
theorem stF_keep {ss : List GStep} {s : GStep} {z : Int} (h : stF ss s.name = some z) : stF (ss ++ [s]) = stF ss := by
 have h0 : (tgF ss s.name 0).2 = true := by
  unfold stF at h
  split at h
  ·rename_i e; exact e
  ·cases h
 funext k
 unfold stF
 rw [tgF_app]
 split
 ·rename_i e; rfl
 ·rename_i e
  by_cases hk : s.name = k
  ·rw [← hk] at e; exact absurd h0 e
  ·rw [if_neg hk]; rfl
theorem atF_app2 (l : List (List B)) (n x : List B) (h : x ≠ n) : ∀ i, atF (l ++ [x]) n i = atF l n i := by
 induction l with
 | nil => intro i; rw [List.nil_append, atF_miss h]; simp [atF]
 | cons y l ih =>
  intro i
  rw [List.cons_append]
  by_cases e : y = n
  ·rw [atF_hit e, atF_hit e]
  ·rw [atF_miss e, atF_miss e, ih]
theorem vaF_put {o : List (List B)} {x : List B} (h : vaF o x = none) : vaF (o ++ [x]) = fun k => if k = x then some (o.length : Int) else vaF o k := by
 have h0 : atOf o x < 0 := by
  unfold vaF at h
  split at h
  ·assumption
  ·cases h
 funext k
 unfold vaF
 by_cases hk : k = x
 ·subst hk
  have := atF_new o k 0 h0
  unfold atOf
  rw [this, if_pos rfl, if_neg (by omega), Nat.zero_add]
 ·rw [if_neg hk]
  have := atF_app2 o k x (fun e => hk e.symm) 0
  unfold atOf
  rw [this]
theorem vaF_some {o : List (List B)} {k : List B} : (vaF o k).isSome = decide (0 ≤ atOf o k) := by
 unfold vaF
 split
 ·rw [decide_eq_false (by omega)]; rfl
 ·rw [decide_eq_true (by omega)]; rfl
def endF (n : List B) : Option Int := if n = wDone then some (-1) else if n = wFail then some (-2) else if n = wDoubt then some (-3) else none
def tgtF (ss : List GStep) (n : List B) : Int × Bool := match endF n with
 | some z => (z, true)
 | none => ((stF ss n).getD 0, (stF ss n).isSome)
theorem tgF_no {n : List B} : ∀ (ss : List GStep) (i : Nat), (tgF ss n i).2 = false → tgF ss n i = (0, false)
 | [], i, h => rfl
 | s :: ss, i, h => by
  by_cases e : s.name = n
  ·rw [tgF_hit e] at h; cases h
  ·rw [tgF_miss e] at h ⊢; exact tgF_no ss (i + 1) h
theorem tgt_eq (b : GBook) (n : List B) : tgtF b.steps n = target b n := by
 unfold tgtF target endF
 by_cases h1 : n = wDone
 ·rw [if_pos h1, if_pos h1]
 rw [if_neg h1, if_neg h1]
 by_cases h2 : n = wFail
 ·rw [if_pos h2, if_pos h2]
 rw [if_neg h2, if_neg h2]
 by_cases h3 : n = wDoubt
 ·rw [if_pos h3, if_pos h3]
 rw [if_neg h3, if_neg h3]
 dsimp only
 unfold stF
 cases e : (tgF b.steps n 0).2
 ·rw [tgF_no _ _ e]; rfl
 ·rw [if_pos rfl]
  show ((tgF b.steps n 0).1, true) = _
  rw [← e]
theorem tgF_found {n : List B} : ∀ (ss : List GStep) (i j : Nat) (s : GStep), ss[i]? = some s → s.name = n → (tgF ss n j).2 = true ∧ (tgF ss n j).1 ≤ ((j + i : Nat) : Int) ∧ (j : Int) ≤ (tgF ss n j).1
 | [], i, j, s, h, _ => by simp at h
 | x :: ss, i, j, s, h, hn => by
  by_cases e : x.name = n
  ·rw [tgF_hit e]; exact ⟨rfl, by show (j : Int) ≤ _; omega, Int.le_refl _⟩
  ·rw [tgF_miss e]
   cases i with
   | zero => simp at h; subst h; exact absurd hn e
   | succ i =>
    obtain ⟨h1, h2, h3⟩ := tgF_found ss i (j + 1) s (by simpa using h) hn
    exact ⟨h1, by omega, by omega⟩
def takenF (ss : List GStep) (n : List B) (i : Nat) : Bool := (endF n).isSome || decide ((stF ss n).getD 0 < (i : Int))
theorem taken_eq {b : GBook} {i : Nat} {s : GStep} (h : b.steps[i]? = some s) : takenF b.steps s.name i = decide ((target b s.name).1 ≠ (i : Int)) := by
 rw [← tgt_eq]
 unfold takenF tgtF
 cases e : endF s.name with
 | some z =>
  have hz : z < 0 := by
   unfold endF at e
   split at e
   ·cases e; decide
   split at e
   ·cases e; decide
   split at e
   ·cases e; decide
   ·cases e
  symm
  apply decide_eq_true
  dsimp only
  omega
 | none =>
  obtain ⟨h1, h2, h3⟩ := tgF_found b.steps i 0 s h rfl
  have hs : stF b.steps s.name = some (tgF b.steps s.name 0).1 := by unfold stF; rw [if_pos h1]
  rw [hs]
  show (false || decide ((tgF b.steps s.name 0).1 < (i : Int))) = decide ((tgF b.steps s.name 0).1 ≠ (i : Int))
  rw [Bool.false_or]
  rw [Nat.zero_add] at h2
  by_cases hlt : (tgF b.steps s.name 0).1 < (i : Int)
  ·rw [decide_eq_true hlt, decide_eq_true (by omega)]
  ·rw [decide_eq_false hlt, decide_eq_false (by omega)]
def bE (c : Bool) (e : Int) : Int := if c = true then e else 0
def lineE (b : GBook) (send : List B) : Int := match Vars.names send with
 | .error _ => 2
 | .ok l => if l.any (fun n => decide (atOf (varsOf b) n < 0)) then 9 else 0
def patE (pat : List B) : Int := match Reg.parse pat with
 | .error (bad, _) => (bad : Int)
 | .ok ops => match Nfa.build ops with
  | .error bad => (bad : Int)
  | .ok _ => 0
def rowS (b : GBook) (i : Nat) (s : GStep) : List Int := [bE (decide (30 ≤ i)) 3, bE (takenF b.steps s.name i) 6, bE (!(decide (s.tag = 0) || decide (s.tag = 1) || decide (s.tag = 2))) 1, bE (s.sends == decide (s.tag = 0)) 1, bE (decide (s.tag = 1) && !decide (s.try_ = 0)) 1,
 bE (!(decide (1 ≤ s.time) && decide (s.time ≤ 100))) 1, bE (!(decide (0 ≤ s.try_) && decide (s.try_ ≤ 5))) 1, lineE b s.send, bE (!(tgtF b.steps s.els).2) 9]
def rowA (b : GBook) (k : Nat) (a : GArm) : List Int := [bE (decide (6 ≤ k)) 3, patE a.pat, bE (decide (8 ≤ atOf (varsOf b) a.as_)) 3, bE (!(tgtF b.steps a.go).2) 9]
def rowB (b : GBook) : List Int := [bE (decide (b.steps.length = 0)) 4, bE (!(decide (1 ≤ b.most) && decide (b.most ≤ 1000))) 1]
theorem firstE_bE {c : Bool} {e : Int} {l : List Int} (h : e ≠ 0) : firstE (bE c e :: l) = if c = true then e else firstE l := by
 unfold bE
 cases c
 ·rw [if_neg (by simp), if_neg (by simp)]; exact firstE_miss rfl
 ·rw [if_pos rfl, if_pos rfl]; exact firstE_hit h
theorem row_step {b : GBook} {i : Nat} {s : GStep} (h : b.steps[i]? = some s) : firstE (rowS b i s) = stepBad b i s := by
 have hS : stepBad b i s = if 30 ≤ i then 3 else if (target b s.name).1 ≠ (i : Int) then 6 else if numsBad s then 1 else firstE [lineE b s.send, bE (!(target b s.els).2) 9] := by
  unfold stepBad lineE
  cases Vars.names s.send with
  | error e => rfl
  | ok l =>
   dsimp only
   cases l.any (fun n => decide (atOf (varsOf b) n < 0)) <;> cases (target b s.els).2 <;> rfl
 rw [hS]
 unfold rowS
 rw [firstE_bE (by decide), firstE_bE (by decide), firstE_bE (by decide), firstE_bE (by decide), firstE_bE (by decide), firstE_bE (by decide), firstE_bE (by decide), taken_eq h, tgt_eq]
 by_cases h30 : 30 ≤ i
 ·rw [if_pos h30, if_pos (decide_eq_true h30)]
 rw [if_neg h30, if_neg (by rw [decide_eq_false h30]; decide)]
 by_cases ht : (target b s.name).1 ≠ (i : Int)
 ·rw [if_pos ht, if_pos (decide_eq_true ht)]
 rw [if_neg ht, if_neg (by rw [decide_eq_false ht]; decide)]
 generalize firstE [lineE b s.send, bE (!(target b s.els).2) 9] = E
 unfold numsBad
 obtain ⟨q, hq⟩ : ∃ q : Bool, q = (decide (s.tag < 0) || decide (2 < s.tag) || (s.sends && decide (s.tag = 0)) || (!s.sends && !decide (s.tag = 0)) || (decide (s.tag = 1) && !decide (s.try_ = 0)) || decide (s.time < 1) || decide (100 < s.time) || decide (s.try_ < 0) || decide (5 < s.try_)) := ⟨_, rfl⟩
 rw [← hq]
 have e1 : (!(decide (s.tag = 0) || decide (s.tag = 1) || decide (s.tag = 2))) = (decide (s.tag < 0) || decide (2 < s.tag)) := by
  rw [Bool.eq_iff_iff]; simp <;> omega
 have e2 : (s.sends == decide (s.tag = 0)) = (s.sends && decide (s.tag = 0) || !s.sends && !decide (s.tag = 0)) := by
  cases s.sends <;> cases decide (s.tag = 0) <;> rfl
 have e3 : (!(decide (1 ≤ s.time) && decide (s.time ≤ 100))) = (decide (s.time < 1) || decide (100 < s.time)) := by
  rw [Bool.eq_iff_iff]; simp <;> omega
 have e4 : (!(decide (0 ≤ s.try_) && decide (s.try_ ≤ 5))) = (decide (s.try_ < 0) || decide (5 < s.try_)) := by
  rw [Bool.eq_iff_iff]; simp <;> omega
 rw [e1, e2, e3, e4]
 rw [hq]
 generalize decide (s.tag < 0) = a1
 generalize decide (2 < s.tag) = a2
 generalize (s.sends && decide (s.tag = 0)) = a3
 generalize (!s.sends && !decide (s.tag = 0)) = a4
 generalize (decide (s.tag = 1) && !decide (s.try_ = 0)) = a5
 generalize decide (s.time < 1) = a6
 generalize decide (100 < s.time) = a7
 generalize decide (s.try_ < 0) = a8
 generalize decide (5 < s.try_) = a9
 clear e1 e2 e3 e4 hq
 cases a1 <;> cases a2 <;> cases a3 <;> cases a4 <;> cases a5 <;> cases a6 <;> cases a7 <;> cases a8 <;> cases a9 <;> rfl
theorem row_arm (b : GBook) (k : Nat) (a : GArm) : firstE (rowA b k a) = armBad b k a := by
 unfold rowA armBad
 rw [firstE_bE (by decide)]
 by_cases h : 6 ≤ k
 ·rw [if_pos h, if_pos (decide_eq_true h)]
 rw [if_neg h, if_neg (by rw [decide_eq_false h]; decide)]
 unfold patE
 cases hp : Reg.parse a.pat with
 | error q =>
  obtain ⟨bad, p⟩ := q
  have := parse_bad hp
  exact firstE_hit (by dsimp only; omega)
 | ok ops =>
  dsimp only
  cases hb : Nfa.build ops with
  | error bad =>
   have := build_bad hb
   exact firstE_hit (by dsimp only; omega)
  | ok l =>
   rw [firstE_miss rfl, firstE_bE (by decide), tgt_eq]
   dsimp only
   by_cases h8 : 8 ≤ atOf (varsOf b) a.as_
   ·rw [if_pos h8, if_pos (decide_eq_true h8)]
   rw [if_neg h8, if_neg (by rw [decide_eq_false h8]; decide)]
   cases (target b a.go).2 <;> rfl
theorem row_book (b : GBook) : check b = if firstE (rowB b) ≠ 0 then (firstE (rowB b), 0) else stepsBad b 0 b.steps := by
 unfold rowB check
 rw [firstE_bE (by decide), firstE_bE (by decide)]
 by_cases h0 : b.steps = []
 ·rw [if_pos h0, if_pos (decide_eq_true (by rw [h0]; rfl)), if_pos (by decide)]
 rw [if_neg h0, if_neg (show ¬ (decide (b.steps.length = 0) = true) by rw [decide_eq_false (fun e => h0 (List.eq_nil_of_length_eq_zero e))]; decide)]
 by_cases hm : b.most < 1 ∨ 1000 < b.most
 ·have : (!(decide (1 ≤ b.most) && decide (b.most ≤ 1000))) = true := by simp; omega
  rw [if_pos hm, if_pos this, if_pos (by decide)]
 ·have : (!(decide (1 ≤ b.most) && decide (b.most ≤ 1000))) = false := by simp; omega
  rw [if_neg hm, this]; rfl
def varF (o : List (List B)) (as_ : List B) : Int := if as_ = [] then -1 else (vaF o as_).getD 0
theorem at_more {o : List (List B)} {x : List B} (h : 0 ≤ atOf o x) : ∀ (l : List GArm), 0 ≤ atOf (l.foldl varA o) x
 | [] => h
 | a :: l => by
  rw [List.foldl_cons]
  refine at_more ?_ l
  unfold varA
  split
  ·unfold atOf at h ⊢; rw [atF_app _ _ _ _ h]; exact h
  ·exact h
theorem at_mores {x : List B} : ∀ (l : List GStep) (o : List (List B)), 0 ≤ atOf o x → 0 ≤ atOf (l.foldl varS o) x
 | [], o, h => h
 | s :: l, o, h => by rw [List.foldl_cons]; exact at_mores l _ (at_more h s.arms)
theorem at_arm {x : List B} (hx : x ≠ []) : ∀ (l : List GArm) (o : List (List B)) (a : GArm), a ∈ l → a.as_ = x → 0 ≤ atOf (l.foldl varA o) x
 | c :: l, o, a, h, he => by
  rw [List.foldl_cons]
  rcases List.mem_cons.1 h with rfl | h
  ·refine at_more ?_ l
   unfold varA
   split
   ·rename_i hc
    rw [he] at hc ⊢
    have := atF_new o x 0 hc.2
    unfold atOf
    rw [this]; omega
   ·rename_i hc
    rw [he] at hc
    have : ¬ atOf o x < 0 := fun e => hc ⟨hx, e⟩
    omega
  ·exact at_arm hx l _ a h he
theorem at_step {x : List B} (hx : x ≠ []) : ∀ (l : List GStep) (o : List (List B)) (s : GStep) (a : GArm), s ∈ l → a ∈ s.arms → a.as_ = x → 0 ≤ atOf (l.foldl varS o) x
 | c :: l, o, s, a, h, ha, he => by
  rw [List.foldl_cons]
  rcases List.mem_cons.1 h with rfl | h
  ·exact at_mores l _ (at_arm hx s.arms o a ha he)
  ·exact at_step hx l _ s a h ha he
theorem no_empty_arm : ∀ (l : List GArm) (o : List (List B)), [] ∉ o → [] ∉ l.foldl varA o
 | [], o, h => h
 | a :: l, o, h => by
  rw [List.foldl_cons]
  refine no_empty_arm l _ ?_
  unfold varA
  split
  ·rename_i hc
   intro hm
   rcases List.mem_append.1 hm with hm | hm
   ·exact h hm
   ·rw [List.mem_singleton] at hm; exact hc.1 hm.symm
  ·exact h
theorem no_empty : ∀ (l : List GStep) (o : List (List B)), [] ∉ o → [] ∉ l.foldl varS o
 | [], o, h => h
 | s :: l, o, h => by rw [List.foldl_cons]; exact no_empty l _ (no_empty_arm s.arms o h)
theorem var_eq {b : GBook} {s : GStep} {a : GArm} (hs : s ∈ b.steps) (ha : a ∈ s.arms) : varF (varsOf b) a.as_ = atOf (varsOf b) a.as_ := by
 unfold varF
 by_cases h : a.as_ = []
 ·rw [if_pos h, h]
  have h0 : ¬ 0 ≤ atOf (varsOf b) [] := fun e => no_empty b.steps [] (by simp) (atF_mem _ _ 0 e)
  have := atF_ge (varsOf b) [] 0
  unfold atOf at h0 ⊢
  omega
 ·rw [if_neg h]
  have h0 : 0 ≤ atOf (varsOf b) a.as_ := at_step h b.steps [] s a hs ha rfl
  unfold vaF
  rw [if_neg (by omega)]
  rfl
end Go.Proofs.YteohlpmojfjjdaaGreat.Chk
end
section
namespace Go.Proofs.YteohlpmojfjjdaaGreat.Lex
open Go.RowKit
theorem b_lit {x : BitVec 8} {k : Nat} (hk : k < 256) : ((x.toNat : Int) == (k : Int)) = decide (x = BitVec.ofNat 8 k) := by
 rw [Bool.eq_iff_iff]
 simp only [beq_iff_eq, decide_eq_true_eq]
 constructor
 ·intro h
  apply BitVec.eq_of_toNat_eq
  rw [BitVec.toNat_ofNat, Nat.mod_eq_of_lt (by omega)]
  omega
 ·rintro rfl
  rw [BitVec.toNat_ofNat, Nat.mod_eq_of_lt (by omega)]
theorem b_ne {x : BitVec 8} {k : Nat} (hk : k < 256) (h : x ≠ BitVec.ofNat 8 k) : ((x.toNat : Int) == (k : Int)) = false := by rw [b_lit hk]; exact decide_eq_false h
theorem drop_at {s : List (BitVec 8)} {q : Nat} {c : BitVec 8} (h : s[q]? = some c) : s.drop q = c :: s.drop (q + 1) := by
 obtain ⟨hl, rfl⟩ := List.getElem?_eq_some_iff.1 h
 exact List.drop_eq_getElem_cons hl
end Go.Proofs.YteohlpmojfjjdaaGreat.Lex
end
section
namespace Go.Proofs.YteohlpmojfjjdaaGreat.Lex
open Go.RowKit
theorem rowB : ByteRow Tryz.prog 41 5 := ByteRow.mk' Tryz.underlying41 (by kernel_rfl)
theorem own_room {w : World} {base n c e size : Nat} {A : Option Addr} {us : List Value} (h : w.ownsRow base e size (.slice A n c) n us) : n ≤ c := by
 rcases h.2 with ⟨hv, rfl⟩ | ⟨g, cap, cur, hv, _, _, h1, _⟩
 ·exact Nat.zero_le _
 ·simp only [Value.slice.injEq] at hv
  obtain ⟨_, _, rfl⟩ := hv
  exact h1
def Owb (w : World) (B : Nat) (A : Option Addr) (n c : Nat) (o : List (BitVec 8)) : Prop := w.ownsRow B 5 1 (.slice A n c) n (o.map v8)
theorem Owb.len {w : World} {B n c : Nat} {A : Option Addr} {o : List (BitVec 8)} (h : Owb w B A n c o) : o.length = n := by have := h.1; simpa using this
theorem Owb.nil_ (w : World) (B : Nat) : Owb w B none 0 0 [] := World.ownsRow_nil _ _ _ _
theorem Owb.below {w w' : World} {B n c : Nat} {A : Option Addr} {o : List (BitVec 8)} (h : Owb w B A n c o) (hb : Below w.heap.size w w') : Owb w' B A n c o := own_frm (l := []) h (Frm.of_below hb) (by simp)
theorem lit_one (w : World) (x : BitVec 8) : Bs (w.alloc (.cells #[v8 x] 5)) (w.heap.size + 1) (some ⟨w.heap.size, 0, none⟩) 1 [x] := Bs.lit w 5 (0, 0) #[v8 x] [x] rfl 1 rfl
theorem add_pos' (ad : Addr) (k : Nat) (h : 0 < k) : ad.add k = ⟨ad.block, ad.off + k, none⟩ := by
 unfold Addr.add; rw [if_neg (by omega)]
end Go.Proofs.YteohlpmojfjjdaaGreat.Lex
end
section
namespace Go.Proofs.YteohlpmojfjjdaaGreat.Lex
open Go.RowKit
def Tx (w : World) (B : Nat) (A : Option Addr) (t : List (BitVec 8)) : Prop := Bs w B A t.length t ∨ By w A t.length t
theorem Tx.below {w w' : World} {B : Nat} {A : Option Addr} {t : List (BitVec 8)} (h : Tx w B A t) (hB : B ≤ w.heap.size) (hb : Below w.heap.size w w') : Tx w' B A t := by
 rcases h with h | h
 ·exact .inl (h.below (hb.mono hB))
 ·exact .inr (h.below hb)
theorem results_at3 {P : Program} {fn : Func} {tmps : Array Value} {w : World} (a : Tmp) (t : TypeId) (b c : Tmp) (hr : fn.results = #[.cell a t, .tmp b, .tmp c]) (ad : Addr) (ha : tmps.getD a undef = .pointer (some ad)) (v u x : Value) (hu : tmps.getD b undef = u) (hx : tmps.getD c undef = x) (hl : (loadVar t ad).run P w = .ok v w) :
  (results fn tmps).run P w = .ok (.tuple #[v, u, x]) w := by
 unfold results
 rw [hr]
 simp only [List.mapM_toArray, List.mapM_cons, List.mapM_nil, ha, hu, hx, asAddr]
 simp [hl]
theorem run_cutMid {P : Program} (w : World) {t e : TypeId} {size : Nat} (ht : P.underlying t = some (.slice e)) (hs : (P.info? e).map (·.size) = some size) (A : Option Addr) (n c l h : Nat) (q q' : IntKind) (hl : l ≤ h) (hh : h ≤ c) :
  (Instr.sliceAt t (.slice A n c) (some (.int q l)) (some (.int q' h)) none).run P w = .ok (.slice (if c = l then A else A.map (·.add (l * size))) (h - l) (c - l)) w := by
 have he : P.elem t = e := by unfold Program.elem; rw [ht]
 have ht' : P.underlying t = some (.slice (P.elem t)) := by rw [he]; exact ht
 rw [run_sliceAt_slice w t _ _ _ _ ht', run_slice_lh w t A n c ht' q q' l h (by omega) (by omega) (by omega)]
 have hso : (sizeOf (P.elem t)).run P w = .ok size w := by
  rw [he]
  cases hq : P.info? e with
  | none => rw [hq] at hs; cases hs
  | some i => rw [hq] at hs; simp at hs; simp [sizeOf, typeInfo, hq, hs]
 rw [hso]
 simp only [Result.andThen, sliced, Int.toNat_natCast]
theorem bs_cut {w : World} {B m c f t : Nat} {A : Option Addr} {bs : List (BitVec 8)} (h : Bs w B A m bs) (hf : f ≤ t) (ht : t ≤ m) (hc : m ≤ c) : Bs w B (if c = f then A else A.map (·.add (f * 1))) (t - f) ((bs.take t).drop f) := by
 have := ((Bs.bp h).take ht).cut (cap := c) hf (by omega)
 rw [Nat.mul_one]
 exact this
end Go.Proofs.YteohlpmojfjjdaaGreat.Lex
end
section
namespace Go.Proofs.YteohlpmojfjjdaaGreat.Lex
open Go.RowKit
structure Tv where
 t : Tok
 A : Option Addr
 c : Nat
def Tv.cells (v : Tv) : List Value := [.int .i64 v.t.t.kind, .int .i64 (v.t.at_ : Int), .int .i64 v.t.t.n, .slice v.A v.t.t.text.length v.c]
def tflat (vs : List Tv) : List Value := vs.flatMap Tv.cells
theorem tflat_app (us vs : List Tv) : tflat (us ++ vs) = tflat us ++ tflat vs := by simp [tflat]
theorem tflat_len (us : List Tv) : (tflat us).length = us.length * 4 := by
 induction us with
 | nil => rfl
 | cons x l ih => rw [tflat, List.flatMap_cons, List.length_append, show (l.flatMap Tv.cells) = tflat l from rfl, ih]; show 4 + l.length * 4 = (l.length + 1) * 4; omega
def Caps (vs : List Tv) : Prop := ∀ v ∈ vs, v.t.t.text.length ≤ v.c
end Go.Proofs.YteohlpmojfjjdaaGreat.Lex
end
