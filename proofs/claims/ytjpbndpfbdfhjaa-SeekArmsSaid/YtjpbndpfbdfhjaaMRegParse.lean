/-
  The program's parser of patterns (layer 8): Parse.
-/
import Derived.Test.YtjpbndpfbdfhjaaMRegSteps
namespace Go.Proofs.Ytjpbndpfbdfhjaa.Reg
open Go.RowKit
set_option linter.unusedVariables false
set_option linter.unusedSimpArgs false

theorem results3 {P : Program} {fn : Func} {tmps : Array Value} {w : World} (a b c : Tmp) (hr : fn.results = #[.tmp a, .tmp b, .tmp c]) (u v x : Value) (ha : tmps.getD a undef = u) (hb : tmps.getD b undef = v) (hc : tmps.getD c undef = x) : (results fn tmps).run P w = .ok (.tuple #[u, v, x]) w := by
  unfold results
  rw [hr]
  simp only [List.mapM_toArray, List.mapM_cons, List.mapM_nil, ha, hb, hc]
  simp
theorem Below.drewN9 {B : Nat} {w w' : World} (h : Below B w w') (m : Nat) : Below B w (w'.drewN m) := ⟨h.os, h.tape, h.output, h.size, h.block⟩
theorem pieceEnd_length (s : List (BitVec 8)) (x : St) : (pieceEnd s x).ops.length ≤ x.ops.length + 2 := by
  show (x.ops ++ (if repet s x.at_ = 0 then [] else [one (repet s x.at_)]) ++ (if x.inner.hp then [one 3] else [])).length ≤ _
  split <;> cases x.inner.hp <;> simp
theorem step_few {s : List (BitVec 8)} {x y : St} {c : BitVec 8} (h : step s x c = .ok y) : y.ops.length ≤ x.ops.length + 4 ∧ (x.outer.length ≤ 8 → y.outer.length ≤ 8) := by
  unfold step at h
  split at h
  · split at h
    · cases h
    · rename_i hn
      injection h with h; subst h
      exact ⟨Nat.le_add_right _ _, fun q => by show (x.inner :: x.outer).length ≤ 8; simp; omega⟩
  · split at h
    · split at h
      · cases h
      · rename_i l K hK
        injection h with h; subst h
        have h1 := branchEnd_length x
        have h2 := pieceEnd_length s ⟨x.at_ + 1, (branchEnd x).ops, l, K⟩
        refine ⟨by simp only at h2; omega, fun q => ?_⟩
        show K.length ≤ 8
        rw [hK] at q; simp at q; omega
    · split at h
      · injection h with h; subst h
        have h1 := branchEnd_length ⟨x.at_ + 1, x.ops, x.inner, x.outer⟩
        exact ⟨by simp only at h1; omega, fun q => q⟩
      · split at h
        · cases h
        · rename_i o j hj
          injection h with h; subst h
          have h2 := pieceEnd_length s ⟨j, x.ops ++ [o], x.inner, x.outer⟩
          exact ⟨by simp at h2; omega, fun q => q⟩

theorem step_call (w : World) (B b : Nat) (A : Option Addr) (n c : Nat) (s : List (BitVec 8)) (x : St) (y : BitVec 8) (h : Pz w B b A n c s x) (hB : B ≤ w.heap.size) (hd : x.outer.length ≤ 8) (hn : n ≤ 100000) (hlen : x.ops.length ≤ 8000) (hy : s[x.at_]? = some y) :
    Calls Try.prog 45 #[.pointer (some ⟨b, 0, none⟩), v8 y] w (StSays w B b A n c s (step s x y)) := by
  have hk : x.at_ < n := by rw [← h.bs.len]; exact get_lt hy
  by_cases h40 : y = 40#8
  · subst h40; exact step_open w B b A n c s x h hB hd hk hn
  by_cases h41 : y = 41#8
  · subst h41; exact step_close w B b A n c s x h hB hd hk hn hlen
  by_cases h124 : y = 124#8
  · subst h124; exact step_bar w B b A n c s x h hB hk hn hlen
  exact step_atom w B b A n c s x y h hB hk hn hlen hy h40 h41 h124

/-- What parse returns. -/
def PaSays (w : World) (B b : Nat) (A : Option Addr) (n c : Nat) (s : List (BitVec 8)) (r : Except (Nat × Nat) (List Rop)) (e : Ending) (w' : World) : Prop := match r with
  | .error (bad, p) => e = .returned (.int .i64 (bad : Int)) ∧ bad ≠ 0 ∧ (∃ y, Pz w' B b A n c s y ∧ y.at_ = p) ∧ Below B w w'
  | .ok l => e = .returned (.int .i64 0) ∧ (∃ y, Pz w' B b A n c s y ∧ y.ops = l) ∧ Below B w w'
theorem step_bad {s : List (BitVec 8)} {x : St} {c : BitVec 8} {bad p : Nat} (h : step s x c = .error (bad, p)) : bad ≠ 0 := by
  unfold step at h
  split at h
  · split at h
    · injection h with h; injection h with h1 h2; omega
    · cases h
  · split at h
    · split at h
      · injection h with h; injection h with h1 h2; omega
      · cases h
    · split at h
      · cases h
      · split at h
        · injection h with h; injection h with h1 h2; omega
        · cases h
/-- What peek returns at a place, in two parts. -/
theorem PkSays_none {s : List (BitVec 8)} {k : Nat} (h : s[k]? = none) : PkSays s k = .tuple #[.int .u8 0, .bool false] := by unfold PkSays; rw [h]
theorem PkSays_some {s : List (BitVec 8)} {k : Nat} {x : BitVec 8} (h : s[k]? = some x) : PkSays s k = .tuple #[v8 x, .bool true] := by unfold PkSays; rw [h]
/-- The byte that is looked at. -/
def Seen (s : List (BitVec 8)) (k : Nat) (u v : Value) : Prop := (s[k]? = none ∧ u = .int .u8 0 ∧ v = .bool false) ∨ ∃ x, s[k]? = some x ∧ u = v8 x ∧ v = .bool true

set_option maxRecDepth 100000 in
set_option maxHeartbeats 1000000 in
theorem parse_call (w : World) (B b : Nat) (A : Option Addr) (n c : Nat) (s : List (BitVec 8)) (x : St) (h : Pz w B b A n c s x) (hB : B ≤ w.heap.size) (hk : x.at_ ≤ n) (hd : x.outer.length ≤ 8) (hn : n ≤ 100) (hlen : x.ops.length ≤ 4 * x.at_) :
    Calls Try.prog 35 #[.pointer (some ⟨b, 0, none⟩)] w (PaSays w B b A n c s (run s x)) := by
  have hlow := h.low
  have hsl := h.bs.len
  obtain ⟨ov, iv, hp, hre⟩ := h.open_
  have con := peek_call w B b A n c x.at_ s ov x.inner.hb x.inner.hp iv hp h.bs hk
  have HP := Lib.hid hp
  have HRE := Lib.hid hre
  clear h hp hre
  go_enter Try.func35, Try.ntmps35
  go_wp2_with fail
  refine con.mono ?_
  clear con
  rintro e w1 ⟨rfl, hd1⟩
  have hz1 : Pz w1 B b A n c s x := HRE.out w1 _ (At.of_dr HP.out hd1)
  obtain ⟨u0, v0, hs0, hp0⟩ : ∃ u v, Seen s x.at_ u v ∧ PkSays s x.at_ = .tuple #[u, v] := by
    rcases hq : s[x.at_]? with _ | q
    · exact ⟨_, _, .inl ⟨hq, rfl, rfl⟩, PkSays_none hq⟩
    · exact ⟨_, _, .inr ⟨q, hq, rfl, rfl⟩, PkSays_some hq⟩
  rw [hp0]
  have HS0 := Lib.hid hs0
  have HZ1 := Lib.hid hz1
  have HB1 := Lib.hid (hd1.below B)
  clear hs0 hp0 hz1 hd1
  go_wp2_with fail
  go_loopw [3, 4] (fun u v wr => ∃ y, Pz wr B b A n c s y ∧ Below B w wr ∧ run s x = run s y ∧ y.at_ ≤ n ∧ y.outer.length ≤ 8 ∧ y.ops.length ≤ 4 * y.at_ ∧ Seen s y.at_ u v) (fun _ _ wr => n - kOf b wr)
  case atStart => exact ⟨x, HZ1.out, HB1.out, rfl, hk, hd, hlen, HS0.out⟩
  case round =>
    obtain ⟨y, hz, hby, hrun, hyk, hyd, hyl, hseen⟩ := hrel
    have HZ := Lib.hid hz
    have HBY := Lib.hid hby
    have HRUN := Lib.hid hrun
    have hsy := hby.size
    have HYL := Lib.hid hyl
    have hyo : y.ops.length ≤ 400 := by omega
    clear hz hby hrun hyl hlen
    rcases hseen with ⟨hno, rfl, rfl⟩ | ⟨ch, hch, rfl, rfl⟩
    · have hyn : y.at_ = s.length := by
        rcases Nat.lt_or_ge y.at_ s.length with q | q
        · rw [List.getElem?_eq_getElem q] at hno; cases hno
        · omega
      have hre := HRUN.out.trans (run_end hyn)
      have HRE2 := Lib.hid hre
      clear hno hre
      go_wp2_with fail
      refine (size_call wr B b A n c s y HZ.out).mono ?_
      rintro e w2 ⟨rfl, rfl⟩
      by_cases ho : y.outer = []
      · have d0 : decide (0 < y.outer.length) = false := by simp [ho]
        have hre := HRE2.out
        rw [if_neg (by simp [ho])] at hre
        have HRE3 := Lib.hid hre
        clear hre ho
        go_wp2_with fail
        refine (endBranch_call wr B b A n c s y HZ.out (by omega) (by omega)).mono ?_
        rintro e w3 ⟨rfl, hz3, hb3⟩
        have HZ3 := Lib.hid hz3
        have HB3 := Lib.hid (HBY.out.trans hb3.low)
        clear hz3 hb3
        go_wp2_with fail
        go_ret
        rw [HRE3.out]
        exact ⟨rfl, ⟨_, HZ3.out, rfl⟩, HB3.out⟩
      · have d0 : decide (0 < y.outer.length) = true := decide_eq_true (List.length_pos_iff.2 ho)
        have hre := HRE2.out
        rw [if_pos ho] at hre
        have HRE3 := Lib.hid hre
        clear hre ho
        go_wp2_with fail
        go_ret
        rw [HRE3.out]
        exact ⟨rfl, by decide, ⟨_, HZ.out, rfl⟩, HBY.out⟩
    · have hre := HRUN.out.trans (run_step hch)
      have HRE2 := Lib.hid hre
      have con := step_call wr B b A n c s y ch HZ.out (by omega) hyd (by omega) (by omega) hch
      have HCH := Lib.hid hch
      clear hch hre
      go_wp2_with fail
      refine con.mono ?_
      clear con
      rintro e w2 hsay
      rcases hst : step s y ch with ⟨bad, p⟩ | z <;> rw [hst] at hsay HRE2 <;> dsimp only [StSays] at hsay HRE2
      · obtain ⟨rfl, hz2, hb2⟩ := hsay
        have hbad := step_bad hst
        have d0 : ((bad : Int) != 0) = true := by rw [bne_iff_ne]; omega
        have HZ2 := Lib.hid hz2
        have HB2 := Lib.hid (HBY.out.trans hb2)
        clear hz2 hb2 hst
        go_wp2_with fail
        go_ret
        rw [HRE2.out]
        exact ⟨rfl, hbad, HZ2.out, HB2.out⟩
      · obtain ⟨rfl, hz2, hb2⟩ := hsay
        have hat := step_at hst HCH.out
        rw [hsl] at hat
        have hfew := step_few hst
        have hzd := hfew.2 hyd
        have hzl : z.ops.length ≤ 4 * z.at_ := by have := HYL.out; omega
        have hza := hat.1
        have hzn := hat.2
        obtain ⟨ov2, iv2, hp2, hre2⟩ := hz2.open_
        have HP2 := Lib.hid hp2
        have HR2 := Lib.hid hre2
        have HBS2 := Lib.hid hz2.bs
        have HB2 := Lib.hid (HBY.out.trans hb2)
        clear hst hat hfew hz2 hb2 hp2 hre2
        go_wp2_with fail
        refine (peek_call w2 B b A n c z.at_ s ov2 z.inner.hb z.inner.hp iv2 HP2.out HBS2.out hzn).mono ?_
        rintro e w3 ⟨rfl, hd3⟩
        have hz3 : Pz w3 B b A n c s z := HR2.out w3 _ (At.of_dr HP2.out hd3)
        obtain ⟨u0, v0, hs0, hp0⟩ : ∃ u v, Seen s z.at_ u v ∧ PkSays s z.at_ = .tuple #[u, v] := by
          rcases hq : s[z.at_]? with _ | q
          · exact ⟨_, _, .inl ⟨hq, rfl, rfl⟩, PkSays_none hq⟩
          · exact ⟨_, _, .inr ⟨q, hq, rfl, rfl⟩, PkSays_some hq⟩
        rw [hp0]
        have HS3 := Lib.hid hs0
        have HZ3 := Lib.hid hz3
        have HB3 := Lib.hid (HB2.out.trans (hd3.below B))
        clear hs0 hp0 hz3 hd3
        go_wp2_with fail
        obtain ⟨ov3, iv3, hp3, -⟩ := HZ3.out.open_
        obtain ⟨ov4, iv4, hp4, -⟩ := HZ.out.open_
        exact ⟨⟨z, HZ3.out, HB3.out, HRE2.out, hzn, hzd, hzl, HS3.out⟩, by rw [kOf_pc hp3, kOf_pc hp4]; omega⟩

theorem parseR_full {s : List (BitVec 8)} (h : 80 < s.length) : parse s = .error (3, 0) := by unfold parse; rw [if_pos h]
theorem parseR_run {s : List (BitVec 8)} (h : ¬ 80 < s.length) : parse s = run s St0 := by unfold parse; rw [if_neg h]
/-- What Parse returns: the ops, in an own row; or an error. -/
def ParseSays (w : World) (r : Except (Nat × Nat) (List Rop)) (e : Ending) (w' : World) : Prop := Below w.heap.size w w' ∧ match r with
  | .error (bad, p) => bad ≠ 0 ∧ e = .returned (.tuple #[.slice none 0 0, .int .i64 (p : Int), .int .i64 (bad : Int)])
  | .ok l => ∃ A' c', e = .returned (.tuple #[.slice A' l.length c', .int .i64 0, .int .i64 0]) ∧ Ows w' w.heap.size (.slice A' l.length c') l

set_option maxRecDepth 100000 in
set_option maxHeartbeats 1000000 in
theorem parse_top (w : World) (B : Nat) (A : Option Addr) (n c : Nat) (s : List (BitVec 8)) (hs : Bs w B A n s) (hB : B ≤ w.heap.size) :
    Calls Try.prog 23 #[.slice A n c] w (ParseSays w (parse s)) := by
  have hl := hs.len
  by_cases h80 : 80 < n
  · rw [parseR_full (by omega)]
    have d1 : decide (80 < n) = true := decide_eq_true h80
    clear hs
    go_enter Try.func23, Try.ntmps23
    go_wp2_with fail
    refine bodyPost_ret (v := .tuple #[.slice none 0 0, .int .i64 0, .int .i64 3]) (results3 2 3 4 rfl _ _ _ rfl rfl rfl) rfl ?_
    exact ⟨Below.refl _ _, by decide, rfl⟩
  · rw [parseR_run (by omega)]
    have d1 : decide (80 < n) = false := decide_eq_false h80
    have hn80 : n ≤ 80 := by omega
    generalize hW : w.alloc (.cells #[.slice A n c, .int .i64 0, .slice none 0 0, .bool false, .bool false, .slice none 0 0] 98) = W
    have hWs : W.heap.size = w.heap.size + 1 := by rw [← hW]; simp
    have hbW : Below w.heap.size w W := by rw [← hW]; exact (Below.refl _ _).alloc (Nat.le_refl _) _
    have hcW : Cel W w.heap.size 98 [.slice A n c, .int .i64 0, .slice none 0 0, .bool false, .bool false, .slice none 0 0] := by rw [← hW]; exact Cel.new w _ _
    have hzW : Pz W w.heap.size w.heap.size A n c s St0 := ⟨Nat.le_refl _, (hs.below (hbW.mono hB)).more hB, _, _, hcW, ⟨[], World.ownsRow_nil _ _ _ _, rfl, by simp⟩, World.ownsRow_nil _ _ _ _⟩
    have con := parse_call W w.heap.size w.heap.size A n c s St0 hzW (by omega) (Nat.zero_le _) (by simp [St0]) (by omega) (by simp [St0])
    have HBW := Lib.hid hbW
    clear hs hbW hcW hzW
    go_enter Try.func23, Try.ntmps23
    go_wp2_with fail
    refine con.mono ?_
    clear con hW
    rintro e w2 hsay
    rcases hr : run s St0 with ⟨bad, p⟩ | l <;> rw [hr] at hsay <;> dsimp only [PaSays] at hsay
    · obtain ⟨rfl, hbad, ⟨y, hy, hyp⟩, hb2⟩ := hsay
      have d0 : ((bad : Int) != 0) = true := by rw [bne_iff_ne]; omega
      obtain ⟨ov, iv, hp, -⟩ := hy.open_
      have p1 := Cel.cell hp 1
      have HB2 := Lib.hid (HBW.out.trans hb2)
      rw [hyp] at p1
      have HR := Lib.hid hr
      clear hy hp hb2 hr
      go_wp2_with fail
      go_quiet (fail)
      go_wp2_with fail
      refine bodyPost_ret (v := .tuple #[.slice none 0 0, .int .i64 (p : Int), .int .i64 (bad : Int)]) (results3 2 3 4 rfl _ _ _ rfl rfl rfl) rfl ?_
      unfold ParseSays
      rw [HR.out]
      exact ⟨Below.drewN9 HB2.out _, hbad, rfl⟩
    · obtain ⟨rfl, ⟨y, hy, hyl⟩, hb2⟩ := hsay
      subst hyl
      obtain ⟨ov, iv, hp, ho, -⟩ := hy.st
      obtain ⟨us, q1, q2, q3⟩ := ho.row
      obtain ⟨Ao, co, rfl⟩ := own_form q1
      have p2 := Cel.cell hp 2
      have HB2 := Lib.hid (HBW.out.trans hb2)
      have HO := Lib.hid ho
      have HR := Lib.hid hr
      clear hy hp hb2 hr ho q1 q2 q3
      go_wp2_with fail
      refine bodyPost_ret (v := .tuple #[.slice Ao y.ops.length co, .int .i64 0, .int .i64 0]) (results3 2 3 4 rfl _ _ _ rfl rfl rfl) rfl ?_
      unfold ParseSays
      rw [HR.out]
      exact ⟨HB2.out, Ao, co, rfl, HO.out⟩
end Go.Proofs.Ytjpbndpfbdfhjaa.Reg
