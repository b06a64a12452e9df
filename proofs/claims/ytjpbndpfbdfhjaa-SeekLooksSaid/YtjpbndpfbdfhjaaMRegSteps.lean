/-
  The program's parser of patterns (layer 8): a step.
-/
import Derived.Test.YtjpbndpfbdfhjaaMRegBracket
namespace Go.Proofs.Ytjpbndpfbdfhjaa.Reg
open Go.RowKit Go.Proofs.Ytjpbndpfbdfhjaa.Ord
set_option linter.unusedVariables false
set_option linter.unusedSimpArgs false

/-- What a step returns, and where the parser is then. -/
def StSays (w : World) (B b : Nat) (A : Option Addr) (n c : Nat) (s : List (BitVec 8)) (r : Except (Nat × Nat) St) (e : Ending) (w' : World) : Prop := match r with
  | .error (bad, p) => e = .returned (.int .i64 (bad : Int)) ∧ (∃ y, Pz w' B b A n c s y ∧ y.at_ = p) ∧ Below B w w'
  | .ok y => e = .returned (.int .i64 0) ∧ Pz w' B b A n c s y ∧ Below B w w'

set_option maxRecDepth 100000 in
set_option maxHeartbeats 1000000 in
theorem step_open (w : World) (B b : Nat) (A : Option Addr) (n c : Nat) (s : List (BitVec 8)) (x : St) (h : Pz w B b A n c s x) (hB : B ≤ w.heap.size) (hd : x.outer.length ≤ 8) (hk : x.at_ < n) (hn : n ≤ 100000) :
    Calls Try.prog 45 #[.pointer (some ⟨b, 0, none⟩), v8 40#8] w (StSays w B b A n c s (step s x 40#8)) := by
  unfold step
  rw [if_pos rfl]
  by_cases h8 : x.outer.length = 8
  · rw [if_pos h8]
    have con := open_deep w B b A n c s x h h8
    have H := Lib.hid h
    clear h
    go_enter Try.func45, Try.ntmps45
    go_wp2_with fail
    refine con.mono ?_
    rintro e w1 ⟨rfl, rfl⟩
    go_wp2_with fail
    go_ret
    exact ⟨rfl, ⟨x, H.out, rfl⟩, Below.refl _ _⟩
  · rw [if_neg h8]
    have con := open_on w B b A n c s x h hB (by omega) hk hn
    clear h
    go_enter Try.func45, Try.ntmps45
    go_wp2_with fail
    refine con.mono ?_
    rintro e w1 ⟨rfl, hz, hb⟩
    have HZ := Lib.hid hz
    have HB := Lib.hid hb
    clear hz hb
    go_wp2_with fail
    go_ret
    exact ⟨rfl, HZ.out, HB.out⟩

set_option maxRecDepth 100000 in
set_option maxHeartbeats 1000000 in
theorem step_close (w : World) (B b : Nat) (A : Option Addr) (n c : Nat) (s : List (BitVec 8)) (x : St) (h : Pz w B b A n c s x) (hB : B ≤ w.heap.size) (hd : x.outer.length ≤ 8) (hk : x.at_ < n) (hn : n ≤ 100000) (hlen : x.ops.length ≤ 8000) :
    Calls Try.prog 45 #[.pointer (some ⟨b, 0, none⟩), v8 41#8] w (StSays w B b A n c s (step s x 41#8)) := by
  unfold step
  rw [if_neg (by decide), if_pos rfl]
  rcases hx : x.outer with _ | ⟨l, K⟩
  · dsimp only
    have con := close_none w B b A n c s x h hx
    have H := Lib.hid h
    clear h
    go_enter Try.func45, Try.ntmps45
    go_wp2_with fail
    refine con.mono ?_
    rintro e w1 ⟨rfl, hb⟩
    have HB := Lib.hid hb
    clear hb
    go_wp2_with fail
    go_ret
    exact ⟨rfl, ⟨x, H.out.below HB.out hB, rfl⟩, HB.out.mono hB⟩
  · dsimp only
    rw [hx] at hd
    have con := close_on w B b A n c s x l K h hB hx (by simp at hd; omega) hk hn hlen
    clear h
    go_enter Try.func45, Try.ntmps45
    go_wp2_with fail
    refine con.mono ?_
    rintro e w1 ⟨rfl, hz, hb⟩
    have HZ := Lib.hid hz
    have HB := Lib.hid hb
    clear hz hb
    go_wp2_with fail
    go_ret
    exact ⟨rfl, HZ.out, HB.out⟩

set_option maxRecDepth 100000 in
set_option maxHeartbeats 1000000 in
theorem step_bar (w : World) (B b : Nat) (A : Option Addr) (n c : Nat) (s : List (BitVec 8)) (x : St) (h : Pz w B b A n c s x) (hB : B ≤ w.heap.size) (hk : x.at_ < n) (hn : n ≤ 100000) (hlen : x.ops.length ≤ 8000) :
    Calls Try.prog 45 #[.pointer (some ⟨b, 0, none⟩), v8 124#8] w (StSays w B b A n c s (step s x 124#8)) := by
  unfold step
  rw [if_neg (by decide), if_neg (by decide), if_pos rfl]
  have hlow := h.low
  obtain ⟨ov, iv, hp, hset⟩ := h.set
  have p1 := Cel.cell hp 1
  have f1 := Cel.free hp 1
  have hz1 := hset 1 (.int .i64 ((x.at_ : Int) + 1)) (x.at_ + 1) x.inner (by simp)
  have hb1 := set_below w hlow 1 (.int .i64 ((x.at_ : Int) + 1))
  have hs1 := hb1.size
  have con := endBranch_call _ B b A n c s _ hz1 (by omega) (by show x.ops.length ≤ _; omega)
  have HB1 := Lib.hid hb1
  clear h hp hset hz1 hb1
  go_enter Try.func45, Try.ntmps45
  go_wp2_with fail
  refine con.mono ?_
  rintro e w1 ⟨rfl, hz, hb⟩
  have HZ := Lib.hid hz
  have HB := Lib.hid (HB1.out.trans hb.low)
  clear hz hb
  go_wp2_with fail
  go_ret
  exact ⟨rfl, HZ.out, HB.out⟩

/-- What the region of step reads. -/
def Still3 (b g : Nat) (v x0 x1 x2 : Value) (V : World) : Prop := V.cell? ⟨b, 2, none⟩ = some v ∧ V.cell? ⟨g, 0, none⟩ = some x0 ∧ V.cell? ⟨g, 1, none⟩ = some x1 ∧ V.cell? ⟨g, 2, none⟩ = some x2
set_option maxRecDepth 100000 in
set_option maxHeartbeats 1000000 in
theorem step_atom (w : World) (B b : Nat) (A : Option Addr) (n c : Nat) (s : List (BitVec 8)) (x : St) (y : BitVec 8) (h : Pz w B b A n c s x) (hB : B ≤ w.heap.size) (hk : x.at_ < n) (hn : n ≤ 100000) (hlen : x.ops.length ≤ 8000) (hy : s[x.at_]? = some y) (h40 : y ≠ 40#8) (h41 : y ≠ 41#8) (h124 : y ≠ 124#8) :
    Calls Try.prog 45 #[.pointer (some ⟨b, 0, none⟩), v8 y] w (StSays w B b A n c s (step s x y)) := by
  unfold step
  rw [if_neg h40, if_neg h41, if_neg h124]
  have d1 : ((y.toNat : Int) == 40) = false := ne_lit (k := 40) (by decide) h40
  have d2 : ((y.toNat : Int) == 41) = false := ne_lit (k := 41) (by decide) h41
  have d3 : ((y.toNat : Int) == 124) = false := ne_lit (k := 124) (by decide) h124
  have hlow := h.low
  have hsl := h.bs.len
  obtain ⟨ov, iv, hp, hre⟩ := h.open_
  have con := atom_call w B b A n c x.at_ s y ov x.inner.hb x.inner.hp iv hp h.bs hlow hk hn
  have HRE := Lib.hid hre
  have HY := Lib.hid hy
  clear h hp hre h40 h41 h124 hy
  rcases hat : atomL s x.at_ y with p | ⟨o, j⟩ <;> rw [hat] at con <;> dsimp only
  · clear hat
    go_enter Try.func45, Try.ntmps45
    go_wp2_with fail
    refine con.mono ?_
    clear con
    rintro e w1 ⟨rfl, ha⟩
    have HZ := Lib.hid (HRE.out w1 _ ha)
    have hb1 := ha.low hB hlow
    have HB1 := Lib.hid hb1
    have hs1 := hb1.size
    clear ha hb1
    go_wp2_with fail
    go_ret
    exact ⟨rfl, ⟨_, HZ.out.below ((Below.refl _ _).alloc (Nat.le_refl _) _) (by omega), rfl⟩, HB1.out.alloc (by omega) _⟩
  · have hj := atomL_ok hat HY.out
    have hjn : j ≤ n := by rw [← hsl]; exact hj.2.1
    clear hat hj
    go_enter Try.func45, Try.ntmps45
    go_wp2_with fail
    refine con.mono ?_
    clear con
    rintro e w1 ⟨A3, c3, rfl, hsp, ha⟩
    have hz1 := HRE.out w1 _ ha
    have hb1 := ha.low hB hlow
    have hs1 := hb1.size
    obtain ⟨ov1, iv1, hp1, ho1, hl1⟩ := hz1.st
    obtain ⟨us, q1, q2, q3⟩ := ho1.row
    obtain ⟨Ao, co, rfl⟩ := own_form q1
    dsimp only at hp1 q1 q2
    have hln : x.ops.length = x.ops.length := rfl
    generalize hln2 : x.ops.length = ln at q1 hp1 hlen hln
    dsimp only [opV]
    generalize hm3 : o.sp.length = m3
    generalize hW : w1.alloc (.cells #[.int .i64 o.kind, .bool o.neg, .slice A3 m3 c3] 122) = W
    have hWs : W.heap.size = w1.heap.size + 1 := by rw [← hW]; simp
    have hbW : Below w1.heap.size w1 W := by rw [← hW]; exact (Below.refl _ _).alloc (Nat.le_refl _) _
    have hcW : Cel W w1.heap.size 122 [.int .i64 o.kind, .bool o.neg, .slice A3 m3 c3] := by rw [← hW]; exact Cel.new w1 _ _
    have hbw := hp1.lt
    have hpW : Pc W b (.slice A n c) j (.slice Ao ln co) x.inner.hb x.inner.hp iv1 := Cel.below hp1 hbW hbw
    have hH : Still3 b w1.heap.size (.slice Ao ln co) (.int .i64 o.kind) (.bool o.neg) (.slice A3 m3 c3) W.drew := ⟨Cel.cell hpW 2, Cel.cell hcW 0, Cel.cell hcW 1, Cel.cell hcW 2⟩
    have hb5 : Below w1.heap.size w1 (W.alloc (.cells #[.int .i64 o.kind, .bool o.neg, .slice A3 m3 c3] 122)).drew := (hbW.alloc (by omega) _).drew
    have HB5 := Lib.hid hb5
    have H5 := Lib.hid (own_frm (l := []) q1 (Frm.of_below hb5) (by simp))
    have HC5 := Lib.hid ((hcW.alloc (.cells #[.int .i64 o.kind, .bool o.neg, .slice A3 m3 c3] 122)).drew)
    have HP5 := Lib.hid (show Pc (W.alloc (.cells #[.int .i64 o.kind, .bool o.neg, .slice A3 m3 c3] 122)).drew b (.slice A n c) j (.slice Ao ln co) x.inner.hb x.inner.hp iv1 from Cel.below hp1 hb5 hbw)
    have hsrc := Lib.hid (Ry.src (m := 1) (Ry.of_cel (show Cel (W.alloc (.cells #[.int .i64 o.kind, .bool o.neg, .slice A3 m3 c3] 122)).drew (w1.heap.size + 1) 122 [.int .i64 o.kind, .bool o.neg, .slice A3 m3 c3] by rw [← hWs]; exact Cel.new W _ _)) (by simp))
    have HSP := Lib.hid (Ry.below hsp hb5)
    have HFL := Lib.hid (show oflat us ++ [.int .i64 o.kind, .bool o.neg, .slice A3 m3 c3] = oflat (us ++ [⟨o, A3, c3⟩]) from by rw [oflat_snoc, ← hm3]; rfl)
    have HBS := Lib.hid hz1.bs
    have HP1 := Lib.hid hp1
    have HL1 := Lib.hid hl1
    have HB1 := Lib.hid hb1
    have HQ1 := Lib.hid q1
    have HQ2 := Lib.hid q2
    have HQ3 := Lib.hid q3
    have HLN := Lib.hid hln2
    clear hsp ha hz1 hb1 hp1 ho1 hl1 q1 q2 q3 hb5 hcW hpW hbW hln hln2 hm3
    go_wp2_with fail
    clear hW
    refine wp_region_N [10] (Still3 b w1.heap.size (.slice Ao ln co) (.int .i64 o.kind) (.bool o.neg) (.slice A3 m3 c3)) (by kernel_rfl) ?_
    refine wpAnyN_take (i := 0) (v := .pointer (some ⟨b, 0, none⟩)) [10] (by kernel_rfl) rfl (by kernel_rfl) (by kernel_rfl) (by kernel_rfl) (fun _ _ _ h => h) (Or.inl ⟨by rfl, ?_⟩) hH ?_
    · intro V hV; go_simp
    try simp only [Act.put, List.setIfInBounds_toArray, List.set_cons_zero, List.set_cons_succ, List.getElem_toArray, List.getElem_cons_succ, List.getElem_cons_zero]
    refine wpAnyN_take (i := 1) (v := .pointer (some ⟨b, 0, none⟩)) [10] (by kernel_rfl) rfl (by kernel_rfl) (by kernel_rfl) (by kernel_rfl) (fun _ _ _ h => h) (Or.inl ⟨by rfl, ?_⟩) hH ?_
    · intro V hV; go_simp
    try simp only [Act.put, List.setIfInBounds_toArray, List.set_cons_zero, List.set_cons_succ, List.getElem_toArray, List.getElem_cons_succ, List.getElem_cons_zero]
    refine wpAnyN_take (i := 2) (v := .pointer (some ⟨b, 0, none⟩)) [10] (by kernel_rfl) rfl (by kernel_rfl) (by kernel_rfl) (by kernel_rfl) (fun _ _ _ h => h) (Or.inl ⟨by rfl, ?_⟩) hH ?_
    · intro V hV; go_simp
    try simp only [Act.put, List.setIfInBounds_toArray, List.set_cons_zero, List.set_cons_succ, List.getElem_toArray, List.getElem_cons_succ, List.getElem_cons_zero]
    refine wpAnyN_take (i := 3) (v := .pointer (some ⟨b, 2, none⟩)) [10] (by kernel_rfl) rfl (by kernel_rfl) (by kernel_rfl) (by kernel_rfl) (fun _ _ _ h => h) (Or.inl ⟨by rfl, ?_⟩) hH ?_
    · intro V hV; go_simp
    try simp only [Act.put, List.setIfInBounds_toArray, List.set_cons_zero, List.set_cons_succ, List.getElem_toArray, List.getElem_cons_succ, List.getElem_cons_zero]
    refine wpAnyN_take (i := 4) (v := .slice Ao ln co) [10] (by kernel_rfl) rfl (by kernel_rfl) (by kernel_rfl) (by kernel_rfl) (fun _ _ _ h => h) (Or.inl ⟨by rfl, ?_⟩) hH ?_
    · intro V hV; obtain ⟨k0, k1, k2, k3⟩ := hV; go_simp
    try simp only [Act.put, List.setIfInBounds_toArray, List.set_cons_zero, List.set_cons_succ, List.getElem_toArray, List.getElem_cons_succ, List.getElem_cons_zero]
    refine wpAnyN_take (i := 5) (v := .agg #[.int .i64 o.kind, .bool o.neg, .slice A3 m3 c3]) [10] (by kernel_rfl) rfl (by kernel_rfl) (by kernel_rfl) (by kernel_rfl) (fun _ _ _ h => h) (Or.inl ⟨by rfl, ?_⟩) hH ?_
    · intro V hV; obtain ⟨k0, k1, k2, k3⟩ := hV; go_simp
    try simp only [Act.put, List.setIfInBounds_toArray, List.set_cons_zero, List.set_cons_succ, List.getElem_toArray, List.getElem_cons_succ, List.getElem_cons_zero]
    refine wpAnyN_one (i := 6) (by kernel_rfl) rfl (fun K hK => ?_)
    go_simp
    refine hK.out _ _ (.inr ?_) ?_
    · exact ⟨Cel.cell HP5.out 2, HC5.out.cell 0, HC5.out.cell 1, HC5.out.cell 2⟩
    clear hK K
    try simp only [Act.put, List.setIfInBounds_toArray, List.set_cons_zero, List.set_cons_succ, List.getElem_toArray, List.getElem_cons_succ, List.getElem_cons_zero]
    refine wpAnyN_one (i := 7) (by kernel_rfl) rfl (fun K hK => ?_)
    rw [if_pos (by rfl)]
    refine wp_append_any _ _ _ 72 rfl B 122 rowOp (.slice Ao ln co) ln (oflat us) rfl H5.out (some ⟨w1.heap.size + 1, 0, none⟩) 1 1 [.int .i64 o.kind, .bool o.neg, .slice A3 m3 c3] rfl rfl hsrc.out (by intro u hu; simp at hu; rcases hu with rfl | rfl | rfl <;> rfl) (ln + 1) (oflat (us ++ [⟨o, A3, c3⟩])) rfl HFL.out (by unfold maxLen; omega) (by omega) (by simp; omega) ?_
    intro A8 c8 w8 ho8 hg8 _
    obtain ⟨hp8, hz9, hb9⟩ := Pz.pushed (u := ⟨o, A3, c3⟩) (x := ⟨j, x.ops, x.inner, x.outer⟩) HLN.out hlow HBS.out HP1.out HL1.out (by omega) HB5.out H5.out HQ2.out HQ3.out HSP.out ho8 hg8
    have hc8 := HC5.out.grown hg8 (fun e => by have := own_lt HQ1.out _ e; omega)
    have hS8 : Still3 b w1.heap.size (.slice Ao ln co) (.int .i64 o.kind) (.bool o.neg) (.slice A3 m3 c3) w8 := ⟨Cel.cell hp8 2, hc8.cell 0, hc8.cell 1, hc8.cell 2⟩
    have y2 := Cel.cell hp8 2
    have g2 := Cel.free hp8 2
    have HZ9 := Lib.hid hz9
    have HB9 := Lib.hid (HB1.out.trans hb9.low)
    refine hK.out _ _ (.inr hS8) ?_
    clear hK K hz9 hb9 hc8 hp8 ho8 hg8
    try simp only [Act.put, List.setIfInBounds_toArray, List.set_cons_zero, List.set_cons_succ, List.getElem_toArray, List.getElem_cons_succ, List.getElem_cons_zero]
    refine wpAnyN_one (i := 8) (by kernel_rfl) rfl (fun K hK => ?_)
    go_simp
    refine hK.out _ _ (.inr hS8) ?_
    clear hK K
    try simp only [Act.put, List.setIfInBounds_toArray, List.set_cons_zero, List.set_cons_succ, List.getElem_toArray, List.getElem_cons_succ, List.getElem_cons_zero]
    refine wpAnyN_one (i := 9) (by kernel_rfl) rfl (fun K hK => ?_)
    go_simp
    refine hK.out _ _ (.inr hS8) ?_
    clear hK K
    try simp only [Act.put, List.setIfInBounds_toArray, List.set_cons_zero, List.set_cons_succ, List.getElem_toArray, List.getElem_cons_succ, List.getElem_cons_zero]
    refine wpAnyN_one (i := 10) (by kernel_rfl) rfl (fun K hK => ?_)
    go_simp
    refine hK.out _ _ (.inl (by decide)) ?_
    clear hK K
    try simp only [Act.put, List.setIfInBounds_toArray, List.set_cons_zero, List.set_cons_succ, List.getElem_toArray, List.getElem_cons_succ, List.getElem_cons_zero]
    refine wpAnyN_done (by kernel_rfl) ?_ _
    go_wp2_with fail
    have hs9 := HB9.out.size
    refine (endPiece_call _ B b A n c s _ HZ9.out (by omega) hjn hn (by have := HLN.out; show (x.ops ++ [o]).length ≤ _; simp; omega)).mono ?_
    rintro e w5 ⟨rfl, hz5, hb5⟩
    have HZ5 := Lib.hid hz5
    have HBZ := Lib.hid (HB9.out.trans hb5.low)
    clear hz5 hb5
    go_wp2_with fail
    go_ret
    exact ⟨rfl, HZ5.out, HBZ.out⟩
end Go.Proofs.Ytjpbndpfbdfhjaa.Reg
