/-
  What frag.Cut comes to.
-/
import Derived.Test.YtmchpakefddinaaFragRows
namespace Go.Proofs.Ytmchpakefddinaa.Frag
open Go.RowKit Go.Shelf
set_option linter.unusedVariables false
set_option linter.unusedSimpArgs false
attribute [local go_sem] Oper.semAt_some

set_option maxRecDepth 100000 in
set_option maxHeartbeats 1000000 in
theorem cut_long (A : Option Addr) (n c : Nat) (ep sq : BitVec 32) (w : World) (hn : 9860 < n) (hm : n ≤ maxLen) :
    Calls Try.prog 6 #[.slice A n c, v32 ep, v32 sq] w fun r w' => r = .returned (.tuple #[.slice none 0 0, .int .i64 3]) ∧ Below w.heap.size w w' := by
  unfold maxLen at hm
  go_enter Try.func6, Try.ntmps6
  go_wp2_with fail
  go_ret2
  exact ⟨rfl, ((Below.refl _ _).alloc (Nat.le_refl _) _).alloc (by simp) _⟩

/-- What Cut's loop keeps: b, b + 1, b + 2: the boxes of the epoch, of the next number, of the parts. -/
structure Cuts (w : World) (ep sq : BitVec 32) (pre : List (PcIn w w.heap.size)) (W : World) (v : Value) (xs : List Pv) : Prop where
  row : Row W w.heap.size (w.heap.size + 1 + 1) 25 35 4 v pre.length (xs.map Pv.el)
  pts : xs.map (·.p) = parts ep sq (said pre)
  epoch : Boxed W w.heap.size 23 (v32 ep)
  seq : Boxed W (w.heap.size + 1) 23 (v32 (sq + BitVec.ofNat 32 pre.length))
  low : Below w.heap.size w W
theorem cuts_own (w : World) (ep sq : BitVec 32) (B : Nat) (hB : w.heap.size ≤ B) : OwnFrom B (fun pre W => ∃ v xs, Cuts w ep sq pre W v xs) := by
  rintro s X Y row ⟨v, xs, h⟩ hg hr
  have hr' : ∀ r, row = some r → ∃ o : Obj, X.heap[r]? = some o ∧ o.isCells = false := fun r e => (hr r e).2
  have hb : ∀ b t u, Boxed X b t u → Boxed Y b t u := fun b t u hx => hx.kept hg (fun e' => by
    obtain ⟨o, ho, hc⟩ := hr' b e'.symm
    rw [show X.heap[b]? = _ from hx] at ho; cases ho; cases hc)
  exact ⟨v, xs, h.row.not_cells hg hr', h.pts, hb _ _ _ h.epoch, hb _ _ _ h.seq, ownFrom_below (Nat.le_refl _) hB s X Y row h.low hg hr⟩

theorem next32 {sq s0 : BitVec 32} {k : Nat} (h : sq + BitVec.ofNat 32 k = s0) : s0 + 1#32 = sq + BitVec.ofNat 32 (k + 1) := by
  rw [← h, BitVec.add_assoc, BitVec.ofNat_add]
theorem succ32 {sq s0 : BitVec 32} {k : Nat} (_ : sq + BitVec.ofNat 32 k = s0) : Value.int .u32 (((s0.toNat : Int) + 1) % 4294967296) = v32 (s0 + 1#32) := by
  have : (((s0.toNat : Int) + 1) % 4294967296) = ((s0 + 1#32).toNat : Int) := by
    rw [BitVec.toNat_add, show (1#32).toNat = 1 from rfl]
    omega
  rw [this]

set_option maxRecDepth 100000 in
set_option maxHeartbeats 2000000 in
theorem cut_calls (A : Option Addr) (n c : Nat) (ep sq : BitVec 32) (bs : List (BitVec 8)) (w : World) (hbs : Bs w w.heap.size A n bs) (hn : n ≤ 9860) (hnc : n ≤ c) (hc : c ≤ maxLen) :
    Calls Try.prog 6 #[.slice A n c, v32 ep, v32 sq] w fun r w' => ∃ A' m c' xs, r = .returned (.tuple #[.slice A' m c', .int .i64 0]) ∧ xs.map (·.p) = cut ep sq bs ∧ m = (cut ep sq bs).length ∧
      w'.ownsRow w.heap.size 35 4 (.slice A' m c') m (flat xs) ∧ (∀ x ∈ xs, By w' x.A x.p.body.length x.p.body) ∧ Below w.heap.size w w' := by
  obtain ⟨i0, hi, hz0, hz1, hz2⟩ := info_parts infoPart
  refine (callsIn_wide (n := 10)).1 ?_
  refine callsIn_of_wp_marks Try.func6 rfl trivial ?_ rfl
  simp only [Try.ntmps6, List.size_toArray, List.length_cons, List.length_nil, Nat.reduceAdd, Nat.reduceSub, Array.replicate_succ, Array.replicate_zero, List.push_toArray, List.append_toArray, List.nil_append, List.cons_append]
  have hdn : ¬ ((9860 : Int) < (n : Int)) := by omega
  have HB := Lib.hid hbs
  clear hbs
  unfold maxLen at hc
  gi_wp2_with ((refine ⟨trivial, ?_⟩; refine (callsIn_wide.2 (pieces A n c _)).mono ?_; rintro e w' ⟨rfl, rfl⟩))
  have b0 := Boxed.new w 23 (v32 ep)
  have b1 := Boxed.new (w.alloc (.cells #[v32 ep] 23)) 23 (v32 sq)
  have b2 := Boxed.new ((w.alloc (.cells #[v32 ep] 23)).alloc (.cells #[v32 sq] 23)) 25 (.slice none 0 0)
  have b3 := Boxed.new (((w.alloc (.cells #[v32 ep] 23)).alloc (.cells #[v32 sq] 23)).alloc (.cells #[.slice none 0 0] 25)) 22 (.slice A n c)
  have hB0 : Below w.heap.size w ((((w.alloc (.cells #[v32 ep] 23)).alloc (.cells #[v32 sq] 23)).alloc (.cells #[.slice none 0 0] 25)).alloc (.cells #[.slice A n c] 22)) :=
    ((((Below.refl _ w).alloc (Nat.le_refl _) _).alloc (by simp) _).alloc (by simp; omega) _).alloc (by simp; omega) _
  simp only [World.size_alloc] at b1 b2 b3
  have hN := pcs_length_le 1 bs
  rw [HB.out.len] at hN
  have hN' : (pcs 1 bs).length ≤ 21 := by omega
  clear hN
  refine wpIn_rangeFunc_ownG rfl (by decide) (gf := 16) (lb := #[.pointer (some ⟨w.heap.size + 1 + 1 + 1, 0, none⟩)]) rfl trivial (enters_of Try.func16 (by kernel_rfl) rfl)
    (pieces_stops w w.heap.size A n c bs HB.out hnc (by unfold maxLen; exact hc) hn (w.heap.size + 1 + 1 + 1) _ hB0 (by simp; omega) (by simp) b3.cell) belowK_t (belowK_b (by simp; omega)) (Below.refl _ _) (fun _ => rfl)
    (fun pre W => ∃ v xs, Cuts w ep sq pre W v xs) (fun _ _ _ => False) (cuts_own w ep sq _ (by simp; omega)) (fun _ _ _ _ _ hs _ _ => hs)
    ⟨.slice none 0 0, [], ⟨(b2.alloc _), World.ownsRow_nil _ _ _ _, by simp⟩, rfl, ((b0.alloc _).alloc _).alloc _, by simpa using (b1.alloc _).alloc _, hB0⟩
    (fun x => { tmps := #[.slice A n c, v32 ep, v32 sq, undef, .pointer (some ⟨w.heap.size, 0, none⟩), .pointer (some ⟨w.heap.size + 1, 0, none⟩), .slice none 0 0, .int .i64 0, .pointer (some ⟨w.heap.size + 1 + 1, 0, none⟩), .int .i64 x.1.f, .slice x.1.A x.1.n x.1.c, .slice A n c, .int .i64 n, .bool false, .slice A n c, .func (.func 16) #[] #[.pointer (some ⟨w.heap.size + 1 + 1 + 1, 0, none⟩)], .int .i64 x.1.f, .slice x.1.A x.1.n x.1.c, undef, undef, undef, undef, undef, undef, undef, undef, undef, undef, undef, undef], defers := [] }) ?assign ?body ?done ?stop
  case assign =>
    intro l x W K hK
    dsimp only [encP]
    gi_wp2
    exact hK
  case body =>
    rintro l pre X W ⟨v, xs, hI⟩ hlt
    have hx1 := X.2.1
    have hx2 := X.2.2
    obtain ⟨f, xA, xn, xc, xbs, hX⟩ : ∃ f xA xn xc xbs, X.1 = ⟨f, xA, xn, xc, xbs⟩ := ⟨_, _, _, _, _, rfl⟩
    rw [hX] at hx1 hx2
    simp only [hX]
    dsimp only at hx1 hx2
    have HX := Lib.hid hX
    clear hX
    have hsz := hI.low.size
    obtain ⟨Av, cv, rfl⟩ := hI.row.form
    have hbx := hI.row.box
    have hbE := hI.epoch
    have hbS := hI.seq
    have hPT := Lib.hid hI.pts
    have hLOW := Lib.hid hI.low
    have hROW := Lib.hid hI.row
    have hBW := Lib.hid ((hx1.below hI.low).drew)
    have hxl := hx1.len
    clear hI
    generalize hs0 : sq + BitVec.ofNat 32 pre.length = s0 at *
    have HS0 := Lib.hid hs0
    clear hs0
    refine wpIn_block (wpIn_seq (wpIn_region_round [8, 9] (From W) (by kernel_rfl) (by kernel_rfl) (by rintro ⟨a, w, h⟩; exact h) ?_))
    have hH := (From.self W).drew
    refine wpAnyN_take (i := 0) (v := .slice Av pre.length cv) [8, 9] (by kernel_rfl) rfl (by kernel_rfl) (by kernel_rfl) (by kernel_rfl) (fun _ _ _ h => h) (Or.inl ⟨by rfl, ?_⟩) hH ?_
    · intro V hV; have kc := (boxed_below hbx hV hbx.lt).cell; go_simp
    try simp only [Act.put, List.setIfInBounds_toArray, List.set_cons_zero, List.set_cons_succ, List.getElem_toArray, List.getElem_cons_succ, List.getElem_cons_zero]
    refine wpAnyN_take (i := 1) (v := v32 ep) [6, 7, 8, 9] (by kernel_rfl) rfl (by kernel_rfl) (by kernel_rfl) (by kernel_rfl) (fun _ _ _ h => h) (Or.inl ⟨by rfl, ?_⟩) hH ?_
    · intro V hV; have kc := (boxed_below hbE hV hbE.lt).cell; go_simp
    try simp only [Act.put, List.setIfInBounds_toArray, List.set_cons_zero, List.set_cons_succ, List.getElem_toArray, List.getElem_cons_succ, List.getElem_cons_zero]
    refine wpAnyN_take (i := 2) (v := v32 s0) [6, 7, 8, 9] (by kernel_rfl) rfl (by kernel_rfl) (by kernel_rfl) (by kernel_rfl) (fun _ _ _ h => h) (Or.inl ⟨by rfl, ?_⟩) hH ?_
    · intro V hV; have kc := (boxed_below hbS hV hbS.lt).cell; go_simp
    try simp only [Act.put, List.setIfInBounds_toArray, List.set_cons_zero, List.set_cons_succ, List.getElem_toArray, List.getElem_cons_succ, List.getElem_cons_zero]
    refine wpAnyN_take (i := 3) (v := .int .i64 f) [6, 7, 8, 9] (by kernel_rfl) rfl (by kernel_rfl) (by kernel_rfl) (by kernel_rfl) (fun _ _ _ h => h) (Or.inl ⟨by rfl, ?_⟩) hH ?_
    · intro V hV; go_simp
    try simp only [Act.put, List.setIfInBounds_toArray, List.set_cons_zero, List.set_cons_succ, List.getElem_toArray, List.getElem_cons_succ, List.getElem_cons_zero]
    refine wpAnyN_take (i := 4) (v := .slice xA xn xc) [5, 6, 7, 8, 9] (by kernel_rfl) rfl (by kernel_rfl) (by kernel_rfl) (by kernel_rfl) (fun _ _ _ h => h) (Or.inl ⟨by rfl, ?_⟩) hH ?_
    · intro V hV; go_simp
    try simp only [Act.put, List.setIfInBounds_toArray, List.set_cons_zero, List.set_cons_succ, List.getElem_toArray, List.getElem_cons_succ, List.getElem_cons_zero]
    refine wpAnyN_one (i := 5) (by kernel_rfl) rfl (fun K hK => ?_)
    go_simp
    refine (clone w.heap.size xA xn xc xbs _ hBW.out hsz (by omega)).mono ?_
    rintro r w5 ⟨A5, c5, rfl, hy5, hb5⟩
    go_wp2_with fail
    have hH5 : From W w5 := hH.call hb5
    refine hK.out _ _ (.inr hH5) ?_
    clear hK K
    try simp only [Act.put, List.setIfInBounds_toArray, List.set_cons_zero, List.set_cons_succ, List.getElem_toArray, List.getElem_cons_succ, List.getElem_cons_zero]
    refine wpAnyN_take (i := 6) (v := .agg #[v32 ep, v32 s0, .int .i64 f, .slice A5 xn c5]) [7, 8, 9] (by kernel_rfl) rfl (by kernel_rfl) (by kernel_rfl) (by kernel_rfl) (fun _ _ _ h => h) (Or.inl ⟨by rfl, ?_⟩) hH5 ?_
    · intro V hV; go_simp
    try simp only [Act.put, List.setIfInBounds_toArray, List.set_cons_zero, List.set_cons_succ, List.getElem_toArray, List.getElem_cons_succ, List.getElem_cons_zero]
    refine wpAnyN_one (i := 7) (by kernel_rfl) rfl (fun K hK => ?_)
    go_simp
    refine hK.out _ _ (.inr (hH5.alloc _)) ?_
    clear hK K
    try simp only [Act.put, List.setIfInBounds_toArray, List.set_cons_zero, List.set_cons_succ, List.getElem_toArray, List.getElem_cons_succ, List.getElem_cons_zero]
    refine wpAnyN_one (i := 8) (by kernel_rfl) rfl (fun K hK => ?_)
    rw [if_pos (by rfl)]
    have hcl : ∀ j u, ([v32 ep, v32 s0, .int .i64 f, .slice A5 xn c5] : List Value)[j]? = some u → (w5.alloc (.cells #[v32 ep, v32 s0, .int .i64 f, .slice A5 xn c5] 35)).cell? ((⟨w5.heap.size, 0, none⟩ : Addr).add j) = some u := by
      intro j u hu
      rw [add_row]
      exact ((Cel.new w5 35 [v32 ep, v32 s0, .int .i64 f, .slice A5 xn c5]).cell j).trans hu
    have hrow5 := own_below (own_below hROW.out.row ((Below.refl _ W).drew)) hb5
    rw [cells_el] at hrow5
    refine wp_append_row _ _ _ 25 rfl w.heap.size 35 i0 _ 4 40 Try.underlying25 hi hz0 hz1 hz2 rfl (by decide) (.slice Av pre.length cv) pre.length (flat xs) rfl (hrow5.alloc _) ⟨w5.heap.size, 0, none⟩ 1 1 [v32 ep, v32 s0, .int .i64 f, .slice A5 xn c5] rfl rfl hcl
      (by intro u hu; simp at hu; rcases hu with rfl | rfl | rfl | rfl <;> rfl) (by unfold maxLen; omega) (by omega) (by have := hH5.size; simp; omega) (by omega) ?_
    intro A8 c8 w8 ho8 hg8
    refine hK.out _ _ (.inl (by decide)) ?_
    clear hK K hcl
    obtain ⟨h81, h82, h83, h84, h85⟩ := Row.pushed (v' := .slice A8 (pre.length + 1) c8) (k' := pre.length + 1) hROW.out (by decide) (by decide) (by decide) hsz (by omega) hH5 (Pv.el ⟨⟨ep, s0, f, xbs⟩, A5, c5⟩) (by rw [Pv.el]; dsimp only; rw [hxl]; exact hy5)
      (by
        rw [← List.map_singleton, ← List.map_append, cells_el, flat_append]
        show w8.ownsRow _ _ _ _ _ (flat xs ++ [v32 ep, v32 s0, .int .i64 f, .slice A5 xbs.length c5])
        rw [hxl]
        exact ho8) hg8
    have k8 := h81.cell
    have f8 := h81.frozen
    have hE9 := h85 _ _ _ hbE (by decide) (by omega)
    have hS9 := h85 _ _ _ hbS (by decide) (by omega)
    try simp only [Act.put, List.setIfInBounds_toArray, List.set_cons_zero, List.set_cons_succ, List.getElem_toArray, List.getElem_cons_succ, List.getElem_cons_zero]
    refine wpAnyN_one (i := 9) (by kernel_rfl) rfl (fun K hK => ?_)
    go_simp
    refine hK.out _ _ (.inl (by decide)) ?_
    clear hK K
    try simp only [Act.put, List.setIfInBounds_toArray, List.set_cons_zero, List.set_cons_succ, List.getElem_toArray, List.getElem_cons_succ, List.getElem_cons_zero]
    refine wpAnyN_done (by kernel_rfl) ?_ _
    have k9 := hS9.cell
    have f9 := hS9.frozen
    simp only [Exit.then]
    gi_wp2
    have hpl : (said pre).length = pre.length := by rw [said, List.length_map]
    refine ⟨(h83.trans (KeepsOthers.setCell _ _ _)).from _, h84.setCell (p := ⟨w.heap.size + 1, 0, none⟩) (by simp) _, .slice A8 (pre.length + 1) c8, xs ++ [⟨⟨ep, s0, f, xbs⟩, A5, c5⟩], ?_, ?_, ?_, ?_, ?_⟩
    · rw [List.length_append, List.map_append]
      exact h82.set hS9 (by omega) (by decide) (by decide) _
    · rw [said, List.map_append, List.map_append, hPT.out]
      show _ = parts ep sq (said pre ++ [X.1.two])
      rw [HX.out, parts_snoc, hpl, HS0.out]
      rfl
    · exact hE9.kept (grownBy_setCell' _ _ _) (by simp)
    · rw [succ32 HS0.out]
      have := hS9.set (v32 (s0 + 1#32))
      rw [List.length_append, List.length_singleton, ← next32 HS0.out]
      exact this
    · exact (hLOW.out.trans h84).setCell (p := ⟨w.heap.size + 1, 0, none⟩) (by simp) _
  case done =>
    rintro D ys W hD hys ⟨v, xs, hI⟩ hK
    obtain ⟨Av, cv, rfl⟩ := hI.row.form
    have hc := hI.row.box.cell
    gi_wp2
    refine ⟨by simp, .inl ⟨_, _, rfl, run_takeDeferred hK, ?_⟩⟩
    have hcut : xs.map (·.p) = cut ep sq bs := by rw [hI.pts, hys]; rfl
    have hlen : ys.length = (cut ep sq bs).length := by rw [← hcut, hI.pts, parts_length, said, List.length_map]
    have hrow := hI.row.row
    rw [cells_el] at hrow
    exact ⟨_, results_tmp2 rfl _ _ _, Av, _, cv, xs, rfl, hcut, hlen, ownsRow_putObj hrow _ hK rfl, fun x hx => (hI.row.by_ x.el (List.mem_map_of_mem hx)).putObj _ hK rfl, hI.low.trans (belowK_b (w := w) (Nat.le_refl _) W D _ _ (by simp at hD; omega) hK rfl rfl)⟩
  case stop =>
    rintro D c pre W _ _ h _
    exact h.elim
end Go.Proofs.Ytmchpakefddinaa.Frag
