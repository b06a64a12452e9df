/-
  What frag.Join comes to.
-/
import Derived.Test.YtmchpakefddinaaFragRows
namespace Go.Proofs.Ytmchpakefddinaa.Frag
open Go.RowKit Go.Shelf
set_option linter.unusedVariables false
set_option linter.unusedSimpArgs false
attribute [local go_sem] Oper.semAt_some

/-- A record, and where it lies. -/
structure Rv where
  bs : List (BitVec 8)
  A : Option Addr
  c : Nat
def Rv.val (x : Rv) : Value := .slice x.A x.bs.length x.c
def Rv.el (x : Rv) : El := ⟨[x.val], x.A, x.bs⟩
theorem cells_rv (rs : List Rv) : cellsOf (rs.map Rv.el) = rs.map Rv.val := by
  rw [cellsOf, List.flatMap_map]
  induction rs with
  | nil => rfl
  | cons x xs ih => rw [List.flatMap_cons, ih]; rfl

/-- What Join's loop keeps. -/
structure Joins (w : World) (pre : List (GrIn w w.heap.size)) (W : World) (v : Value) (rs : List Rv) : Prop where
  row : Row W w.heap.size w.heap.size 37 22 1 v pre.length (rs.map Rv.el)
  recs : rs.map (·.bs) = (told pre).map (fun g => g.flatMap (·.body))
  cnt : Boxed W (w.heap.size + 1) 3 (.int .i64 ((used (told pre) : Nat) : Int))
  low : Below w.heap.size w W
theorem joins_own (w : World) (B : Nat) (hB : w.heap.size ≤ B) : OwnFrom B (fun pre W => ∃ v rs, Joins w pre W v rs) := by
  rintro s X Y row ⟨v, xs, h⟩ hg hr
  have hr' : ∀ r, row = some r → ∃ o : Obj, X.heap[r]? = some o ∧ o.isCells = false := fun r e => (hr r e).2
  have hb : ∀ b t u, Boxed X b t u → Boxed Y b t u := fun b t u hx => hx.kept hg (fun e' => by
    obtain ⟨o, ho, hc⟩ := hr' b e'.symm
    rw [show X.heap[b]? = _ from hx] at ho; cases ho; cases hc)
  exact ⟨v, xs, h.row.not_cells hg hr', h.recs, hb _ _ _ h.cnt, ownFrom_below (Nat.le_refl _) hB s X Y row h.low hg hr⟩

theorem whole_eq (xs : List Pv) : whole xs = (xs.map (·.p)).flatMap (·.body) := by rw [whole, List.flatMap_map]
theorem grp_length (l : List Pt) : (grp l).length ≤ l.length := by
  induction h : l.length using Nat.strongRecOn generalizing l with
  | ind n ih =>
    subst h
    rcases Nat.eq_zero_or_pos (lead true l) with h0 | h0
    · rw [grp_none h0]; simp
    · have hl := lead_le true l
      have h1 := ih (l.drop (lead true l)).length (by simp; omega) _ rfl
      rw [grp_more h0]
      simp at h1 ⊢
      omega

theorem used_told {w : World} {B : Nat} (gs : List (GrIn w B)) : used (told gs) ≤ gs.length * 4096 := by
  induction gs with
  | nil => simp [used, told]
  | cons x xs ih =>
    have h1 := x.2.1.len
    have h2 := x.2.2.2.1
    have e : used (told (x :: xs)) = x.1.xs.length + used (told xs) := by simp [used, told, Gr.pts]
    rw [e, List.length_cons]
    omega

set_option maxRecDepth 100000 in
set_option maxHeartbeats 2000000 in
theorem join_calls (A : Option Addr) (n c : Nat) (xs : List Pv) (w : World) (hxs : Pr w w.heap.size A n xs) (hn : n ≤ 4096) (hnc : n ≤ c) (hc : c ≤ maxLen) (hfit : ∀ x ∈ xs, fits x.p.flags) (hG : ∀ g ∈ grp (xs.map (·.p)), (g.flatMap (·.body)).length ≤ 100000) :
    Calls Try.prog 10 #[.slice A n c] w fun r w' => ∃ (A' : Option Addr) (m c' : Nat) (rs : List Rv), r = .returned (.tuple #[.slice A' m c', .int .i64 ((used (grp (xs.map (·.p))) : Nat) : Int)]) ∧ rs.map (·.bs) = (grp (xs.map (·.p))).map (fun g => g.flatMap (·.body)) ∧ m = rs.length ∧
      w'.ownsRow w.heap.size 22 1 (.slice A' m c') m (rs.map Rv.val) ∧ (∀ x ∈ rs, By w' x.A x.bs.length x.bs) ∧ Below w.heap.size w w' := by
  obtain ⟨i0, hi, hz0, hz1, hz2⟩ := info_parts infoRec
  refine (callsIn_wide (n := 10)).1 ?_
  refine callsIn_of_wp_marks Try.func10 rfl trivial ?_ rfl
  simp only [Try.ntmps10, List.size_toArray, List.length_cons, List.length_nil, Nat.reduceAdd, Nat.reduceSub, Array.replicate_succ, Array.replicate_zero, List.push_toArray, List.append_toArray, List.nil_append, List.cons_append]
  have HP := Lib.hid hxs
  have HF := Lib.hid hfit
  have HG := Lib.hid hG
  have hN := grp_length (xs.map (·.p))
  rw [List.length_map, hxs.len] at hN
  have hU := used_grp (xs.map (·.p))
  rw [List.length_map, hxs.len] at hU
  have HU := Lib.hid hU
  clear hxs hfit hG hU
  unfold maxLen at hc
  gi_wp2_with ((refine ⟨trivial, ?_⟩; refine (callsIn_wide.2 (groups A n c _)).mono ?_; rintro e w' ⟨rfl, rfl⟩))
  have b0 := Boxed.new w 37 (.slice none 0 0)
  have b1 := Boxed.new (w.alloc (.cells #[.slice none 0 0] 37)) 3 (.int .i64 0)
  have b2 := Boxed.new ((w.alloc (.cells #[.slice none 0 0] 37)).alloc (.cells #[.int .i64 0] 3)) 25 (.slice A n c)
  have hB0 : Below w.heap.size w (((w.alloc (.cells #[.slice none 0 0] 37)).alloc (.cells #[.int .i64 0] 3)).alloc (.cells #[.slice A n c] 25)) :=
    (((Below.refl _ w).alloc (Nat.le_refl _) _).alloc (by simp) _).alloc (by simp; omega) _
  simp only [World.size_alloc] at b1 b2
  refine wpIn_rangeFunc_ownG rfl (by decide) (gf := 17) (lb := #[.pointer (some ⟨w.heap.size + 1 + 1, 0, none⟩)]) rfl trivial (enters_of Try.func17 (by kernel_rfl) rfl)
    (groups_stops w w.heap.size A n c xs HP.out hnc (by unfold maxLen; exact hc) hn HF.out HG.out (w.heap.size + 1 + 1) _ hB0 (by simp; omega) (by simp) b2.cell) belowK_t (belowK_b (by simp; omega)) (Below.refl _ _) (fun _ => rfl)
    (fun pre W => (∃ v rs, Joins w pre W v rs) ∧ pre.length ≤ 4096) (fun _ _ _ => False) (OwnFrom.and (joins_own w _ (by simp; omega)) (ownFrom_pure _ _)) (fun _ _ _ _ _ hs _ _ => hs)
    ⟨⟨.slice none 0 0, [], ⟨((b0.alloc _).alloc _), World.ownsRow_nil _ _ _ _, by simp⟩, rfl, b1.alloc _, hB0⟩, Nat.zero_le _⟩
    (fun x => { tmps := #[.slice A n c, undef, .slice none 0 0, .int .i64 0, .pointer (some ⟨w.heap.size, 0, none⟩), .pointer (some ⟨w.heap.size + 1, 0, none⟩), .slice x.1.A x.1.n x.1.c, .slice A n c, .func (.func 17) #[] #[.pointer (some ⟨w.heap.size + 1 + 1, 0, none⟩)], .slice x.1.A x.1.n x.1.c, undef, undef, undef, undef, undef, undef, undef, undef, undef, undef, undef], defers := [] }) ?assign ?body ?done ?stop
  case assign =>
    intro l x W K hK
    dsimp only [encG]
    gi_wp2
    exact hK
  case body =>
    rintro l pre X W ⟨⟨v, rs, hI⟩, hpl4⟩ hlt
    have hx1 := X.2.1
    have hx2 := X.2.2.1
    have hx3 := X.2.2.2.1
    have hx4 := X.2.2.2.2
    obtain ⟨xA, xn, xc, xxs, hX⟩ : ∃ xA xn xc xxs, X.1 = ⟨xA, xn, xc, xxs⟩ := ⟨_, _, _, _, rfl⟩
    rw [hX] at hx1 hx2 hx3 hx4
    simp only [hX]
    dsimp only [Gr.pts] at hx1 hx2 hx3 hx4
    rw [← whole_eq] at hx4
    have HX := Lib.hid hX
    clear hX
    have hsz := hI.low.size
    obtain ⟨Av, cv, rfl⟩ := hI.row.form
    have hbx := hI.row.box
    have hbC := hI.cnt
    have hRC := Lib.hid hI.recs
    have hLOW := Lib.hid hI.low
    have hROW := Lib.hid hI.row
    have hPW := Lib.hid (show Pr W.drew w.heap.size xA xn xxs from hx1.below (hI.low.drew))
    have hxl := hx1.len
    have hub : used (told pre) ≤ 16777216 := by
      have := used_told pre
      omega
    clear hI hx1
    generalize hwb : whole xxs = wb at *
    generalize hu0 : used (told pre) = u0 at *
    have HU0 := Lib.hid hu0
    clear hu0
    refine wpIn_block (wpIn_seq (wpIn_region_round [4, 5] (From W) (by kernel_rfl) (by kernel_rfl) (by rintro ⟨a, w, h⟩; exact h) ?_))
    have hH := (From.self W).drew
    refine wpAnyN_take (i := 0) (v := .slice Av pre.length cv) [4, 5] (by kernel_rfl) rfl (by kernel_rfl) (by kernel_rfl) (by kernel_rfl) (fun _ _ _ h => h) (Or.inl ⟨by rfl, ?_⟩) hH ?_
    · intro V hV; have kc := (boxed_below hbx hV hbx.lt).cell; go_simp
    try simp only [Act.put, List.setIfInBounds_toArray, List.set_cons_zero, List.set_cons_succ, List.getElem_toArray, List.getElem_cons_succ, List.getElem_cons_zero]
    refine wpAnyN_take (i := 1) (v := .slice xA xn xc) [2, 3, 4, 5] (by kernel_rfl) rfl (by kernel_rfl) (by kernel_rfl) (by kernel_rfl) (fun _ _ _ h => h) (Or.inl ⟨by rfl, ?_⟩) hH ?_
    · intro V hV; go_simp
    try simp only [Act.put, List.setIfInBounds_toArray, List.set_cons_zero, List.set_cons_succ, List.getElem_toArray, List.getElem_cons_succ, List.getElem_cons_zero]
    refine wpAnyN_one (i := 2) (by kernel_rfl) rfl (fun K hK => ?_)
    go_simp
    refine (bodies xA xn xc xxs _ w.heap.size hPW.out hsz hx2 hx3 (by rw [hwb]; omega)).mono ?_
    rw [hwb]
    rintro r w5 ⟨A5, c5, rfl, hy5, hb5⟩
    generalize hwl : wb.length = wl at *
    go_wp2_with fail
    have hH5 : From W w5 := hH.call hb5
    refine hK.out _ _ (.inr hH5) ?_
    clear hK K
    try simp only [Act.put, List.setIfInBounds_toArray, List.set_cons_zero, List.set_cons_succ, List.getElem_toArray, List.getElem_cons_succ, List.getElem_cons_zero]
    refine wpAnyN_one (i := 3) (by kernel_rfl) rfl (fun K hK => ?_)
    go_simp
    refine hK.out _ _ (.inr (hH5.alloc _)) ?_
    clear hK K
    try simp only [Act.put, List.setIfInBounds_toArray, List.set_cons_zero, List.set_cons_succ, List.getElem_toArray, List.getElem_cons_succ, List.getElem_cons_zero]
    refine wpAnyN_one (i := 4) (by kernel_rfl) rfl (fun K hK => ?_)
    rw [if_pos (by rfl)]
    have hcl : ∀ j u, ([.slice A5 wl c5] : List Value)[j]? = some u → (w5.alloc (.cells #[.slice A5 wl c5] 22)).cell? ((⟨w5.heap.size, 0, none⟩ : Addr).add j) = some u := by
      intro j u hu
      rw [add_row]
      exact ((Cel.new w5 22 [.slice A5 wl c5]).cell j).trans hu
    have hrow5 := own_below (own_below hROW.out.row ((Below.refl _ W).drew)) hb5
    rw [cells_rv] at hrow5
    refine wp_append_row _ _ _ 37 rfl w.heap.size 22 i0 _ 1 24 Try.underlying37 hi hz0 hz1 hz2 rfl (by decide) (.slice Av pre.length cv) pre.length (rs.map Rv.val) rfl (hrow5.alloc _) ⟨w5.heap.size, 0, none⟩ 1 1 [.slice A5 wl c5] rfl rfl hcl
      (by intro u hu; simp at hu; subst hu; rfl) (by unfold maxLen; omega) (by omega) (by have := hH5.size; simp; omega) (by omega) ?_
    intro A8 c8 w8 ho8 hg8
    refine hK.out _ _ (.inl (by decide)) ?_
    clear hK K hcl
    obtain ⟨h81, h82, h83, h84, h85⟩ := Row.pushed (v' := .slice A8 (pre.length + 1) c8) (k' := pre.length + 1) hROW.out (by decide) (by decide) (by decide) hsz (by omega) hH5 (Rv.el ⟨wb, A5, c5⟩) (by rw [Rv.el]; dsimp only; rw [hwl]; exact hy5)
      (by
        rw [← List.map_singleton, ← List.map_append, cells_rv, List.map_append]
        show w8.ownsRow _ _ _ _ _ (rs.map Rv.val ++ [.slice A5 wb.length c5])
        rw [hwl]
        exact ho8) hg8
    have k8 := h81.cell
    have f8 := h81.frozen
    have hC9 := h85 _ _ _ hbC (by decide) (by omega)
    try simp only [Act.put, List.setIfInBounds_toArray, List.set_cons_zero, List.set_cons_succ, List.getElem_toArray, List.getElem_cons_succ, List.getElem_cons_zero]
    refine wpAnyN_one (i := 5) (by kernel_rfl) rfl (fun K hK => ?_)
    go_simp
    refine hK.out _ _ (.inl (by decide)) ?_
    clear hK K
    try simp only [Act.put, List.setIfInBounds_toArray, List.set_cons_zero, List.set_cons_succ, List.getElem_toArray, List.getElem_cons_succ, List.getElem_cons_zero]
    refine wpAnyN_done (by kernel_rfl) ?_ _
    have k9 := hC9.cell
    have f9 := hC9.frozen
    simp only [Exit.then]
    gi_wp2
    have hus : used (told (pre ++ [X])) = u0 + xn := by
      rw [told, List.map_append, List.map_singleton, used_snoc]
      show used (told pre) + X.1.pts.length = _
      rw [HU0.out, HX.out, Gr.pts, List.length_map, hxl]
    refine ⟨(h83.trans (KeepsOthers.setCell _ _ _)).from _, h84.setCell (p := ⟨w.heap.size + 1, 0, none⟩) (by simp) _, ⟨.slice A8 (pre.length + 1) c8, rs ++ [⟨wb, A5, c5⟩], ?_, ?_, ?_, ?_⟩, by rw [List.length_append, List.length_singleton]; omega⟩
    · rw [List.length_append, List.map_append]
      exact h82.set hC9 (by omega) (by decide) (by decide) _
    · rw [told, List.map_append, List.map_append, List.map_append, hRC.out]
      show _ = _ ++ [X.1.pts.flatMap (·.body)]
      rw [HX.out, Gr.pts, ← whole_eq, hwb]
      rfl
    · rw [hus]
      exact hC9.set _
    · exact (hLOW.out.trans h84).setCell (p := ⟨w.heap.size + 1, 0, none⟩) (by simp) _
  case done =>
    rintro D ys W hD hys ⟨⟨v, rs, hI⟩, _⟩ hK
    obtain ⟨Av, cv, rfl⟩ := hI.row.form
    have hc := hI.row.box.cell
    have hc2 := hI.cnt.cell
    have hmx : Try.prog.follows .mixedOrders = true := by kernel_rfl
    gi_wp2
    have hrow := hI.row.row
    rw [cells_rv] at hrow
    have hys' : told ys = grp (xs.map (·.p)) := hys
    have hcnt : ys.length = rs.length := by
      have := congrArg List.length hI.recs
      rw [List.length_map, List.length_map, told, List.length_map] at this
      exact this.symm
    gi_region_o
    all_goals gi_wp2
    have hK' : W.drew.heap[D]? = some (.deferred (some [])) := hK
    rw [hcnt] at hrow
    refine ⟨by simp, .inl ⟨_, _, rfl, run_takeDeferred hK', ?_⟩⟩
    exact ⟨_, results_tmp2 rfl _ _ _, Av, _, cv, rs, rfl, by rw [← hys']; exact hI.recs, rfl, ownsRow_putObj (own_below hrow ((Below.refl _ W).drew)) _ hK' rfl, fun x hx => ((hI.row.by_ x.el (List.mem_map_of_mem hx)).drew).putObj _ hK' rfl, hI.low.drew.trans (belowK_b (w := w) (Nat.le_refl _) W.drew D _ _ (by simp at hD; omega) hK' rfl rfl)⟩
  case stop =>
    rintro D c pre W _ _ h _
    exact h.elim
end Go.Proofs.Ytmchpakefddinaa.Frag
