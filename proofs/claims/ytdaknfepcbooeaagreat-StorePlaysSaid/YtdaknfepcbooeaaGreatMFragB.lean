/-
  A variable that holds a row of the call's own, whose elements hold bytes; what an append and its store make of it.
  What frag.Cut comes to.
  What frag.Join comes to.
-/
import Derived.Test.YtdaknfepcbooeaaGreatMFragA
import Derived.Test.YtdaknfepcbooeaaGreatMFragIter
section
namespace Go.Proofs.YtdaknfepcbooeaaGreat.Frag
open Go.RowKit
set_option linter.unusedVariables false

/-- An element: its cells, and the bytes that it holds. -/
structure El where
  cs : List Value
  A : Option Addr
  bs : List (BitVec 8)
def cellsOf (es : List El) : List Value := es.flatMap (·.cs)
structure Row (W : World) (n₀ B : Nat) (t e : TypeId) (size : Nat) (v : Value) (k : Nat) (es : List El) : Prop where
  box : Boxed W B t v
  row : W.ownsRow n₀ e size v k (cellsOf es)
  by_ : ∀ x ∈ es, By W x.A x.bs.length x.bs

theorem boxed_below {W W' : World} {n B : Nat} {t : TypeId} {v : Value} (h : Boxed W B t v) (hb : Below n W W') (hB : B < n) : Boxed W' B t v := (hb.block B hB).trans h
theorem grown_of_below {W W' : World} (h : Below W.heap.size W W') (row : Option Nat) : W.grownBy W' row := ⟨h.os, h.tape, h.output, h.size, fun k hk _ => h.block k hk⟩
theorem own_below {W W' : World} {base e size n : Nat} {v : Value} {xs : List Value} (h : W.ownsRow base e size v n xs) (hb : Below W.heap.size W W') : W'.ownsRow base e size v n xs := by
  refine h.kept (grown_of_below hb none) ?_
  rcases h.2 with ⟨rfl, _⟩ | ⟨g, cap, cur, rfl, _⟩
  · exact .inl rfl
  · exact .inr (by simp [Value.ownBlock])

namespace Row
variable {W W' : World} {n₀ B : Nat} {t e : TypeId} {size : Nat} {v : Value} {k : Nat} {es : List El}
theorem below (h : Row W n₀ B t e size v k es) (hb : Below W.heap.size W W') : Row W' n₀ B t e size v k es :=
  ⟨boxed_below h.box hb h.box.lt, own_below h.row hb, fun x hx => (h.by_ x hx).below hb⟩
theorem drew (h : Row W n₀ B t e size v k es) : Row W.drew n₀ B t e size v k es := h.below ((Below.refl _ _).drew)
theorem not_cells (h : Row W n₀ B t e size v k es) {row : Option Nat} (hg : W.grownBy W' row) (hr : ∀ r, row = some r → ∃ o : Obj, W.heap[r]? = some o ∧ o.isCells = false) : Row W' n₀ B t e size v k es := by
  refine ⟨h.box.kept hg (fun e' => ?_), h.row.kept hg ?_, fun x hx => (h.by_ x hx).grown hg fun g cs fz e' hc => ?_⟩
  · obtain ⟨o, ho, hc⟩ := hr B e'.symm
    rw [show W.heap[B]? = _ from h.box] at ho; cases ho; cases hc
  · rcases h.row.2 with ⟨rfl, _⟩ | ⟨g, cap, cur, rfl, _, hgb, _⟩
    · exact .inl rfl
    · refine .inr fun e' => ?_
      obtain ⟨o, ho, hc⟩ := hr g (by simpa [Value.ownBlock] using e'.symm)
      rw [hgb] at ho; cases ho; cases hc
  · obtain ⟨o, ho, hc'⟩ := hr g e'
    rw [hc] at ho; cases ho; cases hc'
theorem set (h : Row W n₀ B t e size v k es) {b : Nat} {tb : TypeId} {u : Value} (hb : Boxed W b tb u) (hne : b ≠ B) (h1 : tb ≠ e) (h2 : tb ≠ 5) (u' : Value) : Row (W.setCell ⟨b, 0, none⟩ u') n₀ B t e size v k es :=
  ⟨h.box.kept (grownBy_setCell' W b u') (by simp; omega), h.row.kept (grownBy_setCell' W b u') (.inr (hb.not_row h1 h.row).symm), fun x hx => (h.by_ x hx).set hb h2 u'⟩
theorem form (h : Row W n₀ B t e size v k es) : ∃ A c, v = .slice A k c := by
  rcases h.row.2 with ⟨rfl, rfl⟩ | ⟨g, cap, cur, rfl, _⟩
  · exact ⟨_, _, rfl⟩
  · exact ⟨_, _, rfl⟩
end Row

/-- 'l = append(l, y)', behind a call that only makes memory. -/
theorem Row.pushed {W w5 w8 : World} {n₀ B : Nat} {t e : TypeId} {size : Nat} {v v' : Value} {k k' : Nat} {es : List El} (h : Row W n₀ B t e size v k es) (hte : t ≠ e) (ht5 : t ≠ 5) (he5 : e ≠ 5) (hn : n₀ ≤ W.heap.size) (hB : n₀ ≤ B)
    (h5 : Below W.heap.size W w5) (y : El) (hy : By w5 y.A y.bs.length y.bs) {tmp : Obj} (hown' : w8.ownsRow n₀ e size v' k' (cellsOf (es ++ [y]))) (hg : (w5.alloc tmp).grownBy w8 v.ownBlock) :
    Boxed w8 B t v ∧ Row (w8.setCell ⟨B, 0, none⟩ v') n₀ B t e size v' k' (es ++ [y]) ∧ KeepsOthers W (w8.setCell ⟨B, 0, none⟩ v') ∧ Below n₀ W (w8.setCell ⟨B, 0, none⟩ v') ∧
      (∀ b tb u, Boxed W b tb u → tb ≠ e → b ≠ B → Boxed (w8.setCell ⟨B, 0, none⟩ v') b tb u) := by
  have hr5 := h.below h5
  have hn5 : n₀ ≤ w5.heap.size := Nat.le_trans hn h5.size
  have hx := Boxed.appended hr5.box hte hr5.row hn5 hB hown' hg
  obtain ⟨h1, h2, h3, h4, hb⟩ := hx
  refine ⟨h1, ⟨h2, h3, ?_⟩, (KeepsOthers.of_grownBy (grown_of_below h5 none) (fun j o e => by cases e)).trans h4, (h5.mono hn).trans hb, ?_⟩
  · intro x hx
    have : By w5 x.A x.bs.length x.bs := by
      rcases List.mem_append.1 hx with hx | hx
      · exact hr5.by_ x hx
      · rw [List.mem_singleton.1 hx]; exact hy
    refine ((this.alloc tmp).grown hg ?_).set h1 ht5 v'
    intro g cs fz hv hc
    exact not_bytes (hr5.row.alloc tmp) he5 g cs fz hv hc
  · intro b tb u hb' hne hbB
    have k5 := (boxed_below hb' h5 hb'.lt).alloc tmp
    have k8 := k5.kept hg (k5.not_row hne (hr5.row.alloc tmp))
    exact k8.kept (grownBy_setCell' w8 B v') (by simp; omega)

/-- append of elements onto a row of the call's own. -/
theorem wp_append_row {P : Program} (w : World) {o : Oper} {a : Act} {K : Act → World → Prop} {Q : Exit → Act → World → Prop} (s x : Operand) (t : TypeId)
    (ho : o.op = .call { callee := .builtin .append, args := #[s, x], argTypes := #[t, t] }) (base : Nat) (e : TypeId) (i : TypeInfo) (z : Value) (size bytes : Nat) (ht : P.underlying t = some (.slice e)) (hi : P.info? e = some i) (hz : i.zero = some z)
    (hsize : i.size = size) (hby : i.bytes = bytes) (hzs : z.cells.size = size) (hsz : 0 < size)
    (v : Value) (n : Nat) (us : List Value) (hs : a.eval s = v) (hown : w.ownsRow base e size v n us)
    (ad : Addr) (m c : Nat) (news : List Value) (hx : a.eval x = .slice (some ad) m c) (hl : news.length = m * size) (hnews : ∀ j u, news[j]? = some u → w.cell? (ad.add j) = some u) (h1 : ∀ u ∈ news, u.oneCell' = true)
    (h63 : n + m ≤ maxLen) (hbytes : (n + m) * bytes ≤ 140737488355328) (hbase : base ≤ w.heap.size) (hpos : 0 < n + m)
    (h : ∀ A' c' w', w'.ownsRow base e size (.slice A' (n + m) c') (n + m) (us ++ news) → w.grownBy w' v.ownBlock → K (a.put o.dst (.slice A' (n + m) c')) w') : o.wp P a w K Q := by
  obtain ⟨v', w', hrun, h2, h3, _, h5⟩ := run_append_own_at (P := P) w base t o.type e i z size bytes ht hi hz hsize hby hzs hsz v n us hown ad m c news hl hnews h1 h63 hbytes hbase
  have hv : ∃ A' c', v' = .slice A' (n + m) c' := by
    rcases h2.2 with ⟨rfl, h0⟩ | ⟨g, cap, cur, rfl, _⟩
    · omega
    · exact ⟨_, _, rfl⟩
  obtain ⟨A', c', rfl⟩ := hv
  unfold Oper.wp execOp
  simp only [ho, resolve, invoke, builtin, Sem.run_bind, Sem.run_pure, Result.andThen_ok, List.map_toArray, List.map_cons, List.map_nil, hs, hx, hrun]
  exact h A' c' w' h2 h3

/-- W is w0, and more. -/
def From (w0 W : World) : Prop := Below w0.heap.size w0 W
theorem From.self (w0 : World) : From w0 w0 := Below.refl _ _
theorem From.drew {w0 W : World} (h : From w0 W) : From w0 W.drew := Below.drew h
theorem From.alloc {w0 W : World} (o : Obj) (h : From w0 W) : From w0 (W.alloc o) := Below.alloc h h.size o
theorem From.call {w0 W W' : World} (h2 : Below W.heap.size W W') (h : From w0 W) : From w0 W' := Below.trans h (h2.mono h.size)

theorem infoPart : (Tryz.prog.info? 121).map (fun i => (i.zero, i.size, i.bytes)) = some (some (.agg #[.int .u32 0, .int .u32 0, .int .i64 0, .slice none 0 0]), 4, 40) := by kernel_rfl
theorem infoRec : (Tryz.prog.info? 44).map (fun i => (i.zero, i.size, i.bytes)) = some (some (.slice none 0 0), 1, 24) := by kernel_rfl

def Pv.el (x : Pv) : El := ⟨x.cells, x.A, x.p.body⟩
theorem cells_el (xs : List Pv) : cellsOf (xs.map Pv.el) = flat xs := by rw [cellsOf, List.flatMap_map]; rfl
end Go.Proofs.YtdaknfepcbooeaaGreat.Frag
end

section
namespace Go.Proofs.YtdaknfepcbooeaaGreat.Frag
open Go.RowKit Go.Shelf
set_option linter.unusedVariables false
set_option linter.unusedSimpArgs false
attribute [local go_sem] Oper.semAt_some

set_option maxRecDepth 100000 in
set_option maxHeartbeats 1000000 in
theorem cut_long (A : Option Addr) (n c : Nat) (ep sq : BitVec 32) (w : World) (hn : 9860 < n) (hm : n ≤ maxLen) :
    Calls Tryz.prog 82 #[.slice A n c, v32 ep, v32 sq] w fun r w' => r = .returned (.tuple #[.slice none 0 0, .int .i64 3]) ∧ Below w.heap.size w w' := by
  unfold maxLen at hm
  go_enter Tryz.func82, Tryz.ntmps82
  go_wp2_with fail
  go_ret2
  exact ⟨rfl, ((Below.refl _ _).alloc (Nat.le_refl _) _).alloc (by simp) _⟩

/-- What Cut's loop keeps: b, b + 1, b + 2: the boxes of the epoch, of the next number, of the parts. -/
structure Cuts (w : World) (ep sq : BitVec 32) (pre : List (PcIn w w.heap.size)) (W : World) (v : Value) (xs : List Pv) : Prop where
  row : Row W w.heap.size (w.heap.size + 1 + 1) 116 121 4 v pre.length (xs.map Pv.el)
  pts : xs.map (·.p) = parts ep sq (said pre)
  epoch : Boxed W w.heap.size 56 (v32 ep)
  seq : Boxed W (w.heap.size + 1) 56 (v32 (sq + BitVec.ofNat 32 pre.length))
  low : Below w.heap.size w W
theorem cuts_own (w : World) (ep sq : BitVec 32) (B : Nat) (hB : w.heap.size ≤ B) : OwnFrom B (fun pre W => ∃ v xs, Cuts w ep sq pre W v xs) := by
  rintro s X Y row ⟨v, xs, h⟩ hg hr
  have hr' : ∀ r, row = some r → ∃ o : Obj, X.heap[r]? = some o ∧ o.isCells = false := fun r e => (hr r e).2
  have hb : ∀ b t u, Boxed X b t u → Boxed Y b t u := fun b t u hx => hx.kept hg (fun e' => by
    obtain ⟨o, ho, hc⟩ := hr' b e'.symm
    rw [show X.heap[b]? = _ from hx] at ho; cases ho; cases hc)
  exact ⟨v, xs, h.row.not_cells hg hr', h.pts, hb _ _ _ h.epoch, hb _ _ _ h.seq, ownFrom_below (Nat.le_refl _) hB s X Y row h.low hg hr⟩

theorem next32 {sq s0 : BitVec 32} {k : Nat} (h : sq + BitVec.ofNat 32 k = s0) : s0 + 1#32 = sq + BitVec.ofNat 32 (k + 1) := by
  rw [← h, BitVec.add_assoc, BitVec.ofNat_add]
theorem succ32 {sq s0 : BitVec 32} {k : Nat} (_ : sq + BitVec.ofNat 32 k = s0) : Value.int .u32 (((s0.toNat : Int) + 1) % 4294967296) = v32 (s0 + 1#32) := by
  have : (((s0.toNat : Int) + 1) % 4294967296) = ((s0 + 1#32).toNat : Int) := by
    rw [BitVec.toNat_add, show (1#32).toNat = 1 from rfl]
    omega
  rw [this]

set_option maxRecDepth 100000 in
set_option maxHeartbeats 2000000 in
theorem cut_calls (A : Option Addr) (n c : Nat) (ep sq : BitVec 32) (bs : List (BitVec 8)) (w : World) (hbs : Bs w w.heap.size A n bs) (hn : n ≤ 9860) (hnc : n ≤ c) (hc : c ≤ maxLen) :
    Calls Tryz.prog 82 #[.slice A n c, v32 ep, v32 sq] w fun r w' => ∃ A' m c' xs, r = .returned (.tuple #[.slice A' m c', .int .i64 0]) ∧ xs.map (·.p) = cut ep sq bs ∧ m = (cut ep sq bs).length ∧
      w'.ownsRow w.heap.size 121 4 (.slice A' m c') m (flat xs) ∧ (∀ x ∈ xs, By w' x.A x.p.body.length x.p.body) ∧ Below w.heap.size w w' := by
  obtain ⟨i0, hi, hz0, hz1, hz2⟩ := info_parts infoPart
  refine (callsIn_wide (n := 10)).1 ?_
  refine callsIn_of_wp_marks Tryz.func82 rfl trivial ?_ rfl
  simp only [Tryz.ntmps82, List.size_toArray, List.length_cons, List.length_nil, Nat.reduceAdd, Nat.reduceSub, Array.replicate_succ, Array.replicate_zero, List.push_toArray, List.append_toArray, List.nil_append, List.cons_append]
  have hdn : ¬ ((9860 : Int) < (n : Int)) := by omega
  have HB := Lib.hid hbs
  clear hbs
  unfold maxLen at hc
  gi_wp2_with ((refine ⟨trivial, ?_⟩; refine (callsIn_wide.2 (pieces A n c _)).mono ?_; rintro e w' ⟨rfl, rfl⟩))
  have b0 := Boxed.new w 56 (v32 ep)
  have b1 := Boxed.new (w.alloc (.cells #[v32 ep] 56)) 56 (v32 sq)
  have b2 := Boxed.new ((w.alloc (.cells #[v32 ep] 56)).alloc (.cells #[v32 sq] 56)) 116 (.slice none 0 0)
  have b3 := Boxed.new (((w.alloc (.cells #[v32 ep] 56)).alloc (.cells #[v32 sq] 56)).alloc (.cells #[.slice none 0 0] 116)) 44 (.slice A n c)
  have hB0 : Below w.heap.size w ((((w.alloc (.cells #[v32 ep] 56)).alloc (.cells #[v32 sq] 56)).alloc (.cells #[.slice none 0 0] 116)).alloc (.cells #[.slice A n c] 44)) :=
    ((((Below.refl _ w).alloc (Nat.le_refl _) _).alloc (by simp) _).alloc (by simp; omega) _).alloc (by simp; omega) _
  simp only [World.size_alloc] at b1 b2 b3
  have hN := pcs_length_le 1 bs
  rw [HB.out.len] at hN
  have hN' : (pcs 1 bs).length ≤ 21 := by omega
  clear hN
  refine wpIn_rangeFunc_ownG rfl (by decide) (gf := 117) (lb := #[.pointer (some ⟨w.heap.size + 1 + 1 + 1, 0, none⟩)]) rfl trivial (enters_of Tryz.func117 (by kernel_rfl) rfl)
    (pieces_stops w w.heap.size A n c bs HB.out hnc (by unfold maxLen; exact hc) hn (w.heap.size + 1 + 1 + 1) _ hB0 (by simp; omega) (by simp) b3.cell) belowK_t (belowK_b (by simp; omega)) (Below.refl _ _) (fun _ => rfl)
    (fun pre W => ∃ v xs, Cuts w ep sq pre W v xs) (fun _ _ _ => False) (cuts_own w ep sq _ (by simp; omega)) (fun _ _ _ _ _ hs _ _ => hs)
    ⟨.slice none 0 0, [], ⟨(b2.alloc _), World.ownsRow_nil _ _ _ _, by simp⟩, rfl, ((b0.alloc _).alloc _).alloc _, by simpa using (b1.alloc _).alloc _, hB0⟩
    (fun x => { tmps := #[.slice A n c, v32 ep, v32 sq, undef, .pointer (some ⟨w.heap.size, 0, none⟩), .pointer (some ⟨w.heap.size + 1, 0, none⟩), .slice none 0 0, .int .i64 0, .pointer (some ⟨w.heap.size + 1 + 1, 0, none⟩), .int .i64 x.1.f, .slice x.1.A x.1.n x.1.c, .slice A n c, .int .i64 n, .bool false, .slice A n c, .func (.func 117) #[] #[.pointer (some ⟨w.heap.size + 1 + 1 + 1, 0, none⟩)], .int .i64 x.1.f, .slice x.1.A x.1.n x.1.c, undef, undef, undef, undef, undef, undef, undef, undef, undef, undef, undef, undef], defers := [] }) ?assign ?body ?done ?stop
  case assign =>
    intro l x W K hK
    dsimp only [encP]
    gi_wp2
    exact hK
  case body =>
    rintro l pre X W ⟨v, xs, hI⟩ hlt
    have hx1 := X.2.1
    have hx2 := X.2.2
    obtain ⟨f, xA, xn, xc, xbs, hX⟩ : ∃ f xA xn xc xbs, X.1 = ⟨f, xA, xn, xc, xbs⟩ := ⟨_, _, _, _, _, rfl⟩
    rw [hX] at hx1 hx2
    simp only [hX]
    dsimp only at hx1 hx2
    have HX := Lib.hid hX
    clear hX
    have hsz := hI.low.size
    obtain ⟨Av, cv, rfl⟩ := hI.row.form
    have hbx := hI.row.box
    have hbE := hI.epoch
    have hbS := hI.seq
    have hPT := Lib.hid hI.pts
    have hLOW := Lib.hid hI.low
    have hROW := Lib.hid hI.row
    have hBW := Lib.hid ((hx1.below hI.low).drew)
    have hxl := hx1.len
    clear hI
    generalize hs0 : sq + BitVec.ofNat 32 pre.length = s0 at *
    have HS0 := Lib.hid hs0
    clear hs0
    refine wpIn_block (wpIn_seq (wpIn_region_round [8, 9] (From W) (by kernel_rfl) (by kernel_rfl) (by rintro ⟨a, w, h⟩; exact h) ?_))
    have hH := (From.self W).drew
    refine wpAnyN_take (i := 0) (v := .slice Av pre.length cv) [8, 9] (by kernel_rfl) rfl (by kernel_rfl) (by kernel_rfl) (by kernel_rfl) (fun _ _ _ h => h) (Or.inl ⟨by rfl, ?_⟩) hH ?_
    · intro V hV; have kc := (boxed_below hbx hV hbx.lt).cell; go_simp
    try simp only [Act.put, List.setIfInBounds_toArray, List.set_cons_zero, List.set_cons_succ, List.getElem_toArray, List.getElem_cons_succ, List.getElem_cons_zero]
    refine wpAnyN_take (i := 1) (v := v32 ep) [6, 7, 8, 9] (by kernel_rfl) rfl (by kernel_rfl) (by kernel_rfl) (by kernel_rfl) (fun _ _ _ h => h) (Or.inl ⟨by rfl, ?_⟩) hH ?_
    · intro V hV; have kc := (boxed_below hbE hV hbE.lt).cell; go_simp
    try simp only [Act.put, List.setIfInBounds_toArray, List.set_cons_zero, List.set_cons_succ, List.getElem_toArray, List.getElem_cons_succ, List.getElem_cons_zero]
    refine wpAnyN_take (i := 2) (v := v32 s0) [6, 7, 8, 9] (by kernel_rfl) rfl (by kernel_rfl) (by kernel_rfl) (by kernel_rfl) (fun _ _ _ h => h) (Or.inl ⟨by rfl, ?_⟩) hH ?_
    · intro V hV; have kc := (boxed_below hbS hV hbS.lt).cell; go_simp
    try simp only [Act.put, List.setIfInBounds_toArray, List.set_cons_zero, List.set_cons_succ, List.getElem_toArray, List.getElem_cons_succ, List.getElem_cons_zero]
    refine wpAnyN_take (i := 3) (v := .int .i64 f) [6, 7, 8, 9] (by kernel_rfl) rfl (by kernel_rfl) (by kernel_rfl) (by kernel_rfl) (fun _ _ _ h => h) (Or.inl ⟨by rfl, ?_⟩) hH ?_
    · intro V hV; go_simp
    try simp only [Act.put, List.setIfInBounds_toArray, List.set_cons_zero, List.set_cons_succ, List.getElem_toArray, List.getElem_cons_succ, List.getElem_cons_zero]
    refine wpAnyN_take (i := 4) (v := .slice xA xn xc) [5, 6, 7, 8, 9] (by kernel_rfl) rfl (by kernel_rfl) (by kernel_rfl) (by kernel_rfl) (fun _ _ _ h => h) (Or.inl ⟨by rfl, ?_⟩) hH ?_
    · intro V hV; go_simp
    try simp only [Act.put, List.setIfInBounds_toArray, List.set_cons_zero, List.set_cons_succ, List.getElem_toArray, List.getElem_cons_succ, List.getElem_cons_zero]
    refine wpAnyN_one (i := 5) (by kernel_rfl) rfl (fun K hK => ?_)
    go_simp
    refine (clone w.heap.size xA xn xc xbs _ hBW.out hsz (by omega)).mono ?_
    rintro r w5 ⟨A5, c5, rfl, hy5, hb5⟩
    go_wp2_with fail
    have hH5 : From W w5 := hH.call hb5
    refine hK.out _ _ (.inr hH5) ?_
    clear hK K
    try simp only [Act.put, List.setIfInBounds_toArray, List.set_cons_zero, List.set_cons_succ, List.getElem_toArray, List.getElem_cons_succ, List.getElem_cons_zero]
    refine wpAnyN_take (i := 6) (v := .agg #[v32 ep, v32 s0, .int .i64 f, .slice A5 xn c5]) [7, 8, 9] (by kernel_rfl) rfl (by kernel_rfl) (by kernel_rfl) (by kernel_rfl) (fun _ _ _ h => h) (Or.inl ⟨by rfl, ?_⟩) hH5 ?_
    · intro V hV; go_simp
    try simp only [Act.put, List.setIfInBounds_toArray, List.set_cons_zero, List.set_cons_succ, List.getElem_toArray, List.getElem_cons_succ, List.getElem_cons_zero]
    refine wpAnyN_one (i := 7) (by kernel_rfl) rfl (fun K hK => ?_)
    go_simp
    refine hK.out _ _ (.inr (hH5.alloc _)) ?_
    clear hK K
    try simp only [Act.put, List.setIfInBounds_toArray, List.set_cons_zero, List.set_cons_succ, List.getElem_toArray, List.getElem_cons_succ, List.getElem_cons_zero]
    refine wpAnyN_one (i := 8) (by kernel_rfl) rfl (fun K hK => ?_)
    rw [if_pos (by rfl)]
    have hcl : ∀ j u, ([v32 ep, v32 s0, .int .i64 f, .slice A5 xn c5] : List Value)[j]? = some u → (w5.alloc (.cells #[v32 ep, v32 s0, .int .i64 f, .slice A5 xn c5] 121)).cell? ((⟨w5.heap.size, 0, none⟩ : Addr).add j) = some u := by
      intro j u hu
      rw [add_row]
      exact ((Cel.new w5 121 [v32 ep, v32 s0, .int .i64 f, .slice A5 xn c5]).cell j).trans hu
    have hrow5 := own_below (own_below hROW.out.row ((Below.refl _ W).drew)) hb5
    rw [cells_el] at hrow5
    refine wp_append_row _ _ _ 116 rfl w.heap.size 121 i0 _ 4 40 Tryz.underlying116 hi hz0 hz1 hz2 rfl (by decide) (.slice Av pre.length cv) pre.length (flat xs) rfl (hrow5.alloc _) ⟨w5.heap.size, 0, none⟩ 1 1 [v32 ep, v32 s0, .int .i64 f, .slice A5 xn c5] rfl rfl hcl
      (by intro u hu; simp at hu; rcases hu with rfl | rfl | rfl | rfl <;> rfl) (by unfold maxLen; omega) (by omega) (by have := hH5.size; simp; omega) (by omega) ?_
    intro A8 c8 w8 ho8 hg8
    refine hK.out _ _ (.inl (by decide)) ?_
    clear hK K hcl
    obtain ⟨h81, h82, h83, h84, h85⟩ := Row.pushed (v' := .slice A8 (pre.length + 1) c8) (k' := pre.length + 1) hROW.out (by decide) (by decide) (by decide) hsz (by omega) hH5 (Pv.el ⟨⟨ep, s0, f, xbs⟩, A5, c5⟩) (by rw [Pv.el]; dsimp only; rw [hxl]; exact hy5)
      (by
        rw [← List.map_singleton, ← List.map_append, cells_el, flat_append]
        show w8.ownsRow _ _ _ _ _ (flat xs ++ [v32 ep, v32 s0, .int .i64 f, .slice A5 xbs.length c5])
        rw [hxl]
        exact ho8) hg8
    have k8 := h81.cell
    have f8 := h81.frozen
    have hE9 := h85 _ _ _ hbE (by decide) (by omega)
    have hS9 := h85 _ _ _ hbS (by decide) (by omega)
    try simp only [Act.put, List.setIfInBounds_toArray, List.set_cons_zero, List.set_cons_succ, List.getElem_toArray, List.getElem_cons_succ, List.getElem_cons_zero]
    refine wpAnyN_one (i := 9) (by kernel_rfl) rfl (fun K hK => ?_)
    go_simp
    refine hK.out _ _ (.inl (by decide)) ?_
    clear hK K
    try simp only [Act.put, List.setIfInBounds_toArray, List.set_cons_zero, List.set_cons_succ, List.getElem_toArray, List.getElem_cons_succ, List.getElem_cons_zero]
    refine wpAnyN_done (by kernel_rfl) ?_ _
    have k9 := hS9.cell
    have f9 := hS9.frozen
    simp only [Exit.then]
    gi_wp2
    have hpl : (said pre).length = pre.length := by rw [said, List.length_map]
    refine ⟨(h83.trans (KeepsOthers.setCell _ _ _)).from _, h84.setCell (p := ⟨w.heap.size + 1, 0, none⟩) (by simp) _, .slice A8 (pre.length + 1) c8, xs ++ [⟨⟨ep, s0, f, xbs⟩, A5, c5⟩], ?_, ?_, ?_, ?_, ?_⟩
    · rw [List.length_append, List.map_append]
      exact h82.set hS9 (by omega) (by decide) (by decide) _
    · rw [said, List.map_append, List.map_append, hPT.out]
      show _ = parts ep sq (said pre ++ [X.1.two])
      rw [HX.out, parts_snoc, hpl, HS0.out]
      rfl
    · exact hE9.kept (grownBy_setCell' _ _ _) (by simp)
    · rw [succ32 HS0.out]
      have := hS9.set (v32 (s0 + 1#32))
      rw [List.length_append, List.length_singleton, ← next32 HS0.out]
      exact this
    · exact (hLOW.out.trans h84).setCell (p := ⟨w.heap.size + 1, 0, none⟩) (by simp) _
  case done =>
    rintro D ys W hD hys ⟨v, xs, hI⟩ hK
    obtain ⟨Av, cv, rfl⟩ := hI.row.form
    have hc := hI.row.box.cell
    gi_wp2
    refine ⟨by simp, .inl ⟨_, _, rfl, run_takeDeferred hK, ?_⟩⟩
    have hcut : xs.map (·.p) = cut ep sq bs := by rw [hI.pts, hys]; rfl
    have hlen : ys.length = (cut ep sq bs).length := by rw [← hcut, hI.pts, parts_length, said, List.length_map]
    have hrow := hI.row.row
    rw [cells_el] at hrow
    exact ⟨_, results_tmp2 rfl _ _ _, Av, _, cv, xs, rfl, hcut, hlen, ownsRow_putObj hrow _ hK rfl, fun x hx => (hI.row.by_ x.el (List.mem_map_of_mem hx)).putObj _ hK rfl, hI.low.trans (belowK_b (w := w) (Nat.le_refl _) W D _ _ (by simp at hD; omega) hK rfl rfl)⟩
  case stop =>
    rintro D c pre W _ _ h _
    exact h.elim
end Go.Proofs.YtdaknfepcbooeaaGreat.Frag
end

section
namespace Go.Proofs.YtdaknfepcbooeaaGreat.Frag
open Go.RowKit Go.Shelf
set_option linter.unusedVariables false
set_option linter.unusedSimpArgs false
attribute [local go_sem] Oper.semAt_some

/-- A record, and where it lies. -/
structure Rv where
  bs : List (BitVec 8)
  A : Option Addr
  c : Nat
def Rv.val (x : Rv) : Value := .slice x.A x.bs.length x.c
def Rv.el (x : Rv) : El := ⟨[x.val], x.A, x.bs⟩
theorem cells_rv (rs : List Rv) : cellsOf (rs.map Rv.el) = rs.map Rv.val := by
  rw [cellsOf, List.flatMap_map]
  induction rs with
  | nil => rfl
  | cons x xs ih => rw [List.flatMap_cons, ih]; rfl

/-- What Join's loop keeps. -/
structure Joins (w : World) (pre : List (GrIn w w.heap.size)) (W : World) (v : Value) (rs : List Rv) : Prop where
  row : Row W w.heap.size w.heap.size 30 44 1 v pre.length (rs.map Rv.el)
  recs : rs.map (·.bs) = (told pre).map (fun g => g.flatMap (·.body))
  cnt : Boxed W (w.heap.size + 1) 3 (.int .i64 ((used (told pre) : Nat) : Int))
  low : Below w.heap.size w W
theorem joins_own (w : World) (B : Nat) (hB : w.heap.size ≤ B) : OwnFrom B (fun pre W => ∃ v rs, Joins w pre W v rs) := by
  rintro s X Y row ⟨v, xs, h⟩ hg hr
  have hr' : ∀ r, row = some r → ∃ o : Obj, X.heap[r]? = some o ∧ o.isCells = false := fun r e => (hr r e).2
  have hb : ∀ b t u, Boxed X b t u → Boxed Y b t u := fun b t u hx => hx.kept hg (fun e' => by
    obtain ⟨o, ho, hc⟩ := hr' b e'.symm
    rw [show X.heap[b]? = _ from hx] at ho; cases ho; cases hc)
  exact ⟨v, xs, h.row.not_cells hg hr', h.recs, hb _ _ _ h.cnt, ownFrom_below (Nat.le_refl _) hB s X Y row h.low hg hr⟩

theorem whole_eq (xs : List Pv) : whole xs = (xs.map (·.p)).flatMap (·.body) := by rw [whole, List.flatMap_map]
theorem grp_length (l : List Pt) : (grp l).length ≤ l.length := by
  induction h : l.length using Nat.strongRecOn generalizing l with
  | ind n ih =>
    subst h
    rcases Nat.eq_zero_or_pos (lead true l) with h0 | h0
    · rw [grp_none h0]; simp
    · have hl := lead_le true l
      have h1 := ih (l.drop (lead true l)).length (by simp; omega) _ rfl
      rw [grp_more h0]
      simp at h1 ⊢
      omega

theorem used_told {w : World} {B : Nat} (gs : List (GrIn w B)) : used (told gs) ≤ gs.length * 4096 := by
  induction gs with
  | nil => simp [used, told]
  | cons x xs ih =>
    have h1 := x.2.1.len
    have h2 := x.2.2.2.1
    have e : used (told (x :: xs)) = x.1.xs.length + used (told xs) := by simp [used, told, Gr.pts]
    rw [e, List.length_cons]
    omega

set_option maxRecDepth 100000 in
set_option maxHeartbeats 2000000 in
theorem join_calls (A : Option Addr) (n c : Nat) (xs : List Pv) (w : World) (hxs : Pr w w.heap.size A n xs) (hn : n ≤ 4096) (hnc : n ≤ c) (hc : c ≤ maxLen) (hfit : ∀ x ∈ xs, fits x.p.flags) (hG : ∀ g ∈ grp (xs.map (·.p)), (g.flatMap (·.body)).length ≤ 100000) :
    Calls Tryz.prog 92 #[.slice A n c] w fun r w' => ∃ (A' : Option Addr) (m c' : Nat) (rs : List Rv), r = .returned (.tuple #[.slice A' m c', .int .i64 ((used (grp (xs.map (·.p))) : Nat) : Int)]) ∧ rs.map (·.bs) = (grp (xs.map (·.p))).map (fun g => g.flatMap (·.body)) ∧ m = rs.length ∧
      w'.ownsRow w.heap.size 44 1 (.slice A' m c') m (rs.map Rv.val) ∧ (∀ x ∈ rs, By w' x.A x.bs.length x.bs) ∧ Below w.heap.size w w' := by
  obtain ⟨i0, hi, hz0, hz1, hz2⟩ := info_parts infoRec
  refine (callsIn_wide (n := 10)).1 ?_
  refine callsIn_of_wp_marks Tryz.func92 rfl trivial ?_ rfl
  simp only [Tryz.ntmps92, List.size_toArray, List.length_cons, List.length_nil, Nat.reduceAdd, Nat.reduceSub, Array.replicate_succ, Array.replicate_zero, List.push_toArray, List.append_toArray, List.nil_append, List.cons_append]
  have HP := Lib.hid hxs
  have HF := Lib.hid hfit
  have HG := Lib.hid hG
  have hN := grp_length (xs.map (·.p))
  rw [List.length_map, hxs.len] at hN
  have hU := used_grp (xs.map (·.p))
  rw [List.length_map, hxs.len] at hU
  have HU := Lib.hid hU
  clear hxs hfit hG hU
  unfold maxLen at hc
  gi_wp2_with ((refine ⟨trivial, ?_⟩; refine (callsIn_wide.2 (groups A n c _)).mono ?_; rintro e w' ⟨rfl, rfl⟩))
  have b0 := Boxed.new w 30 (.slice none 0 0)
  have b1 := Boxed.new (w.alloc (.cells #[.slice none 0 0] 30)) 3 (.int .i64 0)
  have b2 := Boxed.new ((w.alloc (.cells #[.slice none 0 0] 30)).alloc (.cells #[.int .i64 0] 3)) 116 (.slice A n c)
  have hB0 : Below w.heap.size w (((w.alloc (.cells #[.slice none 0 0] 30)).alloc (.cells #[.int .i64 0] 3)).alloc (.cells #[.slice A n c] 116)) :=
    (((Below.refl _ w).alloc (Nat.le_refl _) _).alloc (by simp) _).alloc (by simp; omega) _
  simp only [World.size_alloc] at b1 b2
  refine wpIn_rangeFunc_ownG rfl (by decide) (gf := 126) (lb := #[.pointer (some ⟨w.heap.size + 1 + 1, 0, none⟩)]) rfl trivial (enters_of Tryz.func126 (by kernel_rfl) rfl)
    (groups_stops w w.heap.size A n c xs HP.out hnc (by unfold maxLen; exact hc) hn HF.out HG.out (w.heap.size + 1 + 1) _ hB0 (by simp; omega) (by simp) b2.cell) belowK_t (belowK_b (by simp; omega)) (Below.refl _ _) (fun _ => rfl)
    (fun pre W => (∃ v rs, Joins w pre W v rs) ∧ pre.length ≤ 4096) (fun _ _ _ => False) (OwnFrom.and (joins_own w _ (by simp; omega)) (ownFrom_pure _ _)) (fun _ _ _ _ _ hs _ _ => hs)
    ⟨⟨.slice none 0 0, [], ⟨((b0.alloc _).alloc _), World.ownsRow_nil _ _ _ _, by simp⟩, rfl, b1.alloc _, hB0⟩, Nat.zero_le _⟩
    (fun x => { tmps := #[.slice A n c, undef, .slice none 0 0, .int .i64 0, .pointer (some ⟨w.heap.size, 0, none⟩), .pointer (some ⟨w.heap.size + 1, 0, none⟩), .slice x.1.A x.1.n x.1.c, .slice A n c, .func (.func 126) #[] #[.pointer (some ⟨w.heap.size + 1 + 1, 0, none⟩)], .slice x.1.A x.1.n x.1.c, undef, undef, undef, undef, undef, undef, undef, undef, undef, undef, undef], defers := [] }) ?assign ?body ?done ?stop
  case assign =>
    intro l x W K hK
    dsimp only [encG]
    gi_wp2
    exact hK
  case body =>
    rintro l pre X W ⟨⟨v, rs, hI⟩, hpl4⟩ hlt
    have hx1 := X.2.1
    have hx2 := X.2.2.1
    have hx3 := X.2.2.2.1
    have hx4 := X.2.2.2.2
    obtain ⟨xA, xn, xc, xxs, hX⟩ : ∃ xA xn xc xxs, X.1 = ⟨xA, xn, xc, xxs⟩ := ⟨_, _, _, _, rfl⟩
    rw [hX] at hx1 hx2 hx3 hx4
    simp only [hX]
    dsimp only [Gr.pts] at hx1 hx2 hx3 hx4
    rw [← whole_eq] at hx4
    have HX := Lib.hid hX
    clear hX
    have hsz := hI.low.size
    obtain ⟨Av, cv, rfl⟩ := hI.row.form
    have hbx := hI.row.box
    have hbC := hI.cnt
    have hRC := Lib.hid hI.recs
    have hLOW := Lib.hid hI.low
    have hROW := Lib.hid hI.row
    have hPW := Lib.hid (show Pr W.drew w.heap.size xA xn xxs from hx1.below (hI.low.drew))
    have hxl := hx1.len
    have hub : used (told pre) ≤ 16777216 := by
      have := used_told pre
      omega
    clear hI hx1
    generalize hwb : whole xxs = wb at *
    generalize hu0 : used (told pre) = u0 at *
    have HU0 := Lib.hid hu0
    clear hu0
    refine wpIn_block (wpIn_seq (wpIn_region_round [4, 5] (From W) (by kernel_rfl) (by kernel_rfl) (by rintro ⟨a, w, h⟩; exact h) ?_))
    have hH := (From.self W).drew
    refine wpAnyN_take (i := 0) (v := .slice Av pre.length cv) [4, 5] (by kernel_rfl) rfl (by kernel_rfl) (by kernel_rfl) (by kernel_rfl) (fun _ _ _ h => h) (Or.inl ⟨by rfl, ?_⟩) hH ?_
    · intro V hV; have kc := (boxed_below hbx hV hbx.lt).cell; go_simp
    try simp only [Act.put, List.setIfInBounds_toArray, List.set_cons_zero, List.set_cons_succ, List.getElem_toArray, List.getElem_cons_succ, List.getElem_cons_zero]
    refine wpAnyN_take (i := 1) (v := .slice xA xn xc) [2, 3, 4, 5] (by kernel_rfl) rfl (by kernel_rfl) (by kernel_rfl) (by kernel_rfl) (fun _ _ _ h => h) (Or.inl ⟨by rfl, ?_⟩) hH ?_
    · intro V hV; go_simp
    try simp only [Act.put, List.setIfInBounds_toArray, List.set_cons_zero, List.set_cons_succ, List.getElem_toArray, List.getElem_cons_succ, List.getElem_cons_zero]
    refine wpAnyN_one (i := 2) (by kernel_rfl) rfl (fun K hK => ?_)
    go_simp
    refine (bodies xA xn xc xxs _ w.heap.size hPW.out hsz hx2 hx3 (by rw [hwb]; omega)).mono ?_
    rw [hwb]
    rintro r w5 ⟨A5, c5, rfl, hy5, hb5⟩
    generalize hwl : wb.length = wl at *
    go_wp2_with fail
    have hH5 : From W w5 := hH.call hb5
    refine hK.out _ _ (.inr hH5) ?_
    clear hK K
    try simp only [Act.put, List.setIfInBounds_toArray, List.set_cons_zero, List.set_cons_succ, List.getElem_toArray, List.getElem_cons_succ, List.getElem_cons_zero]
    refine wpAnyN_one (i := 3) (by kernel_rfl) rfl (fun K hK => ?_)
    go_simp
    refine hK.out _ _ (.inr (hH5.alloc _)) ?_
    clear hK K
    try simp only [Act.put, List.setIfInBounds_toArray, List.set_cons_zero, List.set_cons_succ, List.getElem_toArray, List.getElem_cons_succ, List.getElem_cons_zero]
    refine wpAnyN_one (i := 4) (by kernel_rfl) rfl (fun K hK => ?_)
    rw [if_pos (by rfl)]
    have hcl : ∀ j u, ([.slice A5 wl c5] : List Value)[j]? = some u → (w5.alloc (.cells #[.slice A5 wl c5] 44)).cell? ((⟨w5.heap.size, 0, none⟩ : Addr).add j) = some u := by
      intro j u hu
      rw [add_row]
      exact ((Cel.new w5 44 [.slice A5 wl c5]).cell j).trans hu
    have hrow5 := own_below (own_below hROW.out.row ((Below.refl _ W).drew)) hb5
    rw [cells_rv] at hrow5
    refine wp_append_row _ _ _ 30 rfl w.heap.size 44 i0 _ 1 24 Tryz.underlying30 hi hz0 hz1 hz2 rfl (by decide) (.slice Av pre.length cv) pre.length (rs.map Rv.val) rfl (hrow5.alloc _) ⟨w5.heap.size, 0, none⟩ 1 1 [.slice A5 wl c5] rfl rfl hcl
      (by intro u hu; simp at hu; subst hu; rfl) (by unfold maxLen; omega) (by omega) (by have := hH5.size; simp; omega) (by omega) ?_
    intro A8 c8 w8 ho8 hg8
    refine hK.out _ _ (.inl (by decide)) ?_
    clear hK K hcl
    obtain ⟨h81, h82, h83, h84, h85⟩ := Row.pushed (v' := .slice A8 (pre.length + 1) c8) (k' := pre.length + 1) hROW.out (by decide) (by decide) (by decide) hsz (by omega) hH5 (Rv.el ⟨wb, A5, c5⟩) (by rw [Rv.el]; dsimp only; rw [hwl]; exact hy5)
      (by
        rw [← List.map_singleton, ← List.map_append, cells_rv, List.map_append]
        show w8.ownsRow _ _ _ _ _ (rs.map Rv.val ++ [.slice A5 wb.length c5])
        rw [hwl]
        exact ho8) hg8
    have k8 := h81.cell
    have f8 := h81.frozen
    have hC9 := h85 _ _ _ hbC (by decide) (by omega)
    try simp only [Act.put, List.setIfInBounds_toArray, List.set_cons_zero, List.set_cons_succ, List.getElem_toArray, List.getElem_cons_succ, List.getElem_cons_zero]
    refine wpAnyN_one (i := 5) (by kernel_rfl) rfl (fun K hK => ?_)
    go_simp
    refine hK.out _ _ (.inl (by decide)) ?_
    clear hK K
    try simp only [Act.put, List.setIfInBounds_toArray, List.set_cons_zero, List.set_cons_succ, List.getElem_toArray, List.getElem_cons_succ, List.getElem_cons_zero]
    refine wpAnyN_done (by kernel_rfl) ?_ _
    have k9 := hC9.cell
    have f9 := hC9.frozen
    simp only [Exit.then]
    gi_wp2
    have hus : used (told (pre ++ [X])) = u0 + xn := by
      rw [told, List.map_append, List.map_singleton, used_snoc]
      show used (told pre) + X.1.pts.length = _
      rw [HU0.out, HX.out, Gr.pts, List.length_map, hxl]
    refine ⟨(h83.trans (KeepsOthers.setCell _ _ _)).from _, h84.setCell (p := ⟨w.heap.size + 1, 0, none⟩) (by simp) _, ⟨.slice A8 (pre.length + 1) c8, rs ++ [⟨wb, A5, c5⟩], ?_, ?_, ?_, ?_⟩, by rw [List.length_append, List.length_singleton]; omega⟩
    · rw [List.length_append, List.map_append]
      exact h82.set hC9 (by omega) (by decide) (by decide) _
    · rw [told, List.map_append, List.map_append, List.map_append, hRC.out]
      show _ = _ ++ [X.1.pts.flatMap (·.body)]
      rw [HX.out, Gr.pts, ← whole_eq, hwb]
      rfl
    · rw [hus]
      exact hC9.set _
    · exact (hLOW.out.trans h84).setCell (p := ⟨w.heap.size + 1, 0, none⟩) (by simp) _
  case done =>
    rintro D ys W hD hys ⟨⟨v, rs, hI⟩, _⟩ hK
    obtain ⟨Av, cv, rfl⟩ := hI.row.form
    have hc := hI.row.box.cell
    have hc2 := hI.cnt.cell
    have hmx : Tryz.prog.follows .mixedOrders = true := by kernel_rfl
    gi_wp2
    have hrow := hI.row.row
    rw [cells_rv] at hrow
    have hys' : told ys = grp (xs.map (·.p)) := hys
    have hcnt : ys.length = rs.length := by
      have := congrArg List.length hI.recs
      rw [List.length_map, List.length_map, told, List.length_map] at this
      exact this.symm
    gi_region_o
    all_goals gi_wp2
    have hK' : W.drew.heap[D]? = some (.deferred (some [])) := hK
    rw [hcnt] at hrow
    refine ⟨by simp, .inl ⟨_, _, rfl, run_takeDeferred hK', ?_⟩⟩
    exact ⟨_, results_tmp2 rfl _ _ _, Av, _, cv, rs, rfl, by rw [← hys']; exact hI.recs, rfl, ownsRow_putObj (own_below hrow ((Below.refl _ W).drew)) _ hK' rfl, fun x hx => ((hI.row.by_ x.el (List.mem_map_of_mem hx)).drew).putObj _ hK' rfl, hI.low.drew.trans (belowK_b (w := w) (Nat.le_refl _) W.drew D _ _ (by simp at hD; omega) hK' rfl rfl)⟩
  case stop =>
    rintro D c pre W _ _ h _
    exact h.elim
end Go.Proofs.YtdaknfepcbooeaaGreat.Frag
end
