/-
  A variable that holds a row of the call's own, whose elements hold bytes; what an append and its store make of it.
-/
import Derived.Test.YtmchpakefddinaaFragBodies
import Derived.Test.YtmchpakefddinaaFragIter
namespace Go.Proofs.Ytmchpakefddinaa.Frag
open Go.RowKit
set_option linter.unusedVariables false

/-- An element: its cells, and the bytes that it holds. -/
structure El where
  cs : List Value
  A : Option Addr
  bs : List (BitVec 8)
def cellsOf (es : List El) : List Value := es.flatMap (·.cs)
structure Row (W : World) (n₀ B : Nat) (t e : TypeId) (size : Nat) (v : Value) (k : Nat) (es : List El) : Prop where
  box : Boxed W B t v
  row : W.ownsRow n₀ e size v k (cellsOf es)
  by_ : ∀ x ∈ es, By W x.A x.bs.length x.bs

theorem boxed_below {W W' : World} {n B : Nat} {t : TypeId} {v : Value} (h : Boxed W B t v) (hb : Below n W W') (hB : B < n) : Boxed W' B t v := (hb.block B hB).trans h
theorem grown_of_below {W W' : World} (h : Below W.heap.size W W') (row : Option Nat) : W.grownBy W' row := ⟨h.os, h.tape, h.output, h.size, fun k hk _ => h.block k hk⟩
theorem own_below {W W' : World} {base e size n : Nat} {v : Value} {xs : List Value} (h : W.ownsRow base e size v n xs) (hb : Below W.heap.size W W') : W'.ownsRow base e size v n xs := by
  refine h.kept (grown_of_below hb none) ?_
  rcases h.2 with ⟨rfl, _⟩ | ⟨g, cap, cur, rfl, _⟩
  · exact .inl rfl
  · exact .inr (by simp [Value.ownBlock])

namespace Row
variable {W W' : World} {n₀ B : Nat} {t e : TypeId} {size : Nat} {v : Value} {k : Nat} {es : List El}
theorem below (h : Row W n₀ B t e size v k es) (hb : Below W.heap.size W W') : Row W' n₀ B t e size v k es :=
  ⟨boxed_below h.box hb h.box.lt, own_below h.row hb, fun x hx => (h.by_ x hx).below hb⟩
theorem drew (h : Row W n₀ B t e size v k es) : Row W.drew n₀ B t e size v k es := h.below ((Below.refl _ _).drew)
theorem not_cells (h : Row W n₀ B t e size v k es) {row : Option Nat} (hg : W.grownBy W' row) (hr : ∀ r, row = some r → ∃ o : Obj, W.heap[r]? = some o ∧ o.isCells = false) : Row W' n₀ B t e size v k es := by
  refine ⟨h.box.kept hg (fun e' => ?_), h.row.kept hg ?_, fun x hx => (h.by_ x hx).grown hg fun g cs fz e' hc => ?_⟩
  · obtain ⟨o, ho, hc⟩ := hr B e'.symm
    rw [show W.heap[B]? = _ from h.box] at ho; cases ho; cases hc
  · rcases h.row.2 with ⟨rfl, _⟩ | ⟨g, cap, cur, rfl, _, hgb, _⟩
    · exact .inl rfl
    · refine .inr fun e' => ?_
      obtain ⟨o, ho, hc⟩ := hr g (by simpa [Value.ownBlock] using e'.symm)
      rw [hgb] at ho; cases ho; cases hc
  · obtain ⟨o, ho, hc'⟩ := hr g e'
    rw [hc] at ho; cases ho; cases hc'
theorem set (h : Row W n₀ B t e size v k es) {b : Nat} {tb : TypeId} {u : Value} (hb : Boxed W b tb u) (hne : b ≠ B) (h1 : tb ≠ e) (h2 : tb ≠ 5) (u' : Value) : Row (W.setCell ⟨b, 0, none⟩ u') n₀ B t e size v k es :=
  ⟨h.box.kept (grownBy_setCell' W b u') (by simp; omega), h.row.kept (grownBy_setCell' W b u') (.inr (hb.not_row h1 h.row).symm), fun x hx => (h.by_ x hx).set hb h2 u'⟩
theorem form (h : Row W n₀ B t e size v k es) : ∃ A c, v = .slice A k c := by
  rcases h.row.2 with ⟨rfl, rfl⟩ | ⟨g, cap, cur, rfl, _⟩
  · exact ⟨_, _, rfl⟩
  · exact ⟨_, _, rfl⟩
end Row

/-- 'l = append(l, y)', behind a call that only makes memory. -/
theorem Row.pushed {W w5 w8 : World} {n₀ B : Nat} {t e : TypeId} {size : Nat} {v v' : Value} {k k' : Nat} {es : List El} (h : Row W n₀ B t e size v k es) (hte : t ≠ e) (ht5 : t ≠ 5) (he5 : e ≠ 5) (hn : n₀ ≤ W.heap.size) (hB : n₀ ≤ B)
    (h5 : Below W.heap.size W w5) (y : El) (hy : By w5 y.A y.bs.length y.bs) {tmp : Obj} (hown' : w8.ownsRow n₀ e size v' k' (cellsOf (es ++ [y]))) (hg : (w5.alloc tmp).grownBy w8 v.ownBlock) :
    Boxed w8 B t v ∧ Row (w8.setCell ⟨B, 0, none⟩ v') n₀ B t e size v' k' (es ++ [y]) ∧ KeepsOthers W (w8.setCell ⟨B, 0, none⟩ v') ∧ Below n₀ W (w8.setCell ⟨B, 0, none⟩ v') ∧
      (∀ b tb u, Boxed W b tb u → tb ≠ e → b ≠ B → Boxed (w8.setCell ⟨B, 0, none⟩ v') b tb u) := by
  have hr5 := h.below h5
  have hn5 : n₀ ≤ w5.heap.size := Nat.le_trans hn h5.size
  have hx := Boxed.appended hr5.box hte hr5.row hn5 hB hown' hg
  obtain ⟨h1, h2, h3, h4, hb⟩ := hx
  refine ⟨h1, ⟨h2, h3, ?_⟩, (KeepsOthers.of_grownBy (grown_of_below h5 none) (fun j o e => by cases e)).trans h4, (h5.mono hn).trans hb, ?_⟩
  · intro x hx
    have : By w5 x.A x.bs.length x.bs := by
      rcases List.mem_append.1 hx with hx | hx
      · exact hr5.by_ x hx
      · rw [List.mem_singleton.1 hx]; exact hy
    refine ((this.alloc tmp).grown hg ?_).set h1 ht5 v'
    intro g cs fz hv hc
    exact not_bytes (hr5.row.alloc tmp) he5 g cs fz hv hc
  · intro b tb u hb' hne hbB
    have k5 := (boxed_below hb' h5 hb'.lt).alloc tmp
    have k8 := k5.kept hg (k5.not_row hne (hr5.row.alloc tmp))
    exact k8.kept (grownBy_setCell' w8 B v') (by simp; omega)

/-- append of elements onto a row of the call's own. -/
theorem wp_append_row {P : Program} (w : World) {o : Oper} {a : Act} {K : Act → World → Prop} {Q : Exit → Act → World → Prop} (s x : Operand) (t : TypeId)
    (ho : o.op = .call { callee := .builtin .append, args := #[s, x], argTypes := #[t, t] }) (base : Nat) (e : TypeId) (i : TypeInfo) (z : Value) (size bytes : Nat) (ht : P.underlying t = some (.slice e)) (hi : P.info? e = some i) (hz : i.zero = some z)
    (hsize : i.size = size) (hby : i.bytes = bytes) (hzs : z.cells.size = size) (hsz : 0 < size)
    (v : Value) (n : Nat) (us : List Value) (hs : a.eval s = v) (hown : w.ownsRow base e size v n us)
    (ad : Addr) (m c : Nat) (news : List Value) (hx : a.eval x = .slice (some ad) m c) (hl : news.length = m * size) (hnews : ∀ j u, news[j]? = some u → w.cell? (ad.add j) = some u) (h1 : ∀ u ∈ news, u.oneCell' = true)
    (h63 : n + m ≤ maxLen) (hbytes : (n + m) * bytes ≤ 140737488355328) (hbase : base ≤ w.heap.size) (hpos : 0 < n + m)
    (h : ∀ A' c' w', w'.ownsRow base e size (.slice A' (n + m) c') (n + m) (us ++ news) → w.grownBy w' v.ownBlock → K (a.put o.dst (.slice A' (n + m) c')) w') : o.wp P a w K Q := by
  obtain ⟨v', w', hrun, h2, h3, _, h5⟩ := run_append_own_at (P := P) w base t o.type e i z size bytes ht hi hz hsize hby hzs hsz v n us hown ad m c news hl hnews h1 h63 hbytes hbase
  have hv : ∃ A' c', v' = .slice A' (n + m) c' := by
    rcases h2.2 with ⟨rfl, h0⟩ | ⟨g, cap, cur, rfl, _⟩
    · omega
    · exact ⟨_, _, rfl⟩
  obtain ⟨A', c', rfl⟩ := hv
  unfold Oper.wp execOp
  simp only [ho, resolve, invoke, builtin, Sem.run_bind, Sem.run_pure, Result.andThen_ok, List.map_toArray, List.map_cons, List.map_nil, hs, hx, hrun]
  exact h A' c' w' h2 h3

/-- W is w0, and more. -/
def From (w0 W : World) : Prop := Below w0.heap.size w0 W
theorem From.self (w0 : World) : From w0 w0 := Below.refl _ _
theorem From.drew {w0 W : World} (h : From w0 W) : From w0 W.drew := Below.drew h
theorem From.alloc {w0 W : World} (o : Obj) (h : From w0 W) : From w0 (W.alloc o) := Below.alloc h h.size o
theorem From.call {w0 W W' : World} (h2 : Below W.heap.size W W') (h : From w0 W) : From w0 W' := Below.trans h (h2.mono h.size)

theorem infoPart : (Try.prog.info? 35).map (fun i => (i.zero, i.size, i.bytes)) = some (some (.agg #[.int .u32 0, .int .u32 0, .int .i64 0, .slice none 0 0]), 4, 40) := by kernel_rfl
theorem infoRec : (Try.prog.info? 22).map (fun i => (i.zero, i.size, i.bytes)) = some (some (.slice none 0 0), 1, 24) := by kernel_rfl

def Pv.el (x : Pv) : El := ⟨x.cells, x.A, x.p.body⟩
theorem cells_el (xs : List Pv) : cellsOf (xs.map Pv.el) = flat xs := by rw [cellsOf, List.flatMap_map]; rfl
end Go.Proofs.Ytmchpakefddinaa.Frag
