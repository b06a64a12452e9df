/-
  The program's cutter (layer 11) in memory: its tokens, the one that isn't ended, what its calls write.
-/
import Derived.Test.YtadfoilbcipdjaaLexTests
import Derived.Test.YtadfoilbcipdjaaLexCut
namespace Go.Proofs.Ytadfoilbcipdjaa.Lex
open Go.RowKit
set_option linter.unusedVariables false
set_option linter.unusedSimpArgs false

/-- Blocks that the cutter writes. -/
def Lob : Obj → Prop
  | .cells _ t _ => t = 47 ∨ t = 53 ∨ t = 5 ∨ t = 3
  | _ => False
/-- What was there stays as it was, but for such blocks from D on. -/
structure Chl (D : Nat) (w w' : World) : Prop where
  os : w'.os = w.os
  tape : w'.tape = w.tape
  output : w'.output = w.output
  size : w.heap.size ≤ w'.heap.size
  block : ∀ k o, w.heap[k]? = some o → (k < D ∨ ¬ Lob o) → w'.heap[k]? = some o
namespace Chl
variable {D : Nat} {w w1 w2 : World}
theorem refl (D : Nat) (w : World) : Chl D w w := ⟨rfl, rfl, rfl, Nat.le_refl _, fun _ _ h _ => h⟩
theorem trans (h : Chl D w w1) (h2 : Chl D w1 w2) : Chl D w w2 :=
  ⟨h2.os.trans h.os, h2.tape.trans h.tape, h2.output.trans h.output, Nat.le_trans h.size h2.size, fun k o hk hn => h2.block k o (h.block k o hk hn) hn⟩
theorem of_below (h : Below w.heap.size w w1) : Chl D w w1 :=
  ⟨h.os, h.tape, h.output, h.size, fun k o hk _ => (h.block k (Array.getElem?_eq_some_iff.1 hk).1).trans hk⟩
theorem below (h : Chl D w w1) (hD : D ≤ w.heap.size) : Below D w w1 :=
  ⟨h.os, h.tape, h.output, h.size, fun k hk => by
    have : k < w.heap.size := by omega
    have e := Array.getElem?_eq_getElem this
    rw [h.block k _ e (.inl hk), e]⟩
theorem grown {row : Option Nat} (hg : w.grownBy w1 row) (hr : ∀ g, row = some g → D ≤ g ∧ ∃ o, w.heap[g]? = some o ∧ Lob o) : Chl D w w1 := by
  refine ⟨hg.os, hg.tape, hg.output, hg.size, fun k o hk hn => ?_⟩
  have hk' := (Array.getElem?_eq_some_iff.1 hk).1
  by_cases e : some k = row
  · obtain ⟨h3, o', h4, h5⟩ := hr k e.symm
    rw [hk] at h4
    cases h4
    rcases hn with hn | hn
    · omega
    · exact absurd h5 hn
  · exact (hg.block k hk' e).trans hk
theorem set {p : Addr} (u : Value) (hD : D ≤ p.block) {o : Obj} (ho : w.heap[p.block]? = some o) (hl : Lob o) : Chl D w (w.setCell p u) :=
  grown (row := some p.block) ⟨rfl, rfl, rfl, by simp [World.setCell], fun k _ hk => Below.heap_setCell _ _ _ _ (fun e => hk (by rw [e]))⟩ (fun g e => by cases e; exact ⟨hD, o, ho, hl⟩)
end Chl
theorem Cel.chl {D : Nat} {w w' : World} {g : Nat} {t : TypeId} {cs : List Value} (h : Cel w g t cs) (hc : Chl D w w') (hT : ¬ Lob (.cells cs.toArray t (0, 0))) : Cel w' g t cs := hc.block _ _ h (.inr hT)
/-- An own row of a kind that the cutter writes. -/
theorem own_lob {w : World} {base e size n : Nat} {v : Value} {us : List Value} (h : w.ownsRow base e size v n us) (ht : e = 47 ∨ e = 53 ∨ e = 5 ∨ e = 3) : ∀ g, v.ownBlock = some g → ∃ o, w.heap[g]? = some o ∧ Lob o := fun g e' => by
  rcases h.2 with ⟨rfl, _⟩ | ⟨g', cap, cur, rfl, _, h1, _⟩
  · simp [Value.ownBlock] at e'
  · obtain rfl : g' = g := by simpa [Value.ownBlock] using e'
    exact ⟨_, h1, ht⟩

/-- Bytes in a block of bytes, below block K. -/
def Btx (w : World) (K : Nat) (A : Option Addr) (bs : List (BitVec 8)) : Prop :=
  0 < bs.length → ∃ ad, A = some ad ∧ ad.block < K ∧ (∃ cs fz, w.heap[ad.block]? = some (.cells cs 5 fz)) ∧ ∀ j, j < bs.length → w.cell? (ad.add j) = some (v8 (bs.getD j 0#8))
namespace Btx
variable {w w' : World} {K : Nat} {A : Option Addr} {bs : List (BitVec 8)}
theorem keep (h : Btx w K A bs) (hk : ∀ (k : Nat) cs fz, k < K → w.heap[k]? = some (Obj.cells cs 5 fz) → w'.heap[k]? = w.heap[k]?) : Btx w' K A bs := fun hn => by
  obtain ⟨ad, e, hK, ⟨cs, fz, hb⟩, hc⟩ := h hn
  have h1 := hk _ _ _ hK hb
  exact ⟨ad, e, hK, ⟨cs, fz, h1.trans hb⟩, fun j hj => (World.cell?_of_block (by rw [add_block]; exact h1)).trans (hc j hj)⟩
theorem below (h : Btx w K A bs) (hb : Below w.heap.size w w') : Btx w' K A bs := h.keep fun k _ _ _ hk => hb.block k (Array.getElem?_eq_some_iff.1 hk).1
theorem more {K' : Nat} (h : Btx w K A bs) (hK : K ≤ K') : Btx w K' A bs := fun hn => by
  obtain ⟨ad, e, hl, hb, hc⟩ := h hn
  exact ⟨ad, e, by omega, hb, hc⟩
theorem by_ (h : Btx w K A bs) : By w A bs.length bs := ⟨rfl, fun hn => by
  obtain ⟨ad, e, _, hb, hc⟩ := h hn
  exact ⟨ad, e, hb, hc⟩⟩
theorem of_own {B n c : Nat} (h : Owb w B A n c bs) : Btx w w.heap.size A bs := fun hn => by
  have hl := h.len
  obtain ⟨ad, e, hb, hc⟩ := (By.of_own (c := c) h).2 (by omega)
  exact ⟨ad, e, by obtain ⟨cs, fz, hb⟩ := hb; exact (Array.getElem?_eq_some_iff.1 hb).1, hb, fun j hj => hc j (by omega)⟩
/-- Another block is written, or one from K on. -/
theorem set (h : Btx w K A bs) {p : Addr} (u : Value) (hp : K ≤ p.block ∨ ∀ cs fz, w.heap[p.block]? ≠ some (Obj.cells cs 5 fz)) : Btx (w.setCell p u) K A bs := h.keep fun k cs fz hk hb => Below.heap_setCell _ _ _ _ fun e => by
  rcases hp with hp | hp
  · omega
  · exact hp cs fz (e ▸ hb)
theorem grown (h : Btx w K A bs) {row : Option Nat} (hg : w.grownBy w' row) (hp : ∀ g, row = some g → K ≤ g ∨ ∀ cs fz, w.heap[g]? ≠ some (Obj.cells cs 5 fz)) : Btx w' K A bs := h.keep fun k cs fz hk hb => hg.block k (Array.getElem?_eq_some_iff.1 hb).1 fun e => by
  rcases hp k e.symm with hp | hp
  · omega
  · exact hp cs fz hb
end Btx

theorem infoPtk : (Try.prog.info? 53).map (fun i => (i.zero, i.size, i.bytes)) = some (some (.agg #[.int .i64 0, .int .i64 0, .int .i64 0, .slice none 0 0]), 4, 48) := by kernel_rfl
theorem rowPtk : ElemRow Try.prog 36 53 4 48 := ElemRow.mk' Try.underlying36 infoPtk rfl (by decide)

/-- The cutter's cells. -/
def Pcc (w : World) (g : Nat) (E : Value) (A : Option Addr) (m c : Nat) (p z : Int) : Prop := Cel w g 47 [E, .slice A m c, .int .i64 p, .int .i64 z]
/-- The cutter in block g: E its entrances, us the tokens that are ended, xs the one that isn't; their texts lie below K, and from K on. -/
structure Mc (w : World) (D K g : Nat) (E : Value) (p z : Int) (us xs : List Tv) : Prop where
  low : D ≤ K
  top : K ≤ w.heap.size
  gD : D ≤ g
  mem : ∃ A c, Pcc w g E A (us.length + xs.length) c p z ∧ w.ownsRow D 53 4 (.slice A (us.length + xs.length) c) (us.length + xs.length) (tflat (us ++ xs))
  old : ∀ v ∈ us, Btx w K v.A v.t.t.text
  new : ∀ v ∈ xs, Owb w K v.A v.t.t.text.length v.c v.t.t.text
section
variable {w w' w1 w2 : World} {D K g : Nat} {E : Value} {p z : Int} {us xs : List Tv} {x : Tv}
theorem Mc.lt (h : Mc w D K g E p z us xs) : g < w.heap.size := by
  obtain ⟨A, c, hc, _⟩ := h.mem
  exact Cel.lt hc
theorem Mc.below (h : Mc w D K g E p z us xs) (hb : Below w.heap.size w w') : Mc w' D K g E p z us xs := by
  obtain ⟨A, c, hc, ho⟩ := h.mem
  exact ⟨h.low, Nat.le_trans h.top hb.size, h.gD, ⟨A, c, Cel.below hc hb (Cel.lt hc), own_frm (l := []) ho (Frm.of_below hb) (by simp)⟩, fun v hv => (h.old v hv).below hb, fun v hv => (h.new v hv).below hb⟩
/-- The token is ended. -/
theorem Mc.done (h : Mc w D K g E p z us xs) : Mc w D w.heap.size g E p z (us ++ xs) [] := by
  obtain ⟨A, c, hc, ho⟩ := h.mem
  refine ⟨Nat.le_trans h.low h.top, Nat.le_refl _, h.gD, ⟨A, c, ?_, ?_⟩, fun v hv => ?_, by simp⟩
  · rw [List.length_append]; exact hc
  · rw [List.length_append, List.append_nil]; exact ho
  · rcases List.mem_append.1 hv with hv | hv
    · exact (h.old v hv).more h.top
    · exact Btx.of_own (h.new v hv)
/-- A cell of the cutter is written. -/
theorem Mc.put {p' z' : Int} {i : Nat} {u : Value} (h : Mc w D K g E p z us xs) (hi : ∀ (A : Option Addr) (m c : Nat), [E, Value.slice A m c, .int .i64 p, .int .i64 z].set i u = [E, Value.slice A m c, .int .i64 p', .int .i64 z']) : Mc (w.setCell ⟨g, i, none⟩ u) D K g E p' z' us xs ∧ Chl D w (w.setCell ⟨g, i, none⟩ u) := by
  obtain ⟨A, c, hc, ho⟩ := h.mem
  have hf : Frm [g] w (w.setCell ⟨g, i, none⟩ u) := (Frm.refl [g] w).set (by simp) _
  refine ⟨⟨h.low, Nat.le_trans h.top hf.size, h.gD, ⟨A, c, ?_, own_frm ho hf fun k hk => ?_⟩, fun v hv => (h.old v hv).set _ (.inr (Cel.not_ty hc (by decide))), fun v hv => own_frm (h.new v hv) hf fun k hk => ?_⟩, Chl.set _ h.gD hc (.inl rfl)⟩
  · have := Cel.set hc i u
    rw [hi] at this
    exact this
  · rw [List.mem_singleton.1 hk]; exact own_ty_ne ho hc (by decide)
  · rw [List.mem_singleton.1 hk]; exact own_ty_ne (h.new v hv) hc (by decide)
theorem Mc.wrong (h : Mc w D K g E p z us xs) (z' : Int) : Mc (w.setCell ⟨g, 3, none⟩ (.int .i64 z')) D K g E p z' us xs ∧ Chl D w (w.setCell ⟨g, 3, none⟩ (.int .i64 z')) := h.put fun _ _ _ => rfl
theorem Mc.go_on (h : Mc w D K g E p z us xs) (p' : Int) : Mc (w.setCell ⟨g, 2, none⟩ (.int .i64 p')) D K g E p' z us xs ∧ Chl D w (w.setCell ⟨g, 2, none⟩ (.int .i64 p')) := h.put fun _ _ _ => rfl
/-- Another token is appended: the row has turned (w1, ahead of it; w2, behind), and is stored. -/
theorem Mc.pushed {A A' : Option Addr} {c c' : Nat} (h : Mc w1 D K g E p z us []) (hc : Pcc w1 g E A us.length c p z) (ho : w1.ownsRow D 53 4 (.slice A us.length c) us.length (tflat us)) (hx : x.t.t.text = []) (hA : x.A = none) (hxc : x.c = 0)
    (hg : w1.grownBy w2 (Value.slice A us.length c).ownBlock) (ho2 : w2.ownsRow D 53 4 (.slice A' (us.length + 1) c') (us.length + 1) (tflat us ++ x.cells)) :
    Pcc w2 g E A us.length c p z ∧ Mc (w2.setCell ⟨g, 1, none⟩ (.slice A' (us.length + 1) c')) D K g E p z us [x] ∧ Chl D w1 (w2.setCell ⟨g, 1, none⟩ (.slice A' (us.length + 1) c')) := by
  have hc2 : Pcc w2 g E A us.length c p z := Cel.grown hc hg (own_ty_ne ho hc (by decide))
  have hf : Frm [g] w2 (w2.setCell ⟨g, 1, none⟩ (.slice A' (us.length + 1) c')) := (Frm.refl [g] w2).set (by simp) _
  refine ⟨hc2, ⟨h.low, Nat.le_trans h.top (Nat.le_trans hg.size hf.size), h.gD, ⟨A', c', Cel.set hc2 1 _, own_frm (by rw [tflat_app]; simpa [tflat] using ho2) hf fun k hk => ?_⟩, fun v hv => ?_, fun v hv => ?_⟩, (Chl.grown hg fun k e => ⟨own_ge ho k e, own_lob ho (.inr (.inl rfl)) k e⟩).trans (Chl.set _ h.gD hc2 (.inl rfl))⟩
  · rw [List.mem_singleton.1 hk]; exact own_ty_ne ho2 hc2 (by decide)
  · exact ((h.old v hv).grown hg fun k e => .inr fun cs fz => not_bytes ho (by decide) k cs fz e).set _ (.inr (Cel.not_ty hc2 (by decide)))
  · rw [List.mem_singleton.1 hv, hx, hA, hxc]; exact Owb.nil_ _ _
theorem tflat_set (us : List Tv) (x y : Tv) (i : Nat) (u : Value) (hi : i < 4) (h : x.cells.set i u = y.cells) : (tflat (us ++ [x])).set (us.length * 4 + i) u = tflat (us ++ [y]) := by
  rw [tflat_app, tflat_app, List.set_append_right _ _ (by rw [tflat_len]; omega), tflat_len, show us.length * 4 + i - us.length * 4 = i by omega]
  rw [show tflat [x] = x.cells by simp [tflat], show tflat [y] = y.cells by simp [tflat], h]
theorem tflat_at (us : List Tv) (x : Tv) (i : Nat) (hi : i < 4) : (tflat (us ++ [x]))[us.length * 4 + i]? = x.cells[i]? := by
  rw [tflat_app, List.getElem?_append_right (by rw [tflat_len]; omega), tflat_len, show us.length * 4 + i - us.length * 4 = i by omega]
  rw [show tflat [x] = x.cells by simp [tflat]]
/-- The last token lies at this place. -/
def At4 (w : World) (r o : Nat) (x : Tv) : Prop := ∀ i u, i < 4 → x.cells[i]? = some u → w.cell? ⟨r, o + i, none⟩ = some u
/-- Where the last token lies: block r. -/
structure Ml (w : World) (D K g : Nat) (E : Value) (p z : Int) (us : List Tv) (x : Tv) (r : Nat) : Prop where
  mc : Mc w D K g E p z us [x]
  row : ∃ c, Pcc w g E (some ⟨r, 0, none⟩) (us.length + 1) c p z ∧ w.ownsRow D 53 4 (.slice (some ⟨r, 0, none⟩) (us.length + 1) c) (us.length + 1) (tflat (us ++ [x]))
theorem Mc.last (h : Mc w D K g E p z us [x]) : ∃ r, Ml w D K g E p z us x r := by
  obtain ⟨A, c, hc, ho⟩ := h.mem
  obtain ⟨r, cap, hv, _, _⟩ := ho.form (Nat.succ_pos _)
  have hA : A = some ⟨r, 0, none⟩ := by injection hv
  subst hA
  exact ⟨r, h, c, hc, ho⟩
theorem Ml.at_ {r : Nat} (h : Ml w D K g E p z us x r) {i : Nat} {u : Value} (hi : i < 4) (hu : x.cells[i]? = some u) : w.cell? ⟨r, us.length * 4 + i, none⟩ = some u := by
  obtain ⟨c, hc, ho⟩ := h.row
  rw [ho.cellAt _ (by omega), tflat_at us x i hi]; exact hu
theorem Ml.free {r : Nat} (h : Ml w D K g E p z us x r) (i : Nat) : w.frozen? ⟨r, i, none⟩ = false := by
  obtain ⟨c, hc, ho⟩ := h.row
  exact ho.frozenAt i
theorem Ml.below {r : Nat} (h : Ml w D K g E p z us x r) (hb : Below w.heap.size w w') : Ml w' D K g E p z us x r := by
  obtain ⟨c, hc, ho⟩ := h.row
  exact ⟨h.mc.below hb, c, Cel.below hc hb (Cel.lt hc), own_frm (l := []) ho (Frm.of_below hb) (by simp)⟩
/-- A cell of the last token is written; its text lies as it is told. -/
theorem Ml.put {r i : Nat} {u : Value} {y : Tv} (h : Ml w D K g E p z us x r) (hi : i < 4) (hu : x.cells.set i u = y.cells) (hy : Owb w K y.A y.t.t.text.length y.c y.t.t.text) :
    Ml (w.setCell ⟨r, us.length * 4 + i, none⟩ u) D K g E p z us y r ∧ Chl D w (w.setCell ⟨r, us.length * 4 + i, none⟩ u) := by
  obtain ⟨c, hc, ho⟩ := h.row
  obtain ⟨hs, hg⟩ := ho.stored (us.length * 4 + i) u
  rw [tflat_set us x y i u hi hu] at hs
  have hf : Frm [r] w (w.setCell ⟨r, us.length * 4 + i, none⟩ u) := (Frm.refl [r] w).set (by simp) _
  have hrg : g ≠ r := fun e => own_ty_ne ho hc (by decide) (by rw [e]; rfl)
  have hc2 : Pcc (w.setCell ⟨r, us.length * 4 + i, none⟩ u) g E (some ⟨r, 0, none⟩) (us.length + 1) c p z := Cel.far hc hrg _
  refine ⟨⟨⟨h.mc.low, Nat.le_trans h.mc.top hf.size, h.mc.gD, ⟨_, c, hc2, hs⟩, fun v hv => (h.mc.old v hv).set _ (.inr fun cs fz => not_bytes ho (by decide) r cs fz rfl), fun v hv => ?_⟩, c, hc2, hs⟩, Chl.grown hg fun k e => ⟨own_ge ho k e, own_lob ho (.inr (.inl rfl)) k e⟩⟩
  rw [List.mem_singleton.1 hv]
  refine own_frm hy hf fun k hk => ?_
  rw [List.mem_singleton.1 hk]
  exact fun e => own_two hy ho (by decide) r e rfl
/-- The last token's text has grown (w1, ahead of it; w2, behind). -/
theorem Ml.grew {r : Nat} {A' : Option Addr} {c' : Nat} {t : List (BitVec 8)} (h : Ml w1 D K g E p z us x r) (hg : w1.grownBy w2 (Value.slice x.A x.t.t.text.length x.c).ownBlock) (ho : Owb w2 K A' t.length c' t) :
    w2.cell? ⟨r, us.length * 4 + 3, none⟩ = some (.slice x.A x.t.t.text.length x.c) ∧ w2.frozen? ⟨r, us.length * 4 + 3, none⟩ = false ∧
    Ml (w2.setCell ⟨r, us.length * 4 + 3, none⟩ (.slice A' t.length c')) D K g E p z us ⟨⟨⟨x.t.t.kind, x.t.t.n, t⟩, x.t.at_⟩, A', c'⟩ r ∧ Chl D w1 (w2.setCell ⟨r, us.length * 4 + 3, none⟩ (.slice A' t.length c')) := by
  obtain ⟨c, hc, hr⟩ := h.row
  have hx : Owb w1 K x.A x.t.t.text.length x.c x.t.t.text := h.mc.new x (List.mem_singleton.2 rfl)
  have hf : Frm (Value.slice x.A x.t.t.text.length x.c).ownBlock.toList w1 w2 := (Frm.refl _ _).grown hg (fun k e _ => by rw [e]; simp)
  have hr2 : w2.ownsRow D 53 4 (.slice (some ⟨r, 0, none⟩) (us.length + 1) c) (us.length + 1) (tflat (us ++ [x])) := own_frm hr hf fun k hk e => own_two hr hx (by decide) k e (by simpa using hk)
  have hc2 : Pcc w2 g E (some ⟨r, 0, none⟩) (us.length + 1) c p z := Cel.grown hc hg (own_ty_ne hx hc (by decide))
  have hold : ∀ v ∈ us, Btx w2 K v.A v.t.t.text := fun v hv => (h.mc.old v hv).grown hg fun k e => .inl (own_ge hx k e)
  obtain ⟨hs, hg3⟩ := hr2.stored (us.length * 4 + 3) (.slice A' t.length c')
  rw [tflat_set us x ⟨⟨⟨x.t.t.kind, x.t.t.n, t⟩, x.t.at_⟩, A', c'⟩ 3 _ (by decide) rfl] at hs
  have hf3 : Frm [r] w2 (w2.setCell ⟨r, us.length * 4 + 3, none⟩ (.slice A' t.length c')) := (Frm.refl [r] w2).set (by simp) _
  have hrg : g ≠ r := fun e => own_ty_ne hr hc (by decide) (by rw [e]; rfl)
  have hc3 : Pcc (w2.setCell ⟨r, us.length * 4 + 3, none⟩ (.slice A' t.length c')) g E (some ⟨r, 0, none⟩) (us.length + 1) c p z := Cel.far hc2 hrg _
  refine ⟨?_, hr2.frozenAt _, ⟨⟨h.mc.low, Nat.le_trans h.mc.top (Nat.le_trans hg.size hf3.size), h.mc.gD, ⟨_, c, hc3, hs⟩, fun v hv => (hold v hv).set _ (.inr fun cs fz => not_bytes hr2 (by decide) r cs fz rfl), fun v hv => ?_⟩, c, hc3, hs⟩, (Chl.grown hg fun k e => ⟨Nat.le_trans h.mc.low (own_ge hx k e), own_lob hx (.inr (.inr (.inl rfl))) k e⟩).trans (Chl.grown hg3 fun k e => ⟨own_ge hr2 k e, own_lob hr2 (.inr (.inl rfl)) k e⟩)⟩
  · rw [hr2.cellAt _ (by omega), tflat_at us x 3 (by decide)]; rfl
  · rw [List.mem_singleton.1 hv]
    refine own_frm ho hf3 fun k hk => ?_
    rw [List.mem_singleton.1 hk]
    exact fun e => own_two ho hr2 (by decide) r e rfl
end
end Go.Proofs.Ytadfoilbcipdjaa.Lex
