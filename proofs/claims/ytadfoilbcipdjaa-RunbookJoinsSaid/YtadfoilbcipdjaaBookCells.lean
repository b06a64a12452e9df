/-
  The program's runbook (layer 12): the parser in memory.
-/
import Derived.Test.YtadfoilbcipdjaaBookMach
import Derived.Test.YtadfoilbcipdjaaBookVals
import Derived.Test.YtadfoilbcipdjaaLexKnows
namespace Go.Proofs.Ytadfoilbcipdjaa.Book
open Go.RowKit
open Go.Proofs.Ytadfoilbcipdjaa.Lex (Tok Tk B cut Tv Tx tflat Cr cr_ry Ptk)
set_option linter.unusedVariables false
set_option linter.unusedSimpArgs false

/-- Where the parser's parts lie. -/
structure Px where
  A0 : Option Addr
  c0 : Nat
  A3 : Option Addr
  c3 : Nat
  A8 : Option Addr
  c8 : Nat
  A9 : Option Addr
  c9 : Nat
  A14 : Option Addr
  c14 : Nat
  rs : List Tv
  avs : List Av
  bvs : List Bv
/-- The parser's cells. -/
def pcells (s : Ps) (x : Px) : List Value := [.slice x.A0 s.l.length x.c0, .int .i64 (s.at_ : Int), .int .i64 s.most, .slice x.A3 s.steps.length x.c3,
  .int .i64 (s.step.at_ : Int), .string (str s.step.name), .int .i64 s.step.tag, .bool s.step.sends, .slice x.A8 s.step.send.length x.c8, .slice x.A9 s.step.arms.length x.c9, .int .i64 s.step.time, .int .i64 s.step.try_, .string (str s.step.els),
  .int .i64 (s.arm.at_ : Int), .slice x.A14 s.arm.pat.length x.c14, .string (str s.arm.as_), .string (str s.arm.go)]
/-- The rest of the tokens: they lie in the world W, ahead of the parser. -/
structure Rest (W : World) (l : T) (x : Px) : Prop where
  ptk : Ptk W 0 x.A0 x.rs
  tok : toks x.rs = l
  cap : x.rs.length ≤ x.c0
/-- Cells of arms, that can be read, below block K. -/
def Rlo (w : World) (K : Nat) (A : Option Addr) (cs : List Value) : Prop :=
  cs ≠ [] → ∃ ad, A = some ad ∧ ad.block < K ∧ (∃ o fz, w.heap[ad.block]? = some (.cells o 35 fz)) ∧ ∀ j u, cs[j]? = some u → w.cell? (ad.add j) = some u
theorem Rlo.keep {w w' : World} {K : Nat} {A : Option Addr} {cs : List Value} (h : Rlo w K A cs) (hk : ∀ (k : Nat) o fz, k < K → w.heap[k]? = some (Obj.cells o 35 fz) → w'.heap[k]? = w.heap[k]?) : Rlo w' K A cs := fun hn => by
  obtain ⟨ad, e, hK, ⟨o, fz, hb⟩, hc⟩ := h hn
  have h1 := hk _ _ _ hK hb
  exact ⟨ad, e, hK, ⟨o, fz, h1.trans hb⟩, fun j u hj => (World.cell?_of_block (by rw [add_block]; exact h1)).trans (hc j u hj)⟩
theorem Rlo.more {w : World} {K K' : Nat} {A : Option Addr} {cs : List Value} (h : Rlo w K A cs) (hK : K ≤ K') : Rlo w K' A cs := fun hn => by
  obtain ⟨ad, e, hl, hb, hc⟩ := h hn
  exact ⟨ad, e, by omega, hb, hc⟩
theorem Rlo.cr {w : World} {K : Nat} {A : Option Addr} {cs : List Value} (h : Rlo w K A cs) : Cr w A cs := fun hn => by
  obtain ⟨ad, e, hl, hb, hc⟩ := h hn
  exact ⟨ad, e, hc⟩
theorem Rlo.of_own {w : World} {base n c : Nat} {A : Option Addr} {cs : List Value} (h : w.ownsRow base 35 4 (.slice A n c) n cs) : Rlo w w.heap.size A cs := fun hn => by
  obtain ⟨ad, e, ⟨o, fz, hb⟩, hc⟩ := Ry.of_own h (by decide) hn
  exact ⟨ad, e, (Array.getElem?_eq_some_iff.1 hb).1, ⟨o, fz, hb⟩, hc⟩
/-- The arms of the step that is being taken: their cells, from block K on. -/
structure Arms (W w : World) (K : Nat) (s : Ps) (x : Px) : Prop where
  own : w.ownsRow K 35 4 (.slice x.A9 s.step.arms.length x.c9) s.step.arms.length (aflat x.avs)
  am : x.avs.map (·.a) = s.step.arms
  tx : ∀ v ∈ x.avs, Tx W 0 v.A v.a.pat
/-- The steps that were taken. -/
structure Stps (W w : World) (K : Nat) (s : Ps) (x : Px) : Prop where
  own : w.ownsRow W.heap.size 32 9 (.slice x.A3 s.steps.length x.c3) s.steps.length (s9flat x.bvs)
  st : x.bvs.map (·.s) = s.steps
  tx : ∀ v ∈ x.bvs, Tx W 0 v.A4 v.s.send
  ar : ∀ v ∈ x.bvs, Rlo w K v.A5 (aflat v.avs) ∧ v.avs.map (·.a) = v.s.arms ∧ ∀ u ∈ v.avs, Tx W 0 u.A u.a.pat
/-- The parser, in block g; o: the arms of its step are its own. -/
structure Pw (W w : World) (g K : Nat) (o : Bool) (s : Ps) (x : Px) : Prop where
  bel : Below W.heap.size W w
  gW : W.heap.size ≤ g
  cel : Cel w g 41 (pcells s x)
  rest : Rest W s.l x
  send : Tx W 0 x.A8 s.step.send
  pat : Tx W 0 x.A14 s.arm.pat
  kW : W.heap.size ≤ K
  kw : K ≤ w.heap.size
  arms : o = true → Arms W w K s x
  stps : Stps W w K s x
def Pb (W w : World) (g : Nat) (o : Bool) (s : Ps) : Prop := ∃ K x, Pw W w g K o s x
theorem Pb.weak {W w : World} {g : Nat} {o : Bool} {s : Ps} (h : Pb W w g o s) : Pb W w g false s := by
  obtain ⟨K, x, h⟩ := h
  exact ⟨K, x, h.bel, h.gW, h.cel, h.rest, h.send, h.pat, h.kW, h.kw, fun e => (by cases e), h.stps⟩
theorem Rest.len {W : World} {l : T} {x : Px} (h : Rest W l x) : x.rs.length = l.length := by rw [← h.tok]; simp [toks]
section
variable {W w w' : World} {g K : Nat} {o : Bool} {s s' : Ps} {x x' : Px}
/-- What was there stays as it was. -/
theorem Pw.below (h : Pw W w g K o s x) (hb : Below w.heap.size w w') : Pw W w' g K o s x :=
  ⟨h.bel.trans (hb.mono h.bel.size), h.gW, Cel.below h.cel hb h.cel.lt, h.rest, h.send, h.pat, h.kW, Nat.le_trans h.kw hb.size,
    fun e => ⟨own_frm (l := []) (h.arms e).own (Frm.of_below hb) (by simp), (h.arms e).am, (h.arms e).tx⟩,
    ⟨own_frm (l := []) h.stps.own (Frm.of_below hb) (by simp), h.stps.st, h.stps.tx, fun v hv => ⟨(h.stps.ar v hv).1.keep fun k o fz _ hk => hb.block k (Array.getElem?_eq_some_iff.1 hk).1, (h.stps.ar v hv).2⟩⟩⟩
/-- The parser's cells are written. -/
theorem Pw.wrote (h : Pw W w g K o s x) (hf : Frm [g] w w') (hc : Cel w' g 41 (pcells s' x')) (hr : Rest W s'.l x') (hs : Tx W 0 x'.A8 s'.step.send) (hp : Tx W 0 x'.A14 s'.arm.pat)
    (ha : s'.step.arms = s.step.arms ∧ x'.A9 = x.A9 ∧ x'.c9 = x.c9 ∧ x'.avs = x.avs) (hb : s'.steps = s.steps ∧ x'.A3 = x.A3 ∧ x'.c3 = x.c3 ∧ x'.bvs = x.bvs) : Pw W w' g K o s' x' := by
  obtain ⟨a1, a2, a3, a4⟩ := ha
  obtain ⟨b1, b2, b3, b4⟩ := hb
  refine ⟨h.bel.trans (hf.below h.bel.size (by intro q hq; rw [List.mem_singleton.1 hq]; exact h.gW)), h.gW, hc, hr, hs, hp, h.kW, Nat.le_trans h.kw hf.size, fun e => ⟨?_, ?_, ?_⟩, ⟨?_, ?_, ?_, fun v hv => ?_⟩⟩
  · rw [a1, a2, a3, a4]
    exact own_frm (h.arms e).own hf fun k hk => by rw [List.mem_singleton.1 hk]; exact own_ty_ne (h.arms e).own h.cel (by decide)
  · rw [a1, a4]; exact (h.arms e).am
  · rw [a4]; exact (h.arms e).tx
  · rw [b1, b2, b3, b4]
    exact own_frm h.stps.own hf fun k hk => by rw [List.mem_singleton.1 hk]; exact own_ty_ne h.stps.own h.cel (by decide)
  · rw [b1, b4]; exact h.stps.st
  · rw [b4]; exact h.stps.tx
  · rw [b4] at hv
    refine ⟨(h.stps.ar v hv).1.keep fun k o fz _ hk => hf.block k (Array.getElem?_eq_some_iff.1 hk).1 fun hm => ?_, (h.stps.ar v hv).2⟩
    rw [List.mem_singleton.1 hm] at hk
    exact Cel.not_ty h.cel (by decide) _ _ hk
/-- One cell of it is written. -/
theorem Pw.put (h : Pw W w g K o s x) {i : Nat} {u : Value} (hu : (pcells s x).set i u = pcells s' x') (hr : Rest W s'.l x') (hs : Tx W 0 x'.A8 s'.step.send) (hp : Tx W 0 x'.A14 s'.arm.pat)
    (ha : s'.step.arms = s.step.arms ∧ x'.A9 = x.A9 ∧ x'.c9 = x.c9 ∧ x'.avs = x.avs) (hb : s'.steps = s.steps ∧ x'.A3 = x.A3 ∧ x'.c3 = x.c3 ∧ x'.bvs = x.bvs) : Pw W (w.setCell ⟨g, i, none⟩ u) g K o s' x' :=
  h.wrote ((Frm.refl [g] w).set (by simp) _) (by have := h.cel.set i u; rwa [hu] at this) hr hs hp ha hb
theorem Pw.c (h : Pw W w g K o s x) (i : Nat) : w.cell? ⟨g, i, none⟩ = (pcells s x)[i]? := h.cel.cell i
theorem Pw.f (h : Pw W w g K o s x) (i : Nat) : w.frozen? ⟨g, i, none⟩ = false := h.cel.free i
/-- The next token. -/
theorem Rest.next {l : T} {y : Tok} {m : T} (h : Rest W l x) (hl : l = y :: m) (hb : Below W.heap.size W w) : ∃ v rs ad, x.rs = v :: rs ∧ v.t = y ∧ toks rs = m ∧ x.A0 = some ad ∧ Tx W 0 v.A v.t.t.text ∧
    w.cell? ad = some (.int .i64 v.t.t.kind) ∧ w.cell? ⟨ad.block, ad.off + 1, none⟩ = some (.int .i64 (v.t.at_ : Int)) ∧ w.cell? ⟨ad.block, ad.off + 2, none⟩ = some (.int .i64 v.t.t.n) ∧ w.cell? ⟨ad.block, ad.off + 3, none⟩ = some (.slice v.A v.t.t.text.length v.c) := by
  have ht := h.tok
  rw [hl] at ht
  cases e : x.rs with
  | nil => rw [e] at ht; cases ht
  | cons v rs =>
    rw [e] at ht
    simp only [toks, List.map_cons, List.cons.injEq] at ht
    have h0 : x.rs[0]? = some v := by rw [e]; rfl
    obtain ⟨ad, hA, k0, k1, k2, k3⟩ := (h.ptk.below (Nat.zero_le _) hb).at_ h0
    have e0 : ad.add (0 * 4) = ad := by unfold Addr.add; simp
    rw [e0] at k0 k1 k2 k3
    exact ⟨v, rs, ad, rfl, ht.1, ht.2, hA, h.ptk.tx v (List.mem_of_getElem? h0), k0, k1, k2, k3⟩
/-- It is taken. -/
def tookX (x : Px) (rs : List Tv) : Px := { x with A0 := if x.c0 = 1 then x.A0 else x.A0.map (·.add (1 * 4)), c0 := x.c0 - 1, rs := rs }
theorem Rest.took {l : T} {v : Tv} {rs : List Tv} (h : Rest W l x) (hx : x.rs = v :: rs) : Rest W (toks rs) (tookX x rs) := by
  have hc := h.cap
  rw [hx] at hc
  simp only [List.length_cons] at hc
  refine ⟨⟨fun hn => ?_, fun u hu => h.ptk.tx u (by rw [hx]; exact List.mem_cons_of_mem _ hu)⟩, rfl, by show rs.length ≤ x.c0 - 1; omega⟩
  have hr : rs ≠ [] := fun e => by rw [e] at hn; exact hn rfl
  have hl : 0 < rs.length := List.length_pos_iff.2 hr
  obtain ⟨ad, hA, hcell⟩ := h.ptk.ry (by rw [hx]; simp [tflat, Lex.Tv.cells])
  refine ⟨ad.add 4, ?_, fun j u hj => ?_⟩
  · show (if x.c0 = 1 then x.A0 else x.A0.map (·.add (1 * 4))) = _
    rw [if_neg (by omega), hA]
    rfl
  · rw [add_add]
    refine hcell _ _ ?_
    rw [hx]
    show (v.cells ++ tflat rs)[4 + j]? = some u
    rw [List.getElem?_append_right (by simp [Lex.Tv.cells])]
    have hj' : (tflat rs)[j]? = some u := hj
    simpa [Lex.Tv.cells] using hj'
/-- Blocks that the parser writes. -/
def Pob : Obj → Prop
  | .cells _ t _ => t = 41 ∨ t = 35 ∨ t = 32
  | _ => False
/-- What was there stays as it was, but for such blocks. -/
structure Chp (w w' : World) : Prop where
  size : w.heap.size ≤ w'.heap.size
  block : ∀ (k : Nat) (o : Obj), w.heap[k]? = some o → ¬ Pob o → w'.heap[k]? = some o
theorem Chp.refl (w : World) : Chp w w := ⟨Nat.le_refl _, fun _ _ h _ => h⟩
theorem Chp.trans {w1 w2 : World} (h : Chp w w1) (h2 : Chp w1 w2) : Chp w w2 := ⟨Nat.le_trans h.size h2.size, fun k o hk hn => h2.block k o (h.block k o hk hn) hn⟩
theorem Chp.of_below (h : Below w.heap.size w w') : Chp w w' := ⟨h.size, fun k o hk _ => (h.block k (Array.getElem?_eq_some_iff.1 hk).1).trans hk⟩
theorem Chp.frm {cs : List Value} (hc : Cel w g 41 cs) (hf : Frm [g] w w') : Chp w w' := ⟨hf.size, fun k o hk hn => by
  refine (hf.block k (Array.getElem?_eq_some_iff.1 hk).1 fun hm => ?_).trans hk
  rw [List.mem_singleton.1 hm] at hk
  unfold Cel at hc
  rw [hc] at hk
  injection hk with hk
  subst hk
  exact hn (.inl rfl)⟩
theorem Chp.grown {base e size n : Nat} {v : Value} {us : List Value} (ho : w.ownsRow base e size v n us) (he : e = 35 ∨ e = 32) (hg : w.grownBy w' v.ownBlock) : Chp w w' := ⟨hg.size, fun k o hk hn => by
  refine (hg.block k (Array.getElem?_eq_some_iff.1 hk).1 fun hm => ?_).trans hk
  rcases ho.2 with ⟨rfl, _⟩ | ⟨g', cap, cur, rfl, _, h1, _⟩
  · simp [Value.ownBlock] at hm
  · obtain rfl : k = g' := by simpa [Value.ownBlock] using hm
    rw [h1] at hk
    injection hk with hk
    subst hk
    exact hn (.inr he)⟩
theorem Cel.chp {t : TypeId} {cs : List Value} {k : Nat} (h : Cel w k t cs) (hc : Chp w w') (hT : t ≠ 41 ∧ t ≠ 35 ∧ t ≠ 32) : Cel w' k t cs := hc.block _ _ h fun hp => by
  rcases hp with hp | hp | hp
  · exact hT.1 hp
  · exact hT.2.1 hp
  · exact hT.2.2 hp
end
end Go.Proofs.Ytadfoilbcipdjaa.Book
