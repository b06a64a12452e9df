/-
  Words for layer 9 (nfa): the document's ops and instructions in memory.
-/
import Derived.Test.YtjpbndpfbdfhjaaMNfaPure
import Derived.Test.YtjpbndpfbdfhjaaMRegRefAtom
namespace Go.Proofs.Ytjpbndpfbdfhjaa.Nfa
open Go.RowKit
open Go.Proofs.Ytjpbndpfbdfhjaa.Reg (Ov oflat RSpn sflat results_at range_of setCells2 oflat_length)
set_option linter.unusedVariables false
set_option linter.unusedSimpArgs false

theorem flat_at {α : Type} (f : α → List Value) (m : Nat) (hf : ∀ x, (f x).length = m) : ∀ (xs : List α) (i k : Nat) (x : α), xs[i]? = some x → k < m → (xs.flatMap f)[i * m + k]? = (f x)[k]?
  | [], _, _, _, h, _ => by simp at h
  | y :: ys, 0, k, x, h, hk => by
    simp at h
    subst h
    rw [List.flatMap_cons, List.getElem?_append_left (by rw [hf]; omega), Nat.zero_mul, Nat.zero_add]
  | y :: ys, i + 1, k, x, h, hk => by
    have h1 := flat_at f m hf ys i k x (by simpa using h) hk
    rw [List.flatMap_cons, List.getElem?_append_right (by rw [hf, Nat.succ_mul]; omega)]
    rw [← h1, hf]
    congr 1
    rw [Nat.succ_mul]
    omega
theorem add_at (ad : Addr) (i k : Nat) (hk : 0 < k) : (⟨(ad.add i).block, (ad.add i).off + k, none⟩ : Addr) = ad.add (i + k) := by
  rw [← add_add]
  generalize ad.add i = q
  unfold Addr.add
  rw [if_neg (by omega)]

/-- The document's ops at a slice. -/
structure Rl (w : World) (A : Option Addr) (us : List Ov) : Prop where
  ry : Ry 109 w A (oflat us)
  sp : ∀ u ∈ us, RSpn w u.A u.o.sp
theorem Rl.below {w w' : World} {A : Option Addr} {us : List Ov} (h : Rl w A us) (hb : Below w.heap.size w w') : Rl w' A us := ⟨h.ry.below hb, fun u hu => Ry.below (h.sp u hu) hb⟩
theorem Rl.at_ {w : World} {A : Option Addr} {us : List Ov} (h : Rl w A us) {i : Nat} {u : Ov} (hi : us[i]? = some u) :
    ∃ ad, A = some ad ∧ w.cell? (ad.add (i * 3)) = some (.int .i64 u.o.kind) ∧ w.cell? ⟨(ad.add (i * 3)).block, (ad.add (i * 3)).off + 1, none⟩ = some (.bool u.o.neg) ∧ w.cell? ⟨(ad.add (i * 3)).block, (ad.add (i * 3)).off + 2, none⟩ = some (.slice u.A u.o.sp.length u.c) := by
  have e : ∀ k, k < 3 → (oflat us)[i * 3 + k]? = u.cells[k]? := fun k hk => flat_at Ov.cells 3 (fun _ => rfl) us i k u hi hk
  obtain ⟨ad, rfl, hc⟩ := h.ry (fun q => by have := e 0 (by decide); rw [q] at this; simp [Ov.cells] at this)
  exact ⟨ad, rfl, hc.2 _ _ (e 0 (by decide)), by rw [add_at _ _ 1 (by decide)]; exact hc.2 _ _ (e 1 (by decide)), by rw [add_at _ _ 2 (by decide)]; exact hc.2 _ _ (e 2 (by decide))⟩

/-- An instruction, and where its spans lie. -/
structure Iv where
  i : In
  A : Option Addr
  c : Nat
def Iv.cells (u : Iv) : List Value := [.int .i64 u.i.kind, .int .i64 u.i.x, .int .i64 u.i.y, .bool u.i.neg, .slice u.A u.i.sp.length u.c]
def iflat (us : List Iv) : List Value := us.flatMap Iv.cells
theorem iflat_length (us : List Iv) : (iflat us).length = us.length * 5 := by
  induction us with
  | nil => rfl
  | cons x l ih => rw [iflat, List.flatMap_cons, List.length_append, show (l.flatMap Iv.cells) = iflat l from rfl, ih]; show 5 + l.length * 5 = (l.length + 1) * 5; omega
theorem iflat_app (us vs : List Iv) : iflat (us ++ vs) = iflat us ++ iflat vs := by simp [iflat]
theorem iflat_one (us : List Iv) : ∀ u ∈ iflat us, u.oneCell' = true := by
  intro u hu
  obtain ⟨x, _, hx⟩ := List.mem_flatMap.1 hu
  simp [Iv.cells] at hx
  rcases hx with rfl | rfl | rfl | rfl | rfl <;> rfl
/-- The document's instructions, in an own row. -/
structure Ri (w : World) (B : Nat) (A : Option Addr) (n c : Nat) (us : List Iv) : Prop where
  own : w.ownsRow B 59 5 (.slice A n c) n (iflat us)
  len : us.length = n
  sp : ∀ u ∈ us, RSpn w u.A u.i.sp
section
variable {w w' : World} {B B' n c : Nat} {A : Option Addr} {us : List Iv}
theorem Ri.ry (h : Ri w B A n c us) : Ry 59 w A (iflat us) := Ry.of_own h.own (by decide)
theorem Ri.below (h : Ri w B A n c us) (hb : Below w.heap.size w w') : Ri w' B A n c us := ⟨own_frm (l := []) h.own (Frm.of_below hb) (by simp), h.len, fun u hu => Ry.below (h.sp u hu) hb⟩
theorem Ri.nil_ (w : World) (B : Nat) : Ri w B none 0 0 [] := ⟨World.ownsRow_nil _ _ _ _, rfl, by simp⟩
theorem Ri.src (h : Ri w B A n c us) : Src w A n (iflat us) := Ry.src h.ry (fun hm e => by have := iflat_length us; rw [e, h.len] at this; simp at this; omega)
theorem Ri.less (h : Ri w B A n c us) (hb : B' ≤ B) : Ri w B' A n c us := ⟨⟨h.own.1, h.own.2.imp id fun ⟨g', cap, cur, h1, h2, h3⟩ => ⟨g', cap, cur, h1, by omega, h3⟩⟩, h.len, h.sp⟩
/-- Instructions were appended: w, ahead; w', behind. -/
theorem Ri.pushed {c' n' : Nat} {A' : Option Addr} {vs : List Iv} {cs : List Value} (h : Ri w B A n c us) (hv : ∀ u ∈ vs, RSpn w u.A u.i.sp) (hn : n' = n + vs.length) (hcs : cs = iflat us ++ iflat vs) (hg : w.grownBy w' (Value.slice A n c).ownBlock) (ho : w'.ownsRow B 59 5 (.slice A' n' c') n' cs) : Ri w' B A' n' c' (us ++ vs) := by
  subst hcs
  refine ⟨by rw [iflat_app]; exact ho, by rw [List.length_append, h.len, hn], fun u hu => ?_⟩
  rcases List.mem_append.1 hu with q | q
  · exact Ry.grown (h.sp u q) hg (own_not_ty h.own (by decide))
  · exact Ry.grown (hv u q) hg (own_not_ty h.own (by decide))
theorem Ri.grew (h : Ri w B A n c us) (hg : w.grownBy w' (Value.slice A n c).ownBlock) (hB : B ≤ w.heap.size) : Below B w w' :=
  ⟨hg.os, hg.tape, hg.output, hg.size, fun k hk => hg.block k (by omega) fun e => by have := own_ge h.own k e.symm; omega⟩
theorem Ri.lit (w : World) (hB : B ≤ w.heap.size) (u : Iv) (hs : RSpn w u.A u.i.sp) : Ri (w.alloc (.cells u.cells.toArray 59)) B (some ⟨w.heap.size, 0, none⟩) 1 1 [u] :=
  ⟨by
    have := World.ownsRow_lit (base := B) (e := 59) (size := 5) w u.cells.toArray 1 hB (by decide) rfl
    simpa [iflat] using this, rfl, by intro v hv; rw [List.mem_singleton.1 hv]; exact Ry.alloc hs _⟩
end
/-- An instruction without spans. -/
def pv (i : In) : Iv := ⟨i, none, 0⟩
def pcells (k x y : Int) : List Value := [.int .i64 k, .int .i64 x, .int .i64 y, .bool false, .slice none 0 0]
theorem pcells_one (k x y : Int) : ∀ u ∈ pcells k x y, u.oneCell' = true := by
  intro u hu
  simp [pcells] at hu
  rcases hu with rfl | rfl | rfl | rfl | rfl <;> rfl
theorem iflat_pv (k x y : Int) : iflat [pv ⟨k, x, y, false, []⟩] = pcells k x y := rfl
theorem pv_sp (w : World) (k x y : Int) : ∀ u ∈ [pv ⟨k, x, y, false, []⟩], RSpn w u.A u.i.sp := by
  intro u hu
  rw [List.mem_singleton.1 hu]
  exact Ry.nil_
theorem src_pv (V : World) (k x y : Int) : Src (V.alloc (.cells (pcells k x y).toArray 59)) (some ⟨V.heap.size, 0, none⟩) 1 (pcells k x y) := Ry.src (m := 1) (Ry.of_cel (Cel.new V 59 (pcells k x y))) (by simp [pcells])
theorem rinfoIn : (Try.prog.info? 59).map (fun i => (i.zero, i.size, i.bytes)) = some (some (.agg #[.int .i64 0, .int .i64 0, .int .i64 0, .bool false, .slice none 0 0]), 5, 56) := by kernel_rfl
theorem rrowIn : ElemRow Try.prog 34 59 5 56 := ElemRow.mk' Try.underlying34 rinfoIn rfl (by decide)
end Go.Proofs.Ytjpbndpfbdfhjaa.Nfa
