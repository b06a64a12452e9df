/-
  A range over an iterator that itself ranges over another (of no program): what the iterator may ask of the loop, and the loop's law.
-/
import Derived.Test.YtamklllmjppinaaMem
import Derived.RangeFuncNested
import Derived.RangeFuncBound
import Derived.RangeFuncCalls
import Derived.RangeFuncLeaves
namespace Go.Proofs.Ytamklllmjppinaa
open Go.RowKit
set_option linter.unusedVariables false
theorem Cel.own_ {W W' : World} {row : Option Nat} {g : Nat} {t : TypeId} {cs : List Value} (h : Cel W g t cs) (hg : W.grownBy W' row) (hr : ∀ r, row = some r → ∃ o : Obj, W.heap[r]? = some o ∧ o.isCells = false) : Cel W' g t cs :=
  (hg.block g h.lt (fun e => by obtain ⟨o, h1, h2⟩ := hr g e.symm; rw [show W.heap[g]? = _ from h] at h1; cases h1; cases h2)).trans h
theorem own_own {W W' : World} {base e size n : Nat} {v : Value} {us : List Value} {row : Option Nat} (h : W.ownsRow base e size v n us) (hg : W.grownBy W' row) (hr : ∀ r, row = some r → ∃ o : Obj, W.heap[r]? = some o ∧ o.isCells = false) : W'.ownsRow base e size v n us := by
  refine h.kept hg ?_
  rcases h.2 with ⟨rfl, _⟩ | ⟨g, cap, cur, rfl, _, hgb, _⟩
  · exact .inl rfl
  · refine .inr fun e' => ?_
    obtain ⟨o, h1, h2⟩ := hr g (by simpa [Value.ownBlock] using e'.symm)
    rw [hgb] at h1; cases h1; cases h2
theorem own_cells {w : World} {base e size n : Nat} {v : Value} {us : List Value} (h : w.ownsRow base e size v n us) : ∀ (g : Nat) o, v.ownBlock = some g → w.heap[g]? = some o → ∃ cs fz, o = .cells cs e fz := fun g o hv hg => by
  rcases h.2 with ⟨rfl, _⟩ | ⟨g', cap, cur, rfl, _, hg', _⟩
  · simp [Value.ownBlock] at hv
  · obtain rfl : g' = g := by simpa [Value.ownBlock] using hv
    rw [hg] at hg'
    injection hg' with hg'
    exact ⟨_, _, hg'⟩
theorem Bs.back {w w' : World} {B n : Nat} {A : Option Addr} {s : List (BitVec 8)} (h : Bs w' B A n s) (hb : Below B w w') : Bs w B A n s := h.keep fun p hp => (hb.cell hp).symm
end Go.Proofs.Ytamklllmjppinaa
namespace Go.Proofs.Ytamklllmjppinaa.Vars
open Go.RowKit
set_option linter.unusedVariables false

/-- What a loop and its iterator owe one another, where the iterator turns objects of its own that are no cells (loops of its own). -/
def SeqOwn {α : Type} (F : Fence) (n : Nat) (P : Program) (g : Nat) (lb : Array Value) (encs : α → Array Value) (Kp : World → World → Prop) (S Sp : List α → Prop) (w : World) : Prop :=
  ∀ (l : Nat) (J Jx : List α → World → Prop) (W : World), Below w.heap.size w W → OwnFrom W.heap.size J → OwnFrom W.heap.size Jx →
    (∀ pre x V, J pre V → YieldAt F (n - 1) P l (encs x) V fun e V' => KeepsFrom W.heap.size V V' ∧ ((e = .returned (.bool true) ∧ J (pre ++ [x]) V' ∧ Kp V V') ∨ (e = .returned (.bool false) ∧ Jx (pre ++ [x]) V'))) →
    J [] W → CallsIn F n P g (#[.func (.yield l) #[] #[]] ++ lb) W fun e W' => (∃ v, e = .returned v) ∧ ((∃ xs, S xs ∧ J xs W') ∨ (∃ pre, Sp pre ∧ Jx pre W'))

/-- A loop's two blocks: its calls that are put off, and its record. -/
structure Bk (b : Nat) (R : Loop) (W : World) : Prop where
  off : W.heap[b]? = some (.deferred (some []))
  at_ : W.heap[b + 1]? = some (.loop R)
section
variable {b : Nat} {R : Loop} {W W' : World}
theorem Bk.lt (h : Bk b R W) : b + 1 < W.heap.size := (Array.getElem?_eq_some_iff.1 h.at_).1
theorem Bk.turn (h : Bk b R W) (R' : Loop) : Bk b R' (W.putObj (b + 1) (.loop R')) := ⟨(World.putObj_heap_other (by omega)).trans h.off, World.putObj_heap_same h.lt⟩
theorem Bk.keep (h : Bk b R W) (hk : KeepsFrom b W W') : Bk b R W' := ⟨hk.same _ _ (Nat.le_refl _) h.off rfl, hk.same _ _ (by omega) h.at_ rfl⟩
theorem Bk.grown {row : Option Nat} (h : Bk b R W) (hg : W.grownBy W' row) (hr : ∀ r, row = some r → b + 2 ≤ r) : Bk b R W' :=
  ⟨(hg.block b (by have := h.lt; omega) (fun e => by have := hr _ e.symm; omega)).trans h.off, (hg.block (b + 1) h.lt (fun e => by have := hr _ e.symm; omega)).trans h.at_⟩
theorem Bk.new (w : World) (R : Loop) : Bk w.heap.size R ((w.alloc (.deferred (some []))).alloc (.loop R)) :=
  ⟨(Below.heap_alloc _ _ _ (by simp)).trans (World.alloc_heap_new w _), by have := World.alloc_heap_new (w.alloc (.deferred (some []))) (.loop R); rwa [World.size_alloc] at this⟩
theorem keeps_turn (W : World) (l : Nat) (o : Obj) {B : Nat} (h : l < B) : KeepsFrom B W (W.putObj l o) := KeepsFrom.of_grownBy (grownBy_putObj' W l o) (fun j e => by cases e; exact h)
end

theorem yield_any {m m' : Nat} {P : Program} {l : Nat} {args : Array Value} {W : World} {R : Ending → World → Prop} (h : YieldAt Fence.wide m P l args W R) : YieldAt Fence.wide m' P l args W R := by
  obtain ⟨fn, tmps, assign, body, hy, h1, h2⟩ := h
  exact ⟨fn, tmps, assign, body, hy, h1, fun c cs _ => h2 c cs (room_wide _)⟩
theorem yield_in {m : Nat} {P : Program} {l l2 : Nat} {args : Array Value} {W : World} {R : Ending → World → Prop} (h : YieldAt Fence.wide m P l args W R) : YieldAt (Fence.wide.inRound l2) m P l args W R := h
section
variable {F : Fence} {n : Nat} {P : Program}
theorem range_own {α : Type} {g : Operand} {ps : Array Tmp} {assign body : Code} {Q : Exit → Act → World → Prop} {a : Act} {w : World}
    (hro : F.round = none) (h1 : 1 ≤ n) {gf : Nat} {lb : Array Value} (hg : a.eval g = .func (.func gf) #[] lb) (hF : F.fn gf) (eg : ∀ args w, (callFunc gf args).run P w = .ok (.enter gf args) w)
    {encs : α → Array Value} {Kp : World → World → Prop} {S Sp : List α → Prop} (hseq : SeqOwn F (n - 1) P gf lb encs Kp S Sp w)
    (hKt : ∀ {A B C : World}, Kp A B → Kp B C → Kp A C) (hKb : ∀ (W : World) (R R' : Loop), W.heap[w.heap.size + 1]? = some (.loop R) → Kp W (W.putObj (w.heap.size + 1) (.loop R'))) (hps : ∀ x, (encs x).size = ps.size)
    (I : List α → World → Prop) (Ix : Code → List α → World → Prop) (hI : OwnFrom w.heap.size I) (hIx : ∀ c, OwnFrom w.heap.size (Ix c)) (h0 : I [] w) (a1 : α → Act)
    (hassign : ∀ (l : Nat) (x : α) (W : World) (K : Act → World → Prop), K (a1 x) W →
      assign.wpIn (F.inRound l) (n - 1 - 1) P (Exit.then K (fun _ _ _ => False)) { tmps := (ps.zip (encs x)).foldl (fun t (p, v) => t.setIfInBounds p v) a.tmps, defers := [] } W)
    (hbody : ∀ (l : Nat) (pre : List α) (x : α) (W : World), I pre W → body.wpIn (F.inRound l) (n - 1 - 1) P (ownPostG w.heap.size Kp I Ix (pre ++ [x]) W) (a1 x) W)
    (hdone : ∀ (D : Nat) (xs : List α) (W : World), w.heap.size ≤ D → S xs → I xs W → W.heap[D]? = some (.deferred (some [])) → Q .normal { a with defers := { target := .collected D, args := #[] } :: a.defers } W)
    (hstop : ∀ (D : Nat) (c : Code) (pre : List α) (W : World), w.heap.size ≤ D → Sp pre → Ix c pre W → W.heap[D]? = some (.deferred (some [])) → c.wpIn F n P Q { a with defers := { target := .collected D, args := #[] } :: a.defers } W) :
    (Code.rangeFunc g ps assign body).wpIn F n P Q a w := by
  refine wpIn_rangeFunc fun fn hfn => ?_
  rw [hro]
  obtain ⟨R, hR⟩ : ∃ R : LoopState → Option Code → Loop, ∀ st pe, R st pe = { state := st, pending := pe, fn, tmps := a.tmps, params := ps, assign, body, defers := w.heap.size } := ⟨fun st pe => _, fun _ _ => rfl⟩
  have hen := run_enterLoop_outer (P := P) (w := w) fn a.tmps ps assign body
  rw [← hR .ready none] at hen
  have hb1 := Bk.new w (R .ready none)
  have hBW : Below w.heap.size w ((w.alloc (.deferred (some []))).alloc (.loop (R .ready none))) := ((Below.refl _ w).alloc (Nat.le_refl _) _).alloc (by simp) _
  have hI1 : I [] ((w.alloc (.deferred (some []))).alloc (.loop (R .ready none))) := hI.alloc _ (hI.alloc _ h0)
  have hsz : ((w.alloc (.deferred (some []))).alloc (.loop (R .ready none))).heap.size = w.heap.size + 2 := by simp
  generalize (w.alloc (.deferred (some []))).alloc (.loop (R .ready none)) = W1 at *
  have low : ∀ {A : World} {row : Option Nat}, (∀ r, row = some r → W1.heap.size ≤ r ∧ ∃ o : Obj, A.heap[r]? = some o ∧ o.isCells = false) → (∀ r, row = some r → w.heap.size ≤ r ∧ ∃ o : Obj, A.heap[r]? = some o ∧ o.isCells = false) := fun h r e => ⟨by have := (h r e).1; omega, (h r e).2⟩
  have far : ∀ {A : World} {row : Option Nat}, (∀ r, row = some r → W1.heap.size ≤ r ∧ ∃ o : Obj, A.heap[r]? = some o ∧ o.isCells = false) → ∀ r, row = some r → w.heap.size + 2 ≤ r := fun h r e => by have := (h r e).1; omega
  refine ⟨w.heap.size + 1, _, W1, { target := .fn (.func gf) lb, args := #[.func (.yield (w.heap.size + 1)) #[] #[]] }, W1, gf, #[.func (.yield (w.heap.size + 1)) #[] #[]] ++ lb, W1, hen, ?_, ?_, ?_, fun _ => h1, ?_⟩
  · simp only [resolve, hg]
    simp [go_sem]
  · intro f hf
    simp [Target.leads] at hf
    subst hf
    exact hF
  · simp [invoke, go_sem, eg]
  refine (hseq (w.heap.size + 1) (fun pre W => I pre W ∧ Bk w.heap.size (R .ready none) W) (fun pre W => ∃ c, Ix c pre W ∧ Bk w.heap.size (R .done (some c)) W) W1 hBW
    (fun s X Y row h hg' hr => ⟨hI s X Y row h.1 hg' (low hr), h.2.grown hg' (far hr)⟩)
    (fun s X Y row h hg' hr => by obtain ⟨c, hc, hb⟩ := h; exact ⟨c, hIx c s X Y row hc hg' (low hr), hb.grown hg' (far hr)⟩) ?round ⟨hI1, hb1⟩).mono ?behind
  case behind =>
    rintro e W2 ⟨⟨v, rfl⟩, h⟩
    rcases h with ⟨xs, hS, hi, hb⟩ | ⟨pre, hSp, c, hi, hb⟩
    · have hr := run_endLoop (P := P) hb.at_ (by rw [hR]; simp)
      rw [hR] at hr
      exact ⟨none, _, hr, hdone _ xs _ (Nat.le_refl _) hS (hI.putObj _ hi (by omega) hb.at_ rfl) (hb.turn _).off⟩
    · have hr := run_endLoop (P := P) hb.at_ (by rw [hR]; simp)
      rw [hR] at hr
      exact ⟨some c, _, hr, hstop _ c pre _ (Nat.le_refl _) hSp ((hIx c).putObj _ hi (by omega) hb.at_ rfl) (hb.turn _).off⟩
  case round =>
    rintro pre x W ⟨hi, hb⟩
    have hy := run_yield (P := P) (args := encs x) hb.at_ (by rw [hR]; exact hps x)
    rw [hR] at hy
    refine ⟨fn, _, assign, body, hy, roundIn_of_wpIn hfn (hassign _ x W _ ⟨_, run_beginRound hb.at_ (by rw [hR]), ?_⟩)⟩
    clear hy
    have hi2 := hI.putObj (.loop { R .ready none with state := .busy }) hi (by omega) hb.at_ rfl
    have hk2 := hKb W _ { R .ready none with state := .busy } hb.at_
    have hf2 : KeepsFrom W1.heap.size W (W.putObj (w.heap.size + 1) (.loop { R .ready none with state := .busy })) := keeps_turn _ _ _ (by omega)
    have hb2 := hb.turn { R .ready none with state := .busy }
    generalize W.putObj (w.heap.size + 1) (.loop { R .ready none with state := .busy }) = W2 at *
    refine wpIn_mono (hbody _ pre x _ hi2) ?_
    have fin : ∀ (jump : Option Code) (W3 : World), KeepsFrom w.heap.size W2 W3 →
        (Instr.endRound (w.heap.size + 1) jump).run P W3 = .ok (.bool jump.isNone) (W3.putObj (w.heap.size + 1) (.loop (R (if jump.isNone then .ready else .done) jump))) ∧ Bk w.heap.size { R .ready none with state := .busy } W3 ∧
        Bk w.heap.size (R (if jump.isNone then .ready else .done) jump) (W3.putObj (w.heap.size + 1) (.loop (R (if jump.isNone then .ready else .done) jump))) ∧ KeepsFrom W1.heap.size W (W3.putObj (w.heap.size + 1) (.loop (R (if jump.isNone then .ready else .done) jump))) := fun jump W3 hk3 => by
      have hb3 := hb2.keep hk3
      have hr := run_endRound (P := P) jump hb3.at_
      refine ⟨?_, hb3, hb3.turn _, (hf2.trans ⟨hk3.size, fun k o hB => hk3.same k o (by omega)⟩).trans (keeps_turn _ _ _ (by omega))⟩
      rw [hR] at hr ⊢
      exact hr
    rintro e a3 W3 hp
    have leave : ∀ c, KeepsFrom w.heap.size W2 W3 → Ix c (pre ++ [x]) W3 → ∃ e W4, (Instr.endRound (w.heap.size + 1) (some c)).run P W3 = .ok e W4 ∧ KeepsFrom W1.heap.size W W4 ∧ e = .bool false ∧ ∃ c', Ix c' (pre ++ [x]) W4 ∧ Bk w.heap.size (R .done (some c')) W4 := fun c hk3 hi3 => by
      obtain ⟨hr, hb3, hb4, hf4⟩ := fin (some c) W3 hk3
      exact ⟨_, _, hr, hf4, rfl, c, (hIx c).putObj _ hi3 (by omega) hb3.at_ rfl, hb4⟩
    cases e with
    | normal =>
      obtain ⟨hk3, hkp3, hi3⟩ := hp
      obtain ⟨hr, hb3, hb4, hf4⟩ := fin none W3 hk3
      exact ⟨_, _, hr, hf4, .inl ⟨rfl, ⟨hI.putObj _ hi3 (by omega) hb3.at_ rfl, hb4⟩, hKt (hKt hk2 hkp3) (hKb W3 _ _ hb3.at_)⟩⟩
    | ret =>
      obtain ⟨_, W4, hr, hf, rfl, h⟩ := leave .ret hp.1 hp.2
      exact ⟨_, _, hr, hf, .inr ⟨rfl, h⟩⟩
    | exit id =>
      obtain ⟨_, W4, hr, hf, rfl, h⟩ := leave (.exit id) hp.1 hp.2
      exact ⟨_, _, hr, hf, .inr ⟨rfl, h⟩⟩
    | goto t =>
      obtain ⟨_, W4, hr, hf, rfl, h⟩ := leave (.goto t) hp.1 hp.2
      exact ⟨_, _, hr, hf, .inr ⟨rfl, h⟩⟩
    | panic ch => exact hp.elim
    | outgrown => exact hp.elim
end
end Go.Proofs.Ytamklllmjppinaa.Vars
