/-
  For any records and any part, davitlaw04.FragBack returns true: records that were cut are joined as they were, whatever part stands behind them that begins none (P4.2). No condition beyond the form's own.
-/
import Derived.Test.YtmchpakefddinaaRows
import Derived.WalkKit
import Derived.ProofKit
import Derived.OpenShut
import Derived.ShutString
import Derived.ChangeOld
import Derived.Below
import Derived.Lib.SmallJoins
import Derived.Deep.Slices
import Derived.Test.YtmchpakefddinaaFragBack
namespace Go.Proofs.Ytmchpakefddinaa.fragBack
open Go.ChangeShapes Go.WideShapes Go.ChangeAt Go.RowKit
open Go.ChangeMaps (open_string shut_string)
set_option linter.unusedVariables false

theorem own : ownKnob Try.prog.godebug = none := by kernel_rfl
theorem laidOut : laidOutB Try.prog = true := by kernel_rfl

/-- What the walk is told of a slice of integers that came in. -/
def IsRow (k : IntKind) (w : World) (a : Option Addr) (len cap : Nat) (zs : List Int) : Prop :=
  (a = none ∧ len = 0 ∧ cap = 0 ∧ zs = []) ∨
  ∃ x, a = some x ∧ len ≤ cap ∧ cap ≤ maxLen ∧ zs.length = cap ∧ (∀ i, i < zs.length → w.cell? (x.add i) = some (.int k (zs.getD i 0))) ∧ ∀ n ∈ zs, (Lit.int k n).wf = true

/-- .. of a slice of such slices. -/
def IsRows (k : IntKind) (w : World) (a : Option Addr) (len cap : Nat) : Prop :=
  (a = none ∧ len = 0 ∧ cap = 0) ∨
  ∃ x, a = some x ∧ len ≤ cap ∧ cap ≤ maxLen ∧ ∀ i, i < len → ∃ a' l' c' zs, w.cell? (x.add i) = some (.slice a' l' c') ∧ IsRow k w a' l' c' zs

theorem walk (a0 : Option Addr) (len0 cap0 : Nat) (a1a : Int) (a1b : Int) (a1c : Int) (a1d : Option Addr) (len1d cap1d : Nat) (z1d : List Int) (w : World) (w0 : IsRows .u8 w a0 len0 cap0) (w1a : (Lit.int .u32 a1a).wf = true) (w1b : (Lit.int .u32 a1b).wf = true) (w1c : (Lit.int .i64 a1c).wf = true) (w1d : IsRow .u8 w a1d len1d cap1d z1d) :
    Calls Try.prog 4 #[.slice a0 len0 cap0, .agg #[.int .u32 a1a, .int .u32 a1b, .int .i64 a1c, .slice a1d len1d cap1d]] w fun e w' => e = .returned (.bool true) ∧ Below w.heap.size w w' := by
  obtain ⟨rs, h, h1, h2⟩ := Frag.Ri.of_rows w0
  obtain ⟨e, rfl⟩ := u32_of w1a
  obtain ⟨s, rfl⟩ := u32_of w1b
  obtain ⟨bs, hb, hm⟩ := Bs.of_row w1d
  exact Frag.back_walk _ _ _ rs e s a1c _ _ _ bs w h h1 h2 hb w1c

set_option maxRecDepth 100000 in
theorem lifted (os : Os) (started : os.Started) (H : Type) (enc : TypeId × Value → H) :
    ReturnsInHanded {} Try.checked os 4 .any (Rows.fragBackSpec.pre6 enc Try.prog Try.f4 Rows.fragBackRow.domain false) (Rows.fragBackSpec.post enc Try.prog Try.f4 false true false false) := by
  refine returnsInHanded_of_change (C := Try.checked) own started (by kernel_rfl) Try.func4
    (ChangeSpec.witness6 (enc := enc) (C := Try.checked) false ⟨#[], #[.slice none 0 0, .agg #[.int .u32 0, .int .u32 0, .int .i64 0, .slice none 0 0]], []⟩ 8 (by kernel_rfl) (by kernel_rfl) (by kernel_rfl) (by kernel_rfl)) ?_
  intro W base args ds gs before hval0 hW hcnd _
  have hval : ∀ (j : Nat) t v, Try.f4.params[j]? = some t → args[j]? = some v → Value.okWide Try.prog W .any base t v := hval0
  have hW' := hW
  obtain ⟨p, q, hA0, hV, rfl, hfz, hnd⟩ := hW
  have hA : DataW.TrodAll enc Try.prog W 0 (fun _ => true) true Try.f4.params.toList args.toList ds p := hA0
  rw [Try.params4] at hA hval
  obtain ⟨v0, vs0, d0, ds0, p0, q0, hargs, rfl, rfl, h0, r0⟩ := trodAll_cons hA
  obtain ⟨v1, vs1, d1, ds1, p1, q1, rfl, rfl, rfl, h1, r1⟩ := trodAll_cons r0
  obtain ⟨rfl, rfl, rfl⟩ := trodAll_nil r1
  obtain rfl : args = #[v0, v1] := by cases args; simp_all
  obtain ⟨rfl, rfl⟩ := trodVars_none hV
  have k0 := h0
  have lt0 : ∀ x ∈ p0, x.block < W.heap.size := by obtain ⟨m, hm⟩ := k0; exact DataW.trod_lt m _ _ _ hm
  obtain ⟨a0, len0, cap0, rfl⟩ := okWide_slice Try.underlying37 (hval 0 37 v0 rfl rfl)
  have w0 : IsRows .u8 W a0 len0 cap0 := by
    obtain ⟨fuel, hf⟩ := h0
    rcases Go.Deep.open_slice1 Try.underlying37 (by kernel_rfl) hf with ⟨hcs, _⟩ | ⟨x, l, c, m, n, V, D, Pl, hcs, _, hl, hm, hmm, _, hel⟩
    · simp [Value.cells] at hcs
      obtain ⟨rfl, rfl, rfl⟩ := hcs
      exact .inl ⟨rfl, rfl, rfl⟩
    · simp [Value.cells] at hcs
      obtain ⟨rfl, rfl, rfl⟩ := hcs
      refine .inr ⟨_, rfl, hl, hm, fun j hj => ?_⟩
      obtain ⟨hcell, ht⟩ := hel j (by rw [hmm]; simp; omega)
      rcases open_ints Try.underlying22 Try.underlying5 (by kernel_rfl) ht with ⟨hcs, _⟩ | ⟨y, l2, c2, zs, hcs, _, hl2, hm2, hz, _, hcell2, hwz⟩
      · obtain hv : V j = .slice none 0 0 := by simpa using hcs
        exact ⟨none, 0, 0, [], by rw [hcell, hv], .inl ⟨rfl, rfl, rfl, rfl⟩⟩
      · obtain hv : V j = .slice (some y) l2 c2 := by simpa using hcs
        exact ⟨some y, l2, c2, zs, by rw [hcell, hv], .inr ⟨_, rfl, hl2, hm2, by simpa using hz, hcell2, hwz⟩⟩
  have k1 := h1
  have lt1 : ∀ x ∈ p1, x.block < W.heap.size := by obtain ⟨m, hm⟩ := k1; exact DataW.trod_lt m _ _ _ hm
  obtain ⟨u1a, u1b, u1c, u1d, y1a, y1b, y1c, y1d, n1, rfl, _, _, t1a, t1b, t1c, t1d⟩ := Joins.open_agg4 Try.underlying35 (by kernel_rfl) (by kernel_rfl) (hval 1 35 v1 rfl rfl) h1
  obtain ⟨a1a, e1a, _, w1a⟩ := DataW.trod_int Try.underlying23 t1a
  obtain rfl : u1a = .int .u32 a1a := by simpa using e1a
  obtain ⟨a1b, e1b, _, w1b⟩ := DataW.trod_int Try.underlying23 t1b
  obtain rfl : u1b = .int .u32 a1b := by simpa using e1b
  obtain ⟨a1c, e1c, _, w1c⟩ := DataW.trod_int Try.underlying3 t1c
  obtain rfl : u1c = .int .i64 a1c := by simpa using e1c
  obtain ⟨a1d, len1d, cap1d, rfl⟩ : ∃ a l c, u1d = .slice a l c := by
    rcases DataW.trod_slice Try.underlying22 t1d with ⟨e, _⟩ | ⟨x, l, c, _, _, _, _, e, _⟩
    · exact ⟨_, _, _, by simpa using e⟩
    · exact ⟨_, _, _, by simpa using e⟩
  obtain ⟨z1d, w1d⟩ : ∃ zs, IsRow .u8 W a1d len1d cap1d zs := by
    rcases open_ints Try.underlying22 Try.underlying5 (by kernel_rfl) t1d with ⟨hcs, _⟩ | ⟨x, l, c, zs, hcs, _, hl, hm, hz, _, hcell, hwz⟩
    · simp at hcs
      obtain ⟨rfl, rfl, rfl⟩ := hcs
      exact ⟨[], .inl ⟨rfl, rfl, rfl, rfl⟩⟩
    · simp at hcs
      obtain ⟨rfl, rfl, rfl⟩ := hcs
      exact ⟨zs, .inr ⟨_, rfl, hl, hm, by simpa using hz, hcell, hwz⟩⟩
  clear hA0 hval0
  refine (walk a0 len0 cap0 a1a a1b a1c a1d len1d cap1d z1d W w0 w1a w1b w1c w1d).mono fun e W' ⟨he, bel⟩ => ?_
  subst he
  exact ⟨_, rfl, _, _, _, [], _, [], hW', trodAll_mk1 (shut_bool Try.underlying4 _), (trodAll_cons_mk (Below.trod laidOut (by kernel_rfl) (of_decide_eq_true (by kernel_rfl)) k0 bel lt0) (trodAll_cons_mk (Below.trod laidOut (by kernel_rfl) (of_decide_eq_true (by kernel_rfl)) k1 bel lt1) trodAll_mk0)), rfl, bel.frame _, fun h => by cases h⟩

theorem over : Rows.fragBackRow.holds Try.pinned (OpenSpec.ofChange Rows.fragBackSpec) :=
  OpenClaim.holds_of_wide 4 Try.f4 rfl rfl rfl rfl rfl rfl rfl ⟨rfl, rfl, rfl, rfl, rfl⟩ rfl rfl rfl rfl rfl (by kernel_rfl) Try.func4 (by kernel_rfl)
    (of_decide_eq_true (by kernel_rfl)) (by unfold Func.isWrapper; first | (rw [if_pos (by decide +kernel)]; kernel_rfl) | (rw [if_neg (by decide +kernel)]; exact ⟨rfl, rfl⟩))
    (fun os started H enc _ => lifted os started H enc)

/-- THE STATEMENT. -/
theorem proved : Rows.FragBackSaid := over
#print axioms proved
end Go.Proofs.Ytmchpakefddinaa.fragBack
