/-
  For every record.Rec, davitlaw15.RecordPuts returns true: whether any record may be, and its bytes, are what the document says, or the error is told, and it is got as it was put (P15.1, P15.2). No condition beyond the form's own.
-/
import Derived.Test.YthaebchmlicgaaaRows
import Derived.WalkKit
import Derived.ProofKit
import Derived.OpenShut
import Derived.ShutString
import Derived.ChangeOld
import Derived.Below
import Derived.Lib.SmallJoins
import Derived.Deep.Slices
import Derived.Test.YthaebchmlicgaaaOpen
import Derived.Test.YthaebchmlicgaaaOpenRec
import Derived.Test.YthaebchmlicgaaaRecPuts
import Derived.Test.YthaebchmlicgaaaRecOpen
namespace Go.Proofs.Ythaebchmlicgaaa.recordPuts
open Go.ChangeShapes Go.WideShapes Go.ChangeAt Go.RowKit
open Go.ChangeMaps (open_string shut_string)
set_option linter.unusedVariables false

theorem own : ownKnob Try.prog.godebug = none := by kernel_rfl
theorem laidOut : laidOutB Try.prog = true := by kernel_rfl

/-- What the walk is told of a slice of integers that came in. -/
def IsRow (k : IntKind) (w : World) (a : Option Addr) (len cap : Nat) (zs : List Int) : Prop :=
  (a = none ∧ len = 0 ∧ cap = 0 ∧ zs = []) ∨
  ∃ x, a = some x ∧ len ≤ cap ∧ cap ≤ maxLen ∧ zs.length = cap ∧ (∀ i, i < zs.length → w.cell? (x.add i) = some (.int k (zs.getD i 0))) ∧ ∀ n ∈ zs, (Lit.int k n).wf = true

theorem walk (a0a : Int) (a0b : Int) (a0c : Int) (a0d : Int) (a0e : Int) (a0f : Option Addr) (len0f cap0f : Nat) (a0g : Int) (a0h : Int) (a0i : Int) (a0j : Int) (a0k : Int) (a0l : Int) (a0m : Option Addr) (len0m cap0m : Nat) (w : World) (w0a : (Lit.int .i64 a0a).wf = true) (w0b : (Lit.int .i64 a0b).wf = true) (w0c : (Lit.int .i64 a0c).wf = true) (w0d : (Lit.int .i64 a0d).wf = true) (w0e : (Lit.int .i64 a0e).wf = true) (w0f : IsV w (.slice (.slice (.int .u8))) (.slice a0f len0f cap0f)) (w0g : (Lit.int .i64 a0g).wf = true) (w0h : (Lit.int .i64 a0h).wf = true) (w0i : (Lit.int .i64 a0i).wf = true) (w0j : (Lit.int .i64 a0j).wf = true) (w0k : (Lit.int .i64 a0k).wf = true) (w0l : (Lit.int .i64 a0l).wf = true) (w0m : IsV w (.slice (.int .u8)) (.slice a0m len0m cap0m)) :
    Calls Try.prog 3 #[.agg #[.int .i64 a0a, .int .i64 a0b, .int .i64 a0c, .int .i64 a0d, .int .i64 a0e, .slice a0f len0f cap0f, .int .i64 a0g, .int .i64 a0h, .int .i64 a0i, .int .i64 a0j, .int .i64 a0k, .int .i64 a0l, .slice a0m len0m cap0m]] w fun e w' => e = .returned (.bool true) ∧ Below w.heap.size w w' := by
  obtain ⟨v, hv, hr⟩ := Rec.rec_of_isv a0a a0b a0c a0d a0e a0g a0h a0i a0j a0k a0l w0f w0m
  have := Rec.puts_walk w v hr
  rw [hv] at this
  exact this

set_option maxRecDepth 100000 in
theorem lifted (os : Os) (started : os.Started) (H : Type) (enc : TypeId × Value → H) :
    ReturnsInHanded {} Try.checked os 3 .any (Rows.recordPutsSpec.pre6 enc Try.prog Try.f3 Rows.recordPutsRow.domain false) (Rows.recordPutsSpec.post enc Try.prog Try.f3 false true false false) := by
  refine returnsInHanded_of_change (C := Try.checked) own started (by kernel_rfl) Try.func3
    (ChangeSpec.witness6 (enc := enc) (C := Try.checked) false ⟨#[], #[.agg #[.int .i64 0, .int .i64 0, .int .i64 0, .int .i64 0, .int .i64 0, .slice none 0 0, .int .i64 0, .int .i64 0, .int .i64 0, .int .i64 0, .int .i64 0, .int .i64 0, .slice none 0 0]], []⟩ 8 (by kernel_rfl) (by kernel_rfl) (by kernel_rfl) (by kernel_rfl)) ?_
  intro W base args ds gs before hval0 hW hcnd _
  have hval : ∀ (j : Nat) t v, Try.f3.params[j]? = some t → args[j]? = some v → Value.okWide Try.prog W .any base t v := hval0
  have hW' := hW
  obtain ⟨p, q, hA0, hV, rfl, hfz, hnd⟩ := hW
  have hA : DataW.TrodAll enc Try.prog W 0 (fun _ => true) true Try.f3.params.toList args.toList ds p := hA0
  rw [Try.params3] at hA hval
  obtain ⟨v0, vs0, d0, ds0, p0, q0, hargs, rfl, rfl, h0, r0⟩ := trodAll_cons hA
  obtain ⟨rfl, rfl, rfl⟩ := trodAll_nil r0
  obtain rfl : args = #[v0] := by cases args; simp_all
  obtain ⟨rfl, rfl⟩ := trodVars_none hV
  have k0 := h0
  have lt0 : ∀ x ∈ p0, x.block < W.heap.size := by obtain ⟨m, hm⟩ := k0; exact DataW.trod_lt m _ _ _ hm
  obtain ⟨u0a, u0b, u0c, u0d, u0e, u0f, u0g, u0h, u0i, u0j, u0k, u0l, u0m, y00, y02, y03, y04, y05, y06, y07, y08, y0p, y0q, y0r, y0s, y0t, n0, m0, rfl, _, _, t0a, t0b, t0c, t0d, t0e, t0f, t0g, t0h, t0i, t0j, t0k, t0l, t0m⟩ := open_rec Try.underlying27 Try.underlying24 (by kernel_rfl) (by kernel_rfl) (by kernel_rfl) (hval 0 27 v0 rfl rfl) h0
  obtain ⟨a0a, e0a, _, w0a⟩ := DataW.trod_int Try.underlying3 t0a
  obtain rfl : u0a = .int .i64 a0a := by simpa using e0a
  obtain ⟨a0b, e0b, _, w0b⟩ := DataW.trod_int Try.underlying3 t0b
  obtain rfl : u0b = .int .i64 a0b := by simpa using e0b
  obtain ⟨a0c, e0c, _, w0c⟩ := DataW.trod_int Try.underlying3 t0c
  obtain rfl : u0c = .int .i64 a0c := by simpa using e0c
  obtain ⟨a0d, e0d, _, w0d⟩ := DataW.trod_int Try.underlying3 t0d
  obtain rfl : u0d = .int .i64 a0d := by simpa using e0d
  obtain ⟨a0e, e0e, _, w0e⟩ := DataW.trod_int Try.underlying3 t0e
  obtain rfl : u0e = .int .i64 a0e := by simpa using e0e
  obtain ⟨a0f, len0f, cap0f, rfl⟩ : ∃ a l c, u0f = .slice a l c := by
    rcases DataW.trod_slice Try.underlying22 t0f with ⟨e, _⟩ | ⟨x, l, c, _, _, _, _, e, _⟩
    · exact ⟨_, _, _, by simpa using e⟩
    · exact ⟨_, _, _, by simpa using e⟩
  have w0f : IsV W (.slice (.slice (.int .u8))) (.slice a0f len0f cap0f) := open_kind 9 (P := Try.prog) (by kernel_rfl) t0f
  obtain ⟨a0g, e0g, _, w0g⟩ := DataW.trod_int Try.underlying3 t0g
  obtain rfl : u0g = .int .i64 a0g := by simpa using e0g
  obtain ⟨a0h, e0h, _, w0h⟩ := DataW.trod_int Try.underlying3 t0h
  obtain rfl : u0h = .int .i64 a0h := by simpa using e0h
  obtain ⟨a0i, e0i, _, w0i⟩ := DataW.trod_int Try.underlying3 t0i
  obtain rfl : u0i = .int .i64 a0i := by simpa using e0i
  obtain ⟨a0j, e0j, _, w0j⟩ := DataW.trod_int Try.underlying3 t0j
  obtain rfl : u0j = .int .i64 a0j := by simpa using e0j
  obtain ⟨a0k, e0k, _, w0k⟩ := DataW.trod_int Try.underlying3 t0k
  obtain rfl : u0k = .int .i64 a0k := by simpa using e0k
  obtain ⟨a0l, e0l, _, w0l⟩ := DataW.trod_int Try.underlying3 t0l
  obtain rfl : u0l = .int .i64 a0l := by simpa using e0l
  obtain ⟨a0m, len0m, cap0m, rfl⟩ : ∃ a l c, u0m = .slice a l c := by
    rcases DataW.trod_slice Try.underlying25 t0m with ⟨e, _⟩ | ⟨x, l, c, _, _, _, _, e, _⟩
    · exact ⟨_, _, _, by simpa using e⟩
    · exact ⟨_, _, _, by simpa using e⟩
  have w0m : IsV W (.slice (.int .u8)) (.slice a0m len0m cap0m) := open_kind 9 (P := Try.prog) (by kernel_rfl) t0m
  clear hA0 hval0
  refine (walk a0a a0b a0c a0d a0e a0f len0f cap0f a0g a0h a0i a0j a0k a0l a0m len0m cap0m W w0a w0b w0c w0d w0e w0f w0g w0h w0i w0j w0k w0l w0m).mono fun e W' ⟨he, bel⟩ => ?_
  subst he
  exact ⟨_, rfl, _, _, _, [], _, [], hW', trodAll_mk1 (shut_bool Try.underlying4 _), (trodAll_cons_mk (Below.trod laidOut (by kernel_rfl) (of_decide_eq_true (by kernel_rfl)) k0 bel lt0) trodAll_mk0), rfl, bel.frame _, fun h => by cases h⟩

theorem over : Rows.recordPutsRow.holds Try.pinned (OpenSpec.ofChange Rows.recordPutsSpec) :=
  OpenClaim.holds_of_wide 3 Try.f3 rfl rfl rfl rfl rfl rfl rfl ⟨rfl, rfl, rfl, rfl, rfl⟩ rfl rfl rfl rfl rfl (by kernel_rfl) Try.func3 (by kernel_rfl)
    (of_decide_eq_true (by kernel_rfl)) (by unfold Func.isWrapper; first | (rw [if_pos (by decide +kernel)]; kernel_rfl) | (rw [if_neg (by decide +kernel)]; exact ⟨rfl, rfl⟩))
    (fun os started H enc _ => lifted os started H enc)

/-- THE STATEMENT. -/
theorem proved : Rows.RecordPutsSaid := over
#print axioms proved
end Go.Proofs.Ythaebchmlicgaaa.recordPuts
