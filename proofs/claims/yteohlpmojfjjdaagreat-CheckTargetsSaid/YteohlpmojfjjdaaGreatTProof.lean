/-
For every runbook.Book, davitlaw14.CheckTargets returns true: of what is compiled each target is a step's number or one of the three, each variable's number is one that there is, and each step's tag, sends, tries and time are as P14.2 says. No condition beyond the form's own.
-/
import Derived.Test.YteohlpmojfjjdaaGreatT0
import Derived.Test.YteohlpmojfjjdaaGreatT1
import Derived.Test.YteohlpmojfjjdaaGreatT8
import Derived.Test.YteohlpmojfjjdaaGreatT30
import Derived.Test.YteohlpmojfjjdaaGreatRows
import Derived.WalkKit
import Derived.ProofKit
import Derived.OpenShut
import Derived.ShutString
import Derived.ChangeOld
import Derived.Below
import Derived.Lib.SmallJoins
import Derived.Deep.Slices
set_option linter.unusedVariables false
set_option linter.unusedSimpArgs false
set_option maxRecDepth 100000
namespace Go.Proofs.YteohlpmojfjjdaaGreat.checkTargets
open Go.ChangeShapes Go.WideShapes Go.ChangeAt Go.RowKit
open Go.ChangeMaps (open_string shut_string)
theorem own : ownKnob Tryz.prog.godebug = none := by kernel_rfl
theorem laidOut : laidOutB Tryz.prog = true := by kernel_rfl
def IsRow (k : IntKind) (w : World) (a : Option Addr) (len cap : Nat) (zs : List Int) : Prop :=
 (a = none ∧ len = 0 ∧ cap = 0 ∧ zs = []) ∨
 ∃ x, a = some x ∧ len ≤ cap ∧ cap ≤ maxLen ∧ zs.length = cap ∧ (∀ i, i < zs.length → w.cell? (x.add i) = some (.int k (zs.getD i 0))) ∧ ∀ n ∈ zs, (Lit.int k n).wf = true
theorem walk (a0a : Int) (a0b : Option Addr) (len0b cap0b : Nat) (w : World) (w0a : (Lit.int .i64 a0a).wf = true) (w0b : IsV w (.recs [(.int .i64), .string, (.int .i64), .bool, (.slice (.int .u8)), (.recs [(.int .i64), (.slice (.int .u8)), .string, .string]), (.int .i64), (.int .i64), .string]) (.slice a0b len0b cap0b)) :
  Calls Tryz.prog 5 #[.agg #[.int .i64 a0a, .slice a0b len0b cap0b]] w fun e w' => e = .returned (.bool true) ∧ Below w.heap.size w w' := by
 obtain ⟨vs, hl, hm, hg, hf⟩ := Chk.steps_of_isv w0b
 exact Chk.targets_walk a0a a0b len0b cap0b vs w hg hl hm hf
theorem lifted (os : Os) (started : os.Started) (H : Type) (enc : TypeId × Value → H) :
  ReturnsInHanded {} Tryz.checked os 5 .any (Rows.checkTargetsSpec.pre6 enc Tryz.prog Tryz.f5 Rows.checkTargetsRow.domain false) (Rows.checkTargetsSpec.post enc Tryz.prog Tryz.f5 false true false false) := by
 refine returnsInHanded_of_change (C := Tryz.checked) own started (by kernel_rfl) Tryz.func5
  (ChangeSpec.witness6 (enc := enc) (C := Tryz.checked) false ⟨#[], #[.agg #[.int .i64 0, .slice none 0 0]], []⟩ 8 (by kernel_rfl) (by kernel_rfl) (by kernel_rfl) (by kernel_rfl)) ?_
 intro W base args ds gs before hval0 hW hcnd _
 have hval : ∀ (j : Nat) t v, Tryz.f5.params[j]? = some t → args[j]? = some v → Value.okWide Tryz.prog W .any base t v := hval0
 have hW' := hW
 obtain ⟨p, q, hA0, hV, rfl, hfz, hnd⟩ := hW
 have hA : DataW.TrodAll enc Tryz.prog W 0 (fun _ => true) true Tryz.f5.params.toList args.toList ds p := hA0
 rw [Tryz.params5] at hA hval
 obtain ⟨v0, vs0, d0, ds0, p0, q0, hargs, rfl, rfl, h0, r0⟩ := trodAll_cons hA
 obtain ⟨rfl, rfl, rfl⟩ := trodAll_nil r0
 obtain rfl : args = #[v0] := by cases args; simp_all
 obtain ⟨rfl, rfl⟩ := trodVars_none hV
 have k0 := h0
 have lt0 : ∀ x ∈ p0, x.block < W.heap.size := by obtain ⟨m, hm⟩ := k0; exact DataW.trod_lt m _ _ _ hm
 obtain ⟨u0a, u0b, y0a, y0b, n0, rfl, _, _, t0a, t0b⟩ := Joins.open_agg2 Tryz.underlying24 (by kernel_rfl) (by kernel_rfl) (hval 0 24 v0 rfl rfl) h0
 obtain ⟨a0a, e0a, _, w0a⟩ := DataW.trod_int Tryz.underlying3 t0a
 obtain rfl : u0a = .int .i64 a0a := by simpa using e0a
 obtain ⟨a0b, len0b, cap0b, rfl⟩ : ∃ a l c, u0b = .slice a l c := by
  rcases DataW.trod_slice Tryz.underlying22 t0b with ⟨e, _⟩ | ⟨x, l, c, _, _, _, _, e, _⟩
  ·exact ⟨_, _, _, by simpa using e⟩
  ·exact ⟨_, _, _, by simpa using e⟩
 have w0b : IsV W (.recs [(.int .i64), .string, (.int .i64), .bool, (.slice (.int .u8)), (.recs [(.int .i64), (.slice (.int .u8)), .string, .string]), (.int .i64), (.int .i64), .string]) (.slice a0b len0b cap0b) := open_kind 9 (P := Tryz.prog) (by kernel_rfl) t0b
 clear hA0 hval0
 refine (walk a0a a0b len0b cap0b W w0a w0b).mono fun e W' ⟨he, bel⟩ => ?_
 subst he
 exact ⟨_, rfl, _, _, _, [], _, [], hW', trodAll_mk1 (shut_bool Tryz.underlying4 _), (trodAll_cons_mk (Below.trod laidOut (by kernel_rfl) (of_decide_eq_true (by kernel_rfl)) k0 bel lt0) trodAll_mk0), rfl, bel.frame _, fun h => by cases h⟩
theorem over : Rows.checkTargetsRow.holds Tryz.pinned (OpenSpec.ofChange Rows.checkTargetsSpec) :=
 OpenClaim.holds_of_wide 5 Tryz.f5 rfl rfl rfl rfl rfl rfl rfl ⟨rfl, rfl, rfl, rfl, rfl⟩ rfl rfl rfl rfl rfl (by kernel_rfl) Tryz.func5 (by kernel_rfl)
  (of_decide_eq_true (by kernel_rfl)) (by unfold Func.isWrapper; first | (rw [if_pos (by decide +kernel)]; kernel_rfl) | (rw [if_neg (by decide +kernel)]; exact ⟨rfl, rfl⟩))
  (fun os started H enc _ => lifted os started H enc)
theorem proved : Rows.CheckTargetsSaid := over
#print axioms proved
end Go.Proofs.YteohlpmojfjjdaaGreat.checkTargets
