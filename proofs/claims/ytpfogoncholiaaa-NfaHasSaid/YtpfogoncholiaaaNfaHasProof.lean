/-
  For any instruction and any byte, davitlaw09.NfaHas returns true: whether an instruction of up to 60 spans takes the byte is what the document says (P9.1). No condition beyond the form's own.
-/
import Derived.Test.YtpfogoncholiaaaRows
import Derived.WalkKit
import Derived.ProofKit
import Derived.OpenShut
import Derived.ShutString
import Derived.ChangeOld
import Derived.Below
import Derived.Lib.SmallJoins
import Derived.Deep.Slices
import Derived.Test.YtpfogoncholiaaaOpen
import Derived.Test.YtpfogoncholiaaaOpenFive
import Derived.Test.YtpfogoncholiaaaNfaHasW
namespace Go.Proofs.Ytpfogoncholiaaa.nfaHas
open Go.ChangeShapes Go.WideShapes Go.ChangeAt Go.RowKit
open Go.ChangeMaps (open_string shut_string)
set_option linter.unusedVariables false

theorem own : ownKnob Try.prog.godebug = none := by kernel_rfl
theorem laidOut : laidOutB Try.prog = true := by kernel_rfl

/-- What the walk is told of a slice of integers that came in. -/
def IsRow (k : IntKind) (w : World) (a : Option Addr) (len cap : Nat) (zs : List Int) : Prop :=
  (a = none ∧ len = 0 ∧ cap = 0 ∧ zs = []) ∨
  ∃ x, a = some x ∧ len ≤ cap ∧ cap ≤ maxLen ∧ zs.length = cap ∧ (∀ i, i < zs.length → w.cell? (x.add i) = some (.int k (zs.getD i 0))) ∧ ∀ n ∈ zs, (Lit.int k n).wf = true

theorem walk (a0a : Int) (a0b : Int) (a0c : Int) (a0d : Bool) (a0e : Option Addr) (len0e cap0e : Nat) (a1 : Int) (w : World) (w0a : (Lit.int .i64 a0a).wf = true) (w0b : (Lit.int .i64 a0b).wf = true) (w0c : (Lit.int .i64 a0c).wf = true) (w0e : IsV w (.recs [(.int .u8), (.int .u8)]) (.slice a0e len0e cap0e)) (w1 : (Lit.int .u8 a1).wf = true) :
    Calls Try.prog 4 #[.agg #[.int .i64 a0a, .int .i64 a0b, .int .i64 a0c, .bool a0d, .slice a0e len0e cap0e], .int .u8 a1] w fun e w' => e = .returned (.bool true) ∧ Below w.heap.size w w' := by
  exact Nfa.has_walk a0a a0b a0c a0d a0e len0e cap0e a1 w w0e w1

set_option maxRecDepth 100000 in
theorem lifted (os : Os) (started : os.Started) (H : Type) (enc : TypeId × Value → H) :
    ReturnsInHanded {} Try.checked os 4 .any (Rows.nfaHasSpec.pre6 enc Try.prog Try.f4 Rows.nfaHasRow.domain false) (Rows.nfaHasSpec.post enc Try.prog Try.f4 false true false false) := by
  refine returnsInHanded_of_change (C := Try.checked) own started (by kernel_rfl) Try.func4
    (ChangeSpec.witness6 (enc := enc) (C := Try.checked) false ⟨#[], #[.agg #[.int .i64 0, .int .i64 0, .int .i64 0, .bool false, .slice none 0 0], .int .u8 0], []⟩ 8 (by kernel_rfl) (by kernel_rfl) (by kernel_rfl) (by kernel_rfl)) ?_
  intro W base args ds gs before hval0 hW hcnd _
  have hval : ∀ (j : Nat) t v, Try.f4.params[j]? = some t → args[j]? = some v → Value.okWide Try.prog W .any base t v := hval0
  have hW' := hW
  obtain ⟨p, q, hA0, hV, rfl, hfz, hnd⟩ := hW
  have hA : DataW.TrodAll enc Try.prog W 0 (fun _ => true) true Try.f4.params.toList args.toList ds p := hA0
  rw [Try.params4] at hA hval
  obtain ⟨v0, vs0, d0, ds0, p0, q0, hargs, rfl, rfl, h0, r0⟩ := trodAll_cons hA
  obtain ⟨v1, vs1, d1, ds1, p1, q1, rfl, rfl, rfl, h1, r1⟩ := trodAll_cons r0
  obtain ⟨rfl, rfl, rfl⟩ := trodAll_nil r1
  obtain rfl : args = #[v0, v1] := by cases args; simp_all
  obtain ⟨rfl, rfl⟩ := trodVars_none hV
  have k0 := h0
  have lt0 : ∀ x ∈ p0, x.block < W.heap.size := by obtain ⟨m, hm⟩ := k0; exact DataW.trod_lt m _ _ _ hm
  obtain ⟨u0a, u0b, u0c, u0d, u0e, y0a, y0b, y0c, y0d, y0e, n0, rfl, _, _, t0a, t0b, t0c, t0d, t0e⟩ := open_agg5 Try.underlying38 (by kernel_rfl) (by kernel_rfl) (hval 0 38 v0 rfl rfl) h0
  obtain ⟨a0a, e0a, _, w0a⟩ := DataW.trod_int Try.underlying3 t0a
  obtain rfl : u0a = .int .i64 a0a := by simpa using e0a
  obtain ⟨a0b, e0b, _, w0b⟩ := DataW.trod_int Try.underlying3 t0b
  obtain rfl : u0b = .int .i64 a0b := by simpa using e0b
  obtain ⟨a0c, e0c, _, w0c⟩ := DataW.trod_int Try.underlying3 t0c
  obtain rfl : u0c = .int .i64 a0c := by simpa using e0c
  obtain ⟨a0d, e0d, _⟩ := DataW.trod_bool Try.underlying4 t0d
  obtain rfl : u0d = .bool a0d := by simpa using e0d
  obtain ⟨a0e, len0e, cap0e, rfl⟩ : ∃ a l c, u0e = .slice a l c := by
    rcases DataW.trod_slice Try.underlying36 t0e with ⟨e, _⟩ | ⟨x, l, c, _, _, _, _, e, _⟩
    · exact ⟨_, _, _, by simpa using e⟩
    · exact ⟨_, _, _, by simpa using e⟩
  have w0e : IsV W (.recs [(.int .u8), (.int .u8)]) (.slice a0e len0e cap0e) := open_kind 9 (P := Try.prog) (by kernel_rfl) t0e
  obtain ⟨a1, rfl, rfl, rfl, w1⟩ := open_int Try.underlying5 (hval 1 5 v1 rfl rfl) h1
  clear hA0 hval0
  refine (walk a0a a0b a0c a0d a0e len0e cap0e a1 W w0a w0b w0c w0e w1).mono fun e W' ⟨he, bel⟩ => ?_
  subst he
  exact ⟨_, rfl, _, _, _, [], _, [], hW', trodAll_mk1 (shut_bool Try.underlying4 _), (trodAll_cons_mk (Below.trod laidOut (by kernel_rfl) (of_decide_eq_true (by kernel_rfl)) k0 bel lt0) (trodAll_cons_mk (shut_int Try.underlying5 w1) trodAll_mk0)), rfl, bel.frame _, fun h => by cases h⟩

theorem over : Rows.nfaHasRow.holds Try.pinned (OpenSpec.ofChange Rows.nfaHasSpec) :=
  OpenClaim.holds_of_wide 4 Try.f4 rfl rfl rfl rfl rfl rfl rfl ⟨rfl, rfl, rfl, rfl, rfl⟩ rfl rfl rfl rfl rfl (by kernel_rfl) Try.func4 (by kernel_rfl)
    (of_decide_eq_true (by kernel_rfl)) (by unfold Func.isWrapper; first | (rw [if_pos (by decide +kernel)]; kernel_rfl) | (rw [if_neg (by decide +kernel)]; exact ⟨rfl, rfl⟩))
    (fun os started H enc _ => lifted os started H enc)

/-- THE STATEMENT. -/
theorem proved : Rows.NfaHasSaid := over
#print axioms proved
end Go.Proofs.Ytpfogoncholiaaa.nfaHas
