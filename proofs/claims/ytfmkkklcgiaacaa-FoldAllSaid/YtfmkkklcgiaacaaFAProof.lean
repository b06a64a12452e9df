/-
For any book and any slice of slices of bytes, davitlaw16.FoldAll returns true: the state behind the records' encodings is what the document says, or the error is told (P16.2). No condition beyond the form's own.
-/
import Derived.Test.YtfmkkklcgiaacaaFA0
import Derived.Test.YtfmkkklcgiaacaaFA2
import Derived.Test.YtfmkkklcgiaacaaFA3
import Derived.Test.YtfmkkklcgiaacaaFA9
import Derived.Test.YtfmkkklcgiaacaaFA21
import Derived.Test.YtfmkkklcgiaacaaFA23
import Derived.Test.YtfmkkklcgiaacaaFA24
import Derived.Test.YtfmkkklcgiaacaaRows
import Derived.WalkKit
import Derived.ProofKit
import Derived.OpenShut
import Derived.ShutString
import Derived.ChangeOld
import Derived.Below
import Derived.Lib.SmallJoins
import Derived.Deep.Slices
set_option linter.unusedVariables false
set_option linter.unusedSimpArgs false
set_option maxRecDepth 100000
namespace Go.Proofs.Ytfmkkklcgiaacaa.foldAll
open Go.ChangeShapes Go.WideShapes Go.ChangeAt Go.RowKit
open Go.ChangeMaps (open_string shut_string)
theorem own : ownKnob Try.prog.godebug = none := by kernel_rfl
theorem laidOut : laidOutB Try.prog = true := by kernel_rfl
def IsRow (k : IntKind) (w : World) (a : Option Addr) (len cap : Nat) (zs : List Int) : Prop :=
 (a = none ∧ len = 0 ∧ cap = 0 ∧ zs = []) ∨
 ∃ x, a = some x ∧ len ≤ cap ∧ cap ≤ maxLen ∧ zs.length = cap ∧ (∀ i, i < zs.length → w.cell? (x.add i) = some (.int k (zs.getD i 0))) ∧ ∀ n ∈ zs, (Lit.int k n).wf = true
theorem walk (a0a : Option Addr) (len0a cap0a : Nat) (a0b : Option Addr) (len0b cap0b : Nat) (a0c : Int) (a1 : Option Addr) (len1 cap1 : Nat) (w : World) (w0a : IsV w (.recs [.string, (.int .i64), (.slice (.int .u8)), (.recs [(.slice (.int .u8)), (.int .i64), (.int .i64)]), (.int .i64), (.int .i64), (.int .i64)]) (.slice a0a len0a cap0a)) (w0b : IsV w (.slice .string) (.slice a0b len0b cap0b)) (w0c : (Lit.int .i64 a0c).wf = true) (w1 : IsV w (.slice (.slice (.int .u8))) (.slice a1 len1 cap1)) :
  Calls Try.prog 3 #[.agg #[.slice a0a len0a cap0a, .slice a0b len0b cap0b, .int .i64 a0c], .slice a1 len1 cap1] w fun e w' => e = .returned (.bool true) ∧ Below w.heap.size w w' := by
 obtain ⟨vs, hvl, hvm, hb, hfit⟩ := Fold.fbk_of_isv w0a
 obtain ⟨ls, hll, hlm, hls, hlc⟩ := Fold.caps_of_isv w1
 exact Fold.all_walk Fold.pall_ (Fold.knows16 Fold.pstart_ Fold.pnext_) w _ _ _ vs hb hvl hvm hfit _ _ _ _ _ _ _ ls hls hlc hll hlm
theorem lifted (os : Os) (started : os.Started) (H : Type) (enc : TypeId × Value → H) :
  ReturnsInHanded {} Try.checked os 3 .any (Rows.foldAllSpec.pre6 enc Try.prog Try.f3 Rows.foldAllRow.domain false) (Rows.foldAllSpec.post enc Try.prog Try.f3 false true false false) := by
 refine returnsInHanded_of_change (C := Try.checked) own started (by kernel_rfl) Try.func3
  (ChangeSpec.witness6 (enc := enc) (C := Try.checked) false ⟨#[], #[.agg #[.slice none 0 0, .slice none 0 0, .int .i64 0], .slice none 0 0], []⟩ 8 (by kernel_rfl) (by kernel_rfl) (by kernel_rfl) (by kernel_rfl)) ?_
 intro W base args ds gs before hval0 hW hcnd _
 have hval : ∀ (j : Nat) t v, Try.f3.params[j]? = some t → args[j]? = some v → Value.okWide Try.prog W .any base t v := hval0
 have hW' := hW
 obtain ⟨p, q, hA0, hV, rfl, hfz, hnd⟩ := hW
 have hA : DataW.TrodAll enc Try.prog W 0 (fun _ => true) true Try.f3.params.toList args.toList ds p := hA0
 rw [Try.params3] at hA hval
 obtain ⟨v0, vs0, d0, ds0, p0, q0, hargs, rfl, rfl, h0, r0⟩ := trodAll_cons hA
 obtain ⟨v1, vs1, d1, ds1, p1, q1, rfl, rfl, rfl, h1, r1⟩ := trodAll_cons r0
 obtain ⟨rfl, rfl, rfl⟩ := trodAll_nil r1
 obtain rfl : args = #[v0, v1] := by cases args; simp_all
 obtain ⟨rfl, rfl⟩ := trodVars_none hV
 have k0 := h0
 have lt0 : ∀ x ∈ p0, x.block < W.heap.size := by obtain ⟨m, hm⟩ := k0; exact DataW.trod_lt m _ _ _ hm
 obtain ⟨u0a, u0b, u0c, y0a, y0b, y0c, n0, rfl, _, _, t0a, t0b, t0c⟩ := Joins.open_agg3 Try.underlying25 (by kernel_rfl) (by kernel_rfl) (hval 0 25 v0 rfl rfl) h0
 obtain ⟨a0a, len0a, cap0a, rfl⟩ : ∃ a l c, u0a = .slice a l c := by
  rcases DataW.trod_slice Try.underlying22 t0a with ⟨e, _⟩ | ⟨x, l, c, _, _, _, _, e, _⟩
  ·exact ⟨_, _, _, by simpa using e⟩
  ·exact ⟨_, _, _, by simpa using e⟩
 have w0a : IsV W (.recs [.string, (.int .i64), (.slice (.int .u8)), (.recs [(.slice (.int .u8)), (.int .i64), (.int .i64)]), (.int .i64), (.int .i64), (.int .i64)]) (.slice a0a len0a cap0a) := open_kind 9 (P := Try.prog) (by kernel_rfl) t0a
 obtain ⟨a0b, len0b, cap0b, rfl⟩ : ∃ a l c, u0b = .slice a l c := by
  rcases DataW.trod_slice Try.underlying23 t0b with ⟨e, _⟩ | ⟨x, l, c, _, _, _, _, e, _⟩
  ·exact ⟨_, _, _, by simpa using e⟩
  ·exact ⟨_, _, _, by simpa using e⟩
 have w0b : IsV W (.slice .string) (.slice a0b len0b cap0b) := open_kind 9 (P := Try.prog) (by kernel_rfl) t0b
 obtain ⟨a0c, e0c, _, w0c⟩ := DataW.trod_int Try.underlying3 t0c
 obtain rfl : u0c = .int .i64 a0c := by simpa using e0c
 have k1 := h1
 have lt1 : ∀ x ∈ p1, x.block < W.heap.size := by obtain ⟨m, hm⟩ := k1; exact DataW.trod_lt m _ _ _ hm
 obtain ⟨a1, len1, cap1, rfl⟩ := okWide_slice Try.underlying26 (hval 1 26 v1 rfl rfl)
 have w1 : IsV W (.slice (.slice (.int .u8))) (.slice a1 len1 cap1) := by
  obtain ⟨fuel, hf⟩ := h1
  exact open_kind 9 (P := Try.prog) (by kernel_rfl) (by simpa [Value.cells] using hf)
 clear hA0 hval0
 refine (walk a0a len0a cap0a a0b len0b cap0b a0c a1 len1 cap1 W w0a w0b w0c w1).mono fun e W' ⟨he, bel⟩ => ?_
 subst he
 exact ⟨_, rfl, _, _, _, [], _, [], hW', trodAll_mk1 (shut_bool Try.underlying4 _), (trodAll_cons_mk (Below.trod laidOut (by kernel_rfl) (of_decide_eq_true (by kernel_rfl)) k0 bel lt0) (trodAll_cons_mk (Below.trod laidOut (by kernel_rfl) (of_decide_eq_true (by kernel_rfl)) k1 bel lt1) trodAll_mk0)), rfl, bel.frame _, fun h => by cases h⟩
theorem over : Rows.foldAllRow.holds Try.pinned (OpenSpec.ofChange Rows.foldAllSpec) :=
 OpenClaim.holds_of_wide 3 Try.f3 rfl rfl rfl rfl rfl rfl rfl ⟨rfl, rfl, rfl, rfl, rfl⟩ rfl rfl rfl rfl rfl (by kernel_rfl) Try.func3 (by kernel_rfl)
  (of_decide_eq_true (by kernel_rfl)) (by unfold Func.isWrapper; first | (rw [if_pos (by decide +kernel)]; kernel_rfl) | (rw [if_neg (by decide +kernel)]; exact ⟨rfl, rfl⟩))
  (fun os started H enc _ => lifted os started H enc)
theorem proved : Rows.FoldAllSaid := over
#print axioms proved
end Go.Proofs.Ytfmkkklcgiaacaa.foldAll
