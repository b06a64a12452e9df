/-
  For every part, place and word, davitlaw03.SectorBursts returns true: a sector that is changed, but only within 32 consecutive bits, is the sector of no part (P3.2). No condition beyond the form's own.
-/
import Derived.Test.YtickagagbdfncaaRows
import Derived.WalkKit
import Derived.ProofKit
import Derived.OpenShut
import Derived.ShutString
import Derived.ChangeOld
import Derived.Below
import Derived.Lib.SmallJoins
import Derived.Test.YtickagagbdfncaaSectorBursts
namespace Go.Proofs.Ytickagagbdfncaa.sectorBursts
open Go.ChangeShapes Go.WideShapes Go.ChangeAt Go.RowKit
open Go.ChangeMaps (open_string shut_string)
set_option linter.unusedVariables false

theorem own : ownKnob Try.prog.godebug = none := by kernel_rfl
theorem laidOut : laidOutB Try.prog = true := by kernel_rfl

/-- What the walk is told of a slice of integers that came in. -/
def IsRow (k : IntKind) (w : World) (a : Option Addr) (len cap : Nat) (zs : List Int) : Prop :=
  (a = none ∧ len = 0 ∧ cap = 0 ∧ zs = []) ∨
  ∃ x, a = some x ∧ len ≤ cap ∧ cap ≤ maxLen ∧ zs.length = cap ∧ (∀ i, i < zs.length → w.cell? (x.add i) = some (.int k (zs.getD i 0))) ∧ ∀ n ∈ zs, (Lit.int k n).wf = true

theorem walk (a0a : Int) (a0b : Int) (a0c : Int) (a0d : Option Addr) (len0d cap0d : Nat) (z0d : List Int) (a1 : Int) (a2 : Int) (w : World) (w0a : (Lit.int .u32 a0a).wf = true) (w0b : (Lit.int .u32 a0b).wf = true) (w0c : (Lit.int .i64 a0c).wf = true) (w0d : IsRow .u8 w a0d len0d cap0d z0d) (w1 : (Lit.int .u16 a1).wf = true) (w2 : (Lit.int .u32 a2).wf = true) :
    Calls Try.prog 5 #[.agg #[.int .u32 a0a, .int .u32 a0b, .int .i64 a0c, .slice a0d len0d cap0d], .int .u16 a1, .int .u32 a2] w fun e w' => e = .returned (.bool true) ∧ Below w.heap.size w w' := by
  obtain ⟨e, rfl⟩ := u32_of w0a
  obtain ⟨s, rfl⟩ := u32_of w0b
  obtain ⟨bs, h, hm⟩ := Bs.of_row w0d
  obtain ⟨x, rfl⟩ := u16_of w1
  obtain ⟨t, rfl⟩ := u32_of w2
  exact Sector.bursts_walk ⟨e, s, a0c, bs⟩ _ _ _ x t w h

set_option maxRecDepth 100000 in
theorem lifted (os : Os) (started : os.Started) (H : Type) (enc : TypeId × Value → H) :
    ReturnsInHanded {} Try.checked os 5 .any (Rows.sectorBurstsSpec.pre6 enc Try.prog Try.f5 Rows.sectorBurstsRow.domain false) (Rows.sectorBurstsSpec.post enc Try.prog Try.f5 false true false false) := by
  refine returnsInHanded_of_change (C := Try.checked) own started (by kernel_rfl) Try.func5
    (ChangeSpec.witness6 (enc := enc) (C := Try.checked) false ⟨#[], #[.agg #[.int .u32 0, .int .u32 0, .int .i64 0, .slice none 0 0], .int .u16 0, .int .u32 0], []⟩ 8 (by kernel_rfl) (by kernel_rfl) (by kernel_rfl) (by kernel_rfl)) ?_
  intro W base args ds gs before hval0 hW hcnd _
  have hval : ∀ (j : Nat) t v, Try.f5.params[j]? = some t → args[j]? = some v → Value.okWide Try.prog W .any base t v := hval0
  have hW' := hW
  obtain ⟨p, q, hA0, hV, rfl, hfz, hnd⟩ := hW
  have hA : DataW.TrodAll enc Try.prog W 0 (fun _ => true) true Try.f5.params.toList args.toList ds p := hA0
  rw [Try.params5] at hA hval
  obtain ⟨v0, vs0, d0, ds0, p0, q0, hargs, rfl, rfl, h0, r0⟩ := trodAll_cons hA
  obtain ⟨v1, vs1, d1, ds1, p1, q1, rfl, rfl, rfl, h1, r1⟩ := trodAll_cons r0
  obtain ⟨v2, vs2, d2, ds2, p2, q2, rfl, rfl, rfl, h2, r2⟩ := trodAll_cons r1
  obtain ⟨rfl, rfl, rfl⟩ := trodAll_nil r2
  obtain rfl : args = #[v0, v1, v2] := by cases args; simp_all
  obtain ⟨rfl, rfl⟩ := trodVars_none hV
  have k0 := h0
  have lt0 : ∀ x ∈ p0, x.block < W.heap.size := by obtain ⟨m, hm⟩ := k0; exact DataW.trod_lt m _ _ _ hm
  obtain ⟨u0a, u0b, u0c, u0d, y0a, y0b, y0c, y0d, n0, rfl, _, _, t0a, t0b, t0c, t0d⟩ := Joins.open_agg4 Try.underlying25 (by kernel_rfl) (by kernel_rfl) (hval 0 25 v0 rfl rfl) h0
  obtain ⟨a0a, e0a, _, w0a⟩ := DataW.trod_int Try.underlying22 t0a
  obtain rfl : u0a = .int .u32 a0a := by simpa using e0a
  obtain ⟨a0b, e0b, _, w0b⟩ := DataW.trod_int Try.underlying22 t0b
  obtain rfl : u0b = .int .u32 a0b := by simpa using e0b
  obtain ⟨a0c, e0c, _, w0c⟩ := DataW.trod_int Try.underlying3 t0c
  obtain rfl : u0c = .int .i64 a0c := by simpa using e0c
  obtain ⟨a0d, len0d, cap0d, rfl⟩ : ∃ a l c, u0d = .slice a l c := by
    rcases DataW.trod_slice Try.underlying23 t0d with ⟨e, _⟩ | ⟨x, l, c, _, _, _, _, e, _⟩
    · exact ⟨_, _, _, by simpa using e⟩
    · exact ⟨_, _, _, by simpa using e⟩
  obtain ⟨z0d, w0d⟩ : ∃ zs, IsRow .u8 W a0d len0d cap0d zs := by
    rcases open_ints Try.underlying23 Try.underlying5 (by kernel_rfl) t0d with ⟨hcs, _⟩ | ⟨x, l, c, zs, hcs, _, hl, hm, hz, _, hcell, hwz⟩
    · simp at hcs
      obtain ⟨rfl, rfl, rfl⟩ := hcs
      exact ⟨[], .inl ⟨rfl, rfl, rfl, rfl⟩⟩
    · simp at hcs
      obtain ⟨rfl, rfl, rfl⟩ := hcs
      exact ⟨zs, .inr ⟨_, rfl, hl, hm, by simpa using hz, hcell, hwz⟩⟩
  obtain ⟨a1, rfl, rfl, rfl, w1⟩ := open_int Try.underlying41 (hval 1 41 v1 rfl rfl) h1
  obtain ⟨a2, rfl, rfl, rfl, w2⟩ := open_int Try.underlying22 (hval 2 22 v2 rfl rfl) h2
  clear hA0 hval0
  refine (walk a0a a0b a0c a0d len0d cap0d z0d a1 a2 W w0a w0b w0c w0d w1 w2).mono fun e W' ⟨he, bel⟩ => ?_
  subst he
  exact ⟨_, rfl, _, _, _, [], _, [], hW', trodAll_mk1 (shut_bool Try.underlying4 _), (trodAll_cons_mk (Below.trod laidOut (by kernel_rfl) (of_decide_eq_true (by kernel_rfl)) k0 bel lt0) (trodAll_cons_mk (shut_int Try.underlying41 w1) (trodAll_cons_mk (shut_int Try.underlying22 w2) trodAll_mk0))), rfl, bel.frame _, fun h => by cases h⟩

theorem over : Rows.sectorBurstsRow.holds Try.pinned (OpenSpec.ofChange Rows.sectorBurstsSpec) :=
  OpenClaim.holds_of_wide 5 Try.f5 rfl rfl rfl rfl rfl rfl rfl ⟨rfl, rfl, rfl, rfl, rfl⟩ rfl rfl rfl rfl rfl (by kernel_rfl) Try.func5 (by kernel_rfl)
    (of_decide_eq_true (by kernel_rfl)) (by unfold Func.isWrapper; first | (rw [if_pos (by decide +kernel)]; kernel_rfl) | (rw [if_neg (by decide +kernel)]; exact ⟨rfl, rfl⟩))
    (fun os started H enc _ => lifted os started H enc)

/-- THE STATEMENT. -/
theorem proved : Rows.SectorBurstsSaid := over
#print axioms proved
end Go.Proofs.Ytickagagbdfncaa.sectorBursts
