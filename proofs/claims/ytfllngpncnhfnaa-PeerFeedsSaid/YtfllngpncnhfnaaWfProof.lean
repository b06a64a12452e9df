/-
For any rules, any device and any bytes, davitlaw17.PeerFeeds returns true: what the device is, once the bytes came to it, is what the document says, and what was handed in stays as it was (P17.1). No condition beyond the form's own.
-/
import Derived.Test.YtfllngpncnhfnaaWf0
import Derived.Test.YtfllngpncnhfnaaWf1
import Derived.Test.YtfllngpncnhfnaaWf2
import Derived.Test.YtfllngpncnhfnaaWf4
import Derived.Test.YtfllngpncnhfnaaWf6
import Derived.Test.YtfllngpncnhfnaaWf7
import Derived.Test.YtfllngpncnhfnaaRows
import Derived.WalkKit
import Derived.ProofKit
import Derived.OpenShut
import Derived.ShutString
import Derived.ChangeOld
import Derived.Below
import Derived.Lib.SmallJoins
import Derived.Deep.Slices
set_option linter.unusedVariables false
set_option linter.unusedSimpArgs false
set_option maxRecDepth 100000
namespace Go.Proofs.Ytfllngpncnhfnaa.peerFeeds
open Go.ChangeShapes Go.WideShapes Go.ChangeAt Go.RowKit
open Go.ChangeMaps (open_string shut_string)
theorem own : ownKnob Try.prog.godebug = none := by kernel_rfl
theorem laidOut : laidOutB Try.prog = true := by kernel_rfl
def IsRow (k : IntKind) (w : World) (a : Option Addr) (len cap : Nat) (zs : List Int) : Prop :=
 (a = none ∧ len = 0 ∧ cap = 0 ∧ zs = []) ∨
 ∃ x, a = some x ∧ len ≤ cap ∧ cap ≤ maxLen ∧ zs.length = cap ∧ (∀ i, i < zs.length → w.cell? (x.add i) = some (.int k (zs.getD i 0))) ∧ ∀ n ∈ zs, (Lit.int k n).wf = true
theorem walk (a0 : Option Addr) (len0 cap0 : Nat) (a1a : Int) (a1b : Option Addr) (len1b cap1b : Nat) (z1b : List Int) (a1c : Option Addr) (len1c cap1c : Nat) (z1c : List Int) (a1d : Option Addr) (len1d cap1d : Nat) (a2 : Option Addr) (len2 cap2 : Nat) (z2 : List Int) (w : World) (w0 : IsV w (.recs [(.int .i64), (.slice (.int .u8)), (.slice (.int .u8)), (.int .i64)]) (.slice a0 len0 cap0)) (w1a : (Lit.int .i64 a1a).wf = true) (w1b : IsRow .u8 w a1b len1b cap1b z1b) (w1c : IsRow .u8 w a1c len1c cap1c z1c) (w1d : IsV w (.slice (.slice (.int .u8))) (.slice a1d len1d cap1d)) (w2 : IsRow .u8 w a2 len2 cap2 z2) :
  Calls Try.prog 3 #[.slice a0 len0 cap0, .agg #[.int .i64 a1a, .slice a1b len1b cap1b, .slice a1c len1c cap1c, .slice a1d len1d cap1d], .slice a2 len2 cap2] w fun e w' => e = .returned (.bool true) ∧ Below w.heap.size w w' := by
 have hpf : Peer.PFeed := Peer.pfeed_
 obtain ⟨vs, hvl, hvm, hvr, hvf⟩ := Peer.rules_of_isv w0
 obtain ⟨bp, hp, hpm⟩ := Bs.of_row w1b
 obtain ⟨bl, hg, hgm⟩ := Bs.of_row w1c
 obtain ⟨ls, hll, hlm, hls⟩ := Rec.texts_of_isv w1d
 obtain ⟨bs, h, hm⟩ := Bs.of_row w2
 obtain ⟨c1, c2⟩ := row_cap w2
 have e1 := hp.len
 have e2 := hg.len
 subst e1 e2 hll
 exact Peer.feeds_walk hpf (Peer.knows17 hpf) w _ _ _ vs hvr hvl hvm (fun v hv => ⟨(hvf v hv).2.1, (hvf v hv).2.2.2.1⟩) ⟨a1a, bp, bl, ls, a1b, cap1b, a1c, cap1c, a1d, cap1d⟩ ⟨.inl hp, .inl hg, hls, Rec.trow_below hls (Nat.le_refl _)⟩ hlm hpm hgm _ _ _ bs h c1 c2
theorem lifted (os : Os) (started : os.Started) (H : Type) (enc : TypeId × Value → H) :
  ReturnsInHanded {} Try.checked os 3 .any (Rows.peerFeedsSpec.pre6 enc Try.prog Try.f3 Rows.peerFeedsRow.domain false) (Rows.peerFeedsSpec.post enc Try.prog Try.f3 false true false false) := by
 refine returnsInHanded_of_change (C := Try.checked) own started (by kernel_rfl) Try.func3
  (ChangeSpec.witness6 (enc := enc) (C := Try.checked) false ⟨#[], #[.slice none 0 0, .agg #[.int .i64 0, .slice none 0 0, .slice none 0 0, .slice none 0 0], .slice none 0 0], []⟩ 8 (by kernel_rfl) (by kernel_rfl) (by kernel_rfl) (by kernel_rfl)) ?_
 intro W base args ds gs before hval0 hW hcnd _
 have hval : ∀ (j : Nat) t v, Try.f3.params[j]? = some t → args[j]? = some v → Value.okWide Try.prog W .any base t v := hval0
 have hW' := hW
 obtain ⟨p, q, hA0, hV, rfl, hfz, hnd⟩ := hW
 have hA : DataW.TrodAll enc Try.prog W 0 (fun _ => true) true Try.f3.params.toList args.toList ds p := hA0
 rw [Try.params3] at hA hval
 obtain ⟨v0, vs0, d0, ds0, p0, q0, hargs, rfl, rfl, h0, r0⟩ := trodAll_cons hA
 obtain ⟨v1, vs1, d1, ds1, p1, q1, rfl, rfl, rfl, h1, r1⟩ := trodAll_cons r0
 obtain ⟨v2, vs2, d2, ds2, p2, q2, rfl, rfl, rfl, h2, r2⟩ := trodAll_cons r1
 obtain ⟨rfl, rfl, rfl⟩ := trodAll_nil r2
 obtain rfl : args = #[v0, v1, v2] := by cases args; simp_all
 obtain ⟨rfl, rfl⟩ := trodVars_none hV
 have k0 := h0
 have lt0 : ∀ x ∈ p0, x.block < W.heap.size := by obtain ⟨m, hm⟩ := k0; exact DataW.trod_lt m _ _ _ hm
 obtain ⟨a0, len0, cap0, rfl⟩ := okWide_slice Try.underlying22 (hval 0 22 v0 rfl rfl)
 have w0 : IsV W (.recs [(.int .i64), (.slice (.int .u8)), (.slice (.int .u8)), (.int .i64)]) (.slice a0 len0 cap0) := by
  obtain ⟨fuel, hf⟩ := h0
  exact open_kind 9 (P := Try.prog) (by kernel_rfl) (by simpa [Value.cells] using hf)
 have k1 := h1
 have lt1 : ∀ x ∈ p1, x.block < W.heap.size := by obtain ⟨m, hm⟩ := k1; exact DataW.trod_lt m _ _ _ hm
 obtain ⟨u1a, u1b, u1c, u1d, y1a, y1b, y1c, y1d, n1, rfl, _, _, t1a, t1b, t1c, t1d⟩ := Joins.open_agg4 Try.underlying26 (by kernel_rfl) (by kernel_rfl) (hval 1 26 v1 rfl rfl) h1
 obtain ⟨a1a, e1a, _, w1a⟩ := DataW.trod_int Try.underlying3 t1a
 obtain rfl : u1a = .int .i64 a1a := by simpa using e1a
 obtain ⟨a1b, len1b, cap1b, rfl⟩ : ∃ a l c, u1b = .slice a l c := by
  rcases DataW.trod_slice Try.underlying23 t1b with ⟨e, _⟩ | ⟨x, l, c, _, _, _, _, e, _⟩
  ·exact ⟨_, _, _, by simpa using e⟩
  ·exact ⟨_, _, _, by simpa using e⟩
 obtain ⟨z1b, w1b⟩ : ∃ zs, IsRow .u8 W a1b len1b cap1b zs := by
  rcases open_ints Try.underlying23 Try.underlying5 (by kernel_rfl) t1b with ⟨hcs, _⟩ | ⟨x, l, c, zs, hcs, _, hl, hm, hz, _, hcell, hwz⟩
  ·simp at hcs
   obtain ⟨rfl, rfl, rfl⟩ := hcs
   exact ⟨[], .inl ⟨rfl, rfl, rfl, rfl⟩⟩
  ·simp at hcs
   obtain ⟨rfl, rfl, rfl⟩ := hcs
   exact ⟨zs, .inr ⟨_, rfl, hl, hm, by simpa using hz, hcell, hwz⟩⟩
 obtain ⟨a1c, len1c, cap1c, rfl⟩ : ∃ a l c, u1c = .slice a l c := by
  rcases DataW.trod_slice Try.underlying23 t1c with ⟨e, _⟩ | ⟨x, l, c, _, _, _, _, e, _⟩
  ·exact ⟨_, _, _, by simpa using e⟩
  ·exact ⟨_, _, _, by simpa using e⟩
 obtain ⟨z1c, w1c⟩ : ∃ zs, IsRow .u8 W a1c len1c cap1c zs := by
  rcases open_ints Try.underlying23 Try.underlying5 (by kernel_rfl) t1c with ⟨hcs, _⟩ | ⟨x, l, c, zs, hcs, _, hl, hm, hz, _, hcell, hwz⟩
  ·simp at hcs
   obtain ⟨rfl, rfl, rfl⟩ := hcs
   exact ⟨[], .inl ⟨rfl, rfl, rfl, rfl⟩⟩
  ·simp at hcs
   obtain ⟨rfl, rfl, rfl⟩ := hcs
   exact ⟨zs, .inr ⟨_, rfl, hl, hm, by simpa using hz, hcell, hwz⟩⟩
 obtain ⟨a1d, len1d, cap1d, rfl⟩ : ∃ a l c, u1d = .slice a l c := by
  rcases DataW.trod_slice Try.underlying24 t1d with ⟨e, _⟩ | ⟨x, l, c, _, _, _, _, e, _⟩
  ·exact ⟨_, _, _, by simpa using e⟩
  ·exact ⟨_, _, _, by simpa using e⟩
 have w1d : IsV W (.slice (.slice (.int .u8))) (.slice a1d len1d cap1d) := open_kind 9 (P := Try.prog) (by kernel_rfl) t1d
 have k2 := h2
 have lt2 : ∀ x ∈ p2, x.block < W.heap.size := by obtain ⟨m, hm⟩ := k2; exact DataW.trod_lt m _ _ _ hm
 obtain ⟨a2, len2, cap2, rfl⟩ := okWide_slice Try.underlying23 (hval 2 23 v2 rfl rfl)
 obtain ⟨z2, w2⟩ : ∃ zs, IsRow .u8 W a2 len2 cap2 zs := by
  obtain ⟨fuel, hf⟩ := h2
  rcases open_ints Try.underlying23 Try.underlying5 (by kernel_rfl) hf with ⟨hcs, _⟩ | ⟨x, l, c, zs, hcs, _, hl, hm, hz, _, hcell, hwz⟩
  ·simp [Value.cells] at hcs
   obtain ⟨rfl, rfl, rfl⟩ := hcs
   exact ⟨[], .inl ⟨rfl, rfl, rfl, rfl⟩⟩
  ·simp [Value.cells] at hcs
   obtain ⟨rfl, rfl, rfl⟩ := hcs
   exact ⟨zs, .inr ⟨_, rfl, hl, hm, by simpa using hz, hcell, hwz⟩⟩
 clear hA0 hval0
 refine (walk a0 len0 cap0 a1a a1b len1b cap1b z1b a1c len1c cap1c z1c a1d len1d cap1d a2 len2 cap2 z2 W w0 w1a w1b w1c w1d w2).mono fun e W' ⟨he, bel⟩ => ?_
 subst he
 exact ⟨_, rfl, _, _, _, [], _, [], hW', trodAll_mk1 (shut_bool Try.underlying4 _), (trodAll_cons_mk (Below.trod laidOut (by kernel_rfl) (of_decide_eq_true (by kernel_rfl)) k0 bel lt0) (trodAll_cons_mk (Below.trod laidOut (by kernel_rfl) (of_decide_eq_true (by kernel_rfl)) k1 bel lt1) (trodAll_cons_mk (Below.trod laidOut (by kernel_rfl) (of_decide_eq_true (by kernel_rfl)) k2 bel lt2) trodAll_mk0))), rfl, bel.frame _, fun h => by cases h⟩
theorem over : Rows.peerFeedsRow.holds Try.pinned (OpenSpec.ofChange Rows.peerFeedsSpec) :=
 OpenClaim.holds_of_wide 3 Try.f3 rfl rfl rfl rfl rfl rfl rfl ⟨rfl, rfl, rfl, rfl, rfl⟩ rfl rfl rfl rfl rfl (by kernel_rfl) Try.func3 (by kernel_rfl)
  (of_decide_eq_true (by kernel_rfl)) (by unfold Func.isWrapper; first | (rw [if_pos (by decide +kernel)]; kernel_rfl) | (rw [if_neg (by decide +kernel)]; exact ⟨rfl, rfl⟩))
  (fun os started H enc _ => lifted os started H enc)
theorem proved : Rows.PeerFeedsSaid := over
#print axioms proved
end Go.Proofs.Ytfllngpncnhfnaa.peerFeeds
