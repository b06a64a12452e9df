/-
  The program's segment: Begin.
  What davitlaw06.knows comes to: true.
-/
import Derived.Test.YtdaknfepcbooeaaGreatMPure
import Derived.Test.YtdaknfepcbooeaaGreatMSegA
import Derived.Test.YtdaknfepcbooeaaGreatMSegScan
import Derived.Test.YtdaknfepcbooeaaGreatMDiskRead
section
namespace Go.Proofs.YtdaknfepcbooeaaGreat.Segm
open Go.RowKit
open Go.Proofs.YtdaknfepcbooeaaGreat.Disk (M Dk Chg Dob Bn Did append sync remove there)
set_option linter.unusedVariables false
set_option linter.unusedSimpArgs false

def BBad (w : World) (B d : Nat) (m : M) (e : Int) (r : Ending) (w' : World) : Prop := r = .returned (.tuple #[.pointer none, .int .i64 e]) ∧ Dk w' B d m ∧ Chg B Dob w w'
def BGood (w : World) (B d : Nat) (m : M) (f : Int) (ep : BitVec 32) (r : Ending) (w' : World) : Prop :=
  ∃ s, w.heap.size ≤ s ∧ r = .returned (.tuple #[.pointer (some ⟨s, 0, none⟩), .int .i64 0]) ∧ Dk w' B d m ∧ Sg w' s d ⟨f, ep, 0, false⟩ ∧ Chg B Dob w w'
/-- What Begin returns, and what the disk is then. -/
def BDid (w : World) (B d : Nat) (f : Int) (ep : BitVec 32) (x : Int × Bool × M) (r : Ending) (w' : World) : Prop :=
  (x.2.1 = true → BGood w B d x.2.2 f ep r w') ∧ (x.2.1 = false → BBad w B d x.2.2 x.1 r w')
theorem BDid.good {w : World} {B d : Nat} {f e : Int} {ep : BitVec 32} {m : M} {r : Ending} {w' : World} (h : BGood w B d m f ep r w') : BDid w B d f ep (e, true, m) r w' := ⟨fun _ => h, fun h2 => (Bool.noConfusion h2)⟩
theorem BDid.bad {w : World} {B d : Nat} {f e : Int} {ep : BitVec 32} {m : M} {r : Ending} {w' : World} (h : BBad w B d m e r w') : BDid w B d f ep (e, false, m) r w' := ⟨fun h2 => (Bool.noConfusion h2), fun _ => h⟩
theorem Dk_on {w : World} {B d : Nat} {m : M} (h : Dk w B d m) : w.cell? ⟨d, 1, none⟩ = some (.bool (!m.off)) := by
  obtain ⟨b, vs, kv, h⟩ := h
  exact h.cel.cell 1

set_option maxRecDepth 100000 in
set_option maxHeartbeats 1000000 in
theorem begin_off (w : World) (B d : Nat) (m : M) (f : Int) (ep : BitVec 32) (hd : Dk w B d m) (ho : m.off = true) :
    Calls Tryz.prog 65 #[.pointer (some ⟨d, 0, none⟩), .int .i64 f, v32 ep] w (BBad w B d m 8) := by
  have con := Disk.on_cell w d false (by rw [Dk_on hd, ho]; rfl)
  have HD := Lib.hid hd
  clear hd ho
  go_enter Tryz.func65, Tryz.ntmps65
  go_wp2_with ((go_at_call 30; refine con.mono ?_; rintro e w' ⟨rfl, rfl⟩))
  go_ret2
  exact ⟨rfl, HD.out, Chg.refl _ _ _⟩
set_option maxRecDepth 100000 in
set_option maxHeartbeats 1000000 in
theorem begin_arg (w : World) (B d : Nat) (m : M) (f : Int) (ep : BitVec 32) (hd : Dk w B d m) (ho : m.off = false) (hf : f < 0) :
    Calls Tryz.prog 65 #[.pointer (some ⟨d, 0, none⟩), .int .i64 f, v32 ep] w (BBad w B d m 1) := by
  have con := Disk.on_cell w d true (by rw [Dk_on hd, ho]; rfl)
  have HD := Lib.hid hd
  have d1 : decide (f < 0) = true := by simpa using hf
  clear hd ho
  go_enter Tryz.func65, Tryz.ntmps65
  go_wp2_with ((go_at_call 30; refine con.mono ?_; rintro e w' ⟨rfl, rfl⟩))
  go_ret2
  exact ⟨rfl, HD.out, Chg.refl _ _ _⟩
set_option maxRecDepth 100000 in
set_option maxHeartbeats 1000000 in
theorem begin_fails (w : World) (B d : Nat) (m m2 : M) (f : Int) (ep : BitVec 32) (hd : Dk w B d m) (hB : B ≤ w.heap.size) (ho : m.off = false) (hf : 0 ≤ f ∧ f < 9223372036854775808) (hr : remove m f = (8, m2)) :
    Calls Tryz.prog 65 #[.pointer (some ⟨d, 0, none⟩), .int .i64 f, v32 ep] w (BBad w B d m2 8) := by
  have con := Disk.on_cell w d true (by rw [Dk_on hd, ho]; rfl)
  have con2 := Disk.remove_call w B d m f ⟨by omega, hf.2⟩ hd hB
  rw [hr] at con2
  replace con2 : Calls Tryz.prog 98 #[.pointer (some ⟨d, 0, none⟩), .int .i64 f] w fun r w' => r = .returned (.int .i64 8) ∧ Dk w' B d m2 ∧ Chg B Dob w w' := con2
  have d1 : decide (f < 0) = false := by simp; omega
  clear hd ho hf hr
  go_enter Tryz.func65, Tryz.ntmps65
  go_wp2_with (first | (go_at_call 30; refine con.mono ?_; rintro e w' ⟨rfl, rfl⟩) | (go_at_call 98; refine con2.mono ?_; rintro e' w' ⟨rfl, h2, h3⟩))
  go_ret2
  exact ⟨rfl, h2, h3⟩
set_option maxRecDepth 100000 in
set_option maxHeartbeats 1000000 in
theorem begin_goes (w : World) (B d : Nat) (m m2 : M) (f e : Int) (ep : BitVec 32) (hd : Dk w B d m) (hB : B ≤ w.heap.size) (ho : m.off = false) (hf : 0 ≤ f ∧ f < 9223372036854775808) (hr : remove m f = (e, m2)) (h04 : e = 0 ∨ e = 4) :
    Calls Tryz.prog 65 #[.pointer (some ⟨d, 0, none⟩), .int .i64 f, v32 ep] w (BGood w B d m2 f ep) := by
  have con := Disk.on_cell w d true (by rw [Dk_on hd, ho]; rfl)
  have con2 := Disk.remove_call w B d m f ⟨by omega, hf.2⟩ hd hB
  rw [hr] at con2
  replace con2 : Calls Tryz.prog 98 #[.pointer (some ⟨d, 0, none⟩), .int .i64 f] w fun r w' => r = .returned (.int .i64 e) ∧ Dk w' B d m2 ∧ Chg B Dob w w' := con2
  have d1 : decide (f < 0) = false := by simp; omega
  clear hd ho hf hr
  rcases h04 with rfl | rfl
  · go_enter Tryz.func65, Tryz.ntmps65
    go_wp2_with (first | (go_at_call 30; refine con.mono ?_; rintro e w' ⟨rfl, rfl⟩) | (go_at_call 98; refine con2.mono ?_; rintro e' w' ⟨rfl, h2, h3⟩))
    have HC := Lib.hid (Cel.new w' 120 [addV d, syncV d, .int .i64 f, v32 ep, .int .i64 0])
    have HB2 := Lib.hid ((Below.refl w'.heap.size w').alloc (Nat.le_refl _) (.cells #[addV d, syncV d, .int .i64 f, v32 ep, .int .i64 0] 120))
    go_ret2
    exact ⟨w'.heap.size, h3.size, rfl, h2.below HB2.out, HC.out, h3.trans (Chg.of_below HB2.out)⟩
  · go_enter Tryz.func65, Tryz.ntmps65
    go_wp2_with (first | (go_at_call 30; refine con.mono ?_; rintro e w' ⟨rfl, rfl⟩) | (go_at_call 98; refine con2.mono ?_; rintro e' w' ⟨rfl, h2, h3⟩))
    have HC := Lib.hid (Cel.new w' 120 [addV d, syncV d, .int .i64 f, v32 ep, .int .i64 0])
    have HB2 := Lib.hid ((Below.refl w'.heap.size w').alloc (Nat.le_refl _) (.cells #[addV d, syncV d, .int .i64 f, v32 ep, .int .i64 0] 120))
    go_ret2
    exact ⟨w'.heap.size, h3.size, rfl, h2.below HB2.out, HC.out, h3.trans (Chg.of_below HB2.out)⟩
/-- The program's Begin. -/
theorem begin_seg (w : World) (B d : Nat) (m : M) (f : Int) (ep : BitVec 32) (hd : Dk w B d m) (hB : B ≤ w.heap.size) (hf : f < 9223372036854775808) :
    Calls Tryz.prog 65 #[.pointer (some ⟨d, 0, none⟩), .int .i64 f, v32 ep] w (BDid w B d f ep (beginS m f)) := by
  unfold beginS
  cases ho : m.off
  · rw [if_neg (by simp)]
    by_cases h1 : f < 0
    · rw [if_pos h1]
      exact (begin_arg w B d m f ep hd ho h1).mono fun _ _ h => BDid.bad h
    · rw [if_neg h1]
      by_cases h2 : f ∈ m.files
      · rw [if_pos h2]
        by_cases h3 : (remove m f).1 = 0
        · rw [if_pos h3]
          exact (begin_goes w B d m (remove m f).2 f (remove m f).1 ep hd hB ho ⟨by omega, hf⟩ rfl (.inl h3)).mono fun _ _ h => BDid.good h
        · rw [if_neg h3]
          have h5 : there m f = 0 := by unfold there; rw [ho, if_neg (by simp), if_pos h2]
          cases h6 : Disk.fails m
          · rw [Disk.remove_goes h5 h6] at h3; exact absurd rfl h3
          · rw [Disk.remove_fails h5 h6]
            exact (begin_fails w B d m (Disk.stepped m) f ep hd hB ho ⟨by omega, hf⟩ (Disk.remove_fails h5 h6)).mono fun _ _ h => BDid.bad h
      · rw [if_neg h2]
        have h5 : there m f = 4 := by unfold there; rw [ho, if_neg (by simp), if_neg h2]
        have h6 : remove m f = (4, m) := by rw [Disk.remove_not (by rw [h5]; decide), h5]
        exact (begin_goes w B d m m f 4 ep hd hB ho ⟨by omega, hf⟩ h6 (.inr rfl)).mono fun _ _ h => BDid.good h
  · rw [if_pos rfl]
    exact (begin_off w B d m f ep hd ho).mono fun _ _ h => BDid.bad h
end Go.Proofs.YtdaknfepcbooeaaGreat.Segm
end

section
namespace Go.Proofs.YtdaknfepcbooeaaGreat.Segm
open Go.RowKit
open Go.Proofs.YtdaknfepcbooeaaGreat.Frag (cut grp lead)
open Go.Proofs.YtdaknfepcbooeaaGreat.Disk (M Sc Dk Rs Chg Dob rows zeros there)
set_option linter.unusedVariables false
set_option linter.unusedSimpArgs false

/-! The example, by the document. -/
def kp (k : Nat) (x : BitVec 8) : Frag.Pt := ⟨5#32, BitVec.ofNat 32 k, 3, [x]⟩
theorem pieces_one (x : BitVec 8) (rs : List (List (BitVec 8))) : pieces ([x] :: rs) = (3, [x]) :: pieces rs := by
  unfold pieces
  rw [List.flatMap_cons, Frag.pcs_last (by simp)]
  rfl
theorem pts1 : ptsOf 5#32 [[97#8]] = [kp 0 97#8] := by rw [ptsOf, pieces_one]; rfl
theorem pts2 : ptsOf 5#32 [[97#8], [98#8]] = [kp 0 97#8, kp 1 98#8] := by rw [ptsOf, pieces_one, pieces_one]; rfl
theorem pts3 : ptsOf 5#32 [[97#8], [98#8], [99#8]] = [kp 0 97#8, kp 1 98#8, kp 2 99#8] := by rw [ptsOf, pieces_one, pieces_one, pieces_one]; rfl
theorem all1 : secsAll 5#32 [[97#8]] = [secP (kp 0 97#8)] := by rw [secsAll, pts1]; rfl
theorem all2 : secsAll 5#32 [[97#8], [98#8]] = [secP (kp 0 97#8), secP (kp 1 98#8)] := by rw [secsAll, pts2]; rfl
theorem all3 : secsAll 5#32 [[97#8], [98#8], [99#8]] = [secP (kp 0 97#8), secP (kp 1 98#8), secP (kp 2 99#8)] := by rw [secsAll, pts3]; rfl
theorem kn1 : ∃ a, appendS (KM 9 2 [] []) ⟨2, 5#32, 0, false⟩ [97#8] = (0, KM 9 2 [] a, ⟨2, 5#32, 1, false⟩) ∧ a = secsAll 5#32 [[97#8]] := by
  obtain ⟨ws, h1, h2⟩ := append_rec (r := 9) (f := 2) (ep := 5#32) (us := []) (vs := []) (rs := []) [97#8] (by decide) rfl (by decide) (by rw [List.nil_append, all1]; decide) (by rw [List.nil_append, all1]; decide)
  have e0 : (secsAll 5#32 []).length = 0 := rfl
  have e1 : (secsAll 5#32 ([] ++ [[97#8]])).length = 1 := by rw [List.nil_append, all1]; rfl
  rw [e0, e1] at h2
  exact ⟨_, h2, h1⟩
theorem kn2 : ∃ b, appendS (KM 9 2 [] (secsAll 5#32 [[97#8]])) ⟨2, 5#32, 1, false⟩ [98#8] = (0, KM 9 2 [] b, ⟨2, 5#32, 2, false⟩) ∧ b = secsAll 5#32 [[97#8], [98#8]] := by
  obtain ⟨ws, h1, h2⟩ := append_rec (r := 9) (f := 2) (ep := 5#32) (us := []) (vs := secsAll 5#32 [[97#8]]) (rs := [[97#8]]) [98#8] (by decide) rfl (by decide) (by rw [List.singleton_append, all2]; decide) (by rw [List.singleton_append, all2]; decide)
  have e1 : (secsAll 5#32 [[97#8]]).length = 1 := by rw [all1]; rfl
  have e2 : (secsAll 5#32 [[97#8], [98#8]]).length = 2 := by rw [all2]; rfl
  rw [e1] at h2
  rw [List.singleton_append] at h2 h1
  rw [e2] at h2
  exact ⟨_, h2, h1⟩
theorem kn3 : syncS (KM 9 2 [] (secsAll 5#32 [[97#8], [98#8]])) ⟨2, 5#32, 2, false⟩ = (0, KM 9 2 (secsAll 5#32 [[97#8], [98#8]]) [], ⟨2, 5#32, 2, false⟩) := by
  have h := sync_rec (r := 9) (f := 2) (ep := 5#32) (us := []) (vs := secsAll 5#32 [[97#8], [98#8]]) 2 (by rw [all2]; rfl) (by decide)
  exact h
theorem kn4 : appendS (KM 9 2 (secsAll 5#32 [[97#8], [98#8]]) []) ⟨2, 5#32, 2, false⟩ [99#8] = (0, KM 9 2 [secP (kp 0 97#8), secP (kp 1 98#8)] [secP (kp 2 99#8)], ⟨2, 5#32, 3, false⟩) := by
  obtain ⟨ws, h1, h2⟩ := append_rec (r := 9) (f := 2) (ep := 5#32) (us := secsAll 5#32 [[97#8], [98#8]]) (vs := []) (rs := [[97#8], [98#8]]) [99#8] (by decide) (List.append_nil _) (by decide) (by show (secsAll 5#32 [[97#8], [98#8], [99#8]]).length ≤ 9; rw [all3]; decide) (by show (secsAll 5#32 [[97#8], [98#8], [99#8]]).length ≤ 200; rw [all3]; decide)
  have e2 : (secsAll 5#32 [[97#8], [98#8]]).length = 2 := by rw [all2]; rfl
  have e3 : (secsAll 5#32 ([[97#8], [98#8]] ++ [[99#8]])).length = 3 := by show (secsAll 5#32 [[97#8], [98#8], [99#8]]).length = 3; rw [all3]; rfl
  have e4 : secsAll 5#32 ([[97#8], [98#8]] ++ [[99#8]]) = secsAll 5#32 [[97#8], [98#8], [99#8]] := rfl
  rw [e3, e2] at h2
  rw [e4, all3, all2] at h1
  have h5 : [] ++ ws = [secP (kp 2 99#8)] := by simpa using h1
  rw [h5] at h2
  rw [h2, all2]
theorem kn5 : (rows 2 (KZ 9 2 [secP (kp 0 97#8), secP (kp 1 98#8)] [secP (kp 2 99#8)] []).l).map Sc.b = [secP (kp 0 97#8), secP (kp 1 98#8), zeros] := by
  obtain ⟨h1, h2⟩ := kz_row 9 2 [secP (kp 0 97#8), secP (kp 1 98#8)] [secP (kp 2 99#8)] []
  apply List.ext_getElem?
  intro i
  match i with
  | 0 => rw [h2 0 _ rfl]; rfl
  | 1 => rw [h2 1 _ rfl]; rfl
  | 2 => rw [h2 2 _ rfl]; rfl
  | i + 3 => rw [List.getElem?_eq_none (by rw [h1]; simp), List.getElem?_eq_none (by simp)]
theorem kp_may (k : Nat) (x : BitVec 8) : (toS (kp k x)).may = true := rfl
theorem kn6 : leads 5#32 0 [secP (kp 0 97#8), secP (kp 1 98#8), zeros] = [kp 0 97#8, kp 1 98#8] := by
  have h0 := leads_more 5#32 0 _ [secP (kp 1 98#8), zeros] (toS (kp 0 97#8)) (get_secP (kp_may 0 97#8)) rfl rfl
  have h1 := leads_more 5#32 1 _ [zeros] (toS (kp 1 98#8)) (get_secP (kp_may 1 98#8)) rfl rfl
  have h2 := leads_none 5#32 2 zeros [] get_zeros
  rw [h0, h1, h2]
  rfl
theorem kn7 : grp [kp 0 97#8, kp 1 98#8] = [[kp 0 97#8], [kp 1 98#8]] := by
  have h1 : lead true [kp 0 97#8, kp 1 98#8] = 1 := rfl
  have h2 : lead true [kp 1 98#8] = 1 := rfl
  rw [Frag.grp_more (by rw [h1]; decide), h1]
  show _ :: grp [kp 1 98#8] = _
  rw [Frag.grp_more (by rw [h2]; decide), h2]
  show _ :: _ :: grp [] = _
  rw [Frag.grp_none rfl]
  rfl
theorem kn8 : scanRecs 5#32 [secP (kp 0 97#8), secP (kp 1 98#8), zeros] = [[97#8], [98#8]] ∧ scanUsed 5#32 [secP (kp 0 97#8), secP (kp 1 98#8), zeros] = 2 := by
  unfold scanRecs scanUsed
  rw [kn6, kn7]
  exact ⟨rfl, rfl⟩

/-- Rows of bytes that Read returned, as what Scan takes. -/
theorem Rs.rd {w : World} {B n c : Nat} {A : Option Addr} {xs : List (List (BitVec 8))} (h : Rs w B (.slice A n c) xs) : Frag.Rd w w.heap.size A xs.length xs := by
  obtain ⟨us, h1, h2, h3⟩ := h
  refine ⟨rfl, fun i b hi => ?_⟩
  obtain ⟨Ai, ci, e, hb⟩ := h3 i b hi
  have hpos : 0 < xs.length := by
    have := (List.getElem?_eq_some_iff.1 hi).1
    omega
  obtain ⟨g, cap, hv, hg, hl⟩ := h1.form hpos
  have hA : A = some ⟨g, 0, none⟩ := by injection hv
  subst hA
  exact ⟨_, Ai, ci, rfl, hl, (World.ownsRow.cells h1 (g := g) (by rw [hv]; rfl) i _ e), hb.rd⟩
theorem Rs.form {w : World} {B : Nat} {v : Value} {xs : List (List (BitVec 8))} (h : Rs w B v xs) : ∃ A c, v = .slice A xs.length c ∧ xs.length ≤ c ∧ c ≤ maxLen := by
  obtain ⟨us, h1, _⟩ := h
  rcases h1.2 with ⟨rfl, h0⟩ | ⟨g, cap, cur, rfl, _, _, h3, h4, _⟩
  · exact ⟨none, 0, by rw [h0], by omega, Nat.zero_le _⟩
  · exact ⟨_, _, rfl, h3, h4⟩
set_option maxRecDepth 100000 in
theorem append_nil (w : World) (A : Option Addr) (n c : Nat) : Calls Tryz.prog 43 #[.pointer none, .slice A n c] w fun e w' => e = .returned (.int .i64 8) ∧ w = w' := by
  have con := isBroken_nil w
  go_enter Tryz.func43, Tryz.ntmps43
  go_wp2_with ((go_at_call 81; refine con.mono ?_; rintro e w' ⟨rfl, rfl⟩))
  go_ret
  exact ⟨rfl, rfl⟩

end Go.Proofs.YtdaknfepcbooeaaGreat.Segm
end
