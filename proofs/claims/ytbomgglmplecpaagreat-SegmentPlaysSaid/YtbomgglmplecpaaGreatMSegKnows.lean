/-
  What davitlaw06.knows comes to: true.
-/
import Derived.Test.YtbomgglmplecpaaGreatMPure
import Derived.Test.YtbomgglmplecpaaGreatMSegBegin
import Derived.Test.YtbomgglmplecpaaGreatMSegScan
import Derived.Test.YtbomgglmplecpaaGreatMDiskRead
namespace Go.Proofs.YtbomgglmplecpaaGreat.Segm
open Go.RowKit
open Go.Proofs.YtbomgglmplecpaaGreat.Frag (cut grp lead)
open Go.Proofs.YtbomgglmplecpaaGreat.Disk (M Sc Dk Rs Chg Dob rows zeros there)
set_option linter.unusedVariables false
set_option linter.unusedSimpArgs false

/-! The example, by the document. -/
def kp (k : Nat) (x : BitVec 8) : Frag.Pt := ⟨5#32, BitVec.ofNat 32 k, 3, [x]⟩
theorem pieces_one (x : BitVec 8) (rs : List (List (BitVec 8))) : pieces ([x] :: rs) = (3, [x]) :: pieces rs := by
  unfold pieces
  rw [List.flatMap_cons, Frag.pcs_last (by simp)]
  rfl
theorem pts1 : ptsOf 5#32 [[97#8]] = [kp 0 97#8] := by rw [ptsOf, pieces_one]; rfl
theorem pts2 : ptsOf 5#32 [[97#8], [98#8]] = [kp 0 97#8, kp 1 98#8] := by rw [ptsOf, pieces_one, pieces_one]; rfl
theorem pts3 : ptsOf 5#32 [[97#8], [98#8], [99#8]] = [kp 0 97#8, kp 1 98#8, kp 2 99#8] := by rw [ptsOf, pieces_one, pieces_one, pieces_one]; rfl
theorem all1 : secsAll 5#32 [[97#8]] = [secP (kp 0 97#8)] := by rw [secsAll, pts1]; rfl
theorem all2 : secsAll 5#32 [[97#8], [98#8]] = [secP (kp 0 97#8), secP (kp 1 98#8)] := by rw [secsAll, pts2]; rfl
theorem all3 : secsAll 5#32 [[97#8], [98#8], [99#8]] = [secP (kp 0 97#8), secP (kp 1 98#8), secP (kp 2 99#8)] := by rw [secsAll, pts3]; rfl
theorem kn1 : ∃ a, appendS (KM 9 2 [] []) ⟨2, 5#32, 0, false⟩ [97#8] = (0, KM 9 2 [] a, ⟨2, 5#32, 1, false⟩) ∧ a = secsAll 5#32 [[97#8]] := by
  obtain ⟨ws, h1, h2⟩ := append_rec (r := 9) (f := 2) (ep := 5#32) (us := []) (vs := []) (rs := []) [97#8] (by decide) rfl (by decide) (by rw [List.nil_append, all1]; decide) (by rw [List.nil_append, all1]; decide)
  have e0 : (secsAll 5#32 []).length = 0 := rfl
  have e1 : (secsAll 5#32 ([] ++ [[97#8]])).length = 1 := by rw [List.nil_append, all1]; rfl
  rw [e0, e1] at h2
  exact ⟨_, h2, h1⟩
theorem kn2 : ∃ b, appendS (KM 9 2 [] (secsAll 5#32 [[97#8]])) ⟨2, 5#32, 1, false⟩ [98#8] = (0, KM 9 2 [] b, ⟨2, 5#32, 2, false⟩) ∧ b = secsAll 5#32 [[97#8], [98#8]] := by
  obtain ⟨ws, h1, h2⟩ := append_rec (r := 9) (f := 2) (ep := 5#32) (us := []) (vs := secsAll 5#32 [[97#8]]) (rs := [[97#8]]) [98#8] (by decide) rfl (by decide) (by rw [List.singleton_append, all2]; decide) (by rw [List.singleton_append, all2]; decide)
  have e1 : (secsAll 5#32 [[97#8]]).length = 1 := by rw [all1]; rfl
  have e2 : (secsAll 5#32 [[97#8], [98#8]]).length = 2 := by rw [all2]; rfl
  rw [e1] at h2
  rw [List.singleton_append] at h2 h1
  rw [e2] at h2
  exact ⟨_, h2, h1⟩
theorem kn3 : syncS (KM 9 2 [] (secsAll 5#32 [[97#8], [98#8]])) ⟨2, 5#32, 2, false⟩ = (0, KM 9 2 (secsAll 5#32 [[97#8], [98#8]]) [], ⟨2, 5#32, 2, false⟩) := by
  have h := sync_rec (r := 9) (f := 2) (ep := 5#32) (us := []) (vs := secsAll 5#32 [[97#8], [98#8]]) 2 (by rw [all2]; rfl) (by decide)
  exact h
theorem kn4 : appendS (KM 9 2 (secsAll 5#32 [[97#8], [98#8]]) []) ⟨2, 5#32, 2, false⟩ [99#8] = (0, KM 9 2 [secP (kp 0 97#8), secP (kp 1 98#8)] [secP (kp 2 99#8)], ⟨2, 5#32, 3, false⟩) := by
  obtain ⟨ws, h1, h2⟩ := append_rec (r := 9) (f := 2) (ep := 5#32) (us := secsAll 5#32 [[97#8], [98#8]]) (vs := []) (rs := [[97#8], [98#8]]) [99#8] (by decide) (List.append_nil _) (by decide) (by show (secsAll 5#32 [[97#8], [98#8], [99#8]]).length ≤ 9; rw [all3]; decide) (by show (secsAll 5#32 [[97#8], [98#8], [99#8]]).length ≤ 200; rw [all3]; decide)
  have e2 : (secsAll 5#32 [[97#8], [98#8]]).length = 2 := by rw [all2]; rfl
  have e3 : (secsAll 5#32 ([[97#8], [98#8]] ++ [[99#8]])).length = 3 := by show (secsAll 5#32 [[97#8], [98#8], [99#8]]).length = 3; rw [all3]; rfl
  have e4 : secsAll 5#32 ([[97#8], [98#8]] ++ [[99#8]]) = secsAll 5#32 [[97#8], [98#8], [99#8]] := rfl
  rw [e3, e2] at h2
  rw [e4, all3, all2] at h1
  have h5 : [] ++ ws = [secP (kp 2 99#8)] := by simpa using h1
  rw [h5] at h2
  rw [h2, all2]
theorem kn5 : (rows 2 (KZ 9 2 [secP (kp 0 97#8), secP (kp 1 98#8)] [secP (kp 2 99#8)] []).l).map Sc.b = [secP (kp 0 97#8), secP (kp 1 98#8), zeros] := by
  obtain ⟨h1, h2⟩ := kz_row 9 2 [secP (kp 0 97#8), secP (kp 1 98#8)] [secP (kp 2 99#8)] []
  apply List.ext_getElem?
  intro i
  match i with
  | 0 => rw [h2 0 _ rfl]; rfl
  | 1 => rw [h2 1 _ rfl]; rfl
  | 2 => rw [h2 2 _ rfl]; rfl
  | i + 3 => rw [List.getElem?_eq_none (by rw [h1]; simp), List.getElem?_eq_none (by simp)]
theorem kp_may (k : Nat) (x : BitVec 8) : (toS (kp k x)).may = true := rfl
theorem kn6 : leads 5#32 0 [secP (kp 0 97#8), secP (kp 1 98#8), zeros] = [kp 0 97#8, kp 1 98#8] := by
  have h0 := leads_more 5#32 0 _ [secP (kp 1 98#8), zeros] (toS (kp 0 97#8)) (get_secP (kp_may 0 97#8)) rfl rfl
  have h1 := leads_more 5#32 1 _ [zeros] (toS (kp 1 98#8)) (get_secP (kp_may 1 98#8)) rfl rfl
  have h2 := leads_none 5#32 2 zeros [] get_zeros
  rw [h0, h1, h2]
  rfl
theorem kn7 : grp [kp 0 97#8, kp 1 98#8] = [[kp 0 97#8], [kp 1 98#8]] := by
  have h1 : lead true [kp 0 97#8, kp 1 98#8] = 1 := rfl
  have h2 : lead true [kp 1 98#8] = 1 := rfl
  rw [Frag.grp_more (by rw [h1]; decide), h1]
  show _ :: grp [kp 1 98#8] = _
  rw [Frag.grp_more (by rw [h2]; decide), h2]
  show _ :: _ :: grp [] = _
  rw [Frag.grp_none rfl]
  rfl
theorem kn8 : scanRecs 5#32 [secP (kp 0 97#8), secP (kp 1 98#8), zeros] = [[97#8], [98#8]] ∧ scanUsed 5#32 [secP (kp 0 97#8), secP (kp 1 98#8), zeros] = 2 := by
  unfold scanRecs scanUsed
  rw [kn6, kn7]
  exact ⟨rfl, rfl⟩

/-- Rows of bytes that Read returned, as what Scan takes. -/
theorem Rs.rd {w : World} {B n c : Nat} {A : Option Addr} {xs : List (List (BitVec 8))} (h : Rs w B (.slice A n c) xs) : Frag.Rd w w.heap.size A xs.length xs := by
  obtain ⟨us, h1, h2, h3⟩ := h
  refine ⟨rfl, fun i b hi => ?_⟩
  obtain ⟨Ai, ci, e, hb⟩ := h3 i b hi
  have hpos : 0 < xs.length := by
    have := (List.getElem?_eq_some_iff.1 hi).1
    omega
  obtain ⟨g, cap, hv, hg, hl⟩ := h1.form hpos
  have hA : A = some ⟨g, 0, none⟩ := by injection hv
  subst hA
  exact ⟨_, Ai, ci, rfl, hl, (World.ownsRow.cells h1 (g := g) (by rw [hv]; rfl) i _ e), hb.rd⟩
theorem Rs.form {w : World} {B : Nat} {v : Value} {xs : List (List (BitVec 8))} (h : Rs w B v xs) : ∃ A c, v = .slice A xs.length c ∧ xs.length ≤ c ∧ c ≤ maxLen := by
  obtain ⟨us, h1, _⟩ := h
  rcases h1.2 with ⟨rfl, h0⟩ | ⟨g, cap, cur, rfl, _, _, h3, h4, _⟩
  · exact ⟨none, 0, by rw [h0], by omega, Nat.zero_le _⟩
  · exact ⟨_, _, rfl, h3, h4⟩
set_option maxRecDepth 100000 in
theorem append_nil (w : World) (A : Option Addr) (n c : Nat) : Calls Tryz.prog 10 #[.pointer none, .slice A n c] w fun e w' => e = .returned (.int .i64 8) ∧ w = w' := by
  have con := isBroken_nil w
  go_enter Tryz.func10, Tryz.ntmps10
  go_wp2_with ((go_at_call 30; refine con.mono ?_; rintro e w' ⟨rfl, rfl⟩))
  go_ret
  exact ⟨rfl, rfl⟩

set_option maxRecDepth 100000 in
set_option maxHeartbeats 1000000 in
theorem knows (w : World) : Calls Tryz.prog 5 #[] w fun e w' => e = .returned (.bool true) ∧ Below w.heap.size w w' := by
  have kc := fun (w : World) (C : Array Value) (n c : Nat) => Lib.run_convert_bytes_const (P := Tryz.prog) w 44 5 C n c Tryz.underlying44 Tryz.underlying5
  go_enter Tryz.func5, Tryz.ntmps5
  go_wp2_with fail
  refine (Disk.new_ok w w.heap.size 9 (Nat.le_refl _) (by omega) (by omega)).mono ?_
  rintro r w1 ⟨d, rfl, hd1, hb1⟩
  have hz1 := hb1.size
  have HD1 := Lib.hid hd1
  have HC1 := Lib.hid (Chg.of_below (B := w.heap.size) (T := Sob) hb1)
  clear hd1 hb1
  go_wp2_with fail
  have con := begin_seg w1 w.heap.size d ⟨9, [], [], false, none⟩ 2 5#32 HD1.out hz1 (by decide)
  rw [begin_km 9 2 (by decide)] at con
  refine con.mono ?_
  clear con
  rintro r w2 hbd
  obtain ⟨s, hs, rfl, hd2, hg2, hc2⟩ := hbd.1 rfl
  have hz2 := hc2.size
  have HD2 := Lib.hid hd2
  have HG2 := Lib.hid hg2
  have HC2 := Lib.hid (HC1.out.trans (hc2.mono (Nat.le_refl _) dob_sob))
  clear hd2 hg2 hc2 hbd
  go_wp2_with fail
  obtain ⟨sa, ka, hsa⟩ := kn1
  have hba : Below w2.heap.size w2 (w2.alloc (.cells #[.int .u8 97] 5 (1, 2))) := (Below.refl _ _).alloc (Nat.le_refl _) _
  have con := append_seg (w2.alloc (.cells #[.int .u8 97] 5 (1, 2))) w.heap.size s d (KM 9 2 [] []) ⟨2, 5#32, 0, false⟩ (some ⟨w2.heap.size, 0, none⟩) 1 1 [97#8] (HD2.out.below hba) (HG2.out.below hba) (by have := hba.size; omega) (by omega) (by decide) (by decide)
    ((Bs.lit w2 5 (1, 2) #[.int .u8 97] [97#8] rfl 1 rfl).more (by simp)) (by decide) (by decide)
  rw [ka] at con
  refine con.mono ?_
  clear con
  rintro r w3 ⟨rfl, hd3, hg3, hc3⟩
  have hz3 := hc3.size
  have HD3 := Lib.hid hd3
  have HG3 := Lib.hid hg3
  have HC3 := Lib.hid ((HC2.out.trans (Chg.of_below hba)).trans hc3)
  clear hd3 hg3 hc3 hba ka
  subst hsa
  go_wp2_with fail
  obtain ⟨sb, kb, hsb⟩ := kn2
  have hba : Below w3.heap.size w3 (w3.alloc (.cells #[.int .u8 98] 5 (1, 2))) := (Below.refl _ _).alloc (Nat.le_refl _) _
  have con := append_seg (w3.alloc (.cells #[.int .u8 98] 5 (1, 2))) w.heap.size s d (KM 9 2 [] (secsAll 5#32 [[97#8]])) ⟨2, 5#32, 1, false⟩ (some ⟨w3.heap.size, 0, none⟩) 1 1 [98#8] (HD3.out.below hba) (HG3.out.below hba) (by have := HC3.out.size; have := hba.size; omega) (by omega) (by decide) (by decide)
    ((Bs.lit w3 5 (1, 2) #[.int .u8 98] [98#8] rfl 1 rfl).more (by simp)) (by decide) (by decide)
  rw [kb] at con
  refine con.mono ?_
  clear con
  rintro r w4 ⟨rfl, hd4, hg4, hc4⟩
  subst hsb
  have HC4 := Lib.hid ((HC3.out.trans (Chg.of_below hba)).trans hc4)
  have con := sync_seg w4 w.heap.size s d (KM 9 2 [] (secsAll 5#32 [[97#8], [98#8]])) ⟨2, 5#32, 2, false⟩ hd4 hg4 HC4.out.size (by omega) ⟨by decide, by decide⟩
  rw [kn3] at con
  clear hd4 hg4 hc4 hba kb
  go_wp2_with fail
  refine con.mono ?_
  clear con
  rintro r w5 ⟨rfl, hd5, hg5, hc5⟩
  have HD5 := Lib.hid hd5
  have HG5 := Lib.hid hg5
  have HC5 := Lib.hid (HC4.out.trans hc5)
  clear hd5 hg5 hc5
  go_wp2_with fail
  have hba : Below w5.heap.size w5 (w5.alloc (.cells #[.int .u8 99] 5 (1, 2))) := (Below.refl _ _).alloc (Nat.le_refl _) _
  have con := append_seg (w5.alloc (.cells #[.int .u8 99] 5 (1, 2))) w.heap.size s d (KM 9 2 (secsAll 5#32 [[97#8], [98#8]]) []) ⟨2, 5#32, 2, false⟩ (some ⟨w5.heap.size, 0, none⟩) 1 1 [99#8] (HD5.out.below hba) (HG5.out.below hba) (by have := HC5.out.size; have := hba.size; omega) (by omega) (by decide) (by decide)
    ((Bs.lit w5 5 (1, 2) #[.int .u8 99] [99#8] rfl 1 rfl).more (by simp)) (by decide) (by decide)
  rw [kn4] at con
  refine con.mono ?_
  clear con
  rintro r w6 ⟨rfl, hd6, hg6, hc6⟩
  have hc6' := (HC5.out.trans (Chg.of_below hba)).trans hc6
  have HC6 := Lib.hid hc6'
  have HG6 := Lib.hid hg6
  have con := Disk.crash_call w6 w.heap.size d _ (.slice none 0 0) [] hd6 (Disk.Bo.nil_ _ _) hc6'.size (by decide)
  clear hd6 hg6 hc6 hba hc6'
  go_wp2_with fail
  refine con.mono ?_
  clear con
  rintro r w7 ⟨rfl, hd7, hc7⟩
  have HC7 := Lib.hid (HC6.out.trans (hc7.mono (Nat.le_refl _) dob_sob))
  have HG7 := Lib.hid (HG6.out.dob hc7)
  have con := Disk.up_call w7 w.heap.size d _ hd7
  clear hd7 hc7
  go_wp2_with fail
  refine con.mono ?_
  clear con
  rintro r w8 ⟨rfl, hd8, hc8⟩
  have HC8 := Lib.hid (HC7.out.trans (hc8.mono (Nat.le_refl _) dob_sob))
  have HG8 := Lib.hid (HG7.out.dob hc8)
  have con := Disk.read_ok w8 w.heap.size d (KZ 9 2 [secP (kp 0 97#8), secP (kp 1 98#8)] [secP (kp 2 99#8)] []) 2 ⟨by decide, by decide⟩ hd8 (by rw [kz_there]; rfl)
  rw [kn5] at con
  clear hd8 hc8
  go_wp2_with fail
  refine con.mono ?_
  clear con
  rintro r w9 ⟨v, rfl, hr9, hb9⟩
  obtain ⟨A9, c9, rfl, hn9, hm9⟩ := Rs.form hr9
  have hL : ∀ b ∈ [secP (kp 0 97#8), secP (kp 1 98#8), zeros], b.length ≤ maxLen := by
    intro b hb
    have : b.length = 512 := by
      simp only [List.mem_cons, List.not_mem_nil, or_false] at hb
      rcases hb with rfl | rfl | rfl
      · exact secP_len (kp_may 0 97#8)
      · exact secP_len (kp_may 1 98#8)
      · exact Disk.zeros_len
    rw [this]
    decide
  have con := scan_call A9 3 c9 5#32 _ w9 (Rs.rd hr9) hL (by decide)
  rw [kn8.1, kn8.2] at con
  have HC9 := Lib.hid (HC8.out.trans (Chg.of_below hb9))
  have HG9 := Lib.hid (HG8.out.below hb9)
  clear hr9 hb9 hn9 hm9 hL
  go_wp2_with fail
  refine con.mono ?_
  clear con
  rintro r w10 ⟨A10, c10, rs, rfl, hrs, ho10, hby10, hb10⟩
  have hrl : rs.length = 2 := by have := congrArg List.length hrs; simpa using this
  obtain ⟨x0, x1, rfl⟩ : ∃ x0 x1, rs = [x0, x1] := by
    match rs, hrl with
    | [x0, x1], _ => exact ⟨x0, x1, rfl⟩
  have hx1 : x1.bs = [98#8] := by
    have h : [x0.bs, x1.bs] = [[97#8], [98#8]] := hrs
    injection h with _ h
    injection h
  obtain ⟨x1b, x1A, x1c⟩ := x1
  dsimp only at hx1
  subst hx1
  obtain ⟨g10, cap10, hv10, hg10, hl10⟩ := ho10.form (by simp)
  have hA10 : A10 = some ⟨g10, 0, none⟩ := by injection hv10
  subst hA10
  have hcell : w10.cell? ⟨g10, 1, none⟩ = some (.slice x1A 1 x1c) := by
    have := ho10.cells (g := g10) rfl 1 _ rfl
    rwa [add_row] at this
  have hstr : (convert 44 9 (.slice x1A 1 x1c)).run Tryz.prog w10 = .ok (.string ⟨#[98]⟩) w10 := Frag.toStr (hby10 ⟨[98#8], x1A, x1c⟩ (by simp)).rd x1c
  have HC10 := Lib.hid (HC9.out.trans (Chg.of_below hb10))
  have HG10 := Lib.hid (HG9.out.below hb10)
  have hlen2 : ([x0, (⟨[98#8], x1A, x1c⟩ : Frag.Rv)]).length = 2 := rfl
  simp only [hlen2]
  clear hrs ho10 hby10 hb10 hv10 hg10 hl10 hrl hlen2
  have q1 := append_nil
  have q2 := size_call w10 s d _ HG10.out
  go_wp2_with (first | (go_at_call 10; refine (q1 _ none 0 0).mono ?_; rintro e w' ⟨rfl, rfl⟩) | (go_at_call 20; refine q2.mono ?_; rintro e w' ⟨rfl, rfl⟩))
  go_ret
  exact ⟨rfl, HC10.out.below (Nat.le_refl _)⟩
end Go.Proofs.YtbomgglmplecpaaGreat.Segm
