/-
  The program's parser of patterns (layer 8): its steps.
-/
import Derived.Test.YtjpbndpfbdfhjaaMRegMem
import Derived.Test.YtjpbndpfbdfhjaaMOrd
namespace Go.Proofs.Ytjpbndpfbdfhjaa.Reg
open Go.RowKit
set_option linter.unusedVariables false
set_option linter.unusedSimpArgs false

theorem infoOp : (Try.prog.info? 122).map (fun i => (i.zero, i.size, i.bytes)) = some (some (.agg #[.int .i64 0, .bool false, .slice none 0 0]), 3, 40) := by kernel_rfl
theorem rowOp : ElemRow Try.prog 72 122 3 40 := ElemRow.mk' Try.underlying72 infoOp rfl (by decide)
theorem infoLv : (Try.prog.info? 93).map (fun i => (i.zero, i.size, i.bytes)) = some (some (.agg #[.bool false, .bool false]), 2, 2) := by kernel_rfl
theorem rowLv : ElemRow Try.prog 94 93 2 2 := ElemRow.mk' Try.underlying94 infoLv rfl (by decide)

set_option maxRecDepth 100000 in
set_option maxHeartbeats 1000000 in
theorem emit_call (w : World) (B b : Nat) (A : Option Addr) (n c : Nat) (s : List (BitVec 8)) (x : St) (kind : Int) (h : Pz w B b A n c s x) (hB : B ≤ w.heap.size) (hlen : x.ops.length ≤ 10000) :
    Calls Try.prog 56 #[.pointer (some ⟨b, 0, none⟩), .int .i64 kind] w fun e w' => e = .returned (.tuple #[]) ∧ Pz w' B b A n c s ⟨x.at_, x.ops ++ [one kind], x.inner, x.outer⟩ ∧ Fr B w w' := by
  obtain ⟨ov, iv, hp, ho, hl⟩ := h.st
  obtain ⟨us, h1, h2, h3⟩ := ho.row
  obtain ⟨Ao, co, rfl⟩ := own_form h1
  have q2 := Cel.cell hp 2
  have hlow := h.low
  have HBS := Lib.hid h.bs
  have HP := Lib.hid hp
  have HL := Lib.hid hl
  have H2 := Lib.hid h2
  have H3 := Lib.hid h3
  have hb5 := (Below.refl w.heap.size w).alloc (Nat.le_refl _) (.cells #[.int .i64 kind, .bool false, .slice none 0 0] 122)
  have HB5 := Lib.hid hb5
  have H5 := Lib.hid (World.ownsRow.alloc h1 (.cells #[.int .i64 kind, .bool false, .slice none 0 0] 122))
  have hsrc := Lib.hid (Ry.src (m := 1) (Ry.of_cel (Cel.new w 122 [.int .i64 kind, .bool false, .slice none 0 0])) (by simp))
  have hfl : oflat us ++ [.int .i64 kind, .bool false, .slice none 0 0] = oflat (us ++ [⟨one kind, none, 0⟩]) := (oflat_snoc us ⟨one kind, none, 0⟩).symm
  have HFL := Lib.hid hfl
  clear h hp hl ho h1 h2 h3 hb5 hfl
  generalize hln : x.ops.length = ln at *
  have HLN := Lib.hid hln
  clear hln
  go_enter Try.func56, Try.ntmps56
  go_wp2_with ((at_builtin; refine wpList_append_any _ rfl _ _ 72 rfl B 122 rowOp (.slice Ao ln co) ln (oflat us) rfl H5.out (some ⟨w.heap.size, 0, none⟩) 1 1 [.int .i64 kind, .bool false, .slice none 0 0] rfl rfl hsrc.out (by intro u hu; simp at hu; rcases hu with rfl | rfl | rfl <;> rfl) (ln + 1) (oflat (us ++ [⟨one kind, none, 0⟩])) rfl HFL.out (by unfold maxLen; omega) (by omega) (by simp; omega) ?_; intro A8 c8 w8 ho8 hg8 _; have hpd := Pz.pushed (u := ⟨one kind, none, 0⟩) HLN.out hlow HBS.out HP.out HL.out hB HB5.out H5.out H2.out H3.out Ry.nil_ ho8 hg8; have y2 := Cel.cell hpd.1 2; have g2 := Cel.free hpd.1 2; have HPD := Lib.hid hpd.2; clear hpd ho8 hg8))
  go_end0
  exact ⟨rfl, HPD.out⟩
theorem Fr.set {w : World} {B b k : Nat} {sv ov iv : Value} {hb hp : Bool} (h : Pc w b sv k ov hb hp iv) (hlow : B ≤ b) (hB : B ≤ w.heap.size) (i : Nat) (u : Value) : Fr B w (w.setCell ⟨b, i, none⟩ u) := Fr.of_frm ((Frm.refl [b] w).set (by simp) u) h hlow hB
theorem Fr.set2 {w : World} {B b k : Nat} {sv ov iv : Value} {hb hp : Bool} (h : Pc w b sv k ov hb hp iv) (hlow : B ≤ b) (hB : B ≤ w.heap.size) (u v : Value) : Fr B w ((w.setCell ⟨b, 3, none⟩ u).setCell ⟨b, 4, none⟩ v) := Fr.of_frm (((Frm.refl [b] w).set (by simp) u).set (by simp) v) h hlow hB
set_option maxRecDepth 100000 in
set_option maxHeartbeats 1000000 in
theorem endPiece_call (w : World) (B b : Nat) (A : Option Addr) (n c : Nat) (s : List (BitVec 8)) (x : St) (h : Pz w B b A n c s x) (hB : B ≤ w.heap.size) (hk : x.at_ ≤ n) (hn : n ≤ 100000) (hlen : x.ops.length ≤ 9000) :
    Calls Try.prog 55 #[.pointer (some ⟨b, 0, none⟩)] w fun e w' => e = .returned (.tuple #[]) ∧ Pz w' B b A n c s (pieceEnd s x) ∧ Fr B w w' := by
  obtain ⟨ov, iv, hp, hre⟩ := h.open_
  have con := repet_call w B b A n c x.at_ s ov x.inner.hb x.inner.hp iv hp h.bs h.low hk hn
  have hlow := h.low
  have hpe : pieceEnd s x = ⟨if repet s x.at_ = 0 then x.at_ else x.at_ + 1, x.ops ++ (if repet s x.at_ = 0 then [] else [one (repet s x.at_)]) ++ (if x.inner.hp then [one 3] else []), ⟨x.inner.hb, true⟩, x.outer⟩ := rfl
  generalize hr : repet s x.at_ = r at *
  have HPE := Lib.hid hpe
  have HP0 := Lib.hid hp
  have HRE := Lib.hid hre
  have HLEN := Lib.hid hlen
  clear h hp hpe hre hlen hr
  go_enter Try.func55, Try.ntmps55
  go_wp2_with fail
  refine con.mono ?_
  clear con
  rintro e w1 ⟨rfl, hw1⟩
  have hz1 := HRE.out w1 _ hw1
  have HZ1 := Lib.hid hz1
  have HB1 := Lib.hid (Fr.of_frm hw1.frm HP0.out hlow hB)
  have hs1 := HB1.out.size
  clear hw1 hz1
  by_cases h0 : r = 0
  case' pos =>
    subst h0
    rw [if_pos rfl, if_pos rfl, List.append_nil] at HPE
    rw [if_pos rfl] at HZ1
    obtain ⟨w2, ops2, k2, HZ2, HB2, HP2, hl2, hs2⟩ : ∃ w2 ops2 k2, Hid (Pz w2 B b A n c s ⟨k2, ops2, x.inner, x.outer⟩) ∧ Hid (Fr B w w2) ∧ Hid (pieceEnd s x = ⟨k2, ops2 ++ (if x.inner.hp then [one 3] else []), ⟨x.inner.hb, true⟩, x.outer⟩) ∧ Hid (ops2.length ≤ 9001) ∧ w2 = w1 := ⟨w1, x.ops, _, HZ1, HB1, HPE, Lib.hid (by have := HLEN.out; omega), rfl⟩
    subst hs2
  case' neg =>
    have d0 : (r != 0) = true := by rw [bne_iff_ne]; exact h0
    rw [if_neg h0, if_neg h0] at HPE
    rw [if_neg h0] at HZ1
    clear h0
    go_wp2_with fail
    refine (emit_call w1 B b A n c s _ r HZ1.out (by omega) (by have := HLEN.out; show x.ops.length ≤ _; omega)).mono ?_
    rintro e w2 ⟨rfl, hz2, hb2⟩
    have HZ2 := Lib.hid hz2
    have HB2 := Lib.hid (HB1.out.trans hb2)
    have HP2 := HPE
    have hl2 := Lib.hid (show (x.ops ++ [one r]).length ≤ 9001 by have := HLEN.out; simp; omega)
    dsimp only at HZ2
    generalize x.ops ++ [one r] = ops2 at *
    generalize x.at_ + 1 = k2 at *
    clear hz2 hb2
  all_goals
    obtain ⟨ov2, iv2, hp2, -⟩ := HZ2.out.open_
    have p4 := Cel.cell hp2 4
    have hs2 := HB2.out.size
    clear hp2
    try dsimp only at p4
    cases hhp : x.inner.hp <;> rw [hhp] at HP2 p4
    · obtain ⟨ov3, iv3, hp3, hset⟩ := HZ2.out.set
      have HQ3 := Lib.hid hp3
      have q4 := Cel.cell hp3 4
      have f4 := Cel.free hp3 4
      have HS := Lib.hid (hset 4 (.bool true) k2 ⟨x.inner.hb, true⟩ rfl)
      clear hp3 hset hhp
      go_wp2_with fail
      go_end0
      rw [HP2.out]
      refine ⟨rfl, ?_, HB2.out.trans (Fr.set HQ3.out hlow (by omega) 4 _)⟩
      simpa using HS.out
    · clear hhp
      go_wp2_with fail
      refine (emit_call w2 B b A n c s _ 3 HZ2.out (by omega) (by have := hl2.out; show ops2.length ≤ _; omega)).mono ?_
      rintro e w3 ⟨rfl, hz3, hb3⟩
      obtain ⟨ov3, iv3, hp3, hset⟩ := hz3.set
      have HQ3 := Lib.hid hp3
      have q4 := Cel.cell hp3 4
      have f4 := Cel.free hp3 4
      have HS := Lib.hid (hset 4 (.bool true) k2 ⟨x.inner.hb, true⟩ rfl)
      have HB3 := Lib.hid (HB2.out.trans hb3)
      clear hp3 hset hz3 hb3
      go_wp2_with fail
      go_end0
      rw [HP2.out]
      exact ⟨rfl, HS.out, HB3.out.trans (Fr.set HQ3.out hlow (by have := HB3.out.size; omega) 4 _)⟩

/-- Two cells of the parser's level that are written. -/
theorem Pz.level {w : World} {B b n c : Nat} {A : Option Addr} {s : List (BitVec 8)} {x : St} (h : Pz w B b A n c s x) (u v : Bool) : Pz ((w.setCell ⟨b, 3, none⟩ (.bool u)).setCell ⟨b, 4, none⟩ (.bool v)) B b A n c s ⟨x.at_, x.ops, ⟨u, v⟩, x.outer⟩ := by
  obtain ⟨ov, iv, hp, hset⟩ := h.set
  have h1 := hset 3 (.bool u) x.at_ ⟨u, x.inner.hp⟩ rfl
  obtain ⟨ov2, iv2, hp2, hset2⟩ := h1.set
  exact hset2 4 (.bool v) x.at_ ⟨u, v⟩ rfl
theorem set2_below (w : World) {B b : Nat} (hB : B ≤ b) (i j : Nat) (u v : Value) : Below B w ((w.setCell ⟨b, i, none⟩ u).setCell ⟨b, j, none⟩ v) := (set_below w hB i u).trans (set_below _ hB j v)

set_option maxRecDepth 100000 in
set_option maxHeartbeats 1000000 in
theorem endBranch_call (w : World) (B b : Nat) (A : Option Addr) (n c : Nat) (s : List (BitVec 8)) (x : St) (h : Pz w B b A n c s x) (hB : B ≤ w.heap.size) (hlen : x.ops.length ≤ 9000) :
    Calls Try.prog 47 #[.pointer (some ⟨b, 0, none⟩)] w fun e w' => e = .returned (.tuple #[]) ∧ Pz w' B b A n c s (branchEnd x) ∧ Fr B w w' := by
  obtain ⟨ov, iv, hp, -⟩ := h.open_
  have hlow := h.low
  have hpe : branchEnd x = ⟨x.at_, x.ops ++ (if x.inner.hp then [] else [one 2]) ++ (if x.inner.hb then [one 4] else []), ⟨true, false⟩, x.outer⟩ := rfl
  have p4 := Cel.cell hp 4
  have H := Lib.hid h
  have HPE := Lib.hid hpe
  have HLEN := Lib.hid hlen
  clear h hp hpe hlen
  try dsimp only at p4
  cases hhp : x.inner.hp <;> rw [hhp] at p4 HPE
  case' false =>
    go_enter Try.func47, Try.ntmps47
    go_wp2_with fail
    refine (emit_call w B b A n c s _ 2 H.out (by omega) (by have := HLEN.out; omega)).mono ?_
    rintro e w2 ⟨rfl, hz2, hb2⟩
    have HZ2 := Lib.hid hz2
    have HB2 := Lib.hid hb2
    have hl2 := Lib.hid (show (x.ops ++ [one 2]).length ≤ 9001 by have := HLEN.out; simp; omega)
    have HP2 : Hid (branchEnd x = ⟨x.at_, (x.ops ++ [one 2]) ++ (if x.inner.hb then [one 4] else []), ⟨true, false⟩, x.outer⟩) := Lib.hid (by simpa using HPE.out)
    generalize x.ops ++ [one 2] = ops2 at *
    clear hz2 hb2 hhp p4 HPE
  case' true =>
    obtain ⟨w2, ops2, HZ2, HB2, HP2, hl2, hs2⟩ : ∃ w2 ops2, Hid (Pz w2 B b A n c s ⟨x.at_, ops2, x.inner, x.outer⟩) ∧ Hid (Fr B w w2) ∧ Hid (branchEnd x = ⟨x.at_, ops2 ++ (if x.inner.hb then [one 4] else []), ⟨true, false⟩, x.outer⟩) ∧ Hid (ops2.length ≤ 9001) ∧ w2 = w := ⟨w, x.ops, Lib.hid H.out, Lib.hid (Fr.refl _ _), Lib.hid (by simpa using HPE.out), Lib.hid (by have := HLEN.out; omega), rfl⟩
    subst hs2
    clear hhp HPE
    go_enter Try.func47, Try.ntmps47
  all_goals
    obtain ⟨ov2, iv2, hp2, -⟩ := HZ2.out.open_
    have p3 := Cel.cell hp2 3
    have hs2 := HB2.out.size
    try dsimp only at p3
    cases hhb : x.inner.hb <;> rw [hhb] at HP2 p3
    · obtain ⟨ov3, iv3, hp3, -⟩ := HZ2.out.set
      have HQ3 := Lib.hid hp3
      have q3 := Cel.cell hp3 3
      have f3 := Cel.free hp3 3
      have q4 := Cel.cell hp3 4
      have f4 := Cel.free hp3 4
      have HS := Lib.hid (HZ2.out.level true false)
      clear hp2 hp3 hhb
      go_wp2_with fail
      go_end0
      rw [HP2.out]
      refine ⟨rfl, ?_, HB2.out.trans (Fr.set2 HQ3.out hlow (by omega) _ _)⟩
      simpa using HS.out
    · clear hhb hp2
      go_wp2_with fail
      refine (emit_call w2 B b A n c s _ 4 HZ2.out (by omega) (by have := hl2.out; show ops2.length ≤ _; omega)).mono ?_
      rintro e w3 ⟨rfl, hz3, hb3⟩
      obtain ⟨ov3, iv3, hp3, -⟩ := hz3.set
      have HQ3 := Lib.hid hp3
      have q3 := Cel.cell hp3 3
      have f3 := Cel.free hp3 3
      have q4 := Cel.cell hp3 4
      have f4 := Cel.free hp3 4
      have HS := Lib.hid (hz3.level true false)
      have HB3 := Lib.hid (HB2.out.trans hb3)
      clear hp3 hz3 hb3
      go_wp2_with fail
      go_end0
      rw [HP2.out]
      exact ⟨rfl, HS.out, HB3.out.trans (Fr.set2 HQ3.out hlow (by have := HB3.out.size; omega) _ _)⟩
end Go.Proofs.Ytjpbndpfbdfhjaa.Reg
