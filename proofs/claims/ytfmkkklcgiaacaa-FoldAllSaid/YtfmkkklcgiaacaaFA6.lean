/-
Texts: RecAs FoldStart
-/
import Derived.Test.YtfmkkklcgiaacaaFA0
import Derived.Test.YtfmkkklcgiaacaaFA1
import Derived.Test.YtfmkkklcgiaacaaFA2
import Derived.Test.YtfmkkklcgiaacaaFA3
import Derived.Test.YtfmkkklcgiaacaaFA4
import Derived.Test.YtfmkkklcgiaacaaFA5
set_option linter.unusedVariables false
set_option linter.unusedSimpArgs false
set_option maxRecDepth 100000
set_option maxHeartbeats 4000000
section
namespace Go.Proofs.Ytfmkkklcgiaacaa.Rec
open Go.RowKit
open Lex (Tx)
theorem results_cell_ {P : Program} {fn : Func} {tmps : Array Value} {w : World} (a : Tmp) (t : TypeId) (hr : fn.results = #[.cell a t]) (ad : Addr) (ha : tmps.getD a undef = .pointer (some ad)) (v : Value) (hl : (loadVar t ad).run P w = .ok v w) :
  (results fn tmps).run P w = .ok v w := by
 unfold results
 rw [hr]
 simp only [List.mapM_toArray, List.mapM_cons, List.mapM_nil, ha, asAddr]
 simp [hl]
end Go.Proofs.Ytfmkkklcgiaacaa.Rec
end
section
namespace Go.Proofs.Ytfmkkklcgiaacaa.Fold
open Go.RowKit
open Lex (Tx)
open Rec (Stt Vt Tvs txt infoRw Trow trow_own)
theorem made_rows (k : Nat) : madeCells (Value.cells (.slice none 0 0)) (k * 1) = (List.replicate k (Value.slice none 0 0)).toArray := by
 apply Array.ext
 ·simp [size_madeCells]
 ·intro i h1 h2
  simp [madeCells, Value.cells, Nat.mod_one]
theorem run_make_rows (w : World) (k : Nat) (hk : k ≤ 1000000) :
  (Instr.makeSlice 26 (.int .i64 (k : Int)) (.int .i64 (k : Int))).run Try.prog w = .ok (.slice (some ⟨w.heap.size, 0, none⟩) k k) (w.alloc (.cells (List.replicate k (Value.slice none 0 0)).toArray 29)) := by
 obtain ⟨i, hi, hz, hsz, hby⟩ := info_parts infoRw
 have h := run_make (P := Try.prog) w 26 29 i (.slice none 0 0) Try.underlying26 hi hz .i64 .i64 k k (by omega) (Int.le_refl _) (by rw [hby]; omega) (by omega)
 simp only [Int.toNat_natCast] at h
 rw [hsz, made_rows] at h
 exact h
def StSays (w' : World) (K : Nat) (s : Stt) (v : Value) : Prop := ∃ A c us, v = stval s.step s.visit s.tries s.off A us.length c ∧ Tvs w' K A us ∧ Trow w' K A us ∧ txt us = s.vars
theorem load_st {w : World} {g : Nat} {x0 x1 x2 x3 x4 : Value} (h : Cel w g 31 [x0, x1, x2, x3, x4]) : (loadVar 31 ⟨g, 0, none⟩).run Try.prog w = .ok (.agg #[x0, x1, x2, x3, x4]) w :=
 run_loadVar_mid (P := Try.prog) w g 0 31 [x0, x1, x2, x3, x4] _ (fun j v hv => by rw [Nat.zero_add, h.cell j, hv]) Try.underlying31 rfl (by kernel_rfl)
theorem start_ (w : World) (A : Option Addr) (n c : Nat) (A1 : Option Addr) (nv c1 : Nat) (most : Int) (hv : nv ≤ 1000000) (vs : List Fs) (K : Nat) :
  Calls Try.prog 17 #[bval A n c A1 nv c1 most] w fun e w' => Below w.heap.size w w' ∧ ∃ v, e = .returned v ∧ StSays w' K (startR (bok vs nv most)) v := by
 unfold bval
 obtain ⟨w1, hw1⟩ : ∃ w1, w1 = (w.alloc (.cells #[.slice A n c, .slice A1 nv c1, .int .i64 most] 25)).alloc (.cells #[.int .i64 0, .int .i64 0, .int .i64 0, .int .i64 0, .slice none 0 0] 31) := ⟨_, rfl⟩
 have hmk := run_make_rows w1 nv hv
 rw [hw1] at hmk
 go_enter Try.func17, Try.ntmps17
 go_wp2_with fail
 clear hmk hw1
 obtain ⟨W, hW⟩ : ∃ W, W = ((w.alloc (.cells #[.slice A n c, .slice A1 nv c1, .int .i64 most] 25)).alloc (.cells #[.int .i64 0, .int .i64 1, .int .i64 0, .int .i64 0, .slice (some ⟨w.heap.size + 1 + 1, 0, none⟩) nv nv] 31)).alloc (.cells (Array.replicate nv (Value.slice none 0 0)) 29) := ⟨_, rfl⟩
 rw [← hW]
 have hb : Below w.heap.size w W := by rw [hW]; exact (((Below.refl _ _).alloc (Nat.le_refl _) _).alloc (by simp) _).alloc (by simp; omega) _
 have c2 : Cel W (w.heap.size + 1) 31 [.int .i64 0, .int .i64 1, .int .i64 0, .int .i64 0, .slice (some ⟨w.heap.size + 1 + 1, 0, none⟩) nv nv] := by
  rw [hW]
  exact (by simpa using Cel.new (w.alloc (.cells #[.slice A n c, .slice A1 nv c1, .int .i64 most] 25)) 31 [.int .i64 0, .int .i64 1, .int .i64 0, .int .i64 0, .slice (some ⟨w.heap.size + 1 + 1, 0, none⟩) nv nv] : Cel _ (w.heap.size + 1) _ _).alloc _
 have c3 : Cel W (w.heap.size + 1 + 1) 29 (List.replicate nv (Value.slice none 0 0)) := by
  have := Cel.new ((w.alloc (.cells #[.slice A n c, .slice A1 nv c1, .int .i64 most] 25)).alloc (.cells #[.int .i64 0, .int .i64 1, .int .i64 0, .int .i64 0, .slice (some ⟨w.heap.size + 1 + 1, 0, none⟩) nv nv] 31)) 29 (List.replicate nv (Value.slice none 0 0))
  simp only [World.size_alloc] at this
  rw [hW]
  simpa using this
 refine bodyPost_ret (v := .agg #[.int .i64 0, .int .i64 1, .int .i64 0, .int .i64 0, .slice (some ⟨w.heap.size + 1 + 1, 0, none⟩) nv nv]) (Rec.results_cell_ 2 31 Try.results17 ⟨w.heap.size + 1, 0, none⟩ rfl _ (load_st c2)) rfl ?_
 refine ⟨hb, _, rfl, some ⟨w.heap.size + 1 + 1, 0, none⟩, nv, List.replicate nv ⟨none, 0, []⟩, ?_, ⟨fun i v hi => ⟨_, rfl, ?_⟩, fun v hv => ?_⟩, fun _ => ⟨_, rfl, .inr ⟨_, _, c3⟩⟩, ?_⟩
 ·show stval 0 1 0 0 _ nv nv = stval 0 1 0 0 _ (List.replicate nv _).length nv
  rw [List.length_replicate]
 ·have hlt := (List.getElem?_eq_some_iff.1 hi).1
  rw [List.length_replicate] at hlt
  rw [List.getElem?_replicate, if_pos hlt] at hi
  injection hi with hi
  subst hi
  rw [add_row, c3.cell i, List.getElem?_replicate, if_pos hlt]
  rfl
 ·rw [List.eq_of_mem_replicate hv]
  exact ⟨.inl Bs.nil_, Nat.zero_le _⟩
 ·unfold txt
  rw [List.map_replicate]
  rfl
end Go.Proofs.Ytfmkkklcgiaacaa.Fold
end
