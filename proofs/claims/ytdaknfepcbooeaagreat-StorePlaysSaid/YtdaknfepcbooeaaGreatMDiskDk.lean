/-
  The program's disk in memory, as what it is by the document; what its small calls come to.
-/
import Derived.Test.YtdaknfepcbooeaaGreatMDiskA
import Derived.Test.YtdaknfepcbooeaaGreatMDiskShelf
import Derived.Shelf.AbstractIn
namespace Go.Proofs.YtdaknfepcbooeaaGreat.Disk
open Go.RowKit Go.Maps
set_option linter.unusedVariables false
set_option linter.unusedSimpArgs false

/-- The steps that are left, as the program counts them. -/
def leftOf (p : Option (Nat × List Bool)) : Int := match p with | none => -1 | some (k, _) => k

/-- The disk in block d is m; its map lies in block b, its rows are vs, its list is kv. -/
structure Dv (w : World) (B d : Nat) (m : M) (b : Nat) (vs : Int → Value) (kv : Value) : Prop where
  inv : Inv m
  cel : Cel w d 65 [.int .i64 m.room, .bool (!m.off), .map (some b), .int .i64 (leftOf m.plan), kv]
  own : B ≤ d ∧ B ≤ b
  map : Mp w b m.files vs
  rows : ∀ f ∈ m.files, Rw w B (vs f) (rows f m.l)
  apart : ∀ f ∈ m.files, ∀ g ∈ m.files, f ≠ g → ∀ k, (vs f).ownBlock = some k → (vs g).ownBlock ≠ some k
  keep : ∀ k ks, m.plan = some (k, ks) → Bo w B kv (ks.take m.room)
def Dk (w : World) (B d : Nat) (m : M) : Prop := ∃ b vs kv, Dv w B d m b vs kv

theorem Dv.chg {w w' : World} {B d b : Nat} {m : M} {vs : Int → Value} {kv : Value} {T : Obj → Prop} (h : Dv w B d m b vs kv) (hc : Chg B T w w') (h1 : ∀ cs t fz, t = 65 ∨ t = 126 ∨ t = 4 → ¬ T (.cells cs t fz)) (h2 : ∀ es k, ¬ T (.map es k)) : Dv w' B d m b vs kv :=
  ⟨h.inv, Cel.chg h.cel hc (h1 _ _ _ (.inl rfl)), h.own, h.map.chg hc h2, fun f hf => own_chg (h.rows f hf) hc (fun _ => h1 _ _ _ (.inr (.inl rfl))), h.apart, fun k ks e => (h.keep k ks e).chg hc (fun _ _ => h1 _ _ _ (.inr (.inr rfl)))⟩
theorem Dv.below {w w' : World} {B d b : Nat} {m : M} {vs : Int → Value} {kv : Value} (h : Dv w B d m b vs kv) (hb : Below w.heap.size w w') : Dv w' B d m b vs kv :=
  h.chg (T := fun _ => False) (Chg.of_below hb) (fun _ _ _ _ h => h) (fun _ _ h => h)
theorem Dk.below {w w' : World} {B d : Nat} {m : M} (h : Dk w B d m) (hb : Below w.heap.size w w') : Dk w' B d m := by
  obtain ⟨b, vs, kv, h⟩ := h; exact ⟨b, vs, kv, h.below hb⟩
theorem Dk.rob {w w' : World} {B d : Nat} {m : M} (h : Dk w B d m) (hc : Chg B Rob w w') : Dk w' B d m := by
  obtain ⟨b, vs, kv, h⟩ := h
  refine ⟨b, vs, kv, h.chg hc ?_ (fun _ _ h => h)⟩
  rintro cs t fz (rfl | rfl | rfl) (h | h) <;> revert h <;> decide

/-! The cells of the disk -/
theorem Cel.at0 {w : World} {g : Nat} {t : TypeId} {a0 a1 a2 a3 a4 : Value} (h : Cel w g t [a0, a1, a2, a3, a4]) : w.cell? ⟨g, 0, none⟩ = some a0 ∧ w.cell? ⟨g, 1, none⟩ = some a1 ∧ w.cell? ⟨g, 2, none⟩ = some a2 ∧ w.cell? ⟨g, 3, none⟩ = some a3 ∧ w.cell? ⟨g, 4, none⟩ = some a4 :=
  ⟨h.cell 0, h.cell 1, h.cell 2, h.cell 3, h.cell 4⟩
theorem Cel.free5 {w : World} {g : Nat} {t : TypeId} {cs : List Value} (h : Cel w g t cs) : w.frozen? ⟨g, 0, none⟩ = false ∧ w.frozen? ⟨g, 1, none⟩ = false ∧ w.frozen? ⟨g, 2, none⟩ = false ∧ w.frozen? ⟨g, 3, none⟩ = false ∧ w.frozen? ⟨g, 4, none⟩ = false :=
  ⟨h.free 0, h.free 1, h.free 2, h.free 3, h.free 4⟩

set_option maxRecDepth 100000 in
set_option maxHeartbeats 1000000 in
theorem on_cell (w : World) (d : Nat) (x : Bool) (h : w.cell? ⟨d, 1, none⟩ = some (.bool x)) : Calls Tryz.prog 30 #[.pointer (some ⟨d, 0, none⟩)] w fun e w' => e = .returned (.bool x) ∧ w = w' := by
  go_enter Tryz.func30, Tryz.ntmps30
  go_wp2_with fail
  go_ret
  exact ⟨rfl, rfl⟩
set_option maxRecDepth 100000 in
set_option maxHeartbeats 1000000 in
theorem on_nil (w : World) : Calls Tryz.prog 30 #[.pointer none] w fun e w' => e = .returned (.bool false) ∧ w = w' := by
  go_enter Tryz.func30, Tryz.ntmps30
  go_wp2_with fail
  go_ret
  exact ⟨rfl, rfl⟩

set_option maxRecDepth 100000 in
set_option maxHeartbeats 1000000 in
theorem new_ok (w : World) (B r : Nat) (hB : B ≤ w.heap.size) (h1 : 1 ≤ r) (h2 : r ≤ 1000) : Calls Tryz.prog 7 #[.int .i64 r] w fun e w' => ∃ d, e = .returned (.tuple #[.pointer (some ⟨d, 0, none⟩), .int .i64 0]) ∧ Dk w' B d ⟨r, [], [], false, none⟩ ∧ Below w.heap.size w w' := by
  have hmm := @run_makeMap Tryz.prog
  have HI := Lib.hid (Inv.new r h1 h2)
  go_enter Tryz.func7, Tryz.ntmps7
  go_wp2_with fail
  go_ret2
  refine ⟨_, rfl, ⟨w.heap.size, fun _ => .nilFunc, .slice none 0 0, HI.out, ?_, ⟨by omega, hB⟩, ?_, by simp, by simp, by simp⟩, ((Below.refl _ _).alloc (Nat.le_refl _) _).alloc (by simp) _⟩
  · have := Cel.new (w.alloc (.map #[] 0)) 65 [.int .i64 r, .bool true, .map (some w.heap.size), .int .i64 (-1), .slice none 0 0]
    simpa [leftOf] using this
  · exact (World.ownsMap_made w Tryz.prog 3 Rv).alloc _
set_option maxRecDepth 100000 in
set_option maxHeartbeats 1000000 in
theorem new_bad (w : World) (r : Int) (h : r < 1 ∨ 1000 < r) : Calls Tryz.prog 7 #[.int .i64 r] w fun e w' => e = .returned (.tuple #[.pointer none, .int .i64 1]) ∧ w' = w := by
  by_cases h1 : r < 1
  · go_enter Tryz.func7, Tryz.ntmps7
    go_wp2_with fail
    go_ret2
    exact ⟨rfl, rfl⟩
  · have h2 : 1000 < r := by omega
    clear h
    go_enter Tryz.func7, Tryz.ntmps7
    go_wp2_with fail
    go_ret2
    exact ⟨rfl, rfl⟩

/-! Files -/
theorem sortsL (k : Nat) : AnyZI.SortsIn Tryz.prog Tryz.sortedL_ren Fence.wide k :=
  ⟨fun blk off cap ss W hH hblk hsz => callsIn_wide.2 (AnyM.slices_Sort_int Tryz.sortL blk off cap ss W hH hblk hsz),
   fun p cap W => callsIn_wide.2 (AnyM.slices_Sort_int_none Tryz.sortL p cap W)⟩
theorem sort_sorted {fs ss : List Int} (h : fs.Pairwise (· < ·)) (hp : ss.Perm fs) : ss.mergeSort (fun x y => decide (x ≤ y)) = fs := by
  have tr : ∀ a b c : Int, decide (a ≤ b) = true → decide (b ≤ c) = true → decide (a ≤ c) = true := fun a b c h1 h2 => by simp at *; omega
  have to : ∀ a b : Int, (decide (a ≤ b) || decide (b ≤ a)) = true := fun a b => by simp; omega
  refine List.Perm.eq_of_pairwise (le := fun a b => decide (a ≤ b) = true) (fun a b _ _ h1 h2 => by simp at h1 h2; omega) (List.pairwise_mergeSort tr to ss) (h.imp fun {a b} (hlt : a < b) => by simp; omega) ((List.mergeSort_perm ss _).trans hp)

set_option maxRecDepth 100000 in
set_option maxHeartbeats 1000000 in
theorem files_call (w : World) (d b : Nat) (fs : List Int) (vs : Int → Value) (hc : w.cell? ⟨d, 2, none⟩ = some (.map (some b))) (hm : Mp w b fs vs) (hs : fs.Pairwise (· < ·)) (hl : fs.length ≤ 1000) :
    Calls Tryz.prog 55 #[.pointer (some ⟨d, 0, none⟩)] w fun e w' => ∃ A c, e = .returned (.slice A fs.length c) ∧ w'.ownsRow w.heap.size 3 1 (.slice A fs.length c) fs.length (fs.map (Value.int .i64)) ∧ Below w.heap.size w w' := by
  refine (callsIn_wide (n := 6)).1 ?_
  have hbl := hm.lt
  have hseq : SeqGives Fence.wide 2 Tryz.prog 109 #[.pointer (some ⟨w.heap.size, 0, none⟩)] encZ (fun ss => ss.Perm (intKeys (dat fs vs))) (Maps.size (dat fs vs)) (w.alloc (.cells #[.map (some b)] 63)) :=
    AnyZI.keys_gives (ρ := Tryz.keysL_ren) { Tryz.keysL with } Fence.wide _ trivial rfl (by omega) w.heap.size b fs.length (dat fs vs) _ (by simp) (by simp) (by
      obtain ⟨es, clock, hb, Ft, hs, hD⟩ := hm
      exact ⟨es, clock, (Below.heap_alloc _ _ b hbl).trans hb, Ft, hs, hD⟩)
  have cK : ∀ mb W, CallsIn Fence.wide 5 Tryz.prog 88 #[.map mb] W fun e w' => e = .returned (.func (.func 109) #[] #[.pointer (some ⟨W.heap.size, 0, none⟩)]) ∧ w' = W.alloc (.cells #[.map mb] 63) := fun mb W => AnyZI.keys_in Tryz.keysL Fence.wide 5 trivial rfl mb W
  have cS := AnyZI.sorted_in Tryz.sortedL Fence.wide 5 trivial trivial trivial trivial rfl (by omega) (sortsL _) (enters_of Tryz.func108 (by kernel_rfl) rfl) 109 #[.pointer (some ⟨w.heap.size, 0, none⟩)] trivial (enters_of Tryz.func109 (by kernel_rfl) rfl) _ _ (by rw [size_dat]; unfold maxLen; omega) (by rw [size_dat]; omega) _ hseq
  change CallsIn _ _ Tryz.prog 87 _ _ _ at cS
  have hfK : Fence.wide.fn 88 := trivial
  have hfS : Fence.wide.fn 87 := trivial
  have HS := Lib.hid hs
  have HM := Lib.hid hm
  clear hs hm hseq
  refine callsIn_of_wp Tryz.func55 rfl trivial ?_ rfl
  simp only [Tryz.ntmps55, List.size_toArray, List.length_cons, List.length_nil, Nat.reduceAdd, Nat.reduceSub, Array.replicate_succ, Array.replicate_zero, List.push_toArray, List.append_toArray, List.nil_append, List.cons_append]
  gi_wp2_with (first
    | (gi_at_call 88; refine (cK _ _).mono ?_; rintro e w' ⟨rfl, rfl⟩)
    | (gi_at_call 87; refine cS.mono ?_; rintro e w' ⟨v, ss, rfl, hS, hrow, hnil, hb⟩))
  go_ret
  rw [keys_dat] at hS
  have hlen : ss.length = fs.length := hS.length_eq
  have e := sort_sorted HS.out hS
  change w'.ownsRow _ _ 1 v ss.length ((ss.mergeSort (fun x y => decide (x ≤ y))).map (Value.int .i64)) at hrow
  rw [e, hlen] at hrow
  obtain ⟨A, c, rfl⟩ := own_slice _ hrow
  exact ⟨A, c, rfl, ownsRow_base_a hrow (by simp), ((Below.refl _ w).alloc (Nat.le_refl _) _).trans (hb.mono (by simp))⟩
end Go.Proofs.YtdaknfepcbooeaaGreat.Disk
