/-
  The law SegmentKeeps walked.
-/
import Derived.Test.YtdaknfepcbooeaaGreatMSegC
import Derived.Test.YtdaknfepcbooeaaGreatMSegB
namespace Go.Proofs.YtdaknfepcbooeaaGreat.Segm
open Go.RowKit
open Go.Proofs.YtdaknfepcbooeaaGreat.Frag (Ri Rd used grp)
open Go.Proofs.YtdaknfepcbooeaaGreat.Disk (M Sc Dk Rs Bo Chg Dob rows zeros there)
set_option linter.unusedVariables false
set_option linter.unusedSimpArgs false

theorem sob_bool (cs : Array Value) (fz : Nat × Nat) : ¬ Sob (.cells cs 4 fz) := by rintro (h | h | h) <;> revert h <;> decide

/-- Where the law is, once k records were appended, the first n of them synced. -/
structure Kp (w : World) (d s : Nat) (ep : BitVec 32) (rs : List (List (BitVec 8))) (n k : Nat) (us vs : List (List (BitVec 8))) (wr : World) : Prop where
  disk : Dk wr w.heap.size d (KM 200 2 us vs)
  seg : Sg wr s d ⟨2, ep, (secsAll ep (rs.take k)).length, false⟩
  all : us ++ vs = secsAll ep (rs.take k)
  syn : us = if n ≤ k then secsAll ep (rs.take n) else []
  chg : Chg w.heap.size Sob w wr
  short : ∀ b ∈ rs.take k, b.length ≤ 1200
theorem pieces_take (rs : List (List (BitVec 8))) (k : Nat) (b : List (BitVec 8)) (h : rs[k]? = some b) : rs.take (k + 1) = rs.take k ++ [b] := by
  rw [List.take_add_one, h]; rfl
theorem secs_few (ep : BitVec 32) (rs : List (List (BitVec 8))) (k : Nat) (hk : k ≤ 20) (h : ∀ b ∈ rs.take k, b.length ≤ 1200) : (secsAll ep (rs.take k)).length ≤ 60 := by
  rw [secsAll_len]
  have h1 := pieces_few _ h
  have h2 : (rs.take k).length ≤ k := List.length_take_le _ _
  omega
theorem secs_pos (ep : BitVec 32) (rs : List (List (BitVec 8))) (h : 0 < rs.length) : 0 < (secsAll ep rs).length := by
  rw [secsAll_len]
  cases rs with
  | nil => simp at h
  | cons b rs =>
    have e : pieces (b :: rs) = Frag.pcs 1 b ++ pieces rs := rfl
    rw [e, List.length_append]
    have := Frag.pcs_length_pos 1 b
    omega
/-- What is read at the end. -/
theorem keeps_read (ep : BitVec 32) (rs us vs : List (List (BitVec 8))) (n : Nat) (hn : n ≤ rs.length) (hall : us ++ vs = secsAll ep rs) (hus : us = secsAll ep (rs.take n)) (keep : List Bool) (L : List (List (BitVec 8))) (hL : L = (rows 2 (KZ 200 2 us vs keep).l).map Sc.b) :
    ∃ r, n ≤ r ∧ r ≤ rs.length ∧ scanRecs ep L = rs.take r := by
  obtain ⟨h1, h2⟩ := kz_rows 200 2 us vs keep
  rw [← hL] at h1 h2
  refine read_back ep rs n hn L ?_ ?_
  · rw [h1, ← List.length_append, hall, secsAll, List.length_map]
  · intro i p hp
    have hip : (us ++ vs)[i]? = some (secP p) := by rw [hall, secsAll, List.getElem?_map, hp]; rfl
    rcases h2 i _ hip with h | ⟨h3, h4⟩
    · exact .inl h
    · exact .inr ⟨by rw [hus, secsAll_len] at h3; exact h3, h4⟩
theorem used_le (ep : BitVec 32) (L : List (List (BitVec 8))) : scanUsed ep L ≤ L.length := Nat.le_trans (Frag.used_grp _) (leads_le ep 0 L)
theorem Rd_take {w : World} {B n : Nat} {A : Option Addr} {rs : List (List (BitVec 8))} (h : Rd w B A n rs) {r : Nat} (hr : r ≤ n) : Rd w B A r (rs.take r) := by
  refine ⟨by rw [List.length_take, h.len]; omega, fun i b hi => ?_⟩
  rw [List.getElem?_take] at hi
  split at hi
  · exact h.at_ i b hi
  · cases hi

/-- Read of a disk whose power is on: what the file has, whether it is there or not. -/
theorem read_any (w : World) (B d : Nat) (m : Disk.M) (f : Int) (hf : -9223372036854775808 ≤ f ∧ f < 9223372036854775808) (h : Dk w B d m) (ho : m.off = false) :
    Calls Tryz.prog 56 #[.pointer (some ⟨d, 0, none⟩), .int .i64 f] w fun r w' => ∃ A c e, r = .returned (.tuple #[.slice A ((rows f m.l).map Sc.b).length c, .int .i64 e]) ∧ Rd w' w'.heap.size A ((rows f m.l).map Sc.b).length ((rows f m.l).map Sc.b) ∧ (∀ b ∈ (rows f m.l).map Sc.b, b.length ≤ maxLen) ∧ Below w.heap.size w w' := by
  have h512 : ∀ b ∈ (rows f m.l).map Sc.b, b.length ≤ maxLen := by
    obtain ⟨b, vs, kv, h⟩ := h
    intro x hx
    obtain ⟨y, hy, rfl⟩ := List.mem_map.1 hx
    rw [h.inv.r512 f y hy]
    decide
  by_cases ht : there m f = 0
  · refine (Disk.read_ok w B d m f hf h ht).mono ?_
    rintro r w' ⟨v, rfl, hr, hb⟩
    obtain ⟨A, c, rfl, _, _⟩ := Rs.form hr
    exact ⟨A, c, 0, rfl, Rs.rd hr, h512, hb⟩
  · have hn : (rows f m.l) = [] := by
      obtain ⟨b, vs, kv, h⟩ := h
      refine h.inv.none_ fun hm => ht ?_
      unfold there
      rw [ho, if_neg (by simp), if_pos hm]
    refine (Disk.read_not w B d m f hf h ht).mono ?_
    rintro r w' ⟨rfl, rfl⟩
    rw [hn]
    exact ⟨none, 0, _, rfl, ⟨rfl, by simp⟩, by simp, Below.refl _ _⟩

end Go.Proofs.YtdaknfepcbooeaaGreat.Segm
