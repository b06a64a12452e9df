/-
  The law's own functions: few, record; its deeds, as they came in.
  What davitlaw07.knows comes to: true.
-/
import Derived.Test.YtdaknfepcbooeaaGreatMStoA
import Derived.Test.YtdaknfepcbooeaaGreatMSegC
import Derived.Test.YtdaknfepcbooeaaGreatMStoB
import Derived.Test.YtdaknfepcbooeaaGreatMStoC
section
namespace Go.Proofs.YtdaknfepcbooeaaGreat.Sto
open Go.RowKit
open Go.Proofs.YtdaknfepcbooeaaGreat.Disk (M Sc Dk Chg Dob Bo rows there)
open Go.Proofs.YtdaknfepcbooeaaGreat.Segm (cel_by IsDd)
set_option linter.unusedVariables false
set_option linter.unusedSimpArgs false

/-- The bytes of a record. -/
def recB (n : Nat) (b : BitVec 8) : List (BitVec 8) := (List.range n).map fun i => b + BitVec.ofNat 8 i
/-- How many they are. -/
def recN (n : Int) : Nat := if n < 0 then 0 else if 2000 < n then 9861 else n.toNat
theorem recB_len (n : Nat) (b : BitVec 8) : (recB n b).length = n := by simp [recB]
theorem recB_of {n : Nat} {b : BitVec 8} {bs : List (BitVec 8)} (h : bs.length = n ∧ ∀ j, j < n → bs[j]? = some (b + BitVec.ofNat 8 j)) : bs = recB n b := by
  apply List.ext_getElem?
  intro j
  by_cases hj : j < n
  · rw [h.2 j hj, recB, List.getElem?_map, List.getElem?_range hj]
    rfl
  · rw [List.getElem?_eq_none (by omega), List.getElem?_eq_none (by rw [recB_len]; omega)]
theorem set_next {n k : Nat} {b : BitVec 8} {bs : List (BitVec 8)} (h : bs.length = n ∧ ∀ j, j < k → bs[j]? = some (b + BitVec.ofNat 8 j)) (hk : k < n) :
    (bs.set k (b + BitVec.ofNat 8 k)).length = n ∧ ∀ j, j < k + 1 → (bs.set k (b + BitVec.ofNat 8 k))[j]? = some (b + BitVec.ofNat 8 j) := by
  refine ⟨by rw [List.length_set]; exact h.1, fun j hj => ?_⟩
  by_cases e : j = k
  · subst e
    rw [List.getElem?_set_self (by omega)]
  · rw [List.getElem?_set_ne (fun e' => e e'.symm), h.2 j (by omega)]
theorem u8_add (b : BitVec 8) (k : Nat) : (Value.int .u8 (((b.toNat : Int) + (k : Int)) % 256)) = v8 (b + BitVec.ofNat 8 k) := by
  unfold v8
  rw [BitVec.toNat_add, BitVec.toNat_ofNat]
  congr 1
  omega
/-- A record's bytes, in a block of the call's own. -/
def Recs7 (w : World) (n : Int) (b : BitVec 8) (r : Ending) (w' : World) : Prop := ∃ g k, w.heap.size ≤ g ∧ r = .returned (.slice (some ⟨g, 0, none⟩) k k) ∧ recN n = k ∧ Cel w' g 5 ((recB k b).map v8) ∧ k ≤ maxLen ∧ Below w.heap.size w w'
set_option maxRecDepth 100000 in
set_option maxHeartbeats 1000000 in
theorem record_neg (w : World) (n : Int) (b : BitVec 8) (hn : n < 0) : Calls Tryz.prog 10 #[.int .i64 n, v8 b] w (Recs7 w n b) := by
  have d1 : decide (n < 0) = true := by simpa using hn
  have hbb := b.isLt
  have HRN := Lib.hid (show recN n = 0 from (by unfold recN; rw [if_pos hn]))
  obtain ⟨zs, hz⟩ : ∃ zs, zs = List.replicate 0 (v8 0#8) := ⟨_, rfl⟩
  have hmk : (Instr.makeSlice 44 (.int .i64 0) (.int .i64 0)).run Tryz.prog w = .ok (.slice (some ⟨w.heap.size, 0, none⟩) 0 0) (w.alloc (.cells zs.toArray 5)) := by
    rw [hz]
    exact run_make_bytes (P := Tryz.prog) w 44 5 Frag.bytesT .i64 .i64 0 (by omega)
  have hcl := Cel.new w 5 zs
  have HC := Lib.hid hcl
  have HZ := Lib.hid hz
  clear hz hcl
  go_enter Tryz.func10, Tryz.ntmps10
  go_wp2_with fail
  clear hmk
  have hb0 : Below w.heap.size w (w.alloc (.cells zs.toArray 5)) := (Below.refl _ _).alloc (Nat.le_refl _) _
  have HB0 := Lib.hid hb0
  clear hb0
  go_loopw [6] (fun i wr => ∃ k : Nat, k ≤ 0 ∧ i = .int .i64 (k : Int) ∧ ∃ bs : List (BitVec 8), (bs.length = 0 ∧ ∀ j, j < k → bs[j]? = some (b + BitVec.ofNat 8 j)) ∧ Cel wr w.heap.size 5 (bs.map v8) ∧ Below w.heap.size w wr) (fun i _ => 0 - (intOf i).toNat)
  case atStart => exact ⟨0, Nat.zero_le _, rfl, List.replicate 0 0#8, ⟨List.length_replicate .., fun j hj => absurd hj (Nat.not_lt_zero _)⟩, by rw [List.map_replicate, ← HZ.out]; exact HC.out, HB0.out⟩
  case round =>
    obtain ⟨k, hk, rfl, bs, hbl, hc, hb⟩ := hrel
    have HC2 := Lib.hid hc
    have HBL := Lib.hid hbl
    have HB := Lib.hid hb
    clear hb hbl
    by_cases hlt : k < 0
    · exact absurd hlt (Nat.not_lt_zero _)
    · obtain rfl : k = 0 := by omega
      clear hc
      go_wp2_with fail
      go_ret
      exact ⟨w.heap.size, 0, Nat.le_refl _, rfl, HRN.out, by rw [← recB_of HBL.out]; exact HC2.out, by unfold maxLen; omega, HB.out⟩
set_option maxRecDepth 100000 in
set_option maxHeartbeats 1000000 in
theorem record_big (w : World) (n : Int) (b : BitVec 8) (hn : 2000 < n) : Calls Tryz.prog 10 #[.int .i64 n, v8 b] w (Recs7 w n b) := by
  have d1 : decide (n < 0) = false := by simp; omega
  have d2 : decide (2000 < n) = true := by simpa using hn
  have hbb := b.isLt
  have HRN := Lib.hid (show recN n = 9861 from (by unfold recN; rw [if_neg (by omega), if_pos hn]))
  obtain ⟨zs, hz⟩ : ∃ zs, zs = List.replicate 9861 (v8 0#8) := ⟨_, rfl⟩
  have hmk : (Instr.makeSlice 44 (.int .i64 9861) (.int .i64 9861)).run Tryz.prog w = .ok (.slice (some ⟨w.heap.size, 0, none⟩) 9861 9861) (w.alloc (.cells zs.toArray 5)) := by
    rw [hz]
    exact run_make_bytes (P := Tryz.prog) w 44 5 Frag.bytesT .i64 .i64 9861 (by omega)
  have hcl := Cel.new w 5 zs
  have HC := Lib.hid hcl
  have HZ := Lib.hid hz
  clear hz hcl
  go_enter Tryz.func10, Tryz.ntmps10
  go_wp2_with fail
  clear hmk
  have hb0 : Below w.heap.size w (w.alloc (.cells zs.toArray 5)) := (Below.refl _ _).alloc (Nat.le_refl _) _
  have HB0 := Lib.hid hb0
  clear hb0
  go_loopw [6] (fun i wr => ∃ k : Nat, k ≤ 9861 ∧ i = .int .i64 (k : Int) ∧ ∃ bs : List (BitVec 8), (bs.length = 9861 ∧ ∀ j, j < k → bs[j]? = some (b + BitVec.ofNat 8 j)) ∧ Cel wr w.heap.size 5 (bs.map v8) ∧ Below w.heap.size w wr) (fun i _ => 9861 - (intOf i).toNat)
  case atStart => exact ⟨0, Nat.zero_le _, rfl, List.replicate 9861 0#8, ⟨List.length_replicate .., fun j hj => absurd hj (Nat.not_lt_zero _)⟩, by rw [List.map_replicate, ← HZ.out]; exact HC.out, HB0.out⟩
  case round =>
    obtain ⟨k, hk, rfl, bs, hbl, hc, hb⟩ := hrel
    have HC2 := Lib.hid hc
    have HBL := Lib.hid hbl
    have HB := Lib.hid hb
    clear hb hbl
    by_cases hlt : k < 9861
    · have hcell : ∃ v, wr.cell? ⟨w.heap.size, k, none⟩ = some v := by
        rw [hc.cell k, List.getElem?_map, List.getElem?_eq_getElem (by rw [HBL.out.1]; exact hlt)]
        exact ⟨_, rfl⟩
      obtain ⟨v0, hcell⟩ := hcell
      have hfz := hc.free k
      have HSET := Lib.hid (fun u => hc.set k u)
      clear hc
      go_wp2_with fail
      rw [u8_add b k]
      go_roundw
      case rel =>
        refine ⟨k + 1, by omega, by go_num, bs.set k (b + BitVec.ofNat 8 k), set_next HBL.out hlt, ?_, HB.out.setCell (Nat.le_refl _) _⟩
        rw [List.map_set]
        exact HSET.out (v8 (b + BitVec.ofNat 8 k))
      case measure => simp [intOf]; omega
    · obtain rfl : k = 9861 := by omega
      clear hc
      go_wp2_with fail
      go_ret
      exact ⟨w.heap.size, 9861, Nat.le_refl _, rfl, HRN.out, by rw [← recB_of HBL.out]; exact HC2.out, by unfold maxLen; omega, HB.out⟩
set_option maxRecDepth 100000 in
set_option maxHeartbeats 1000000 in
theorem record_mid (w : World) (n : Nat) (b : BitVec 8) (hn : n ≤ 2000) : Calls Tryz.prog 10 #[.int .i64 (n : Int), v8 b] w (Recs7 w n b) := by
  have hbb := b.isLt
  have HRN := Lib.hid (show recN (n : Int) = n from (by unfold recN; rw [if_neg (by omega), if_neg (by omega)]; omega))
  obtain ⟨zs, hz⟩ : ∃ zs, zs = List.replicate n (v8 0#8) := ⟨_, rfl⟩
  have hmk : (Instr.makeSlice 44 (.int .i64 (n : Int)) (.int .i64 (n : Int))).run Tryz.prog w = .ok (.slice (some ⟨w.heap.size, 0, none⟩) n n) (w.alloc (.cells zs.toArray 5)) := by
    rw [hz]
    exact run_make_bytes (P := Tryz.prog) w 44 5 Frag.bytesT .i64 .i64 n (by omega)
  have hcl := Cel.new w 5 zs
  have HC := Lib.hid hcl
  have HZ := Lib.hid hz
  clear hz hcl
  go_enter Tryz.func10, Tryz.ntmps10
  go_wp2_with fail
  clear hmk
  have hb0 : Below w.heap.size w (w.alloc (.cells zs.toArray 5)) := (Below.refl _ _).alloc (Nat.le_refl _) _
  have HB0 := Lib.hid hb0
  clear hb0
  go_loopw [6] (fun i wr => ∃ k : Nat, k ≤ n ∧ i = .int .i64 (k : Int) ∧ ∃ bs : List (BitVec 8), (bs.length = n ∧ ∀ j, j < k → bs[j]? = some (b + BitVec.ofNat 8 j)) ∧ Cel wr w.heap.size 5 (bs.map v8) ∧ Below w.heap.size w wr) (fun i _ => n - (intOf i).toNat)
  case atStart => exact ⟨0, Nat.zero_le _, rfl, List.replicate n 0#8, ⟨List.length_replicate .., fun j hj => absurd hj (Nat.not_lt_zero _)⟩, by rw [List.map_replicate, ← HZ.out]; exact HC.out, HB0.out⟩
  case round =>
    obtain ⟨k, hk, rfl, bs, hbl, hc, hb⟩ := hrel
    have HC2 := Lib.hid hc
    have HBL := Lib.hid hbl
    have HB := Lib.hid hb
    clear hb hbl
    by_cases hlt : k < n
    · have hcell : ∃ v, wr.cell? ⟨w.heap.size, k, none⟩ = some v := by
        rw [hc.cell k, List.getElem?_map, List.getElem?_eq_getElem (by rw [HBL.out.1]; exact hlt)]
        exact ⟨_, rfl⟩
      obtain ⟨v0, hcell⟩ := hcell
      have hfz := hc.free k
      have HSET := Lib.hid (fun u => hc.set k u)
      clear hc
      go_wp2_with fail
      rw [u8_add b k]
      go_roundw
      case rel =>
        refine ⟨k + 1, by omega, by go_num, bs.set k (b + BitVec.ofNat 8 k), set_next HBL.out hlt, ?_, HB.out.setCell (Nat.le_refl _) _⟩
        rw [List.map_set]
        exact HSET.out (v8 (b + BitVec.ofNat 8 k))
      case measure => simp [intOf]; omega
    · obtain rfl : k = n := by omega
      clear hc
      go_wp2_with fail
      go_ret
      exact ⟨w.heap.size, k, Nat.le_refl _, rfl, HRN.out, by rw [← recB_of HBL.out]; exact HC2.out, by unfold maxLen; omega, HB.out⟩
theorem record_ok (w : World) (n : Int) (b : BitVec 8) : Calls Tryz.prog 10 #[.int .i64 n, v8 b] w (Recs7 w n b) := by
  by_cases h1 : n < 0
  · exact record_neg w n b h1
  · by_cases h2 : 2000 < n
    · exact record_big w n b h2
    · obtain ⟨k, rfl⟩ : ∃ k : Nat, n = (k : Int) := ⟨n.toNat, by omega⟩
      exact record_mid w k b (by omega)
def FewSays (l : Nat) (w : World) (r : Ending) (w' : World) : Prop := ∃ b, r = .returned (.bool b) ∧ (b = true → l ≤ 30) ∧ w = w'
set_option maxRecDepth 100000 in
set_option maxHeartbeats 1000000 in
theorem few_ok (w : World) (A : Option Addr) (l c : Nat) (hl : l ≤ maxLen) (h : 0 < l → ∃ x, A = some x ∧ ∀ i, i < l → ∃ D, IsDd w x i D) :
    Calls Tryz.prog 5 #[.slice A l c] w (FewSays l w) := by
  unfold maxLen at hl
  have H := Lib.hid h
  clear h
  go_enter Tryz.func5, Tryz.ntmps5
  go_wp2_with fail
  go_loop [3] (fun i => ∃ k : Nat, k ≤ l ∧ i = .int .i64 k) (fun i => l - (Go.RowKit.intOf i).toNat)
  case atStart => exact ⟨0, Nat.zero_le _, rfl⟩
  case round =>
    obtain ⟨k, hk, rfl⟩ := hrel
    by_cases hlt : k < l
    · obtain ⟨x, rfl, hD⟩ := H.out (by omega)
      obtain ⟨D, hd⟩ := hD k hlt
      obtain ⟨_, _, _, c4⟩ := hd.at_ (Below.refl _ _)
      have hkl := hd.len
      unfold maxLen at hkl
      clear hD hd
      by_cases hbig : 60 < D.ks.length
      · go_wp2_with fail
        go_ret
        exact ⟨false, rfl, by simp, rfl⟩
      · go_wp2_with fail
        go_round
        case rel => exact ⟨k + 1, by omega, by go_num⟩
        case measure => simp [Go.RowKit.intOf]; omega
    · obtain rfl : k = l := by omega
      go_wp2_with fail
      go_ret
      exact ⟨_, rfl, fun h => (by have h2 : (k : Int) ≤ 30 := of_decide_eq_true h; omega), rfl⟩

end Go.Proofs.YtdaknfepcbooeaaGreat.Sto
end

section
namespace Go.Proofs.YtdaknfepcbooeaaGreat.Sto
open Go.RowKit
open Go.Proofs.YtdaknfepcbooeaaGreat.Disk (M Sc Dk Rs Bo Chg Dob rows there up crash lost Ok Inv)
open Go.Proofs.YtdaknfepcbooeaaGreat.Segm (Gm Sg Sob secsAll)
open Go.Proofs.YtdaknfepcbooeaaGreat.Frag (Rd Rv)
set_option linter.unusedVariables false
set_option linter.unusedSimpArgs false

theorem begin_ep {m : M} {s : St} {b : List (BitVec 8)} (h : (beginT m s b).1 = 0) : (beginT m s b).2.2.ep = s.ep + 1#32 := by
  unfold beginT at *
  split
  · next h1 => rw [if_pos h1] at h; exact absurd h (show ¬ (8 : Int) = 0 by decide)
  · next h1 =>
    rw [if_neg h1] at h
    split
    · next h2 => rw [if_pos h2] at h; exact absurd h (show ¬ (3 : Int) = 0 by decide)
    · next h2 =>
      rw [if_neg h2] at h
      split
      · rfl
      · next h3 => rw [if_neg h3] at h; exact absurd h h3
theorem append_ep (m : M) (s : St) (b : List (BitVec 8)) : (appendT m s b).2.2.ep = s.ep := by
  unfold appendT
  split
  · rfl
  · split
    · rfl
    · split <;> rfl
/-- What a store's segment is like. -/
theorem J.seg {p : Bool} {R : Nat} {keep : List Bool} {k : Nat} {m : M} {s : St} {rs : List (List (BitVec 8))} {n : Nat} (h : J p R keep k m s rs n) : ∀ g, s.g = some g → g.ep = s.ep ∧ g.file = fileOf s.ep ∧ g.size ≤ 6 * k := by
  intro g hg
  by_cases he : s.ep = 0#32
  · rw [(h.zero he).1] at hg; cases hg
  · obtain ⟨h1, _, _, vs, h2, h3⟩ := h.pos he
    rw [h1] at hg
    cases hg
    refine ⟨rfl, rfl, ?_⟩
    show (secsAll s.ep rs).length ≤ _
    have h4 := congrArg List.length h2
    have h5 := congrArg List.length h3
    have h6 := Disk.rows_len (fileOf s.ep) m.l
    have h7 := h.on.few
    rw [List.length_append] at h4 h5
    simp only [Segm.ks, List.length_map] at h4
    omega
theorem J.ok_ {p : Bool} {R : Nat} {keep : List Bool} {k : Nat} {m : M} {s : St} {rs : List (List (BitVec 8))} {n : Nat} (h : J p R keep k m s rs n) (hk : keep.length ≤ maxLen) : Ok m := fun a ks e => by rw [h.on.plan a ks e]; exact hk
/-- A byte that is written out. -/
theorem by_lit (w : World) (b : BitVec 8) (fz : Nat × Nat) : By (w.alloc (.cells #[v8 b] 5 fz)) (some ⟨w.heap.size, 0, none⟩) 1 [b] := by
  refine ⟨rfl, fun _ => ⟨_, rfl, ⟨#[v8 b], fz, by show (w.heap.push _)[w.heap.size]? = _; exact Array.getElem?_push_size⟩, fun j hj => ?_⟩⟩
  obtain rfl : j = 0 := by omega
  have h := (Bs.lit w 5 fz #[v8 b] [b] rfl 1 rfl).2 (by decide)
  obtain ⟨ad, e, _, hc⟩ := h
  cases e
  exact hc 0 (by decide)
def m20 : M := ⟨20, [], [], false, none⟩
def s00 : St := ⟨0#32, none, false⟩
theorem open20 : openT m20 = (0, 0#32, []) := by
  unfold openT
  rw [if_neg (by decide), if_pos (by simp [m20])]
theorem kj0 : J true 20 [] 0 m20 s00 [] 0 := J.start true 20 [] m20 rfl (Inv.new 20 (by decide) (by decide)) rfl (by intro k ks h; cases h) rfl (fun _ => rfl)
theorem kj1 : ∃ m1 s1, beginT m20 s00 [97#8] = (0, m1, s1) ∧ J true 20 [] 1 m1 s1 [[97#8]] 1 ∧ s1.ep = 1#32 := by
  rcases begin_goes7 kj0 [97#8] (by decide) (by decide) (by decide) with ⟨_, _, h, _⟩ | ⟨m1, s1, h1, h2⟩
  · cases h
  · refine ⟨m1, s1, h1, h2, ?_⟩
    have h3 := begin_ep (m := m20) (s := s00) (b := [97#8]) (by rw [h1])
    rw [h1] at h3
    exact h3
theorem kj2 {m1 : M} {s1 : St} (h : J true 20 [] 1 m1 s1 [[97#8]] 1) (he : s1.ep = 1#32) : ∃ m2 s2, appendT m1 s1 [98#8] = (0, m2, s2) ∧ J true 20 [] 2 m2 s2 [[97#8], [98#8]] 1 ∧ s2.ep = 1#32 := by
  rcases append_goes7 h [98#8] (by decide) (by decide) (by decide) with ⟨_, _, h, _⟩ | ⟨h, _⟩ | ⟨m1', s1', h1, h2⟩
  · cases h
  · rw [he] at h; exact absurd h (by decide)
  · refine ⟨m1', s1', h1, h2, ?_⟩
    have h3 := append_ep m1 s1 [98#8]
    rw [h1] at h3
    exact h3.trans he
theorem kj3 {m2 : M} {s2 : St} (h : J true 20 [] 2 m2 s2 [[97#8], [98#8]] 1) (he : s2.ep = 1#32) : ∃ m3, syncT m2 s2 = (0, m3, s2) ∧ J true 20 [] 3 m3 s2 [[97#8], [98#8]] 2 := by
  rcases sync_goes7 h (by decide) with ⟨_, h, _⟩ | ⟨h, _⟩ | ⟨m3, h1, h2⟩
  · cases h
  · rw [he] at h; exact absurd h (by decide)
  · exact ⟨m3, h1, h2⟩
theorem kj4 {m3 : M} {s2 : St} (h : J true 20 [] 3 m3 s2 [[97#8], [98#8]] 2) (he : s2.ep = 1#32) : openT (up (crash m3 [])) = (0, 1#32, [[97#8], [98#8]]) ∧ ∀ f, (rows f (up (crash m3 [])).l).length ≤ 200 := by
  obtain ⟨r, h1, h2, h3⟩ := h.jr.read h.on.inv []
  have hc : crash m3 [] = lost m3 [] := by unfold crash; rw [h.on.off]; rfl
  have hr : r = 2 := by simp at h2; omega
  subst hr
  rw [hc, h3, he]
  refine ⟨rfl, fun f => ?_⟩
  have h4 := Disk.rows_len f (up (lost m3 [])).l
  have h5 : (up (lost m3 [])).l.length = m3.l.length := (Disk.passes_bound [] m3.files m3.l).2
  have h6 := h.on.few
  omega

set_option maxRecDepth 100000 in
set_option maxHeartbeats 2000000 in
theorem knows (w : World) : Calls Tryz.prog 6 #[] w fun e w' => e = .returned (.bool true) ∧ Below w.heap.size w w' := by
  have kc := fun (w : World) (C : Array Value) (n c : Nat) => Lib.run_convert_bytes_const (P := Tryz.prog) w 44 5 C n c Tryz.underlying44 Tryz.underlying5
  obtain ⟨m1, s1, e1, j1, p1⟩ := kj1
  obtain ⟨m2, s2, e2, j2, p2⟩ := kj2 j1 p1
  obtain ⟨m3, e3, j3⟩ := kj3 j2 p2
  obtain ⟨e4, r4⟩ := kj4 j3 p2
  have J1 := Lib.hid (⟨e1, j1, p1⟩ : beginT m20 s00 [97#8] = (0, m1, s1) ∧ J true 20 [] 1 m1 s1 [[97#8]] 1 ∧ s1.ep = 1#32)
  have J2 := Lib.hid (⟨e2, j2, p2⟩ : appendT m1 s1 [98#8] = (0, m2, s2) ∧ J true 20 [] 2 m2 s2 [[97#8], [98#8]] 1 ∧ s2.ep = 1#32)
  have J3 := Lib.hid (⟨e3, j3⟩ : syncT m2 s2 = (0, m3, s2) ∧ J true 20 [] 3 m3 s2 [[97#8], [98#8]] 2)
  have J4 := Lib.hid (⟨e4, r4⟩ : openT (up (crash m3 [])) = (0, 1#32, [[97#8], [98#8]]) ∧ ∀ f, (rows f (up (crash m3 [])).l).length ≤ 200)
  clear e1 j1 p1 e2 j2 p2 e3 j3 e4 r4
  go_enter Tryz.func6, Tryz.ntmps6
  go_wp2_with fail
  refine (Disk.new_ok w w.heap.size 20 (Nat.le_refl _) (by omega) (by omega)).mono ?_
  rintro r w1 ⟨d, rfl, hd1, hb1⟩
  have hd1' : Dk w1 w.heap.size d m20 := hd1
  have con := open_call w1 w.heap.size d m20 hd1' (fun f => Nat.zero_le _)
  rw [open20] at con
  have HD1 := Lib.hid hd1'
  have HB1 := Lib.hid hb1
  clear hd1 hb1 hd1'
  go_wp2_with fail
  refine con.mono ?_
  clear con
  rintro r w2 hos
  obtain ⟨q, A2, c2, rs2, hq, rfl, hrs2, hown2, hs2⟩ := hos.2 rfl
  obtain rfl : rs2 = [] := List.map_eq_nil_iff.1 hrs2
  have hB2 : Below w.heap.size w w2 := HB1.out.trans (hown2.low.mono HB1.out.size)
  have hqw : w.heap.size ≤ q := Nat.le_trans HB1.out.size hq
  have HS2 := Lib.hid (show Ss w2 w.heap.size q d s00 from hs2)
  have HD2 := Lib.hid (HD1.out.below hown2.low)
  have HB2 := Lib.hid hB2
  have con := epoch_call w2 w.heap.size q d s00 HS2.out
  replace con : Calls Tryz.prog 29 #[.pointer (some ⟨q, 0, none⟩)] w2 fun e w' => e = .returned (.int .u32 0) ∧ w2 = w' := con
  clear hos hrs2 hown2 hs2 hB2 hq
  simp only [List.length_nil]
  go_wp2_with ((go_at_call 29; refine con.mono ?_; rintro e w' ⟨rfl, rfl⟩))
  have con := append_call (w2.alloc (.cells #[v8 120#8] 5 (1, 2))) w.heap.size q d s00 m20 (some ⟨w2.heap.size, 0, none⟩) 1 1 [120#8] (HD2.out.below (below_at _ _)) (HS2.out.below (below_at _ _)) (Nat.le_trans HB2.out.size (below_at _ _).size) hqw (by_lit _ _ _) (by decide) (by decide) (fun g h => by cases h)
  refine Calls.mono con ?_
  clear con
  rintro r w3 ⟨rfl, hd3, hs3, hc3⟩
  have hC3 : Chg w.heap.size Stb w w3 := ((Chg.of_below HB2.out).trans (Chg.of_below (below_at _ _))).trans hc3
  have HD3 := Lib.hid (show Dk w3 w.heap.size d m20 from hd3)
  have HS3 := Lib.hid (show Ss w3 w.heap.size q d s00 from hs3)
  have HC3 := Lib.hid hC3
  clear hd3 hs3 hc3 hC3 HD2 HS2 HB2
  dsimp only
  have ev3 : (appendT m20 s00 [120#8]).1 = 4 := rfl
  rw [ev3]
  clear ev3
  go_wp2_with fail
  have con := begin_call (w3.alloc (.cells #[v8 97#8] 5 (1, 2))) w.heap.size q d s00 m20 (some ⟨w3.heap.size, 0, none⟩) 1 1 [97#8] (HD3.out.below (below_at _ _)) (HS3.out.below (below_at _ _)) (Nat.le_trans HC3.out.size (below_at _ _).size) hqw (by_lit _ _ _) (by decide) (by decide) (fun k ks h => by cases h) (fun g h => by cases h)
  rw [J1.out.1] at con
  refine Calls.mono con ?_
  clear con
  rintro r w4 ⟨rfl, hd4, hs4, hc4⟩
  have HD4 := Lib.hid (show Dk w4 w.heap.size d m1 from hd4)
  have HS4 := Lib.hid (show Ss w4 w.heap.size q d s1 from hs4)
  have HC4 := Lib.hid ((HC3.out.trans (Chg.of_below (below_at _ _))).trans hc4)
  clear hd4 hs4 hc4 HD3 HS3 HC3
  dsimp only
  go_wp2_with fail
  have con := append_call (w4.alloc (.cells #[v8 98#8] 5 (1, 2))) w.heap.size q d s1 m1 (some ⟨w4.heap.size, 0, none⟩) 1 1 [98#8] (HD4.out.below (below_at _ _)) (HS4.out.below (below_at _ _)) (Nat.le_trans HC4.out.size (below_at _ _).size) hqw (by_lit _ _ _) (by decide) (by decide) (fun g h => by
    obtain ⟨_, h2, h3⟩ := J1.out.2.1.seg g h
    rw [h2]
    exact ⟨(fileOf_fit7 _).2, by omega⟩)
  rw [J2.out.1] at con
  refine Calls.mono con ?_
  clear con
  rintro r w5 ⟨rfl, hd5, hs5, hc5⟩
  have HD5 := Lib.hid (show Dk w5 w.heap.size d m2 from hd5)
  have HS5 := Lib.hid (show Ss w5 w.heap.size q d s2 from hs5)
  have HC5 := Lib.hid ((HC4.out.trans (Chg.of_below (below_at _ _))).trans hc5)
  clear hd5 hs5 hc5 HD4 HS4 HC4
  dsimp only
  go_wp2_with fail
  have con := sync_call w5 w.heap.size q d s2 m2 HD5.out HS5.out HC5.out.size hqw (fun g h => by
    obtain ⟨_, h2, _⟩ := J2.out.2.1.seg g h
    rw [h2]
    exact fileOf_fit7 _)
  rw [J3.out.1] at con
  refine Calls.mono con ?_
  clear con
  rintro r w6 ⟨rfl, hd6, hs6, hc6⟩
  have HD6 := Lib.hid (show Dk w6 w.heap.size d m3 from hd6)
  have HC6 := Lib.hid (HC5.out.trans hc6)
  clear hd6 hs6 hc6 HD5 HS5 HC5
  dsimp only
  go_wp2_with fail
  have con := Disk.crash_call w6 w.heap.size d m3 (.slice none 0 0) [] HD6.out (Bo.nil_ _ _) HC6.out.size (by decide)
  refine con.mono ?_
  clear con
  rintro r w7 ⟨rfl, hd7, hc7⟩
  have HD7 := Lib.hid hd7
  have HC7 := Lib.hid (HC6.out.trans (hc7.mono (Nat.le_refl _) dob_stb))
  clear hd7 hc7 HD6 HC6
  go_wp2_with fail
  refine (Disk.up_call w7 w.heap.size d (crash m3 []) HD7.out).mono ?_
  rintro r w8 ⟨rfl, hd8, hc8⟩
  have con := open_call w8 w.heap.size d (up (crash m3 [])) hd8 J4.out.2
  rw [J4.out.1] at con
  have HC8 := Lib.hid (HC7.out.trans (hc8.mono (Nat.le_refl _) dob_stb))
  clear hd8 hc8 HD7 HC7
  go_wp2_with fail
  refine con.mono ?_
  clear con
  rintro r w9 hos
  obtain ⟨q9, A9, c9, rs, hq9, rfl, hrs, hown, hs9⟩ := hos.2 rfl
  have hrl : rs.length = 2 := by have := congrArg List.length hrs; simpa using this
  obtain ⟨x0, x1, rfl⟩ : ∃ x0 x1, rs = [x0, x1] := by
    match rs, hrl with
    | [x0, x1], _ => exact ⟨x0, x1, rfl⟩
  have hx0 : x0.bs = [97#8] := by
    have h : [x0.bs, x1.bs] = [[97#8], [98#8]] := hrs
    injection h
  have hx1 : x1.bs = [98#8] := by
    have h : [x0.bs, x1.bs] = [[97#8], [98#8]] := hrs
    injection h with _ h
    injection h
  obtain ⟨x0b, x0A, x0c⟩ := x0
  obtain ⟨x1b, x1A, x1c⟩ := x1
  dsimp only at hx0 hx1
  subst hx0 hx1
  obtain ⟨g9, cap9, hv9, hg9, hl9⟩ := hown.own.form (by simp)
  have hA9 : A9 = some ⟨g9, 0, none⟩ := by injection hv9
  subst hA9
  have hc0 : w9.cell? ⟨g9, 0, none⟩ = some (.slice x0A 1 x0c) := by
    have := hown.own.cells (g := g9) rfl 0 _ rfl
    rwa [add_row] at this
  have hc1 : w9.cell? ⟨g9, 1, none⟩ = some (.slice x1A 1 x1c) := by
    have := hown.own.cells (g := g9) rfl 1 _ rfl
    rwa [add_row] at this
  have hst0 : (convert 44 9 (.slice x0A 1 x0c)).run Tryz.prog w9 = .ok (.string ⟨#[97]⟩) w9 := Frag.toStr (hown.by_ ⟨[97#8], x0A, x0c⟩ (by simp)).rd x0c
  have hst1 : (convert 44 9 (.slice x1A 1 x1c)).run Tryz.prog w9 = .ok (.string ⟨#[98]⟩) w9 := Frag.toStr (hown.by_ ⟨[98#8], x1A, x1c⟩ (by simp)).rd x1c
  have HC9 := Lib.hid (HC8.out.trans (Chg.of_below hown.low))
  have hlen2 : ([(⟨[97#8], x0A, x0c⟩ : Rv), ⟨[98#8], x1A, x1c⟩]).length = 2 := rfl
  simp only [hlen2]
  have con2 := begin_nil w9 (.slice none 0 0)
  have con1 := epoch_call w9 w.heap.size q9 d _ hs9
  replace con1 : Calls Tryz.prog 29 #[.pointer (some ⟨q9, 0, none⟩)] w9 fun e w' => e = .returned (.int .u32 1) ∧ w9 = w' := con1
  clear hos hrs hown hv9 hg9 hl9 hrl hlen2 HC8 hs9
  go_wp2_with (first | (go_at_call 29; refine con1.mono ?_; rintro e w' ⟨rfl, rfl⟩) | (go_at_call 11; refine con2.mono ?_; rintro e w' ⟨rfl, rfl⟩))
  go_ret
  exact ⟨rfl, HC9.out.below (Nat.le_refl _)⟩
end Go.Proofs.YtdaknfepcbooeaaGreat.Sto
end
