/-
  The document's add.
-/
import Derived.Test.YtbomgglmplecpaaGreatMDiskRefOps
namespace Go.Proofs.YtbomgglmplecpaaGreat.Disk
open Go.RowKit Go.Proofs.YtbomgglmplecpaaGreat.Ord
set_option linter.unusedVariables false
set_option linter.unusedSimpArgs false

set_option maxRecDepth 100000 in
set_option maxHeartbeats 1000000 in
theorem radd_here (w : World) (B d : Nat) (m : M) (f : Int) (h : Fu w B d m) (hs : m.files.Pairwise (· < ·)) (hl : m.files.length ≤ 1000) (hf : f ∈ m.files) :
    Calls Tryz.prog 56 #[.pointer (some ⟨d, 0, none⟩), .int .i64 f] w fun r w' => r = .returned (.tuple #[]) ∧ Fu w' B d { m with files := add f m.files } ∧ Chg B Rob w w' := by
  rw [add_here f _ hs hf]
  have H := Lib.hid h
  obtain ⟨A, c, lv, kv, left, h⟩ := h
  have k1 := h.cel.cell 1
  have con := at_ok w d m.files f A c k1 h.files hl
  have e : atI f m.files = (m.files.idxOf f : Nat) := if_pos hf
  rw [e] at con
  clear h e hf k1 hs
  go_enter Tryz.func56, Tryz.ntmps56
  go_wp2_with (first | (go_at_call 28; refine con.mono ?_; rintro e w' ⟨rfl, rfl⟩))
  exact bodyPost_ret (results_none rfl _ _ _) rfl ⟨rfl, H.out, Chg.refl _ _ _⟩

set_option maxRecDepth 100000 in
set_option maxHeartbeats 3000000 in
theorem radd_new (w : World) (B d : Nat) (m : M) (f : Int) (h : Fu w B d m) (hs : m.files.Pairwise (· < ·)) (hl : m.files.length ≤ 1000) (hf : f ∉ m.files) :
    Calls Tryz.prog 56 #[.pointer (some ⟨d, 0, none⟩), .int .i64 f] w fun r w' => r = .returned (.tuple #[]) ∧ Fu w' B d { m with files := add f m.files } ∧ Chg B Rob w w' := by
  obtain ⟨A, c, lv, kv, left, h⟩ := h
  obtain ⟨fs, hfs⟩ : ∃ fs, fs = m.files := ⟨_, rfl⟩
  have k1 := h.cel.cell 1
  have con := at_ok w d m.files f A c k1 h.files hl
  have e : atI f m.files = -1 := if_neg hf
  rw [e] at con
  have hcel := h.cel
  have hcap := h.cap
  have hfi := h.files
  have hadd : add f fs = ins f fs := by unfold add; rw [without_self f _ (by rw [hfs]; exact hf)]
  rw [← hfs] at hcel hcap hfi hl hs hf
  have H := Lib.hid h
  have HC := Lib.hid hcel
  have HI := Lib.hid hfi
  have HFS := Lib.hid hfs
  have HF := Lib.hid hf
  have HS := Lib.hid hs
  have HADD := Lib.hid hadd
  clear k1
  have k1 := hcel.cell 1
  clear h hcel hfi hfs e hf hs hadd
  go_enter Tryz.func56, Tryz.ntmps56
  go_wp2_with (first | (go_at_call 28; refine con.mono ?_; rintro e w' ⟨rfl, rfl⟩))
  clear con
  go_loop [4] (fun i => ∃ k : Nat, k ≤ fs.length ∧ i = .int .i64 k ∧ ∀ x ∈ fs.take k, x < f) (fun i => fs.length - (Go.RowKit.intOf i).toNat)
  case atStart => exact ⟨0, Nat.zero_le _, rfl, by simp⟩
  case round =>
    obtain ⟨k, hk, rfl, hlo⟩ := hrel
    have HLO := Lib.hid hlo
    clear hlo
    by_cases hgo : ∃ g, fs[k]? = some g ∧ g < f
    · obtain ⟨g, hg, hgf⟩ := hgo
      have hlt : k < fs.length := (List.getElem?_eq_some_iff.1 hg).1
      obtain ⟨ad, rfl, _, hcl⟩ := HI.out (by omega)
      have hc := hcl k g hg
      have ht : fs.take (k + 1) = fs.take k ++ [g] := by
        obtain ⟨hj2, e⟩ := List.getElem?_eq_some_iff.1 hg
        rw [List.take_succ_eq_append_getElem hj2, e]
      have HT := Lib.hid ht
      clear ht hcl hg
      go_wp2_with fail
      go_round
      case rel => exact ⟨k + 1, by omega, by go_num, by rw [HT.out]; intro x hx; rcases List.mem_append.1 hx with hx | hx; exact HLO.out x hx; rw [List.mem_singleton.1 hx]; exact hgf⟩
      case measure => simp [Go.RowKit.intOf]; omega
    · have hins : ins f fs = fs.take k ++ f :: fs.drop k := ins_at hk HLO.out fun x hx => by
        have h1 : ¬ x < f := fun h => hgo ⟨x, hx, h⟩
        have h2 : x ≠ f := fun e => HF.out (e ▸ List.mem_of_getElem? hx)
        omega
      have HINS := Lib.hid hins
      have hwalk : (k < fs.length → ∃ ad g, A = some ad ∧ w.cell? (ad.add k) = some (.int .i64 g) ∧ ¬ g < f) := fun hlt => by
        obtain ⟨ad, e, _, hcl⟩ := HI.out (by omega)
        exact ⟨ad, _, e, hcl k _ (List.getElem?_eq_getElem hlt), fun h => hgo ⟨_, List.getElem?_eq_getElem hlt, h⟩⟩
      clear hins hgo
      obtain ⟨X, hX⟩ : ∃ X, X = if c = k then A else A.map (·.add (k * 1)) := ⟨_, rfl⟩
      obtain ⟨r, hr⟩ : ∃ r, r = fs.length - k := ⟨_, rfl⟩
      have HRR := Lib.hid hr
      clear hr
      have HX := Lib.hid hX
      have HW := Lib.hid hwalk
      clear hX hwalk
      have o0 : (w.alloc (.cells #[] 3)).ownsRow w.heap.size 3 1 (.slice (some ⟨w.heap.size, 0, none⟩) 0 0) 0 [] := World.ownsRow_lit w #[] 0 (Nat.le_refl _) (Nat.zero_le _) rfl
      have s0 : Src (w.alloc (.cells #[] 3)) A k ((fs.take k).map (Value.int .i64)) := by
        have := ((HI.out.take k).below ((Below.refl _ _).alloc (Nat.le_refl _) (.cells #[] 3))).src
        rw [List.length_take, Nat.min_eq_left hk] at this
        exact this
      have k1a : (w.alloc (.cells #[] 3)).cell? ⟨d, 1, none⟩ = some (.slice A fs.length c) := (Cel.alloc HC.out _).cell 1
      have O0 := Lib.hid o0
      have S0 := Lib.hid s0
      clear o0 s0
      by_cases hlt : k < fs.length
      · obtain ⟨ad, g, hA, hc, hgf⟩ := HW.out hlt
        subst hA
        go_wp2_with (first   | (refine wpList_slice rfl 31 (.tmp 34) none (some (.tmp 35)) none rfl (.slice (some ad) k c) ?_ ?_; exact run_cutTo _ undI sizeI (some ad) fs.length c k .i64 (by omega))   | (at_builtin; refine wpList_append_any _ rfl (.tmp 30) (.tmp 36) 31 rfl w.heap.size 3 intsT _ 0 [] rfl O0.out (some ad) k c ((fs.take k).map (Value.int .i64)) rfl (by rw [List.length_map, List.length_take]; omega) S0.out (ints_one _) k _ (Nat.zero_add _) (List.nil_append _) (by unfold maxLen; omega) (by omega) (by simp) ?_; intro A1 c1 w1 o1 g1 _; have hb1 : Below w.heap.size w w1 := ((Below.refl _ _).alloc (Nat.le_refl _) _).grown g1 (by simp) (by intro q hq; cases hq; exact Nat.le_refl _); have B1 := Lib.hid hb1; have O1 := Lib.hid o1; have h1z := hb1.size; clear hb1 o1 g1)   | (at_builtin; refine wpList_append_any _ rfl (.tmp 38) (.tmp 40) 31 rfl w.heap.size 3 intsT _ k _ rfl (World.ownsRow.alloc O1.out _) (some ⟨w1.heap.size, 0, none⟩) 1 1 [.int .i64 f] rfl rfl (src_new w1 3 (.int .i64 f)) (by simp [Value.oneCell']) (k + 1) _ rfl rfl (by unfold maxLen; omega) (by omega) (by simp; omega) ?_; intro A2 c2 w2 o2 g2 _; have hb2 : Below w.heap.size w w2 := (B1.out.alloc B1.out.size _).grown g2 (by simp; omega) (fun q hq => (World.ownsRow.lt O1.out q hq).1); have B2 := Lib.hid hb2; have O2 := Lib.hid o2; have h2z := hb2.size; have k12 := (Cel.below HC.out hb2 HC.out.lt).cell 1; clear hb2 o2 g2)   | (refine wpList_slice rfl 31 (.tmp 47) (some (.tmp 48)) none none rfl (.slice X r (c - k)) ?_ ?_; rw [HX.out, HRR.out]; exact run_cutFrom _ undI sizeI (some ad) fs.length c k .i64 (by omega))   | (at_builtin; refine wpList_append_any _ rfl (.tmp 43) (.tmp 49) 31 rfl w.heap.size 3 intsT _ (k + 1) _ rfl O2.out X r (c - k) ((fs.drop k).map (Value.int .i64)) rfl (by rw [List.length_map, List.length_drop, Nat.mul_one, HRR.out]) (by have := ((HI.out.cut (k := k) hcap).below B2.out).src; rw [List.length_drop] at this; rw [HX.out, HRR.out, Nat.mul_one]; exact this) (ints_one _) (fs.length + 1) ((ins f fs).map (Value.int .i64)) (by have := HRR.out; omega) (by rw [HINS.out]; simp) (by unfold maxLen; omega) (by omega) h2z ?_; intro A3 c3 w3 o3 g3 _; have hb3 : Below w.heap.size w w3 := B2.out.grown g3 h2z (fun q hq => (World.ownsRow.lt O2.out q hq).1); have B3 := Lib.hid hb3; have O3 := Lib.hid o3; have k13 := (Cel.below HC.out hb3 HC.out.lt).cell 1; have f13 := (Cel.below HC.out hb3 HC.out.lt).free 1; clear hb3 o3 g3))
        go_end0
        have hlen : (add f fs).length = fs.length + 1 := by rw [HADD.out, HINS.out, List.length_append, List.length_cons, List.length_take, List.length_drop]; omega
        have o4 : w3.ownsRow w.heap.size 3 1 (.slice A3 (add f fs).length c3) (add f fs).length ((add f fs).map (Value.int .i64)) := by rw [hlen, HADD.out]; exact O3.out
        obtain ⟨q1, q2⟩ := H.out.setFiles B3.out A3 c3 w.heap.size (add f fs) o4
        rw [hlen] at q1 q2
        rw [← HFS.out]
        exact ⟨rfl, ⟨_, _, _, _, _, q1⟩, q2⟩
      · have hge : fs.length ≤ k := by omega
        go_wp2_with (first   | (refine wpList_slice rfl 31 (.tmp 34) none (some (.tmp 35)) none rfl (.slice A k c) ?_ ?_; exact run_cutTo _ undI sizeI (A) fs.length c k .i64 (by omega))   | (at_builtin; refine wpList_append_any _ rfl (.tmp 30) (.tmp 36) 31 rfl w.heap.size 3 intsT _ 0 [] rfl O0.out (A) k c ((fs.take k).map (Value.int .i64)) rfl (by rw [List.length_map, List.length_take]; omega) S0.out (ints_one _) k _ (Nat.zero_add _) (List.nil_append _) (by unfold maxLen; omega) (by omega) (by simp) ?_; intro A1 c1 w1 o1 g1 _; have hb1 : Below w.heap.size w w1 := ((Below.refl _ _).alloc (Nat.le_refl _) _).grown g1 (by simp) (by intro q hq; cases hq; exact Nat.le_refl _); have B1 := Lib.hid hb1; have O1 := Lib.hid o1; have h1z := hb1.size; clear hb1 o1 g1)   | (at_builtin; refine wpList_append_any _ rfl (.tmp 38) (.tmp 40) 31 rfl w.heap.size 3 intsT _ k _ rfl (World.ownsRow.alloc O1.out _) (some ⟨w1.heap.size, 0, none⟩) 1 1 [.int .i64 f] rfl rfl (src_new w1 3 (.int .i64 f)) (by simp [Value.oneCell']) (k + 1) _ rfl rfl (by unfold maxLen; omega) (by omega) (by simp; omega) ?_; intro A2 c2 w2 o2 g2 _; have hb2 : Below w.heap.size w w2 := (B1.out.alloc B1.out.size _).grown g2 (by simp; omega) (fun q hq => (World.ownsRow.lt O1.out q hq).1); have B2 := Lib.hid hb2; have O2 := Lib.hid o2; have h2z := hb2.size; have k12 := (Cel.below HC.out hb2 HC.out.lt).cell 1; clear hb2 o2 g2)   | (refine wpList_slice rfl 31 (.tmp 47) (some (.tmp 48)) none none rfl (.slice X r (c - k)) ?_ ?_; rw [HX.out, HRR.out]; exact run_cutFrom _ undI sizeI (A) fs.length c k .i64 (by omega))   | (at_builtin; refine wpList_append_any _ rfl (.tmp 43) (.tmp 49) 31 rfl w.heap.size 3 intsT _ (k + 1) _ rfl O2.out X r (c - k) ((fs.drop k).map (Value.int .i64)) rfl (by rw [List.length_map, List.length_drop, Nat.mul_one, HRR.out]) (by have := ((HI.out.cut (k := k) hcap).below B2.out).src; rw [List.length_drop] at this; rw [HX.out, HRR.out, Nat.mul_one]; exact this) (ints_one _) (fs.length + 1) ((ins f fs).map (Value.int .i64)) (by have := HRR.out; omega) (by rw [HINS.out]; simp) (by unfold maxLen; omega) (by omega) h2z ?_; intro A3 c3 w3 o3 g3 _; have hb3 : Below w.heap.size w w3 := B2.out.grown g3 h2z (fun q hq => (World.ownsRow.lt O2.out q hq).1); have B3 := Lib.hid hb3; have O3 := Lib.hid o3; have k13 := (Cel.below HC.out hb3 HC.out.lt).cell 1; have f13 := (Cel.below HC.out hb3 HC.out.lt).free 1; clear hb3 o3 g3))
        go_end0
        have hlen : (add f fs).length = fs.length + 1 := by rw [HADD.out, HINS.out, List.length_append, List.length_cons, List.length_take, List.length_drop]; omega
        have o4 : w3.ownsRow w.heap.size 3 1 (.slice A3 (add f fs).length c3) (add f fs).length ((add f fs).map (Value.int .i64)) := by rw [hlen, HADD.out]; exact O3.out
        obtain ⟨q1, q2⟩ := H.out.setFiles B3.out A3 c3 w.heap.size (add f fs) o4
        rw [hlen] at q1 q2
        rw [← HFS.out]
        exact ⟨rfl, ⟨_, _, _, _, _, q1⟩, q2⟩
theorem radd_ok (w : World) (B d : Nat) (m : M) (f : Int) (h : Fu w B d m) (hs : m.files.Pairwise (· < ·)) (hl : m.files.length ≤ 1000) :
    Calls Tryz.prog 56 #[.pointer (some ⟨d, 0, none⟩), .int .i64 f] w fun r w' => r = .returned (.tuple #[]) ∧ Fu w' B d { m with files := add f m.files } ∧ Chg B Rob w w' := by
  by_cases hf : f ∈ m.files
  · exact radd_here w B d m f h hs hl hf
  · exact radd_new w B d m f h hs hl hf
end Go.Proofs.YtbomgglmplecpaaGreat.Disk
