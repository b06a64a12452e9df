/-
  slices.Insert of one instruction into a row of the call's own (layer 9): the walk.
-/
import Derived.Test.YtjpbndpfbdfhjaaMNfaCopy
namespace Go.Proofs.Ytjpbndpfbdfhjaa.Nfa
open Go.RowKit Go.Proofs.Ytjpbndpfbdfhjaa.Ord
open Go.Proofs.Ytjpbndpfbdfhjaa.Reg (Sp sflat)
set_option linter.unusedVariables false
set_option linter.unusedSimpArgs false

theorem pinfoIn : (Try.prog.info? 39).map (fun i => (i.zero, i.size, i.bytes)) = some (some (.agg #[.int .i64 0, .int .i64 0, .int .i64 0, .bool false, .slice none 0 0]), 5, 56) := by kernel_rfl
theorem prowIn : ElemRow Try.prog 36 39 5 56 := ElemRow.mk' Try.underlying36 pinfoIn rfl (by decide)
theorem psizeIn : (Try.prog.info? 39).map (·.size) = some 5 := by kernel_rfl
theorem pcells_len (u : Iv) : u.cells.length = 5 := rfl
theorem pcells_one' (u : Iv) : ∀ v ∈ u.cells, v.oneCell' = true := fun v hv => iflat_one [u] v (by simpa [iflat] using hv)
theorem src_of_cel {w : World} {vb : Nat} {t : TypeId} {cs : List Value} (h : Cel w vb t cs) (m : Nat) : Src w (some ⟨vb, 0, none⟩) m cs := fun _ => ⟨_, rfl, fun j u hj => by rw [add_row, h.cell j, hj]⟩
theorem iflat_take (us : List Iv) : ∀ i, iflat (us.take i) = (iflat us).take (i * 5) := by
  induction us with
  | nil => intro i; simp [iflat]
  | cons u l ih =>
    intro i
    cases i with
    | zero => simp [iflat]
    | succ i =>
      show u.cells ++ iflat (l.take i) = (u.cells ++ iflat l).take ((i + 1) * 5)
      have h5 : u.cells.length = 5 := rfl
      have e1 : u.cells.take ((i + 1) * 5) = u.cells := List.take_of_length_le (by omega)
      rw [List.take_append, e1, show (i + 1) * 5 - u.cells.length = i * 5 by omega, ← ih i]
theorem iflat_drop (us : List Iv) : ∀ i, iflat (us.drop i) = (iflat us).drop (i * 5) := by
  induction us with
  | nil => intro i; simp [iflat]
  | cons u l ih =>
    intro i
    cases i with
    | zero => simp
    | succ i =>
      show iflat (l.drop i) = (u.cells ++ iflat l).drop ((i + 1) * 5)
      have h5 : u.cells.length = 5 := rfl
      have e1 : u.cells.drop ((i + 1) * 5) = [] := List.drop_eq_nil_of_le (by omega)
      rw [List.drop_append, e1, List.nil_append, show (i + 1) * 5 - u.cells.length = i * 5 by omega, ← ih i]
theorem iflat_ins (us : List Iv) (i : Nat) (u : Iv) : iflat (us.take i ++ u :: us.drop i) = (iflat us).take (i * 5) ++ (u.cells ++ (iflat us).drop (i * 5)) := by
  rw [iflat_app, iflat_take, ← iflat_drop]; rfl

/-- What slices.Insert returns. -/
def ISays (w : World) (B : Nat) (A : Option Addr) (n c : Nat) (vs : List Iv) (e : Ending) (w' : World) : Prop :=
  ∃ A' c', e = .returned (.slice A' (n + 1 : Nat) c') ∧ w'.ownsRow B 39 5 (.slice A' (n + 1) c') (n + 1) (iflat vs) ∧ w.grownBy w' (Value.slice A n c).ownBlock
theorem grown_of {w w' : World} {l : List Nat} {row : Option Nat} (h : Frm l w w') (hl : ∀ g ∈ l, row = some g) : w.grownBy w' row := ⟨h.os, h.tape, h.output, h.size, fun k hk hne => h.block k hk fun hm => hne (hl k hm).symm⟩
theorem grown_new {w w' : World} {l : List Nat} {row : Option Nat} (h : Frm l w w') (hl : ∀ g ∈ l, w.heap.size ≤ g) : w.grownBy w' row := ⟨h.os, h.tape, h.output, h.size, fun k hk hne => h.block k hk fun hm => by have := hl k hm; omega⟩

set_option maxRecDepth 100000 in
set_option maxHeartbeats 2000000 in
theorem insert_end (w : World) (B n c : Nat) (A : Option Addr) (us : List Iv) (vb : Nat) (u : Iv) (hown : w.ownsRow B 39 5 (.slice A n c) n (iflat us)) (hl : us.length = n) (hn : n ≤ 1000) (hv : Cel w vb 39 u.cells) (hB : B ≤ w.heap.size) :
    Calls Try.prog 64 #[.slice A n c, .int .i64 n, .slice (some ⟨vb, 0, none⟩) 1 1] w (ISays w B A n c (us ++ [u])) := by
  have HO := Lib.hid hown
  have HV := Lib.hid hv
  have HB := Lib.hid hB
  obtain ⟨v0, CUT⟩ : ∃ v, Hid (∀ V, (Instr.sliceAt 36 (.slice A n c) (some (.int .i64 (n : Int))) none none).run Try.prog V = .ok v V) := ⟨_, Lib.hid (fun V => run_cutFrom (P := Try.prog) V Try.underlying36 psizeIn A n c n .i64 (Nat.le_refl _))⟩
  clear hown hl hv
  clear hB
  go_enter Try.func64, Try.ntmps64
  go_wp2_with (first
    | (refine wpList_slice rfl 36 (.tmp 10) (some (.tmp 11)) none none rfl v0 ?_ ?_; exact CUT.out _)
    | (at_builtin; refine wpList_append_any _ rfl (.tmp 23) (.tmp 24) 36 rfl B 39 prowIn (.slice A n c) n _ rfl HO.out (some ⟨vb, 0, none⟩) 1 1 u.cells rfl rfl (src_of_cel HV.out 1) (pcells_one' u) (n + 1) _ rfl rfl (by unfold maxLen; omega) (by omega) HB.out ?_; intro A' c' w' h2 h3 h4))
  go_ret
  exact ⟨A', c', rfl, by rw [iflat_app]; simpa [iflat] using h2, h3⟩

/-- What slices.overlaps says: no. -/
theorem overlaps_no (w : World) (vb g k la ca lb cb : Nat) (cur cs : List Value) (hv : Cel w vb 39 cs) (hg : Cel w g 39 cur) (hne : vb ≠ g) (hk : cur.length ≠ 0) :
    (callFunc 76 #[.slice (some ⟨vb, 0, none⟩) la ca, .slice (some ⟨g, k, none⟩) lb cb]).run Try.prog w = .ok (.value (.bool false)) w := by
  rw [run_callFunc_extern Try.func76 (by kernel_rfl) (by kernel_rfl) (by kernel_rfl) (e := Extern.SlicesOverlaps.overlaps #[36, 36] #[4]) (by kernel_rfl)]
  rw [Lib.run_overlaps_apart w 36 4 39 Try.underlying36 5 (fun V => by
      cases hq : Try.prog.info? 39 with
      | none => have := psizeIn; rw [hq] at this; cases this
      | some i => have := psizeIn; rw [hq] at this; simp at this; simp [sizeOf, typeInfo, hq, this]) ⟨vb, 0, none⟩ ⟨g, k, none⟩ la ca lb cb hne 39 39 cs.length cur.length (by unfold World.shape?; rw [show w.heap[vb]? = _ from hv]; simp) (by unfold World.shape?; rw [show w.heap[g]? = _ from hg]; simp) hk (hv.free 0) (hv.free _)]
  rfl

/-- A cut of a row, from an index on: the index as the walk spells it. -/
theorem cut_from (V : World) (g n c k : Nat) (z : Int) (hz : z = (k : Int)) (hk : k ≤ n) (hc : c ≠ k) : (Instr.sliceAt 36 (.slice (some ⟨g, 0, none⟩) n c) (some (.int .i64 z)) none none).run Try.prog V = .ok (.slice (some ⟨g, k * 5, none⟩) (n - k) (c - k)) V := by
  subst hz
  have h := run_cutFrom (P := Try.prog) V Try.underlying36 psizeIn (some ⟨g, 0, none⟩) n c k .i64 hk
  rw [if_neg hc] at h
  simp only [Option.map_some, add_row] at h
  exact h
theorem cut_to (V : World) (A : Option Addr) (n c k : Nat) (z : Int) (hz : z = (k : Int)) (hk : k ≤ c) : (Instr.sliceAt 36 (.slice A n c) none (some (.int .i64 z)) none).run Try.prog V = .ok (.slice A k c) V := by
  subst hz
  exact run_cutTo V Try.underlying36 psizeIn A n c k .i64 hk

set_option maxRecDepth 100000 in
set_option maxHeartbeats 2000000 in
/-- There is room: in place. -/
theorem insert_room (w : World) (B n c i g : Nat) (us : List Iv) (vb : Nat) (u : Iv) (hown : w.ownsRow B 39 5 (.slice (some ⟨g, 0, none⟩) n c) n (iflat us)) (hl : us.length = n) (hi : i < n) (hroom : n + 1 ≤ c) (hn : n ≤ 1000) (hv : Cel w vb 39 u.cells) (hne : vb ≠ g) :
    Calls Try.prog 64 #[.slice (some ⟨g, 0, none⟩) n c, .int .i64 i, .slice (some ⟨vb, 0, none⟩) 1 1] w (ISays w B (some ⟨g, 0, none⟩) n c (us.take i ++ u :: us.drop i)) := by
  obtain ⟨hlen, hor⟩ := hown
  obtain ⟨g', cap, cur, e1, hBg, hcur, hnc, hcm, hcs, htk⟩ : ∃ g' cap cur, Value.slice (some ⟨g, 0, none⟩) n c = .slice (some ⟨g', 0, none⟩) n cap ∧ B ≤ g' ∧ w.heap[g']? = some (.cells cur 39 (0, 0)) ∧ n ≤ cap ∧ cap ≤ maxLen ∧ cur.size = cap * 5 ∧ cur.toList.take (n * 5) = iflat us := by
    rcases hor with ⟨h, _⟩ | h
    · cases h
    · exact h
  cases e1
  obtain ⟨cs, rfl⟩ : ∃ cs : List Value, cur = cs.toArray := ⟨cur.toList, by simp⟩
  simp only [List.size_toArray] at hcs
  have hg : Cel w g 39 cs := hcur
  have hin : ((i + 1 : Nat) : Int) = (i : Int) + 1 := by omega
  have hnn : ((n + 1 : Nat) : Int) = (n : Int) + 1 := by omega
  have hlu : (iflat us).length = n * 5 := by rw [iflat_length, hl]
  have HLU := Lib.hid hlu
  have CUT1 := Lib.hid (fun V => cut_from V g n c i _ rfl (by omega) (by omega))
  have CUT2 := Lib.hid (fun V => cut_to V (some ⟨g, 0, none⟩) n c (n + 1) ((n : Int) + 1) hnn.symm hroom)
  have CUT3 := Lib.hid (fun V => cut_from V g (n + 1) c (i + 1) ((i : Int) + 1) hin.symm (by omega) (by omega))
  have CUT4 := Lib.hid (fun V => cut_from V g (n + 1) c i (i : Int) rfl (by omega) (by omega))
  have OV := Lib.hid (fun (V : World) (hv : Cel V vb 39 u.cells) (hg : Cel V g 39 cs) => overlaps_no V vb g ((i + 1) * 5) 1 1 (n - i) (c - (i + 1)) cs u.cells hv hg hne (by omega))
  have hov := OV.out w hv hg
  have HV := Lib.hid hv
  have HG := Lib.hid hg
  have HTK := Lib.hid htk
  have HCS := Lib.hid hcs
  have HCM := Lib.hid hcm
  have hb1 : ¬ ((c : Int) < (n : Int) + 1) := by omega
  have hb2 : ¬ ((i : Int) = (n : Int)) := by omega
  clear hcm hv hg hcur hor htk hcs hlu hlen hnn hin OV
  go_enter Try.func64, Try.ntmps64
  go_wp2_with (first
    | simp only [hov]
    | (refine wpList_slice rfl 36 (.tmp 10) (some (.tmp 11)) none none rfl (.slice (some ⟨g, i * 5, none⟩) (n - i) (c - i)) ?_ ?_; exact CUT1.out _)
    | (refine wpList_slice rfl 36 (.tmp 56) none (some (.tmp 59)) none rfl (.slice (some ⟨g, 0, none⟩) (n + 1 : Nat) c) ?_ ?_; exact CUT2.out _)
    | (refine wpList_slice rfl 36 (.tmp 62) (some (.tmp 65)) none none rfl (.slice (some ⟨g, (i + 1) * 5, none⟩) (n + 1 - (i + 1) : Nat) (c - (i + 1))) ?_ ?_; exact CUT3.out _))
  have hH : (fun V => V = w.drew) w.drew := rfl
  refine wp_region_N [8] (fun V => V = w.drew) (by kernel_rfl) ?_
  refine wpAnyN_take (i := 0) (v := .slice (some ⟨g, 0, none⟩) (n + 1 : Nat) c) [4, 8] (by kernel_rfl) rfl (by kernel_rfl) (by kernel_rfl) (by kernel_rfl) (fun _ _ _ h => h) (Or.inl ⟨by rfl, ?_⟩) hH ?_
  · intro V hV; go_simp
  try simp only [Act.put, List.setIfInBounds_toArray, List.set_cons_zero, List.set_cons_succ, List.getElem_toArray, List.getElem_cons_succ, List.getElem_cons_zero]
  refine wpAnyN_take (i := 1) (v := .int .i64 (i : Int)) [3, 4, 8] (by kernel_rfl) rfl (by kernel_rfl) (by kernel_rfl) (by kernel_rfl) (fun _ _ _ h => h) (Or.inl ⟨by rfl, ?_⟩) hH ?_
  · intro V hV; go_simp
  try simp only [Act.put, List.setIfInBounds_toArray, List.set_cons_zero, List.set_cons_succ, List.getElem_toArray, List.getElem_cons_succ, List.getElem_cons_zero]
  refine wpAnyN_take (i := 2) (v := .int .i64 1) [3, 4, 8] (by kernel_rfl) rfl (by kernel_rfl) (by kernel_rfl) (by kernel_rfl) (fun _ _ _ h => h) (Or.inl ⟨by rfl, ?_⟩) hH ?_
  · intro V hV; go_simp
  try simp only [Act.put, List.setIfInBounds_toArray, List.set_cons_zero, List.set_cons_succ, List.getElem_toArray, List.getElem_cons_succ, List.getElem_cons_zero]
  refine wpAnyN_take (i := 3) (v := .int .i64 ((i : Int) + 1)) [4, 8] (by kernel_rfl) rfl (by kernel_rfl) (by kernel_rfl) (by kernel_rfl) (fun _ _ _ h => h) (Or.inl ⟨by rfl, ?_⟩) hH ?_
  · intro V hV; have ew : IntKind.i64.wrap ((i : Int) + 1) = (i : Int) + 1 := (IntWalk.i64_in _ (by omega)); go_simp
  try simp only [Act.put, List.setIfInBounds_toArray, List.set_cons_zero, List.set_cons_succ, List.getElem_toArray, List.getElem_cons_succ, List.getElem_cons_zero]
  refine wpAnyN_take (i := 4) (v := .slice (some ⟨g, (i + 1) * 5, none⟩) (n + 1 - (i + 1)) (c - (i + 1))) [8] (by kernel_rfl) rfl (by kernel_rfl) (by kernel_rfl) (by kernel_rfl) (fun _ _ _ h => h) (yieldsIf_slice (by rfl) 36 (.tmp 69) (some (.tmp 72)) none none rfl _ (fun V => CUT3.out V)) hH ?_
  try simp only [Act.put, List.setIfInBounds_toArray, List.set_cons_zero, List.set_cons_succ, List.getElem_toArray, List.getElem_cons_succ, List.getElem_cons_zero]
  refine wpAnyN_take (i := 5) (v := .slice (some ⟨g, 0, none⟩) (n + 1 : Nat) c) [7, 8] (by kernel_rfl) rfl (by kernel_rfl) (by kernel_rfl) (by kernel_rfl) (fun _ _ _ h => h) (Or.inl ⟨by rfl, ?_⟩) hH ?_
  · intro V hV; go_simp
  try simp only [Act.put, List.setIfInBounds_toArray, List.set_cons_zero, List.set_cons_succ, List.getElem_toArray, List.getElem_cons_succ, List.getElem_cons_zero]
  refine wpAnyN_take (i := 6) (v := .int .i64 (i : Int)) [7, 8] (by kernel_rfl) rfl (by kernel_rfl) (by kernel_rfl) (by kernel_rfl) (fun _ _ _ h => h) (Or.inl ⟨by rfl, ?_⟩) hH ?_
  · intro V hV; go_simp
  try simp only [Act.put, List.setIfInBounds_toArray, List.set_cons_zero, List.set_cons_succ, List.getElem_toArray, List.getElem_cons_succ, List.getElem_cons_zero]
  refine wpAnyN_take (i := 7) (v := .slice (some ⟨g, i * 5, none⟩) (n + 1 - i) (c - i)) [8] (by kernel_rfl) rfl (by kernel_rfl) (by kernel_rfl) (by kernel_rfl) (fun _ _ _ h => h) (yieldsIf_slice (by rfl) 36 (.tmp 74) (some (.tmp 75)) none none rfl _ (fun V => CUT4.out V)) hH ?_
  try simp only [Act.put, List.setIfInBounds_toArray, List.set_cons_zero, List.set_cons_succ, List.getElem_toArray, List.getElem_cons_succ, List.getElem_cons_zero]
  refine wpAnyN_one (i := 8) (by kernel_rfl) rfl (fun K hK => ?_)
  refine step_copy_cel rfl (.tmp 73) (.tmp 76) 36 36 rfl 39 5 Try.underlying36 psizeIn g ((i + 1) * 5) (n + 1 - (i + 1)) (c - (i + 1)) ⟨g, i * 5, none⟩ (n + 1 - i) (c - i) rfl rfl cs 39 HG.out ((iflat us).drop (i * 5)) ?_ ?_ ?_ ?_ ?_
  · rw [List.length_drop, HLU.out, show (n + 1 - i).min (n + 1 - (i + 1)) = n - i by show min _ _ = _; omega]; omega
  · intro j v hj
    have h1 : (iflat us)[i * 5 + j]? = some v := by rwa [List.getElem?_drop] at hj
    have h2 : i * 5 + j < n * 5 := by have := (List.getElem?_eq_some_iff.1 h1).1; rwa [HLU.out] at this
    rw [Addr.add_lit]
    show w.cell? _ = _
    rw [HG.out.cell, ← h1, ← HTK.out, List.getElem?_take_of_lt h2]
  · rw [List.length_drop, HLU.out, HCS.out]; omega
  · intro v hv; exact iflat_one us v (List.mem_of_mem_drop hv)
  intro w1 hc1 hf1
  refine hK.out _ _ (.inl (by decide)) ?_
  clear hK K
  try simp only [Act.put, List.setIfInBounds_toArray, List.set_cons_zero, List.set_cons_succ, List.getElem_toArray, List.getElem_cons_succ, List.getElem_cons_zero]
  refine wpAnyN_done (by kernel_rfl) ?_ _
  have HC1 := Lib.hid hc1
  have HF1 := Lib.hid hf1
  have HV1 := Lib.hid ((show Cel w.drew vb 39 u.cells from HV.out).frm hf1 (by simpa using hne))
  have hl1 : (splice cs ((i + 1) * 5) ((iflat us).drop (i * 5))).length = c * 5 := by rw [length_splice _ _ _ (by rw [List.length_drop, HLU.out, HCS.out]; omega)]; exact HCS.out
  have HL1 := Lib.hid hl1
  clear hc1 hf1 hl1 hov
  go_wp2_with (first
    | (refine wpList_slice rfl 36 (.tmp 78) (some (.tmp 79)) none none rfl (.slice (some ⟨g, i * 5, none⟩) (n + 1 - i : Nat) (c - i)) ?_ ?_; exact CUT4.out _)
    | (refine wpList_copy_cel rfl (.tmp 80) (.tmp 81) 36 36 rfl 39 5 Try.underlying36 psizeIn g (i * 5) (n + 1 - i) (c - i) ⟨vb, 0, none⟩ 1 1 rfl rfl _ 39 HC1.out u.cells ?_ ?_ ?_ (pcells_one' u) ?_))
  · show 5 = min 1 (n + 1 - i) * 5; omega
  · intro j v hj
    rw [HV1.out.cell]; exact hj
  · rw [HL1.out]; show i * 5 + 5 ≤ _; omega
  intro w2 hc2 hf2
  have HC2 := Lib.hid hc2
  have HF2 := Lib.hid hf2
  clear hc2 hf2
  go_wp2_with fail
  go_ret
  have hcut := splice_in cs (iflat us) u.cells (i * 5) 5 (n * 5) rfl HTK.out HLU.out (by omega) (by rw [HCS.out]; omega)
  refine ⟨_, _, rfl, ⟨?_, .inr ⟨g, c, (splice (splice cs ((i + 1) * 5) ((iflat us).drop (i * 5))) (i * 5) u.cells).toArray, rfl, hBg, HC2.out, hroom, HCM.out, ?_, ?_⟩⟩, ?_⟩
  · rw [iflat_ins]
    simp only [List.length_append, List.length_take, List.length_drop, HLU.out, pcells_len]; omega
  · rw [List.size_toArray, length_splice _ _ _ (by rw [HL1.out]; show i * 5 + 5 ≤ _; omega)]; exact HL1.out
  · rw [iflat_ins, show (n + 1) * 5 = n * 5 + 5 by omega, show (i + 1) * 5 = i * 5 + 5 by omega]; exact hcut
  · exact grown_of (l := [g]) ((Frm.refl [g] w).drew.trans (HF1.out.trans HF2.out)) (by simp [Value.ownBlock])

set_option maxRecDepth 100000 in
set_option maxHeartbeats 2000000 in
/-- There is no room: a new row. -/
theorem insert_grow (w : World) (B n c i g : Nat) (us : List Iv) (vb : Nat) (u : Iv) (hown : w.ownsRow B 39 5 (.slice (some ⟨g, 0, none⟩) n c) n (iflat us)) (hl : us.length = n) (hi : i < n) (hroom : c < n + 1) (hn : n ≤ 1000) (hv : Cel w vb 39 u.cells) (hB : B ≤ w.heap.size) :
    Calls Try.prog 64 #[.slice (some ⟨g, 0, none⟩) n c, .int .i64 i, .slice (some ⟨vb, 0, none⟩) 1 1] w (ISays w B (some ⟨g, 0, none⟩) n c (us.take i ++ u :: us.drop i)) := by
  obtain ⟨hlen, hor⟩ := hown
  obtain ⟨g', cap, cur, e1, hBg, hcur, hnc, hcm, hcs, htk⟩ : ∃ g' cap cur, Value.slice (some ⟨g, 0, none⟩) n c = .slice (some ⟨g', 0, none⟩) n cap ∧ B ≤ g' ∧ w.heap[g']? = some (.cells cur 39 (0, 0)) ∧ n ≤ cap ∧ cap ≤ maxLen ∧ cur.size = cap * 5 ∧ cur.toList.take (n * 5) = iflat us := by
    rcases hor with ⟨h, _⟩ | h
    · cases h
    · exact h
  cases e1
  obtain rfl : n = c := by omega
  obtain ⟨cs, rfl⟩ : ∃ cs : List Value, cur = cs.toArray := ⟨cur.toList, by simp⟩
  simp only [List.size_toArray] at hcs
  have hg : Cel w g 39 cs := hcur
  have hlu : (iflat us).length = n * 5 := by rw [iflat_length, hl]
  have hcu : cs = iflat us := by rw [← htk, List.take_of_length_le (by simp [hcs])]
  subst hcu
  obtain ⟨i0, hi0, hz0, hzs, hzb⟩ := info_parts pinfoIn
  have hcell : ∀ j v, ((iflat us).take (i * 5))[j]? = some v → w.cell? ((⟨g, 0, none⟩ : Addr).add j) = some v := fun j v hj => by
    rw [add_row, hg.cell]
    rw [List.getElem?_take] at hj
    split at hj
    · exact hj
    · cases hj
  have hold : (Builtin.firstCells i0.size i (.slice (some ⟨g, 0, none⟩) i n)).run Try.prog w.drew = .ok ((iflat us).take (i * 5)).toArray w.drew := by
    rw [hzs]
    exact run_firstCells_some w.drew 5 i ⟨g, 0, none⟩ i n _ (by rw [List.length_take, hlu]; omega) hcell
  have hkk : (n : Int) + 1 - (i : Int) = ((n + 1 - i : Nat) : Int) := by omega
  have hik : i + (n + 1 - i) = n + 1 := by omega
  have hrz : ∀ ty, (Builtin.append_ #[36, 3] ty #[.slice (some ⟨g, 0, none⟩) i n, .int .i64 ((n : Int) + 1 - (i : Int))]).run Try.prog w = .ok (.slice (some ⟨w.heap.size, 0, none⟩) (n + 1 : Nat) (grownCap w (n + 1) n 39)) (w.drew.alloc (.cells (((iflat us).take (i * 5)).toArray ++ Builtin.zeroCells (Value.cells (.agg #[.int .i64 0, .int .i64 0, .int .i64 0, .bool false, .slice none 0 0])) (n + 1 - i) ++ Builtin.zeroCells (Value.cells (.agg #[.int .i64 0, .int .i64 0, .int .i64 0, .bool false, .slice none 0 0])) (grownCap w (n + 1) n 39 - (n + 1))) 39)) := fun ty => by
    have h := Lib.run_append_grow_zeros w 36 3 ty 39 i0 _ .i64 .i64 Try.underlying36 Try.underlying3 hi0 hz0 (some ⟨g, 0, none⟩) i n ((iflat us).take (i * 5)) hold (n + 1 - i) (by omega) (by omega) (by omega) (by omega) (by rw [hzb]; omega) (by rw [hzb, hik]; exact growslice_fits (by omega) (by omega))
    rw [hik] at h
    rw [hkk]
    exact h
  obtain ⟨G, hG⟩ : ∃ G, G = grownCap w (n + 1) n 39 := ⟨_, rfl⟩
  have hG1 := grownCap_ge w (n + 1) n 39
  have hG2 := grownCap_le_maxLen w (n + 1) n 39 (by unfold maxLen; omega)
  rw [← hG] at hrz hG1 hG2
  clear hG
  obtain ⟨Z, hZ, hZl⟩ : ∃ Z : List Value, ((iflat us).take (i * 5)).toArray ++ Builtin.zeroCells (Value.cells (.agg #[.int .i64 0, .int .i64 0, .int .i64 0, .bool false, .slice none 0 0])) (n + 1 - i) ++ Builtin.zeroCells (Value.cells (.agg #[.int .i64 0, .int .i64 0, .int .i64 0, .bool false, .slice none 0 0])) (G - (n + 1)) = ((iflat us).take (i * 5) ++ Z).toArray ∧ Z.length = (G - i) * 5 := by
    refine ⟨(Builtin.zeroCells (Value.cells (.agg #[.int .i64 0, .int .i64 0, .int .i64 0, .bool false, .slice none 0 0])) (n + 1 - i) ++ Builtin.zeroCells (Value.cells (.agg #[.int .i64 0, .int .i64 0, .int .i64 0, .bool false, .slice none 0 0])) (G - (n + 1))).toList, ?_, ?_⟩
    · simp
    · simp [Builtin.zeroCells, Value.cells]
      omega
  rw [hZ] at hrz
  clear hZ hold hcell hkk hik hi0 hz0 hzs hzb i0 hcur hor htk
  obtain ⟨W1, hW⟩ : ∃ W1, W1 = w.drew.alloc (.cells ((iflat us).take (i * 5) ++ Z).toArray 39) := ⟨_, rfl⟩
  have hW1 : Cel W1 w.heap.size 39 ((iflat us).take (i * 5) ++ Z) := by rw [hW]; exact Cel.new w.drew _ _
  have hbW : Below w.heap.size w W1 := by rw [hW]; exact (Below.refl _ _).drew.alloc (Nat.le_refl _) _
  rw [← hW] at hrz
  clear hW
  obtain ⟨q, hq⟩ : ∃ q, q = w.heap.size := ⟨_, rfl⟩
  have hgq : g ≠ q := by have := hg.lt; omega
  have hvq : vb ≠ q := by have := hv.lt; omega
  rw [← hq] at hrz hW1
  have HRZ := Lib.hid hrz
  have HG := Lib.hid (hg.below hbW hg.lt)
  have HV := Lib.hid (hv.below hbW hv.lt)
  have HQ := Lib.hid hq
  have HB := Lib.hid hB
  have HW1 := Lib.hid hW1
  have HBW := Lib.hid hbW
  have HG2 := Lib.hid hG2
  have HLU := Lib.hid hlu
  have HZL := Lib.hid hZl
  have hin : ((i + 1 : Nat) : Int) = (i : Int) + 1 := by omega
  have CUTF := Lib.hid (fun V => cut_from V g n n i _ rfl (by omega) (by omega))
  have CUTT := Lib.hid (fun V => cut_to V (some ⟨g, 0, none⟩) n n i _ rfl (by omega))
  have CUT2 := Lib.hid (fun V => cut_from V q (n + 1) G i _ rfl (by omega) (by omega))
  have CUT3 := Lib.hid (fun V => cut_from V q (n + 1) G (i + 1) ((i : Int) + 1) hin.symm (by omega) (by omega))
  have hlz : ((iflat us).take (i * 5) ++ Z).length = G * 5 := by rw [List.length_append, List.length_take, hlu, hZl]; omega
  have HLZ := Lib.hid hlz
  have hb1 : (n : Int) < (n : Int) + 1 := by omega
  have hb2 : ¬ ((i : Int) = (n : Int)) := by omega
  clear hrz hg hv hq hB hW1 hbW hG2 hlu hZl hlz hin hlen hcm hcs hnc
  go_enter Try.func64, Try.ntmps64
  go_wp2_with (first
    | (refine wpList_slice rfl 36 (.tmp 10) (some (.tmp 11)) none none rfl (.slice (some ⟨g, i * 5, none⟩) (n - i) (n - i)) ?_ ?_; exact CUTF.out _)
    | (refine wpList_slice rfl 36 (.tmp 32) none (some (.tmp 33)) none rfl (.slice (some ⟨g, 0, none⟩) i n) ?_ ?_; exact CUTT.out _)
    | (at_builtin; refine Lib.wpList_append_run _ rfl (.tmp 34) (.tmp 39) 36 3 rfl (.slice (some ⟨g, 0, none⟩) i n) (.int .i64 ((n : Int) + 1 - (i : Int))) rfl rfl _ _ (HRZ.out _) ?_)
    | (refine wpList_slice rfl 36 (.tmp 41) (some (.tmp 42)) none none rfl (.slice (some ⟨q, i * 5, none⟩) (n + 1 - i : Nat) (G - i)) ?_ ?_; exact CUT2.out _)
    | (refine wpList_copy_cel rfl (.tmp 43) (.tmp 44) 36 36 rfl 39 5 Try.underlying36 psizeIn q (i * 5) (n + 1 - i) (G - i) ⟨vb, 0, none⟩ 1 1 rfl rfl _ 39 HW1.out u.cells ?_ ?_ ?_ (pcells_one' u) ?_))
  · show 5 = min 1 (n + 1 - i) * 5; omega
  · intro j v hj
    rw [add_row, HV.out.cell]; exact hj
  · rw [HLZ.out]; show i * 5 + 5 ≤ _; omega
  intro w2 hc2 hf2
  have hl2 : (splice ((iflat us).take (i * 5) ++ Z) (i * 5) u.cells).length = G * 5 := by rw [length_splice _ _ _ (by rw [HLZ.out]; show i * 5 + 5 ≤ _; omega)]; exact HLZ.out
  have HL2 := Lib.hid hl2
  have HC2 := Lib.hid hc2
  have HG2' := Lib.hid (HG.out.frm hf2 (by simpa using hgq))
  have HF2 := Lib.hid hf2
  clear hc2 hf2 hl2
  go_wp2_with fail
  have hH : (fun V => V = w2.drew) w2.drew := rfl
  refine wp_region_N [8] (fun V => V = w2.drew) (by kernel_rfl) ?_
  refine wpAnyN_take (i := 0) (v := .slice (some ⟨q, 0, none⟩) (n + 1 : Nat) G) [4, 8] (by kernel_rfl) rfl (by kernel_rfl) (by kernel_rfl) (by kernel_rfl) (fun _ _ _ h => h) (Or.inl ⟨by rfl, ?_⟩) hH ?_
  · intro V hV; go_simp
  try simp only [Act.put, List.setIfInBounds_toArray, List.set_cons_zero, List.set_cons_succ, List.getElem_toArray, List.getElem_cons_succ, List.getElem_cons_zero]
  refine wpAnyN_take (i := 1) (v := .int .i64 (i : Int)) [3, 4, 8] (by kernel_rfl) rfl (by kernel_rfl) (by kernel_rfl) (by kernel_rfl) (fun _ _ _ h => h) (Or.inl ⟨by rfl, ?_⟩) hH ?_
  · intro V hV; go_simp
  try simp only [Act.put, List.setIfInBounds_toArray, List.set_cons_zero, List.set_cons_succ, List.getElem_toArray, List.getElem_cons_succ, List.getElem_cons_zero]
  refine wpAnyN_take (i := 2) (v := .int .i64 1) [3, 4, 8] (by kernel_rfl) rfl (by kernel_rfl) (by kernel_rfl) (by kernel_rfl) (fun _ _ _ h => h) (Or.inl ⟨by rfl, ?_⟩) hH ?_
  · intro V hV; go_simp
  try simp only [Act.put, List.setIfInBounds_toArray, List.set_cons_zero, List.set_cons_succ, List.getElem_toArray, List.getElem_cons_succ, List.getElem_cons_zero]
  refine wpAnyN_take (i := 3) (v := .int .i64 ((i : Int) + 1)) [4, 8] (by kernel_rfl) rfl (by kernel_rfl) (by kernel_rfl) (by kernel_rfl) (fun _ _ _ h => h) (Or.inl ⟨by rfl, ?_⟩) hH ?_
  · intro V hV; have ew : IntKind.i64.wrap ((i : Int) + 1) = (i : Int) + 1 := (IntWalk.i64_in _ (by omega)); go_simp
  try simp only [Act.put, List.setIfInBounds_toArray, List.set_cons_zero, List.set_cons_succ, List.getElem_toArray, List.getElem_cons_succ, List.getElem_cons_zero]
  refine wpAnyN_take (i := 4) (v := .slice (some ⟨q, (i + 1) * 5, none⟩) (n + 1 - (i + 1)) (G - (i + 1))) [8] (by kernel_rfl) rfl (by kernel_rfl) (by kernel_rfl) (by kernel_rfl) (fun _ _ _ h => h) (yieldsIf_slice (by rfl) 36 (.tmp 46) (some (.tmp 49)) none none rfl _ (fun V => CUT3.out V)) hH ?_
  try simp only [Act.put, List.setIfInBounds_toArray, List.set_cons_zero, List.set_cons_succ, List.getElem_toArray, List.getElem_cons_succ, List.getElem_cons_zero]
  refine wpAnyN_take (i := 5) (v := .slice (some ⟨g, 0, none⟩) n n) [7, 8] (by kernel_rfl) rfl (by kernel_rfl) (by kernel_rfl) (by kernel_rfl) (fun _ _ _ h => h) (Or.inl ⟨by rfl, ?_⟩) hH ?_
  · intro V hV; go_simp
  try simp only [Act.put, List.setIfInBounds_toArray, List.set_cons_zero, List.set_cons_succ, List.getElem_toArray, List.getElem_cons_succ, List.getElem_cons_zero]
  refine wpAnyN_take (i := 6) (v := .int .i64 (i : Int)) [7, 8] (by kernel_rfl) rfl (by kernel_rfl) (by kernel_rfl) (by kernel_rfl) (fun _ _ _ h => h) (Or.inl ⟨by rfl, ?_⟩) hH ?_
  · intro V hV; go_simp
  try simp only [Act.put, List.setIfInBounds_toArray, List.set_cons_zero, List.set_cons_succ, List.getElem_toArray, List.getElem_cons_succ, List.getElem_cons_zero]
  refine wpAnyN_take (i := 7) (v := .slice (some ⟨g, i * 5, none⟩) (n - i) (n - i)) [8] (by kernel_rfl) rfl (by kernel_rfl) (by kernel_rfl) (by kernel_rfl) (fun _ _ _ h => h) (yieldsIf_slice (by rfl) 36 (.tmp 51) (some (.tmp 52)) none none rfl _ (fun V => CUTF.out V)) hH ?_
  try simp only [Act.put, List.setIfInBounds_toArray, List.set_cons_zero, List.set_cons_succ, List.getElem_toArray, List.getElem_cons_succ, List.getElem_cons_zero]
  refine wpAnyN_one (i := 8) (by kernel_rfl) rfl (fun K hK => ?_)
  refine step_copy_cel rfl (.tmp 50) (.tmp 53) 36 36 rfl 39 5 Try.underlying36 psizeIn q ((i + 1) * 5) (n + 1 - (i + 1)) (G - (i + 1)) ⟨g, i * 5, none⟩ (n - i) (n - i) rfl rfl _ 39 HC2.out ((iflat us).drop (i * 5)) ?_ ?_ ?_ ?_ ?_
  · rw [List.length_drop, HLU.out, show (n - i).min (n + 1 - (i + 1)) = n - i by show min _ _ = _; omega]; omega
  · intro j v hj
    have h1 : (iflat us)[i * 5 + j]? = some v := by rwa [List.getElem?_drop] at hj
    rw [Addr.add_lit]
    show w2.cell? _ = _
    rw [HG2'.out.cell, h1]
  · rw [List.length_drop, HLU.out, HL2.out]; omega
  · intro v hv; exact iflat_one us v (List.mem_of_mem_drop hv)
  intro w3 hc3 hf3
  refine hK.out _ _ (.inl (by decide)) ?_
  clear hK K
  try simp only [Act.put, List.setIfInBounds_toArray, List.set_cons_zero, List.set_cons_succ, List.getElem_toArray, List.getElem_cons_succ, List.getElem_cons_zero]
  refine wpAnyN_done (by kernel_rfl) ?_ _
  have HC3 := Lib.hid hc3
  have HF3 := Lib.hid hf3
  clear hc3 hf3
  go_wp2_with fail
  go_ret
  have hcut := splice_new (iflat us) Z u.cells (i * 5) 5 (n * 5) rfl HLU.out (by omega) (by rw [HZL.out]; omega)
  refine ⟨_, _, rfl, ⟨?_, .inr ⟨q, G, _, rfl, by rw [HQ.out]; exact HB.out, HC3.out, hG1, HG2.out, ?_, ?_⟩⟩, ?_⟩
  · rw [iflat_ins]
    simp only [List.length_append, List.length_take, List.length_drop, HLU.out, pcells_len]; omega
  · rw [List.size_toArray, length_splice _ _ _ (by rw [HL2.out, List.length_drop, HLU.out]; omega)]; exact HL2.out
  · rw [iflat_ins, show (n + 1) * 5 = n * 5 + 5 by omega, show (i + 1) * 5 = i * 5 + 5 by omega]; exact hcut
  · have h23 : Frm [q] W1 w3 := (HF2.out.drew.trans HF3.out)
    exact ⟨h23.os.trans HBW.out.os, h23.tape.trans HBW.out.tape, h23.output.trans HBW.out.output, Nat.le_trans HBW.out.size h23.size, fun k hk _ => (h23.block k (by have := HBW.out.size; omega) (by rw [List.mem_singleton, HQ.out]; omega)).trans (HBW.out.block k hk)⟩

theorem insert_call (w : World) (B n c i : Nat) (A : Option Addr) (us : List Iv) (vb : Nat) (u : Iv) (hown : w.ownsRow B 39 5 (.slice A n c) n (iflat us)) (hl : us.length = n) (hi : i ≤ n) (hn : n ≤ 1000) (hv : Cel w vb 39 u.cells) (hne : (Value.slice A n c).ownBlock ≠ some vb) (hB : B ≤ w.heap.size) :
    Calls Try.prog 64 #[.slice A n c, .int .i64 i, .slice (some ⟨vb, 0, none⟩) 1 1] w (ISays w B A n c (us.take i ++ u :: us.drop i)) := by
  rcases Nat.lt_or_ge i n with hlt | hge
  · obtain ⟨g, rfl⟩ : ∃ g, A = some ⟨g, 0, none⟩ := by
      rcases hown.2 with ⟨_, h⟩ | ⟨g, _, _, e, _⟩
      · omega
      · cases e; exact ⟨g, rfl⟩
    rcases Nat.lt_or_ge c (n + 1) with hc | hc
    · exact insert_grow w B n c i g us vb u hown hl hlt hc hn hv hB
    · exact insert_room w B n c i g us vb u hown hl hlt hc hn hv (fun e => hne (by rw [e]; rfl))
  · obtain rfl : i = n := by omega
    rw [List.take_of_length_le (by omega), List.drop_eq_nil_of_le (by omega)]
    exact insert_end w B i c A us vb u hown hl hn hv hB
end Go.Proofs.Ytjpbndpfbdfhjaa.Nfa
