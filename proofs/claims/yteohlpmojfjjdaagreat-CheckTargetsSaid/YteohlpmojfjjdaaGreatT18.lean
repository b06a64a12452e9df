/-
Texts: NfaInsert NfaState
-/
import Derived.Test.YteohlpmojfjjdaaGreatT0
import Derived.Test.YteohlpmojfjjdaaGreatT1
import Derived.Test.YteohlpmojfjjdaaGreatT2
import Derived.Test.YteohlpmojfjjdaaGreatT3
import Derived.Test.YteohlpmojfjjdaaGreatT4
import Derived.Test.YteohlpmojfjjdaaGreatT5
import Derived.Test.YteohlpmojfjjdaaGreatT8
import Derived.Test.YteohlpmojfjjdaaGreatT17
set_option linter.unusedVariables false
set_option linter.unusedSimpArgs false
set_option maxRecDepth 100000
set_option maxHeartbeats 4000000
section
namespace Go.Proofs.YteohlpmojfjjdaaGreat.Nfa
open Go.RowKit Go.Proofs.YteohlpmojfjjdaaGreat.Ord
open Reg (Sp sflat)
theorem pinfoIn : (Tryz.prog.info? 204).map (fun i => (i.zero, i.size, i.bytes)) = some (some (.agg #[.int .i64 0, .int .i64 0, .int .i64 0, .bool false, .slice none 0 0]), 5, 56) := by kernel_rfl
theorem prowIn : ElemRow Tryz.prog 156 204 5 56 := ElemRow.mk' Tryz.underlying156 pinfoIn rfl (by decide)
theorem psizeIn : (Tryz.prog.info? 204).map (·.size) = some 5 := by kernel_rfl
theorem pcells_len (u : Iv) : u.cells.length = 5 := rfl
theorem pcells_one' (u : Iv) : ∀ v ∈ u.cells, v.oneCell' = true := fun v hv => iflat_one [u] v (by simpa [iflat] using hv)
theorem src_of_cel {w : World} {vb : Nat} {t : TypeId} {cs : List Value} (h : Cel w vb t cs) (m : Nat) : Src w (some ⟨vb, 0, none⟩) m cs := fun _ => ⟨_, rfl, fun j u hj => by rw [add_row, h.cell j, hj]⟩
theorem iflat_take (us : List Iv) : ∀ i, iflat (us.take i) = (iflat us).take (i * 5) := by
 induction us with
 | nil => intro i; simp [iflat]
 | cons u l ih =>
  intro i
  cases i with
  | zero => simp [iflat]
  | succ i =>
   show u.cells ++ iflat (l.take i) = (u.cells ++ iflat l).take ((i + 1) * 5)
   have h5 : u.cells.length = 5 := rfl
   have e1 : u.cells.take ((i + 1) * 5) = u.cells := List.take_of_length_le (by omega)
   rw [List.take_append, e1, show (i + 1) * 5 - u.cells.length = i * 5 by omega, ← ih i]
theorem iflat_drop (us : List Iv) : ∀ i, iflat (us.drop i) = (iflat us).drop (i * 5) := by
 induction us with
 | nil => intro i; simp [iflat]
 | cons u l ih =>
  intro i
  cases i with
  | zero => simp
  | succ i =>
   show iflat (l.drop i) = (u.cells ++ iflat l).drop ((i + 1) * 5)
   have h5 : u.cells.length = 5 := rfl
   have e1 : u.cells.drop ((i + 1) * 5) = [] := List.drop_eq_nil_of_le (by omega)
   rw [List.drop_append, e1, List.nil_append, show (i + 1) * 5 - u.cells.length = i * 5 by omega, ← ih i]
theorem iflat_ins (us : List Iv) (i : Nat) (u : Iv) : iflat (us.take i ++ u :: us.drop i) = (iflat us).take (i * 5) ++ (u.cells ++ (iflat us).drop (i * 5)) := by
 rw [iflat_app, iflat_take, ← iflat_drop]; rfl
def ISays (w : World) (B : Nat) (A : Option Addr) (n c : Nat) (vs : List Iv) (e : Ending) (w' : World) : Prop :=
 ∃ A' c', e = .returned (.slice A' (n + 1 : Nat) c') ∧ w'.ownsRow B 204 5 (.slice A' (n + 1) c') (n + 1) (iflat vs) ∧ w.grownBy w' (Value.slice A n c).ownBlock
theorem grown_of {w w' : World} {l : List Nat} {row : Option Nat} (h : Frm l w w') (hl : ∀ g ∈ l, row = some g) : w.grownBy w' row := ⟨h.os, h.tape, h.output, h.size, fun k hk hne => h.block k hk fun hm => hne (hl k hm).symm⟩
theorem insert_end (w : World) (B n c : Nat) (A : Option Addr) (us : List Iv) (vb : Nat) (u : Iv) (hown : w.ownsRow B 204 5 (.slice A n c) n (iflat us)) (hl : us.length = n) (hn : n ≤ 1000) (hv : Cel w vb 204 u.cells) (hB : B ≤ w.heap.size) :
  Calls Tryz.prog 175 #[.slice A n c, .int .i64 n, .slice (some ⟨vb, 0, none⟩) 1 1] w (ISays w B A n c (us ++ [u])) := by
 have HO := Lib.hid hown
 have HV := Lib.hid hv
 have HB := Lib.hid hB
 obtain ⟨v0, CUT⟩ : ∃ v, Hid (∀ V, (Instr.sliceAt 156 (.slice A n c) (some (.int .i64 (n : Int))) none none).run Tryz.prog V = .ok v V) := ⟨_, Lib.hid (fun V => run_cutFrom (P := Tryz.prog) V Tryz.underlying156 psizeIn A n c n .i64 (Nat.le_refl _))⟩
 clear hown hl hv
 clear hB
 go_enter Tryz.func175, Tryz.ntmps175
 go_wp2_with (first
  | (refine wpList_slice rfl 156 (.tmp 10) (some (.tmp 11)) none none rfl v0 ?_ ?_; exact CUT.out _)
  | (at_builtin; refine wpList_append_any _ rfl (.tmp 23) (.tmp 24) 156 rfl B 204 prowIn (.slice A n c) n _ rfl HO.out (some ⟨vb, 0, none⟩) 1 1 u.cells rfl rfl (src_of_cel HV.out 1) (pcells_one' u) (n + 1) _ rfl rfl (by unfold maxLen; omega) (by omega) HB.out ?_; intro A' c' w' h2 h3 h4))
 go_ret
 exact ⟨A', c', rfl, by rw [iflat_app]; simpa [iflat] using h2, h3⟩
theorem overlaps_no (w : World) (vb g k la ca lb cb : Nat) (cur cs : List Value) (hv : Cel w vb 204 cs) (hg : Cel w g 204 cur) (hne : vb ≠ g) (hk : cur.length ≠ 0) :
  (callFunc 189 #[.slice (some ⟨vb, 0, none⟩) la ca, .slice (some ⟨g, k, none⟩) lb cb]).run Tryz.prog w = .ok (.value (.bool false)) w := by
 rw [run_callFunc_extern Tryz.func189 (by kernel_rfl) (by kernel_rfl) (by kernel_rfl) (e := Extern.SlicesOverlaps.overlaps #[156, 156] #[4]) (by kernel_rfl)]
 rw [Lib.run_overlaps_apart w 156 4 204 Tryz.underlying156 5 (fun V => by
   cases hq : Tryz.prog.info? 204 with
   | none => have := psizeIn; rw [hq] at this; cases this
   | some i => have := psizeIn; rw [hq] at this; simp at this; simp [sizeOf, typeInfo, hq, this]) ⟨vb, 0, none⟩ ⟨g, k, none⟩ la ca lb cb hne 204 204 cs.length cur.length (by unfold World.shape?; rw [show w.heap[vb]? = _ from hv]; simp) (by unfold World.shape?; rw [show w.heap[g]? = _ from hg]; simp) hk (hv.free 0) (hv.free _)]
 rfl
theorem cut_from (V : World) (g n c k : Nat) (z : Int) (hz : z = (k : Int)) (hk : k ≤ n) (hc : c ≠ k) : (Instr.sliceAt 156 (.slice (some ⟨g, 0, none⟩) n c) (some (.int .i64 z)) none none).run Tryz.prog V = .ok (.slice (some ⟨g, k * 5, none⟩) (n - k) (c - k)) V := by
 subst hz
 have h := run_cutFrom (P := Tryz.prog) V Tryz.underlying156 psizeIn (some ⟨g, 0, none⟩) n c k .i64 hk
 rw [if_neg hc] at h
 simp only [Option.map_some, add_row] at h
 exact h
theorem cut_to (V : World) (A : Option Addr) (n c k : Nat) (z : Int) (hz : z = (k : Int)) (hk : k ≤ c) : (Instr.sliceAt 156 (.slice A n c) none (some (.int .i64 z)) none).run Tryz.prog V = .ok (.slice A k c) V := by
 subst hz
 exact run_cutTo V Tryz.underlying156 psizeIn A n c k .i64 hk
theorem insert_room (w : World) (B n c i g : Nat) (us : List Iv) (vb : Nat) (u : Iv) (hown : w.ownsRow B 204 5 (.slice (some ⟨g, 0, none⟩) n c) n (iflat us)) (hl : us.length = n) (hi : i < n) (hroom : n + 1 ≤ c) (hn : n ≤ 1000) (hv : Cel w vb 204 u.cells) (hne : vb ≠ g) :
  Calls Tryz.prog 175 #[.slice (some ⟨g, 0, none⟩) n c, .int .i64 i, .slice (some ⟨vb, 0, none⟩) 1 1] w (ISays w B (some ⟨g, 0, none⟩) n c (us.take i ++ u :: us.drop i)) := by
 obtain ⟨hlen, hor⟩ := hown
 obtain ⟨g', cap, cur, e1, hBg, hcur, hnc, hcm, hcs, htk⟩ : ∃ g' cap cur, Value.slice (some ⟨g, 0, none⟩) n c = .slice (some ⟨g', 0, none⟩) n cap ∧ B ≤ g' ∧ w.heap[g']? = some (.cells cur 204 (0, 0)) ∧ n ≤ cap ∧ cap ≤ maxLen ∧ cur.size = cap * 5 ∧ cur.toList.take (n * 5) = iflat us := by
  rcases hor with ⟨h, _⟩ | h
  ·cases h
  ·exact h
 cases e1
 obtain ⟨cs, rfl⟩ : ∃ cs : List Value, cur = cs.toArray := ⟨cur.toList, by simp⟩
 simp only [List.size_toArray] at hcs
 have hg : Cel w g 204 cs := hcur
 have hin : ((i + 1 : Nat) : Int) = (i : Int) + 1 := by omega
 have hnn : ((n + 1 : Nat) : Int) = (n : Int) + 1 := by omega
 have hlu : (iflat us).length = n * 5 := by rw [iflat_length, hl]
 have HLU := Lib.hid hlu
 have CUT1 := Lib.hid (fun V => cut_from V g n c i _ rfl (by omega) (by omega))
 have CUT2 := Lib.hid (fun V => cut_to V (some ⟨g, 0, none⟩) n c (n + 1) ((n : Int) + 1) hnn.symm hroom)
 have CUT3 := Lib.hid (fun V => cut_from V g (n + 1) c (i + 1) ((i : Int) + 1) hin.symm (by omega) (by omega))
 have CUT4 := Lib.hid (fun V => cut_from V g (n + 1) c i (i : Int) rfl (by omega) (by omega))
 have OV := Lib.hid (fun (V : World) (hv : Cel V vb 204 u.cells) (hg : Cel V g 204 cs) => overlaps_no V vb g ((i + 1) * 5) 1 1 (n - i) (c - (i + 1)) cs u.cells hv hg hne (by omega))
 have hov := OV.out w hv hg
 have HV := Lib.hid hv
 have HG := Lib.hid hg
 have HTK := Lib.hid htk
 have HCS := Lib.hid hcs
 have HCM := Lib.hid hcm
 have hb1 : ¬ ((c : Int) < (n : Int) + 1) := by omega
 have hb2 : ¬ ((i : Int) = (n : Int)) := by omega
 clear hcm hv hg hcur hor htk hcs hlu hlen hnn hin OV
 go_enter Tryz.func175, Tryz.ntmps175
 go_wp2_with (first
  | simp only [hov]
  | (refine wpList_slice rfl 156 (.tmp 10) (some (.tmp 11)) none none rfl (.slice (some ⟨g, i * 5, none⟩) (n - i) (c - i)) ?_ ?_; exact CUT1.out _)
  | (refine wpList_slice rfl 156 (.tmp 56) none (some (.tmp 59)) none rfl (.slice (some ⟨g, 0, none⟩) (n + 1 : Nat) c) ?_ ?_; exact CUT2.out _)
  | (refine wpList_slice rfl 156 (.tmp 62) (some (.tmp 65)) none none rfl (.slice (some ⟨g, (i + 1) * 5, none⟩) (n + 1 - (i + 1) : Nat) (c - (i + 1))) ?_ ?_; exact CUT3.out _))
 have hH : (fun V => V = w.drew) w.drew := rfl
 refine wp_region_N [8] (fun V => V = w.drew) (by kernel_rfl) ?_
 refine tk_ 0 (.slice (some ⟨g, 0, none⟩) (n + 1 : Nat) c) [4, 8] rfl hH ?_ ?_
 ·intro V hV; go_simp
 try simp only [Act.put, lay_]
 refine tk_ 1 (.int .i64 (i : Int)) [3, 4, 8] rfl hH ?_ ?_
 ·intro V hV; go_simp
 try simp only [Act.put, lay_]
 refine tk_ 2 (.int .i64 1) [3, 4, 8] rfl hH ?_ ?_
 ·intro V hV; go_simp
 try simp only [Act.put, lay_]
 refine tk_ 3 (.int .i64 ((i : Int) + 1)) [4, 8] rfl hH ?_ ?_
 ·intro V hV; have ew : IntKind.i64.wrap ((i : Int) + 1) = (i : Int) + 1 := (IntWalk.i64_in _ (by omega)); go_simp
 try simp only [Act.put, lay_]
 refine wpAnyN_take (i := 4) (v := .slice (some ⟨g, (i + 1) * 5, none⟩) (n + 1 - (i + 1)) (c - (i + 1))) [8] (by kernel_rfl) rfl (by kernel_rfl) (by kernel_rfl) (by kernel_rfl) (fun _ _ _ h => h) (yieldsIf_slice (by rfl) 156 (.tmp 69) (some (.tmp 72)) none none rfl _ (fun V => CUT3.out V)) hH ?_
 try simp only [Act.put, lay_]
 refine tk_ 5 (.slice (some ⟨g, 0, none⟩) (n + 1 : Nat) c) [7, 8] rfl hH ?_ ?_
 ·intro V hV; go_simp
 try simp only [Act.put, lay_]
 refine tk_ 6 (.int .i64 (i : Int)) [7, 8] rfl hH ?_ ?_
 ·intro V hV; go_simp
 try simp only [Act.put, lay_]
 refine wpAnyN_take (i := 7) (v := .slice (some ⟨g, i * 5, none⟩) (n + 1 - i) (c - i)) [8] (by kernel_rfl) rfl (by kernel_rfl) (by kernel_rfl) (by kernel_rfl) (fun _ _ _ h => h) (yieldsIf_slice (by rfl) 156 (.tmp 74) (some (.tmp 75)) none none rfl _ (fun V => CUT4.out V)) hH ?_
 try simp only [Act.put, lay_]
 refine wpAnyN_one (i := 8) (by kernel_rfl) rfl (fun K hK => ?_)
 refine step_copy_cel rfl (.tmp 73) (.tmp 76) 156 156 rfl 204 5 Tryz.underlying156 psizeIn g ((i + 1) * 5) (n + 1 - (i + 1)) (c - (i + 1)) ⟨g, i * 5, none⟩ (n + 1 - i) (c - i) rfl rfl cs 204 HG.out ((iflat us).drop (i * 5)) ?_ ?_ ?_ ?_ ?_
 ·rw [List.length_drop, HLU.out, show (n + 1 - i).min (n + 1 - (i + 1)) = n - i by show min _ _ = _; omega]; omega
 ·intro j v hj
  have h1 : (iflat us)[i * 5 + j]? = some v := by rwa [List.getElem?_drop] at hj
  have h2 : i * 5 + j < n * 5 := by have := (List.getElem?_eq_some_iff.1 h1).1; rwa [HLU.out] at this
  rw [Addr.add_lit]
  show w.cell? _ = _
  rw [HG.out.cell, ← h1, ← HTK.out, List.getElem?_take_of_lt h2]
 ·rw [List.length_drop, HLU.out, HCS.out]; omega
 ·intro v hv; exact iflat_one us v (List.mem_of_mem_drop hv)
 intro w1 hc1 hf1
 refine hK.out _ _ (.inl (by decide)) ?_
 clear hK K
 try simp only [Act.put, lay_]
 refine wpAnyN_done (by kernel_rfl) ?_ _
 have HC1 := Lib.hid hc1
 have HF1 := Lib.hid hf1
 have HV1 := Lib.hid ((show Cel w.drew vb 204 u.cells from HV.out).frm hf1 (by simpa using hne))
 have hl1 : (splice cs ((i + 1) * 5) ((iflat us).drop (i * 5))).length = c * 5 := by rw [length_splice _ _ _ (by rw [List.length_drop, HLU.out, HCS.out]; omega)]; exact HCS.out
 have HL1 := Lib.hid hl1
 clear hc1 hf1 hl1 hov
 go_wp2_with (first
  | (refine wpList_slice rfl 156 (.tmp 78) (some (.tmp 79)) none none rfl (.slice (some ⟨g, i * 5, none⟩) (n + 1 - i : Nat) (c - i)) ?_ ?_; exact CUT4.out _)
  | (refine wpList_copy_cel rfl (.tmp 80) (.tmp 81) 156 156 rfl 204 5 Tryz.underlying156 psizeIn g (i * 5) (n + 1 - i) (c - i) ⟨vb, 0, none⟩ 1 1 rfl rfl _ 204 HC1.out u.cells ?_ ?_ ?_ (pcells_one' u) ?_))
 ·show 5 = min 1 (n + 1 - i) * 5; omega
 ·intro j v hj
  rw [HV1.out.cell]; exact hj
 ·rw [HL1.out]; show i * 5 + 5 ≤ _; omega
 intro w2 hc2 hf2
 have HC2 := Lib.hid hc2
 have HF2 := Lib.hid hf2
 clear hc2 hf2
 go_wp2_with fail
 go_ret
 have hcut := splice_in cs (iflat us) u.cells (i * 5) 5 (n * 5) rfl HTK.out HLU.out (by omega) (by rw [HCS.out]; omega)
 refine ⟨_, _, rfl, ⟨?_, .inr ⟨g, c, (splice (splice cs ((i + 1) * 5) ((iflat us).drop (i * 5))) (i * 5) u.cells).toArray, rfl, hBg, HC2.out, hroom, HCM.out, ?_, ?_⟩⟩, ?_⟩
 ·rw [iflat_ins]
  simp only [List.length_append, List.length_take, List.length_drop, HLU.out, pcells_len]; omega
 ·rw [List.size_toArray, length_splice _ _ _ (by rw [HL1.out]; show i * 5 + 5 ≤ _; omega)]; exact HL1.out
 ·rw [iflat_ins, show (n + 1) * 5 = n * 5 + 5 by omega, show (i + 1) * 5 = i * 5 + 5 by omega]; exact hcut
 ·exact grown_of (l := [g]) ((Frm.refl [g] w).drew.trans (HF1.out.trans HF2.out)) (by simp [Value.ownBlock])
theorem insert_grow (w : World) (B n c i g : Nat) (us : List Iv) (vb : Nat) (u : Iv) (hown : w.ownsRow B 204 5 (.slice (some ⟨g, 0, none⟩) n c) n (iflat us)) (hl : us.length = n) (hi : i < n) (hroom : c < n + 1) (hn : n ≤ 1000) (hv : Cel w vb 204 u.cells) (hB : B ≤ w.heap.size) :
  Calls Tryz.prog 175 #[.slice (some ⟨g, 0, none⟩) n c, .int .i64 i, .slice (some ⟨vb, 0, none⟩) 1 1] w (ISays w B (some ⟨g, 0, none⟩) n c (us.take i ++ u :: us.drop i)) := by
 obtain ⟨hlen, hor⟩ := hown
 obtain ⟨g', cap, cur, e1, hBg, hcur, hnc, hcm, hcs, htk⟩ : ∃ g' cap cur, Value.slice (some ⟨g, 0, none⟩) n c = .slice (some ⟨g', 0, none⟩) n cap ∧ B ≤ g' ∧ w.heap[g']? = some (.cells cur 204 (0, 0)) ∧ n ≤ cap ∧ cap ≤ maxLen ∧ cur.size = cap * 5 ∧ cur.toList.take (n * 5) = iflat us := by
  rcases hor with ⟨h, _⟩ | h
  ·cases h
  ·exact h
 cases e1
 obtain rfl : n = c := by omega
 obtain ⟨cs, rfl⟩ : ∃ cs : List Value, cur = cs.toArray := ⟨cur.toList, by simp⟩
 simp only [List.size_toArray] at hcs
 have hg : Cel w g 204 cs := hcur
 have hlu : (iflat us).length = n * 5 := by rw [iflat_length, hl]
 have hcu : cs = iflat us := by rw [← htk, List.take_of_length_le (by simp [hcs])]
 subst hcu
 obtain ⟨i0, hi0, hz0, hzs, hzb⟩ := info_parts pinfoIn
 have hcell : ∀ j v, ((iflat us).take (i * 5))[j]? = some v → w.cell? ((⟨g, 0, none⟩ : Addr).add j) = some v := fun j v hj => by
  rw [add_row, hg.cell]
  rw [List.getElem?_take] at hj
  split at hj
  ·exact hj
  ·cases hj
 have hold : (Builtin.firstCells i0.size i (.slice (some ⟨g, 0, none⟩) i n)).run Tryz.prog w.drew = .ok ((iflat us).take (i * 5)).toArray w.drew := by
  rw [hzs]
  exact run_firstCells_some w.drew 5 i ⟨g, 0, none⟩ i n _ (by rw [List.length_take, hlu]; omega) hcell
 have hkk : (n : Int) + 1 - (i : Int) = ((n + 1 - i : Nat) : Int) := by omega
 have hik : i + (n + 1 - i) = n + 1 := by omega
 have hrz : ∀ ty, (Builtin.append_ #[156, 3] ty #[.slice (some ⟨g, 0, none⟩) i n, .int .i64 ((n : Int) + 1 - (i : Int))]).run Tryz.prog w = .ok (.slice (some ⟨w.heap.size, 0, none⟩) (n + 1 : Nat) (grownCap w (n + 1) n 204)) (w.drew.alloc (.cells (((iflat us).take (i * 5)).toArray ++ Builtin.zeroCells (Value.cells (.agg #[.int .i64 0, .int .i64 0, .int .i64 0, .bool false, .slice none 0 0])) (n + 1 - i) ++ Builtin.zeroCells (Value.cells (.agg #[.int .i64 0, .int .i64 0, .int .i64 0, .bool false, .slice none 0 0])) (grownCap w (n + 1) n 204 - (n + 1))) 204)) := fun ty => by
  have h := Lib.run_append_grow_zeros w 156 3 ty 204 i0 _ .i64 .i64 Tryz.underlying156 Tryz.underlying3 hi0 hz0 (some ⟨g, 0, none⟩) i n ((iflat us).take (i * 5)) hold (n + 1 - i) (by omega) (by omega) (by omega) (by omega) (by rw [hzb]; omega) (by rw [hzb, hik]; exact growslice_fits (by omega) (by omega))
  rw [hik] at h
  rw [hkk]
  exact h
 obtain ⟨G, hG⟩ : ∃ G, G = grownCap w (n + 1) n 204 := ⟨_, rfl⟩
 have hG1 := grownCap_ge w (n + 1) n 204
 have hG2 := grownCap_le_maxLen w (n + 1) n 204 (by unfold maxLen; omega)
 rw [← hG] at hrz hG1 hG2
 clear hG
 obtain ⟨Z, hZ, hZl⟩ : ∃ Z : List Value, ((iflat us).take (i * 5)).toArray ++ Builtin.zeroCells (Value.cells (.agg #[.int .i64 0, .int .i64 0, .int .i64 0, .bool false, .slice none 0 0])) (n + 1 - i) ++ Builtin.zeroCells (Value.cells (.agg #[.int .i64 0, .int .i64 0, .int .i64 0, .bool false, .slice none 0 0])) (G - (n + 1)) = ((iflat us).take (i * 5) ++ Z).toArray ∧ Z.length = (G - i) * 5 := by
  refine ⟨(Builtin.zeroCells (Value.cells (.agg #[.int .i64 0, .int .i64 0, .int .i64 0, .bool false, .slice none 0 0])) (n + 1 - i) ++ Builtin.zeroCells (Value.cells (.agg #[.int .i64 0, .int .i64 0, .int .i64 0, .bool false, .slice none 0 0])) (G - (n + 1))).toList, ?_, ?_⟩
  ·simp
  ·simp [Builtin.zeroCells, Value.cells]
   omega
 rw [hZ] at hrz
 clear hZ hold hcell hkk hik hi0 hz0 hzs hzb i0 hcur hor htk
 obtain ⟨W1, hW⟩ : ∃ W1, W1 = w.drew.alloc (.cells ((iflat us).take (i * 5) ++ Z).toArray 204) := ⟨_, rfl⟩
 have hW1 : Cel W1 w.heap.size 204 ((iflat us).take (i * 5) ++ Z) := by rw [hW]; exact Cel.new w.drew _ _
 have hbW : Below w.heap.size w W1 := by rw [hW]; exact (Below.refl _ _).drew.alloc (Nat.le_refl _) _
 rw [← hW] at hrz
 clear hW
 obtain ⟨q, hq⟩ : ∃ q, q = w.heap.size := ⟨_, rfl⟩
 have hgq : g ≠ q := by have := hg.lt; omega
 have hvq : vb ≠ q := by have := hv.lt; omega
 rw [← hq] at hrz hW1
 have HRZ := Lib.hid hrz
 have HG := Lib.hid (hg.below hbW hg.lt)
 have HV := Lib.hid (hv.below hbW hv.lt)
 have HQ := Lib.hid hq
 have HB := Lib.hid hB
 have HW1 := Lib.hid hW1
 have HBW := Lib.hid hbW
 have HG2 := Lib.hid hG2
 have HLU := Lib.hid hlu
 have HZL := Lib.hid hZl
 have hin : ((i + 1 : Nat) : Int) = (i : Int) + 1 := by omega
 have CUTF := Lib.hid (fun V => cut_from V g n n i _ rfl (by omega) (by omega))
 have CUTT := Lib.hid (fun V => cut_to V (some ⟨g, 0, none⟩) n n i _ rfl (by omega))
 have CUT2 := Lib.hid (fun V => cut_from V q (n + 1) G i _ rfl (by omega) (by omega))
 have CUT3 := Lib.hid (fun V => cut_from V q (n + 1) G (i + 1) ((i : Int) + 1) hin.symm (by omega) (by omega))
 have hlz : ((iflat us).take (i * 5) ++ Z).length = G * 5 := by rw [List.length_append, List.length_take, hlu, hZl]; omega
 have HLZ := Lib.hid hlz
 have hb1 : (n : Int) < (n : Int) + 1 := by omega
 have hb2 : ¬ ((i : Int) = (n : Int)) := by omega
 clear hrz hg hv hq hB hW1 hbW hG2 hlu hZl hlz hin hlen hcm hcs hnc
 go_enter Tryz.func175, Tryz.ntmps175
 go_wp2_with (first
  | (refine wpList_slice rfl 156 (.tmp 10) (some (.tmp 11)) none none rfl (.slice (some ⟨g, i * 5, none⟩) (n - i) (n - i)) ?_ ?_; exact CUTF.out _)
  | (refine wpList_slice rfl 156 (.tmp 32) none (some (.tmp 33)) none rfl (.slice (some ⟨g, 0, none⟩) i n) ?_ ?_; exact CUTT.out _)
  | (at_builtin; refine Lib.wpList_append_run _ rfl (.tmp 34) (.tmp 39) 156 3 rfl (.slice (some ⟨g, 0, none⟩) i n) (.int .i64 ((n : Int) + 1 - (i : Int))) rfl rfl _ _ (HRZ.out _) ?_)
  | (refine wpList_slice rfl 156 (.tmp 41) (some (.tmp 42)) none none rfl (.slice (some ⟨q, i * 5, none⟩) (n + 1 - i : Nat) (G - i)) ?_ ?_; exact CUT2.out _)
  | (refine wpList_copy_cel rfl (.tmp 43) (.tmp 44) 156 156 rfl 204 5 Tryz.underlying156 psizeIn q (i * 5) (n + 1 - i) (G - i) ⟨vb, 0, none⟩ 1 1 rfl rfl _ 204 HW1.out u.cells ?_ ?_ ?_ (pcells_one' u) ?_))
 ·show 5 = min 1 (n + 1 - i) * 5; omega
 ·intro j v hj
  rw [add_row, HV.out.cell]; exact hj
 ·rw [HLZ.out]; show i * 5 + 5 ≤ _; omega
 intro w2 hc2 hf2
 have hl2 : (splice ((iflat us).take (i * 5) ++ Z) (i * 5) u.cells).length = G * 5 := by rw [length_splice _ _ _ (by rw [HLZ.out]; show i * 5 + 5 ≤ _; omega)]; exact HLZ.out
 have HL2 := Lib.hid hl2
 have HC2 := Lib.hid hc2
 have HG2' := Lib.hid (HG.out.frm hf2 (by simpa using hgq))
 have HF2 := Lib.hid hf2
 clear hc2 hf2 hl2
 go_wp2_with fail
 have hH : (fun V => V = w2.drew) w2.drew := rfl
 refine wp_region_N [8] (fun V => V = w2.drew) (by kernel_rfl) ?_
 refine tk_ 0 (.slice (some ⟨q, 0, none⟩) (n + 1 : Nat) G) [4, 8] rfl hH ?_ ?_
 ·intro V hV; go_simp
 try simp only [Act.put, lay_]
 refine tk_ 1 (.int .i64 (i : Int)) [3, 4, 8] rfl hH ?_ ?_
 ·intro V hV; go_simp
 try simp only [Act.put, lay_]
 refine tk_ 2 (.int .i64 1) [3, 4, 8] rfl hH ?_ ?_
 ·intro V hV; go_simp
 try simp only [Act.put, lay_]
 refine tk_ 3 (.int .i64 ((i : Int) + 1)) [4, 8] rfl hH ?_ ?_
 ·intro V hV; have ew : IntKind.i64.wrap ((i : Int) + 1) = (i : Int) + 1 := (IntWalk.i64_in _ (by omega)); go_simp
 try simp only [Act.put, lay_]
 refine wpAnyN_take (i := 4) (v := .slice (some ⟨q, (i + 1) * 5, none⟩) (n + 1 - (i + 1)) (G - (i + 1))) [8] (by kernel_rfl) rfl (by kernel_rfl) (by kernel_rfl) (by kernel_rfl) (fun _ _ _ h => h) (yieldsIf_slice (by rfl) 156 (.tmp 46) (some (.tmp 49)) none none rfl _ (fun V => CUT3.out V)) hH ?_
 try simp only [Act.put, lay_]
 refine tk_ 5 (.slice (some ⟨g, 0, none⟩) n n) [7, 8] rfl hH ?_ ?_
 ·intro V hV; go_simp
 try simp only [Act.put, lay_]
 refine tk_ 6 (.int .i64 (i : Int)) [7, 8] rfl hH ?_ ?_
 ·intro V hV; go_simp
 try simp only [Act.put, lay_]
 refine wpAnyN_take (i := 7) (v := .slice (some ⟨g, i * 5, none⟩) (n - i) (n - i)) [8] (by kernel_rfl) rfl (by kernel_rfl) (by kernel_rfl) (by kernel_rfl) (fun _ _ _ h => h) (yieldsIf_slice (by rfl) 156 (.tmp 51) (some (.tmp 52)) none none rfl _ (fun V => CUTF.out V)) hH ?_
 try simp only [Act.put, lay_]
 refine wpAnyN_one (i := 8) (by kernel_rfl) rfl (fun K hK => ?_)
 refine step_copy_cel rfl (.tmp 50) (.tmp 53) 156 156 rfl 204 5 Tryz.underlying156 psizeIn q ((i + 1) * 5) (n + 1 - (i + 1)) (G - (i + 1)) ⟨g, i * 5, none⟩ (n - i) (n - i) rfl rfl _ 204 HC2.out ((iflat us).drop (i * 5)) ?_ ?_ ?_ ?_ ?_
 ·rw [List.length_drop, HLU.out, show (n - i).min (n + 1 - (i + 1)) = n - i by show min _ _ = _; omega]; omega
 ·intro j v hj
  have h1 : (iflat us)[i * 5 + j]? = some v := by rwa [List.getElem?_drop] at hj
  rw [Addr.add_lit]
  show w2.cell? _ = _
  rw [HG2'.out.cell, h1]
 ·rw [List.length_drop, HLU.out, HL2.out]; omega
 ·intro v hv; exact iflat_one us v (List.mem_of_mem_drop hv)
 intro w3 hc3 hf3
 refine hK.out _ _ (.inl (by decide)) ?_
 clear hK K
 try simp only [Act.put, lay_]
 refine wpAnyN_done (by kernel_rfl) ?_ _
 have HC3 := Lib.hid hc3
 have HF3 := Lib.hid hf3
 clear hc3 hf3
 go_wp2_with fail
 go_ret
 have hcut := splice_new (iflat us) Z u.cells (i * 5) 5 (n * 5) rfl HLU.out (by omega) (by rw [HZL.out]; omega)
 refine ⟨_, _, rfl, ⟨?_, .inr ⟨q, G, _, rfl, by rw [HQ.out]; exact HB.out, HC3.out, hG1, HG2.out, ?_, ?_⟩⟩, ?_⟩
 ·rw [iflat_ins]
  simp only [List.length_append, List.length_take, List.length_drop, HLU.out, pcells_len]; omega
 ·rw [List.size_toArray, length_splice _ _ _ (by rw [HL2.out, List.length_drop, HLU.out]; omega)]; exact HL2.out
 ·rw [iflat_ins, show (n + 1) * 5 = n * 5 + 5 by omega, show (i + 1) * 5 = i * 5 + 5 by omega]; exact hcut
 ·have h23 : Frm [q] W1 w3 := (HF2.out.drew.trans HF3.out)
  exact ⟨h23.os.trans HBW.out.os, h23.tape.trans HBW.out.tape, h23.output.trans HBW.out.output, Nat.le_trans HBW.out.size h23.size, fun k hk _ => (h23.block k (by have := HBW.out.size; omega) (by rw [List.mem_singleton, HQ.out]; omega)).trans (HBW.out.block k hk)⟩
theorem insert_call (w : World) (B n c i : Nat) (A : Option Addr) (us : List Iv) (vb : Nat) (u : Iv) (hown : w.ownsRow B 204 5 (.slice A n c) n (iflat us)) (hl : us.length = n) (hi : i ≤ n) (hn : n ≤ 1000) (hv : Cel w vb 204 u.cells) (hne : (Value.slice A n c).ownBlock ≠ some vb) (hB : B ≤ w.heap.size) :
  Calls Tryz.prog 175 #[.slice A n c, .int .i64 i, .slice (some ⟨vb, 0, none⟩) 1 1] w (ISays w B A n c (us.take i ++ u :: us.drop i)) := by
 rcases Nat.lt_or_ge i n with hlt | hge
 ·obtain ⟨g, rfl⟩ : ∃ g, A = some ⟨g, 0, none⟩ := by
   rcases hown.2 with ⟨_, h⟩ | ⟨g, _, _, e, _⟩
   ·omega
   ·cases e; exact ⟨g, rfl⟩
  rcases Nat.lt_or_ge c (n + 1) with hc | hc
  ·exact insert_grow w B n c i g us vb u hown hl hlt hc hn hv hB
  ·exact insert_room w B n c i g us vb u hown hl hlt hc hn hv (fun e => hne (by rw [e]; rfl))
 ·obtain rfl : i = n := by omega
  rw [List.take_of_length_le (by omega), List.drop_eq_nil_of_le (by omega)]
  exact insert_end w B i c A us vb u hown hl hn hv hB
end Go.Proofs.YteohlpmojfjjdaaGreat.Nfa
end
section
namespace Go.Proofs.YteohlpmojfjjdaaGreat.Nfa
open Go.RowKit Go.Proofs.YteohlpmojfjjdaaGreat.Ord
open Reg (Sp sflat)
structure Wr (w w' : World) : Prop where
 size : w.heap.size ≤ w'.heap.size
 keep : ∀ k, k < w.heap.size → (∀ o t fz, w.heap[k]? = some (Obj.cells o t fz) → t ≠ 199 ∧ t ≠ 204 ∧ t ≠ 3) → w'.heap[k]? = w.heap[k]?
theorem Wr.trans {w w1 w2 : World} (h : Wr w w1) (h2 : Wr w1 w2) : Wr w w2 := ⟨Nat.le_trans h.size h2.size, fun k hk ht => by
 have e := h.keep k hk ht
 rw [h2.keep k (Nat.lt_of_lt_of_le hk h.size) (by rw [e]; exact ht), e]⟩
theorem Wr.of_below {w w' : World} (h : Below w.heap.size w w') : Wr w w' := ⟨h.size, fun k hk _ => h.block k hk⟩
theorem Wr.of_grown {w w' : World} {B n size : Nat} {t : TypeId} {v : Value} {cs : List Value} (ho : w.ownsRow B t size v n cs) (ht : t = 204 ∨ t = 3) (hg : w.grownBy w' v.ownBlock) : Wr w w' := ⟨hg.size, fun k hk h => hg.block k hk fun e => by
 rcases ho.2 with ⟨rfl, _⟩ | ⟨g, cap, cur, rfl, _, hc, _⟩
 ·simp [Value.ownBlock] at e
 ·obtain rfl : k = g := by simpa [Value.ownBlock] using e
  have := h _ _ _ hc
  rcases ht with rfl | rfl
  ·exact this.2.1 rfl
  ·exact this.2.2 rfl⟩
theorem Wr.of_set {w : World} {s : Nat} {cs : List Value} (h : Cel w s 199 cs) (i : Nat) (u : Value) : Wr w (w.setCell ⟨s, i, none⟩ u) := ⟨by simp [World.setCell], fun k hk ht => Below.heap_setCell _ _ _ _ (fun e => by
 obtain rfl : k = s := e
 exact (ht _ _ _ h).1 rfl)⟩
def goI (b : Nat) : Value := .int .i64 (b : Int)
theorem goI_one (l : List Nat) : ∀ u ∈ l.map goI, u.oneCell' = true := by
 intro u hu
 obtain ⟨b, _, rfl⟩ := List.mem_map.1 hu
 rfl
theorem infoInt : (Tryz.prog.info? 3).map (fun i => (i.zero, i.size, i.bytes)) = some (some (.int .i64 0), 1, 8) := by kernel_rfl
theorem rowInt : ElemRow Tryz.prog 197 3 1 8 := ElemRow.mk' Tryz.underlying197 infoInt rfl (by decide)
structure Sm (w0 w : World) (s : Nat) (Ac : Option Addr) (cc : Nat) (Ab : Option Addr) (cb n m : Nat) (big : Bool) (us : List Iv) (bs : List Nat) : Prop where
 low : Below w0.heap.size w0 w
 ge : w0.heap.size ≤ s
 cel : Cel w s 199 [.slice Ac n cc, .slice Ab m cb, .bool big]
 code : w.ownsRow w0.heap.size 204 5 (.slice Ac n cc) n (iflat us)
 begs : w.ownsRow w0.heap.size 3 1 (.slice Ab m cb) m (bs.reverse.map goI)
structure Sq (w0 w : World) (s : Nat) (q : Lw) : Prop where
 ok : Ok q
 ex : ∃ Ac cc Ab cb us, us.map (·.i) = q.code ∧ (∀ u ∈ us, Cz w0 u.A (sflat u.i.sp)) ∧ Sm w0 w s Ac cc Ab cb q.code.length q.bs.length q.big us q.bs
section
variable {w0 w w' w1 w2 : World} {s cc cb n m : Nat} {Ac Ab : Option Addr} {big : Bool} {us : List Iv} {bs : List Nat} {q : Lw}
theorem Sm.below (h : Sm w0 w s Ac cc Ab cb n m big us bs) (hb : Below w.heap.size w w') : Sm w0 w' s Ac cc Ab cb n m big us bs :=
 ⟨h.low.trans (hb.mono h.low.size), h.ge, Cel.below h.cel hb h.cel.lt, own_frm (l := []) h.code (Frm.of_below hb) (by simp), own_frm (l := []) h.begs (Frm.of_below hb) (by simp)⟩
theorem Sq.below (h : Sq w0 w s q) (hb : Below w.heap.size w w') : Sq w0 w' s q := by
 obtain ⟨Ac, cc, Ab, cb, us, h1, h2, h3⟩ := h.ex
 exact ⟨h.ok, Ac, cc, Ab, cb, us, h1, h2, h3.below hb⟩
theorem Sq.low (h : Sq w0 w s q) : Below w0.heap.size w0 w := by
 obtain ⟨Ac, cc, Ab, cb, us, h1, h2, h3⟩ := h.ex
 exact h3.low
theorem Sm.recode {A' : Option Addr} {c' n' : Nat} {vs : List Iv} (h : Sm w0 w1 s Ac cc Ab cb n m big us bs) (hg : w1.grownBy w2 (Value.slice Ac n cc).ownBlock) (ho : w2.ownsRow w0.heap.size 204 5 (.slice A' n' c') n' (iflat vs)) :
  Cel w2 s 199 [.slice Ac n cc, .slice Ab m cb, .bool big] ∧ Sm w0 (w2.setCell ⟨s, 0, none⟩ (.slice A' n' c')) s A' c' Ab cb n' m big vs bs ∧ Wr w1 (w2.setCell ⟨s, 0, none⟩ (.slice A' n' c')) := by
 have hc : Cel w2 s 199 [.slice Ac n cc, .slice Ab m cb, .bool big] := h.cel.grown hg (own_ty_ne h.code h.cel (by decide))
 have hf : Frm [s] w2 (w2.setCell ⟨s, 0, none⟩ (.slice A' n' c')) := (Frm.refl [s] w2).set (by simp) _
 have hb2 : w2.ownsRow w0.heap.size 3 1 (.slice Ab m cb) m (bs.reverse.map goI) := own_frm (l := (Value.slice Ac n cc).ownBlock.toList) h.begs ((Frm.refl _ _).grown hg (fun g e _ => by rw [e]; simp)) fun g hg' e => by
  exact own_two h.begs h.code (by decide) g e (by simpa using hg')
 refine ⟨hc, ⟨?_, h.ge, Cel.set hc 0 _, own_frm ho hf fun g hg' => ?_, own_frm hb2 hf fun g hg' => ?_⟩, (Wr.of_grown h.code (.inl rfl) hg).trans (Wr.of_set hc 0 _)⟩
 ·have h12 : Below w0.heap.size w1 w2 := ⟨hg.os, hg.tape, hg.output, hg.size, fun k hk => hg.block k (Nat.lt_of_lt_of_le hk h.low.size) fun e => by have := own_ge h.code k e.symm; omega⟩
  exact (h.low.trans h12).trans (hf.below (Nat.le_trans h.low.size hg.size) (by have := h.ge; simp; omega))
 ·rw [List.mem_singleton.1 hg']; exact own_ty_ne ho hc (by decide)
 ·rw [List.mem_singleton.1 hg']; exact own_ty_ne hb2 hc (by decide)
theorem Sm.rebegs {A' : Option Addr} {c' n' : Nat} {bs' : List Nat} (h : Sm w0 w1 s Ac cc Ab cb n m big us bs) (hg : w1.grownBy w2 (Value.slice Ab m cb).ownBlock) (ho : w2.ownsRow w0.heap.size 3 1 (.slice A' n' c') n' (bs'.reverse.map goI)) :
  Cel w2 s 199 [.slice Ac n cc, .slice Ab m cb, .bool big] ∧ Sm w0 (w2.setCell ⟨s, 1, none⟩ (.slice A' n' c')) s Ac cc A' c' n n' big us bs' ∧ Wr w1 (w2.setCell ⟨s, 1, none⟩ (.slice A' n' c')) := by
 have hc : Cel w2 s 199 [.slice Ac n cc, .slice Ab m cb, .bool big] := h.cel.grown hg (own_ty_ne h.begs h.cel (by decide))
 have hf : Frm [s] w2 (w2.setCell ⟨s, 1, none⟩ (.slice A' n' c')) := (Frm.refl [s] w2).set (by simp) _
 have hb2 : w2.ownsRow w0.heap.size 204 5 (.slice Ac n cc) n (iflat us) := own_frm (l := (Value.slice Ab m cb).ownBlock.toList) h.code ((Frm.refl _ _).grown hg (fun g e _ => by rw [e]; simp)) fun g hg' e => by
  exact own_two h.code h.begs (by decide) g e (by simpa using hg')
 refine ⟨hc, ⟨?_, h.ge, Cel.set hc 1 _, own_frm hb2 hf fun g hg' => ?_, own_frm ho hf fun g hg' => ?_⟩, (Wr.of_grown h.begs (.inr rfl) hg).trans (Wr.of_set hc 1 _)⟩
 ·have h12 : Below w0.heap.size w1 w2 := ⟨hg.os, hg.tape, hg.output, hg.size, fun k hk => hg.block k (Nat.lt_of_lt_of_le hk h.low.size) fun e => by have := own_ge h.begs k e.symm; omega⟩
  exact (h.low.trans h12).trans (hf.below (Nat.le_trans h.low.size hg.size) (by have := h.ge; simp; omega))
 ·rw [List.mem_singleton.1 hg']; exact own_ty_ne hb2 hc (by decide)
 ·rw [List.mem_singleton.1 hg']; exact own_ty_ne ho hc (by decide)
theorem Sm.mark (h : Sm w0 w s Ac cc Ab cb n m big us bs) : Sm w0 (w.setCell ⟨s, 2, none⟩ (.bool true)) s Ac cc Ab cb n m true us bs ∧ Wr w (w.setCell ⟨s, 2, none⟩ (.bool true)) := by
 have hf : Frm [s] w (w.setCell ⟨s, 2, none⟩ (.bool true)) := (Frm.refl [s] w).set (by simp) _
 refine ⟨⟨h.low.trans (hf.below h.low.size (by have := h.ge; simp; omega)), h.ge, Cel.set h.cel 2 _, own_frm h.code hf fun g hg' => ?_, own_frm h.begs hf fun g hg' => ?_⟩, Wr.of_set h.cel 2 _⟩
 ·rw [List.mem_singleton.1 hg']; exact own_ty_ne h.code h.cel (by decide)
 ·rw [List.mem_singleton.1 hg']; exact own_ty_ne h.begs h.cel (by decide)
end
def QSays (w0 w : World) (s : Nat) (q : Lw) (e : Ending) (w' : World) : Prop := e = .returned (.tuple #[]) ∧ Sq w0 w' s q ∧ Wr w w'
def SI (s b : Nat) (cv : Value) (kd x y : Int) (ng : Bool) (sv : Value) (V : World) : Prop :=
 V.cell? ⟨s, 0, none⟩ = some cv ∧ V.cell? ⟨b, 0, none⟩ = some (.int .i64 kd) ∧ V.cell? ⟨b, 1, none⟩ = some (.int .i64 x) ∧ V.cell? ⟨b, 2, none⟩ = some (.int .i64 y) ∧ V.cell? ⟨b, 3, none⟩ = some (.bool ng) ∧ V.cell? ⟨b, 4, none⟩ = some sv
theorem SI.of {s b : Nat} {cs : List Value} {cv : Value} {t : TypeId} {kd x y : Int} {ng : Bool} {sv : Value} {V : World} (h : Cel V s t cs) (h0 : cs[0]? = some cv) (hb : Cel V b 204 [.int .i64 kd, .int .i64 x, .int .i64 y, .bool ng, sv]) : SI s b cv kd x y ng sv V :=
 ⟨by rw [h.cell 0]; exact h0, hb.cell 0, hb.cell 1, hb.cell 2, hb.cell 3, hb.cell 4⟩
theorem ins_full_call (w0 w : World) (s at_ : Nat) (q : Lw) (h : Sq w0 w s q) (hf : q.code.length = 200) (kd x y : Int) (ng : Bool) (A : Option Addr) (l c : Nat) :
  Calls Tryz.prog 159 #[.pointer (some ⟨s, 0, none⟩), .int .i64 (at_ : Int), .agg #[.int .i64 kd, .int .i64 x, .int .i64 y, .bool ng, .slice A l c]] w (QSays w0 w s ⟨q.code, q.bs, true⟩) := by
 obtain ⟨Ac, cc, Ab, cb, us, h1, h2, h3⟩ := h.ex
 rw [hf] at h3
 generalize hW : w.alloc (.cells #[.int .i64 kd, .int .i64 x, .int .i64 y, .bool ng, .slice A l c] 204) = W
 have hbW : Below w.heap.size w W := by rw [← hW]; exact (Below.refl _ _).alloc (Nat.le_refl _) _
 have h3W := h3.below hbW
 have c0 := h3W.cel.cell 0
 have c2 := h3W.cel.cell 2
 have f2 := h3W.cel.free 2
 obtain ⟨hm, hw⟩ := h3W.mark
 have HM := Lib.hid (show Sq w0 (W.setCell ⟨s, 2, none⟩ (.bool true)) s ⟨q.code, q.bs, true⟩ from ⟨⟨h.ok.len, h.ok.bs⟩, Ac, cc, Ab, cb, us, h1, h2, by rw [hf]; exact hm⟩)
 have HWR := Lib.hid ((Wr.of_below hbW).trans hw)
 clear h h1 h2 h3 h3W hm hw hbW hf
 go_enter Tryz.func159, Tryz.ntmps159
 go_wp2_with fail
 go_end0
 exact ⟨rfl, HM.out, HWR.out⟩
theorem ins_room_call (w0 w : World) (s at_ : Nat) (q : Lw) (h : Sq w0 w s q) (hf : q.code.length < 200) (hat : at_ ≤ q.code.length) (kd x y : Int) (ng : Bool) (A : Option Addr) (sp : List Sp) (l c : Nat) (hsp : Cz w0 A (sflat sp)) (hl : sp.length = l) :
  Calls Tryz.prog 159 #[.pointer (some ⟨s, 0, none⟩), .int .i64 (at_ : Int), .agg #[.int .i64 kd, .int .i64 x, .int .i64 y, .bool ng, .slice A l c]] w (QSays w0 w s ⟨q.code.take at_ ++ ⟨kd, x, y, ng, sp⟩ :: q.code.drop at_, q.bs, q.big⟩) := by
 obtain ⟨Ac, cc, Ab, cb, us, h1, h2, h3⟩ := h.ex
 have hul : us.length = q.code.length := by rw [← h1, List.length_map]
 obtain ⟨n, hn⟩ : ∃ n, n = q.code.length := ⟨_, rfl⟩
 rw [← hn] at h3 hf hat hul
 generalize hW : w.alloc (.cells #[.int .i64 kd, .int .i64 x, .int .i64 y, .bool ng, .slice A l c] 204) = W
 have hWs : W.heap.size = w.heap.size + 1 := by rw [← hW]; simp
 have hbW : Below w.heap.size w W := by rw [← hW]; exact (Below.refl _ _).alloc (Nat.le_refl _) _
 have hcW : Cel W w.heap.size 204 [.int .i64 kd, .int .i64 x, .int .i64 y, .bool ng, .slice A l c] := by rw [← hW]; exact Cel.new w _ _
 have h3W := h3.below hbW
 have c0 := h3W.cel.cell 0
 have hH : SI s w.heap.size (.slice Ac n cc) kd x y ng (.slice A l c) W.drew := SI.of (t := 199) h3W.cel rfl hcW
 have hb5 : Below W.heap.size W (W.drew.alloc (.cells #[.int .i64 kd, .int .i64 x, .int .i64 y, .bool ng, .slice A l c] 204)) := ((Below.refl _ _).drew).alloc (Nat.le_refl _) _
 have H5 := Lib.hid (h3W.below hb5)
 have HC5 := Lib.hid (hcW.below hb5 hcW.lt)
 have HV5 := Lib.hid (show Cel (W.drew.alloc (.cells #[.int .i64 kd, .int .i64 x, .int .i64 y, .bool ng, .slice A l c] 204)) (w.heap.size + 1) 204 (Iv.cells ⟨⟨kd, x, y, ng, sp⟩, A, c⟩) by
  rw [← hWs]
  have := Cel.new W.drew 204 [.int .i64 kd, .int .i64 x, .int .i64 y, .bool ng, .slice A l c]
  rw [← hl] at this ⊢
  exact this)
 have HB5 := Lib.hid (hbW.trans (hb5.mono (by omega)))
 have HSP := Lib.hid hsp
 have HL := Lib.hid hl
 have HOK := Lib.hid h.ok
 have H1 := Lib.hid h1
 have H2 := Lib.hid h2
 have HN := Lib.hid hn
 have HUL := Lib.hid hul
 have HNE := Lib.hid (show (Value.slice Ac n cc).ownBlock ≠ some w.heap.size from fun e => by have := own_lt h3.code _ e; omega)
 have HWR := Lib.hid ((Wr.of_below hbW).trans (Wr.of_below hb5))
 have CON := Lib.hid (insert_call _ w0.heap.size n cc at_ Ac us (w.heap.size + 1) ⟨⟨kd, x, y, ng, sp⟩, A, c⟩ H5.out.code hul hat (by omega) HV5.out (fun e => by have := own_lt h3W.code _ e; omega) H5.out.low.size)
 have hne : ¬ ((n : Int) = 200) := by omega
 clear h h1 h2 h3 h3W hb5 hbW hcW hsp hl hn hul
 go_enter Tryz.func159, Tryz.ntmps159
 go_wp2_with fail
 clear hW
 refine wp_region_N [9, 10, 11] (SI s w.heap.size (.slice Ac n cc) kd x y ng (.slice A l c)) (by kernel_rfl) ?_
 refine tk_ 0 (.pointer (some ⟨s, 0, none⟩)) [9, 10, 11] rfl hH ?_ ?_
 ·intro V hV; go_simp
 try simp only [Act.put, lay_]
 refine tk_ 1 (.pointer (some ⟨s, 0, none⟩)) [9, 10, 11] rfl hH ?_ ?_
 ·intro V hV; go_simp
 try simp only [Act.put, lay_]
 refine tk_ 2 (.pointer (some ⟨s, 0, none⟩)) [9, 10, 11] rfl hH ?_ ?_
 ·intro V hV; go_simp
 try simp only [Act.put, lay_]
 refine tk_ 3 (.pointer (some ⟨s, 0, none⟩)) [9, 10, 11] rfl hH ?_ ?_
 ·intro V hV; go_simp
 try simp only [Act.put, lay_]
 refine tk_ 4 (.slice Ac n cc) [9, 10, 11] rfl hH ?_ ?_
 ·intro V hV; obtain ⟨k0, k1, k2, k3, k4, k5⟩ := hV; go_simp
 try simp only [Act.put, lay_]
 refine tk_ 5 (.int .i64 (at_ : Int)) [9, 10, 11] rfl hH ?_ ?_
 ·intro V hV; go_simp
 try simp only [Act.put, lay_]
 refine tk_ 6 (.agg #[.int .i64 kd, .int .i64 x, .int .i64 y, .bool ng, .slice A l c]) [9, 10, 11] rfl hH ?_ ?_
 ·intro V hV; obtain ⟨k0, k1, k2, k3, k4, k5⟩ := hV; go_simp
 try simp only [Act.put, lay_]
 refine wpAnyN_one (i := 7) (by kernel_rfl) rfl (fun K hK => ?_)
 go_simp
 refine hK.out _ _ (.inr ?_) ?_
 ·exact SI.of H5.out.cel rfl HC5.out
 clear hK K
 try simp only [Act.put, lay_]
 refine wpAnyN_one (i := 8) (by kernel_rfl) rfl (fun K hK => ?_)
 go_simp
 refine CON.out.mono ?_
 rintro e w8 ⟨A8, c8, rfl, ho8, hg8⟩
 go_wp2_with fail
 obtain ⟨hp8, hm9, hw9⟩ := H5.out.recode hg8 ho8
 have hc8 := HC5.out.grown hg8 HNE.out
 have y8 := hp8.cell 0
 have g8 := hp8.free 0
 have hS8 := SI.of (t := 199) hp8 rfl hc8
 have HQ9 := Lib.hid (show Sq w0 (w8.setCell ⟨s, 0, none⟩ (.slice A8 (n + 1 : Nat) c8)) s ⟨q.code.take at_ ++ ⟨kd, x, y, ng, sp⟩ :: q.code.drop at_, q.bs, q.big⟩ from by
   have hlen : (q.code.take at_ ++ ⟨kd, x, y, ng, sp⟩ :: q.code.drop at_).length = n + 1 := by simp only [List.length_append, List.length_take, List.length_cons, List.length_drop, ← HN.out]; omega
   have hok := HOK.out.ins ⟨kd, x, y, ng, sp⟩ (a := at_) (by rw [← HN.out]; exact hat)
   rw [ins_room (by rw [← HN.out]; exact hf)] at hok
   refine ⟨hok, A8, c8, Ab, cb, _, ?_, ?_, by rw [hlen]; exact hm9⟩
   ·rw [List.map_append, List.map_cons, List.map_take, List.map_drop, H1.out]
   ·intro u hu
    rcases List.mem_append.1 hu with hu | hu
    ·exact H2.out u (List.mem_of_mem_take hu)
    rcases List.mem_cons.1 hu with rfl | hu
    ·exact HSP.out
    ·exact H2.out u (List.mem_of_mem_drop hu))
 have HW9 := Lib.hid (HWR.out.trans hw9)
 refine hK.out _ _ (.inr hS8) ?_
 clear hK K hm9 hw9 ho8 hg8 hp8 hc8 hS8
 try simp only [Act.put, lay_]
 refine wpAnyN_one (i := 9) (by kernel_rfl) rfl (fun K hK => ?_)
 go_simp
 refine hK.out _ _ (.inl (by decide)) ?_
 clear hK K
 try simp only [Act.put, lay_]
 refine wpAnyN_one (i := 10) (by kernel_rfl) rfl (fun K hK => ?_)
 go_simp
 refine hK.out _ _ (.inl (by decide)) ?_
 clear hK K
 try simp only [Act.put, lay_]
 refine wpAnyN_one (i := 11) (by kernel_rfl) rfl (fun K hK => ?_)
 go_simp
 refine hK.out _ _ (.inl (by decide)) ?_
 clear hK K
 try simp only [Act.put, lay_]
 refine wpAnyN_done (by kernel_rfl) ?_ _
 go_wp2_with fail
 go_end0
 exact ⟨rfl, HQ9.out, HW9.out⟩
end Go.Proofs.YteohlpmojfjjdaaGreat.Nfa
end
