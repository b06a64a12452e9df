/-
  The program's records (layer 15): the reader. (Written by gen_recreader.py.)
-/
import Derived.Test.YthaebchmlicgaaaRecPput
import Derived.Test.YthaebchmlicgaaaRecGet
namespace Go.Proofs.Ythaebchmlicgaaa.Pack
theorem rd_small (s : Nat) (hs1 : 1 ≤ s) (hs4 : s ≤ 4) (st : St) : (rnum (s : Int) st).1.toNat < 4294967296 := by
  have h := Rec.rnum_small s hs1 (by omega) st
  have h3 : (256 : Nat) ^ s ≤ 256 ^ 4 := Nat.pow_le_pow_right (by decide) hs4
  have e : (256 : Nat) ^ 4 = 4294967296 := by decide
  omega
theorem rtext_len (st : St) : (rtext st).1.length ≤ 65535 := by
  have hx := rnum2_small st
  unfold rtext
  generalize (rnum 2 st).1.toNat = x at hx ⊢
  cases (rnum 2 st).2 with
  | none => simp [rnext]
  | some r => by_cases hkr : x ≤ r.length <;> simp [rnext, hkr] <;> omega
end Go.Proofs.Ythaebchmlicgaaa.Pack
namespace Go.Proofs.Ythaebchmlicgaaa.Rec
open Go.RowKit Go.Proofs.Ythaebchmlicgaaa.Ord
open Go.Proofs.Ythaebchmlicgaaa.Lex (Tx Owb rowB)
open Go.Proofs.Ythaebchmlicgaaa.Pack (Own Rd St rnum rtext)
set_option linter.unusedVariables false
set_option linter.unusedSimpArgs false

theorem rm_number (J : Nat) : Meth 58 J "davit/record.number" 75 := ⟨fun m W => by kernel_rfl, fun _ _ => by kernel_rfl⟩
theorem rm_text (J : Nat) : Meth 58 J "davit/record.text" 76 := ⟨fun m W => by kernel_rfl, fun _ _ => by kernel_rfl⟩
theorem rm_texts (J : Nat) : Meth 58 J "davit/record.texts" 77 := ⟨fun m W => by kernel_rfl, fun _ _ => by kernel_rfl⟩
theorem made_rows (k : Nat) : madeCells (Value.cells (.slice none 0 0)) (k * 1) = (List.replicate k (Value.slice none 0 0)).toArray := by
  apply Array.ext
  · simp [size_madeCells]
  · intro i h1 h2
    simp [madeCells, Value.cells, Nat.mod_one]
theorem run_make_rows64 (w : World) (k : Nat) (hk : k ≤ 1000000) :
    (Instr.makeSlice 22 (.int .u64 (k : Int)) (.int .u64 (k : Int))).run Try.prog w = .ok (.slice (some ⟨w.heap.size, 0, none⟩) k k) (w.alloc (.cells (List.replicate k (Value.slice none 0 0)).toArray 25)) := by
  obtain ⟨i, hi, hz, hsz, hby⟩ := info_parts infoRw
  have h := run_make (P := Try.prog) w 22 25 i (.slice none 0 0) Try.underlying22 hi hz .u64 .u64 k k (by omega) (Int.le_refl _) (by rw [hby]; omega) (by omega)
  simp only [Int.toNat_natCast] at h
  rw [hsz, made_rows] at h
  exact h
theorem by_at {w w' : World} {A : Option Addr} {n : Nat} {bs : List B8} (h : By w A n bs) (hk : ∀ ad, A = some ad → (∃ cs fz, w.heap[ad.block]? = some (Obj.cells cs 5 fz)) → w'.heap[ad.block]? = w.heap[ad.block]?) : By w' A n bs :=
  ⟨h.1, fun hn => by
    obtain ⟨ad, e, ⟨cs, fz, hg⟩, hc⟩ := h.2 hn
    have hb := hk ad e ⟨cs, fz, hg⟩
    exact ⟨ad, e, ⟨cs, fz, hb.trans hg⟩, fun j hj => (World.cell?_of_block (by rw [add_block]; exact hb)).trans (hc j hj)⟩⟩
/-- Texts in blocks of bytes from block K on. -/
def Byk (K : Nat) (w : World) (vs : List Vt) : Prop := ∀ v ∈ vs, (By w v.A v.t.length v.t ∧ v.t.length ≤ 65535) ∧ ∀ ad, v.A = some ad → K ≤ ad.block
theorem Byk.frm {K : Nat} {w w' : World} {vs : List Vt} {l : List Nat} (h : Byk K w vs) (hf : Frm l w w') (hl : ∀ k ∈ l, k < K ∨ ∀ cs fz, w.heap[k]? ≠ some (Obj.cells cs 5 fz)) : Byk K w' vs := fun v hv => ⟨⟨by_at (h v hv).1.1 fun ad e ⟨cs, fz, hg⟩ => hf.block _ (Array.getElem?_eq_some_iff.1 hg).1 fun hm => by
    rcases hl _ hm with h1 | h1
    · have := (h v hv).2 ad e
      omega
    · exact h1 cs fz hg, (h v hv).1.2⟩, (h v hv).2⟩
theorem Byk.bys {K : Nat} {w : World} {vs : List Vt} (h : Byk K w vs) : Bys w vs := fun v hv => (h v hv).1
theorem own_at {w : World} {B n c : Nat} {ad : Addr} {bs : List B8} (h : Own w B (some ad) n c bs) : B ≤ ad.block := own_ge h _ rfl
set_option maxRecDepth 100000 in
set_option maxHeartbeats 1000000 in
theorem r_number (w : World) {B d g J R k s : Nat} {st : St} {t : TypeId} {cs : List Value} {z : Value} {a b c : Int} (hd : Rd w B d g st) (hJ : Cel w J 60 [pp g 0]) (hR : Cel w R t cs) (hk : cs[k]? = some z) (hgJ : g < J) (hgR : g < R) (hs1 : 1 ≤ s) (hs4 : s ≤ 4) (hc0 : 0 ≤ c) (hc1 : c ≤ 10) :
    Calls Try.prog 75 #[pp J 0, pp R k, spn a b c (s : Int)] w fun e w' => e = .returned (.tuple #[]) ∧ Rd w' B d g (rd s st).2 ∧ Cel w' R t (cs.set k (.int .i64 ((rd s st).1 - c))) ∧ Frm [d, g, R] w w' := by
  obtain ⟨w1, hw1⟩ : ∃ w1, w1 = w.alloc (.cells #[.int .i64 a, .int .i64 b, .int .i64 c, .int .i64 (s : Int)] 88) := ⟨_, rfl⟩
  obtain ⟨G, hG⟩ : ∃ G, G = w.heap.size := ⟨_, rfl⟩
  have hc1' : Cel w1 G 88 [.int .i64 a, .int .i64 b, .int .i64 c, .int .i64 (s : Int)] := by rw [hw1, hG]; exact Cel.new w 88 [.int .i64 a, .int .i64 b, .int .i64 c, .int .i64 (s : Int)]
  have hb0 : Below w.heap.size w w1 := by rw [hw1]; exact (Below.refl _ _).alloc (Nat.le_refl _) _
  have hdg : d < g := hd.2.1
  have hGg : g < G := by rw [hG]; exact Nat.lt_trans hgJ hJ.lt
  obtain ⟨W1, hW1⟩ : ∃ W, W = w1.drew := ⟨_, rfl⟩
  have hb1 : Below w.heap.size w W1 := by rw [hW1]; exact hb0.drew
  have HB1 := Lib.hid hb1
  have HJ1 := Lib.hid (hJ.below hb1 hJ.lt)
  have HR1 := Lib.hid (show Cel W1 R t cs from hR.below hb1 hR.lt)
  have HG1 := Lib.hid (show Cel W1 G 88 _ by rw [hW1]; exact hc1'.drew)
  have HD1 := Lib.hid (show Rd W1 B d g st from hd.frm (l := []) (Frm.of_below hb1) (by simp))
  have HDD := Lib.hid (show w.alloc (.cells #[.int .i64 a, .int .i64 b, .int .i64 c, .int .i64 (s : Int)] 88) = w1 from hw1.symm)
  have HK := Lib.hid hk
  have hH : (fun V => V.cell? ⟨J, 0, none⟩ = some (.pointer (some ⟨g, 0, none⟩)) ∧ V.cell? ⟨G, 2, none⟩ = some (.int .i64 c) ∧ V.cell? ⟨G, 3, none⟩ = some (.int .i64 (s : Int))) W1 := ⟨HJ1.out.cell 0, HG1.out.cell 2, HG1.out.cell 3⟩
  have HSW := Lib.hid (show ∀ V, Frm [d, g] W1 V → (fun V => V.cell? ⟨J, 0, none⟩ = some (.pointer (some ⟨g, 0, none⟩)) ∧ V.cell? ⟨G, 2, none⟩ = some (.int .i64 c) ∧ V.cell? ⟨G, 3, none⟩ = some (.int .i64 (s : Int))) V from fun V h => ⟨(HJ1.out.frm h (by simp; omega)).cell 0, (HG1.out.frm h (by simp; omega)).cell 2, (HG1.out.frm h (by simp; omega)).cell 3⟩)
  have hxb := Pack.rd_small s hs1 hs4 st
  obtain ⟨y, hy⟩ : ∃ y, y = (Pack.rnum (s : Int) st).1 := ⟨_, rfl⟩
  rw [← hy] at hxb
  have HEND := Lib.hid (show ∀ V, Frm [d, g] W1 V → Rd V B d g (Pack.rnum (s : Int) st).2 → (fun e w' => e = Ending.returned (.tuple #[]) ∧ Rd w' B d g (rd s st).2 ∧ Cel w' R t (cs.set k (.int .i64 ((rd s st).1 - c))) ∧ Frm [d, g, R] w w') (.returned (.tuple #[])) (V.setCell ⟨R, k, none⟩ (.int .i64 ((y.toNat : Int) - c))) from fun V h1 h2 => by
    unfold rd
    rw [hy]
    exact ⟨rfl, h2.frm (l := [R]) ((Frm.refl _ _).set (by simp) _) (by intro q hq; simp at hq; omega), (HR1.out.frm h1 (by simp; omega)).set k _, ((Frm.of_below HB1.out).trans (h1.mono (by intro q hq _; simp at hq ⊢; rcases hq with h | h <;> simp [h]))).set (by simp) _⟩)
  have HRW := Lib.hid (show ∀ V, Frm [d, g] W1 V → Cel V R t cs from fun V h => HR1.out.frm h (by simp; omega))
  have HY := Lib.hid hy
  have e1 : IntKind.i64.wrap (y.toNat : Int) = (y.toNat : Int) := by rw [IntKind.wrap_i64]; omega
  have e2 : IntKind.i64.wrap ((y.toNat : Int) - c) = (y.toNat : Int) - c := by rw [IntKind.wrap_i64]; omega
  clear hd hJ hc1' hb0 hb1 hR hk hw1 hy
  unfold spn pp
  go_enter Try.func75, Try.ntmps75
  go_upto_region 1 with fail
  rw [HDD.out, ← hG]
  clear HDD
  refine Ord.wp_region_N [13] (fun V => V.cell? ⟨J, 0, none⟩ = some (.pointer (some ⟨g, 0, none⟩)) ∧ V.cell? ⟨G, 2, none⟩ = some (.int .i64 c) ∧ V.cell? ⟨G, 3, none⟩ = some (.int .i64 (s : Int))) (by kernel_rfl) ?_
  rw [← hW1]
  clear hW1 hG
  refine wpAnyN_take (i := 0) (v := .pointer (some ⟨R, k, none⟩)) [13] (by kernel_rfl) rfl (by kernel_rfl) (by kernel_rfl) (by kernel_rfl) (fun _ _ _ h => h) (Or.inl ⟨by rfl, ?_⟩) hH ?_
  · intro V hV; go_simp
  try simp only [Act.put, List.setIfInBounds_toArray, List.set_cons_zero, List.set_cons_succ, List.getElem_toArray, List.getElem_cons_succ, List.getElem_cons_zero]
  refine wpAnyN_take (i := 1) (v := .pointer (some ⟨J, 0, none⟩)) [13] (by kernel_rfl) rfl (by kernel_rfl) (by kernel_rfl) (by kernel_rfl) (fun _ _ _ h => h) (Or.inl ⟨by rfl, ?_⟩) hH ?_
  · intro V hV; go_simp
  try simp only [Act.put, List.setIfInBounds_toArray, List.set_cons_zero, List.set_cons_succ, List.getElem_toArray, List.getElem_cons_succ, List.getElem_cons_zero]
  refine wpAnyN_take (i := 2) (v := .pointer (some ⟨J, 0, none⟩)) [13] (by kernel_rfl) rfl (by kernel_rfl) (by kernel_rfl) (by kernel_rfl) (fun _ _ _ h => h) (Or.inl ⟨by rfl, ?_⟩) hH ?_
  · intro V hV; go_simp
  try simp only [Act.put, List.setIfInBounds_toArray, List.set_cons_zero, List.set_cons_succ, List.getElem_toArray, List.getElem_cons_succ, List.getElem_cons_zero]
  refine wpAnyN_take (i := 3) (v := .pointer (some ⟨J, 0, none⟩)) [13] (by kernel_rfl) rfl (by kernel_rfl) (by kernel_rfl) (by kernel_rfl) (fun _ _ _ h => h) (Or.inl ⟨by rfl, ?_⟩) hH ?_
  · intro V hV; go_simp
  try simp only [Act.put, List.setIfInBounds_toArray, List.set_cons_zero, List.set_cons_succ, List.getElem_toArray, List.getElem_cons_succ, List.getElem_cons_zero]
  refine wpAnyN_take (i := 4) (v := .pointer (some ⟨g, 0, none⟩)) [13] (by kernel_rfl) rfl (by kernel_rfl) (by kernel_rfl) (by kernel_rfl) (fun _ _ _ h => h) (Or.inl ⟨by rfl, ?_⟩) hH ?_
  · intro V hV; obtain ⟨q0, q1, q2⟩ := hV; go_simp
  try simp only [Act.put, List.setIfInBounds_toArray, List.set_cons_zero, List.set_cons_succ, List.getElem_toArray, List.getElem_cons_succ, List.getElem_cons_zero]
  refine wpAnyN_take (i := 5) (v := .pointer (some ⟨G, 3, none⟩)) [13] (by kernel_rfl) rfl (by kernel_rfl) (by kernel_rfl) (by kernel_rfl) (fun _ _ _ h => h) (Or.inl ⟨by rfl, ?_⟩) hH ?_
  · intro V hV; go_simp
  try simp only [Act.put, List.setIfInBounds_toArray, List.set_cons_zero, List.set_cons_succ, List.getElem_toArray, List.getElem_cons_succ, List.getElem_cons_zero]
  refine wpAnyN_take (i := 6) (v := .int .i64 (s : Int)) [13] (by kernel_rfl) rfl (by kernel_rfl) (by kernel_rfl) (by kernel_rfl) (fun _ _ _ h => h) (Or.inl ⟨by rfl, ?_⟩) hH ?_
  · intro V hV; obtain ⟨q0, q1, q2⟩ := hV; go_simp
  try simp only [Act.put, List.setIfInBounds_toArray, List.set_cons_zero, List.set_cons_succ, List.getElem_toArray, List.getElem_cons_succ, List.getElem_cons_zero]
  refine wpAnyN_take (i := 9) (v := .pointer (some ⟨G, 2, none⟩)) [13] (by kernel_rfl) rfl (by kernel_rfl) (by kernel_rfl) (by kernel_rfl) (fun _ _ _ h => h) (Or.inl ⟨by rfl, ?_⟩) hH ?_
  · intro V hV; go_simp
  try simp only [Act.put, List.setIfInBounds_toArray, List.set_cons_zero, List.set_cons_succ, List.getElem_toArray, List.getElem_cons_succ, List.getElem_cons_zero]
  refine wpAnyN_take (i := 10) (v := .int .i64 c) [13] (by kernel_rfl) rfl (by kernel_rfl) (by kernel_rfl) (by kernel_rfl) (fun _ _ _ h => h) (Or.inl ⟨by rfl, ?_⟩) hH ?_
  · intro V hV; obtain ⟨q0, q1, q2⟩ := hV; go_simp
  try simp only [Act.put, List.setIfInBounds_toArray, List.set_cons_zero, List.set_cons_succ, List.getElem_toArray, List.getElem_cons_succ, List.getElem_cons_zero]
  have con := Pack.rNumber B d g (s : Int) st W1 HD1.out
  rw [← HY.out] at con
  refine wpAnyN_one (i := 7) (by kernel_rfl) rfl (fun K hK => ?_)
  go_simp
  refine con.mono ?_
  clear con
  rintro e V ⟨rfl, hd2, hf⟩
  have hS := HSW.out V hf
  have HE := Lib.hid (HEND.out V hf hd2)
  have HR2 := Lib.hid (HRW.out V hf)
  clear hf hd2 hH
  go_wp2_with fail
  refine hK.out _ _ (.inr hS) ?_
  clear hK K
  try simp only [Act.put, List.setIfInBounds_toArray, List.set_cons_zero, List.set_cons_succ, List.getElem_toArray, List.getElem_cons_succ, List.getElem_cons_zero]
  refine wpAnyN_one (i := 8) (by kernel_rfl) rfl (fun K hK => ?_)
  go_simp
  refine hK.out _ _ (.inr hS) ?_
  clear hK K
  try simp only [Act.put, List.setIfInBounds_toArray, List.set_cons_zero, List.set_cons_succ, List.getElem_toArray, List.getElem_cons_succ, List.getElem_cons_zero]
  refine wpAnyN_one (i := 11) (by kernel_rfl) rfl (fun K hK => ?_)
  go_simp
  refine hK.out _ _ (.inr hS) ?_
  clear hK K
  try simp only [Act.put, List.setIfInBounds_toArray, List.set_cons_zero, List.set_cons_succ, List.getElem_toArray, List.getElem_cons_succ, List.getElem_cons_zero]
  refine wpAnyN_one (i := 12) (by kernel_rfl) rfl (fun K hK => ?_)
  go_simp
  refine hK.out _ _ (.inr hS) ?_
  clear hK K
  try simp only [Act.put, List.setIfInBounds_toArray, List.set_cons_zero, List.set_cons_succ, List.getElem_toArray, List.getElem_cons_succ, List.getElem_cons_zero]
  have d0 := (HR2.out.cell k).trans HK.out
  have f0 := HR2.out.free k
  refine wpAnyN_one (i := 13) (by kernel_rfl) rfl (fun K hK => ?_)
  go_simp
  refine hK.out _ _ (.inl (by decide)) ?_
  clear hK K d0 f0
  try simp only [Act.put, List.setIfInBounds_toArray, List.set_cons_zero, List.set_cons_succ, List.getElem_toArray, List.getElem_cons_succ, List.getElem_cons_zero]
  refine wpAnyN_done (by kernel_rfl) ?_ _
  go_wp2_with fail
  go_end0
  exact ⟨rfl, HE.out.2⟩
set_option maxRecDepth 100000 in
set_option maxHeartbeats 1000000 in
theorem r_text (w : World) {B d g J G k : Nat} {st : St} {t : TypeId} {cs : List Value} {z : Value} (hd : Rd w B d g st) (hJ : Cel w J 60 [pp g 0]) (hG : Cel w G t cs) (hk : cs[k]? = some z) (ht : t ≠ 5) (hgG : g < G) :
    Calls Try.prog 76 #[pp J 0, pp G k] w fun e w' => e = .returned (.tuple #[]) ∧ ∃ A c, Cel w' G t (cs.set k (.slice A (rtext st).1.length c)) ∧ By w' A (rtext st).1.length (rtext st).1 ∧ (∀ ad, A = some ad → w.heap.size ≤ ad.block) ∧ Rd w' B d g (rtext st).2 ∧ Frm [d, g, G] w w' := by
  have hdg : d < g := hd.2.1
  have j0 := hJ.cell 0
  have con := Pack.rText B d g st w hd
  have HG := Lib.hid hG
  have HK := Lib.hid hk
  clear hd hJ hG hk
  unfold pp at j0 ⊢
  go_enter Try.func76, Try.ntmps76
  go_wp2_with fail
  refine con.mono ?_
  clear con j0
  rintro e V ⟨A, c, rfl, ho, hd, hf⟩
  have hG2 := HG.out.frm hf (by simp; omega)
  have d0 := (hG2.cell k).trans HK.out
  have f0 := hG2.free k
  have HG2 := Lib.hid hG2
  have HO := Lib.hid (By.of_own ho)
  have HAD := Lib.hid (show ∀ ad, A = some ad → w.heap.size ≤ ad.block from fun ad e => by subst e; exact own_at ho)
  have HD := Lib.hid hd
  have HF := Lib.hid (hf.mono (l' := [d, g, G]) (by intro q hq _; simp at hq ⊢; rcases hq with h | h <;> simp [h]))
  clear hG2 ho hd hf
  go_wp2_with fail
  go_end0
  have hf1 : Frm [G] V (V.setCell ⟨G, k, none⟩ (.slice A (rtext st).1.length c)) := (Frm.refl _ _).set (by simp) _
  exact ⟨rfl, A, c, HG2.out.set k _, by_frm HO.out hf1 (cel_no HG2.out ht), HAD.out, HD.out.frm hf1 (by intro q hq; simp at hq; omega), HF.out.set (by simp) _⟩
theorem set_row {vs : List Vt} {i N : Nat} {v : Vt} (hl : vs.length = i) (hi : i < N) : (vs.map Vt.cell ++ List.replicate (N - i) (Value.slice none 0 0)).set i v.cell = (vs ++ [v]).map Vt.cell ++ List.replicate (N - (i + 1)) (Value.slice none 0 0) := by
  subst hl
  rw [List.set_append_right (s := vs.map Vt.cell) (t := List.replicate (N - vs.length) (Value.slice none 0 0)) vs.length v.cell (by simp)]
  simp only [List.length_map, Nat.sub_self]
  rw [show N - vs.length = (N - (vs.length + 1)) + 1 by omega, List.replicate_succ, List.set_cons_zero, List.map_append, List.append_assoc]
  rfl
def RtSays (w : World) (B d g R k : Nat) (t : TypeId) (cs : List Value) (st : St) (e : Ending) (w' : World) : Prop := e = .returned (.tuple #[]) ∧ ∃ (L : Nat) (vs : List Vt) (st' : St), rtexts (rd 1 st).1.toNat (rd 1 st).2 = (txt vs, st') ∧ vs.length = (rd 1 st).1.toNat ∧ vs.length < 256 ∧ Rd w' B d g st' ∧ Cel w' R t (cs.set k (.slice (some ⟨L, 0, none⟩) vs.length vs.length)) ∧ Cel w' L 25 (vs.map Vt.cell) ∧ Bys w' vs ∧ Frm [d, g, R] w w'
set_option maxRecDepth 100000 in
set_option maxHeartbeats 2000000 in
theorem r_texts (w : World) {B d g J R k : Nat} {st : St} {t : TypeId} {cs : List Value} {z : Value} (hd : Rd w B d g st) (hJ : Cel w J 60 [pp g 0]) (hR : Cel w R t cs) (hk : cs[k]? = some z) (ht : t ≠ 5) (hgJ : g < J) (hgR : g < R) :
    Calls Try.prog 77 #[pp J 0, pp R k] w (RtSays w B d g R k t cs st) := by
  have hdg : d < g := hd.2.1
  have j0 := hJ.cell 0
  have con := Pack.rNumber B d g 1 st w hd
  have hn := rnum_small 1 (by decide) (by decide) st
  have HEND := Lib.hid (show ∀ (N : Nat) (st1 : St), N < 256 → N = (rnum 1 st).1.toNat → st1 = (rnum 1 st).2 → ∀ (L : Nat) (vs : List Vt) (st' : St) (V : World), rtexts N st1 = (txt vs, st') → vs.length = N → L ≠ R → Rd V B d g st' → Cel V R t cs → Cel V L 25 (vs.map Vt.cell) → Bys V vs → Frm [d, g] w V → RtSays w B d g R k t cs st (.returned (.tuple #[])) (V.setCell ⟨R, k, none⟩ (.slice (some ⟨L, 0, none⟩) N N)) from fun N st1 hN2 e1 e2 L vs st' V h1 h2 h3 h4 h5 h6 h7 h8 => by
    subst e2
    have hf1 : Frm [R] V (V.setCell ⟨R, k, none⟩ (.slice (some ⟨L, 0, none⟩) N N)) := (Frm.refl _ _).set (by simp) _
    refine ⟨rfl, L, vs, st', ?_, ?_, by omega, h4.frm hf1 (by intro q hq; simp at hq; omega), by rw [h2]; exact h5.set k _, h6.frm hf1 (by simp; exact h3), h7.frm hf1 (cel_no h5 ht), (h8.mono (by intro q hq _; simp at hq ⊢; rcases hq with h | h <;> simp [h])).trans (hf1.mono (by intro q hq _; simp at hq ⊢; simp [hq]))⟩
    · show rtexts (((rnum 1 st).1.toNat : Int)).toNat (rnum 1 st).2 = _
      rw [Int.toNat_natCast, ← e1]
      exact h1
    · show _ = (((rnum 1 st).1.toNat : Int)).toNat
      rw [Int.toNat_natCast, ← e1]
      exact h2)
  have HJ := Lib.hid hJ
  have HR := Lib.hid hR
  have HK := Lib.hid hk
  clear hd hJ hR hk
  obtain ⟨y, hy⟩ : ∃ y, y = (rnum 1 st).1 := ⟨_, rfl⟩
  obtain ⟨st1, hst1⟩ : ∃ s, s = (rnum 1 st).2 := ⟨_, rfl⟩
  change (rnum 1 st).1.toNat < _ at hn
  rw [← hy] at con hn
  rw [← hst1] at con
  obtain ⟨N, hN⟩ : ∃ N, N = y.toNat := ⟨_, rfl⟩
  have HEND := Lib.hid (HEND.out N st1 (by rw [hN]; exact hn) (by rw [hN, hy]) hst1)
  change Hid _ at HEND
  unfold Pack.v64 at con
  rw [← hN] at con hn
  clear hy hst1 hN
  have hn : N < 256 := hn
  unfold pp at j0 ⊢
  go_enter Try.func77, Try.ntmps77
  go_wp2_with fail
  refine con.mono ?_
  clear con j0
  rintro e V1 ⟨rfl, hd, hf⟩
  have hmk := run_make_rows64 V1 N (by omega)
  obtain ⟨L, hL⟩ : ∃ L, L = V1.heap.size := ⟨_, rfl⟩
  obtain ⟨W2, hW2⟩ : ∃ W, W = V1.alloc (.cells (List.replicate N (Value.slice none 0 0)).toArray 25) := ⟨_, rfl⟩
  have hf2 : Frm [] V1 W2 := by rw [hW2]; exact (Frm.refl _ _).alloc _
  have HL2 := Lib.hid (show Cel W2 L 25 (List.replicate N (Value.slice none 0 0)) by rw [hW2, hL]; exact Cel.new V1 _ _)
  have HD2 := Lib.hid (hd.frm hf2 (by simp))
  have HF2 := Lib.hid (hf.trans (hf2.mono (l' := [d, g]) (by simp)))
  have HLW := Lib.hid (show w.heap.size ≤ L by rw [hL]; exact hf.size)
  have hRL := HR.out.lt
  rw [← hW2, ← hL] at hmk
  clear hd hf hf2 hW2
  go_wp2_with fail
  clear hmk
  rw [← hL]
  clear hL
  go_loopw [14] (fun v14 wr => ∃ (i : Nat) (vs : List Vt) (s : St), i ≤ N ∧ v14 = .int .i64 (i : Int) ∧ Hid (vs.length = i) ∧ Hid (Rd wr B d g s) ∧ Hid (Cel wr L 25 (vs.map Vt.cell ++ List.replicate (N - i) (Value.slice none 0 0))) ∧ Hid (Byk w.heap.size wr vs) ∧ Hid (rtexts N st1 = (txt vs ++ (rtexts (N - i) s).1, (rtexts (N - i) s).2)) ∧ Hid (Frm [d, g] w wr)) (fun v14 _ => N - (intOf v14).toNat)
  case atStart => exact ⟨0, [], st1, Nat.zero_le _, rfl, Lib.hid rfl, HD2, HL2, Lib.hid (by intro v hv; simp at hv), Lib.hid rfl, HF2⟩
  case round =>
    obtain ⟨i, vs, s, hi, rfl, HVL, HDW, HLW2, HBW, HRT, HFW⟩ := hrel
    obtain ⟨W5, rfl⟩ : ∃ W, W = wr := ⟨_, rfl⟩
    rcases Nat.lt_or_ge i N with hlt | hge
    · have hj5 := HJ.out.frm HFW.out (by simp; omega)
      have con := r_text W5 (J := J) (G := L) (k := i) (z := .slice none 0 0) HDW.out hj5 HLW2.out (by rw [List.getElem?_append_right (by rw [List.length_map, HVL.out]; exact Nat.le_refl _), List.length_map, HVL.out, Nat.sub_self, List.getElem?_replicate, if_pos (by omega)]) (by decide) (by have := HJ.out.lt; have := HLW.out; omega)
      have HNX := Lib.hid (rtexts_step (t := []) HRT.out hlt rfl)
      clear hj5
      unfold pp at con
      go_wp2_with fail
      refine con.mono ?_
      clear con
      rintro e W6 ⟨rfl, A6, c6, hl6, hb6, ha6, hd6, hf6⟩
      have hlen : (rtext s).1.length ≤ 65535 := Pack.rtext_len s
      have HL6 := Lib.hid (show Cel W6 L 25 ((vs ++ [(⟨A6, c6, (rtext s).1⟩ : Vt)]).map Vt.cell ++ List.replicate (N - (i + 1)) (Value.slice none 0 0)) by rw [← set_row HVL.out hlt]; exact hl6)
      have HB6 := Lib.hid (show Byk w.heap.size W6 (vs ++ [(⟨A6, c6, (rtext s).1⟩ : Vt)]) from by
        intro v hv
        rcases List.mem_append.1 hv with hv | hv
        · refine HBW.out.frm hf6 (fun q hq => ?_) v hv
          simp at hq
          rcases hq with h | h | h
          · left; omega
          · left; omega
          · right; subst h; exact HLW2.out.not_ty (by decide)
        · simp at hv
          subst hv
          exact ⟨⟨hb6, hlen⟩, fun ad e => Nat.le_trans HFW.out.size (ha6 ad e)⟩)
      have HD6 := Lib.hid hd6
      have HF6 := Lib.hid (HFW.out.then_ hf6 (by intro q hq hl; simp at hq ⊢; have := HLW.out; rcases hq with h | h | h <;> first | (simp [h]; done) | (exfalso; omega)))
      have HVL6 := Lib.hid (show (vs ++ [(⟨A6, c6, (rtext s).1⟩ : Vt)]).length = i + 1 by rw [List.length_append, HVL.out]; rfl)
      have HRT6 := Lib.hid (show rtexts N st1 = (txt (vs ++ [(⟨A6, c6, (rtext s).1⟩ : Vt)]) ++ (rtexts (N - (i + 1)) (rtext s).2).1, (rtexts (N - (i + 1)) (rtext s).2).2) by rw [HNX.out]; unfold txt; rw [List.map_append]; rfl)
      generalize vs ++ [(⟨A6, c6, (rtext s).1⟩ : Vt)] = vs6 at *
      generalize (rtext s).2 = s6 at *
      clear hl6 hb6 ha6 hd6 hf6 hlen HNX
      go_wp2_with fail
      exact ⟨⟨i + 1, vs6, s6, by omega, by rw [show ((i + 1 : Nat) : Int) = (i : Int) + 1 by omega], HVL6, HD6, HL6, HB6, HRT6, HF6⟩, by simp [intOf]; omega⟩
    · obtain rfl : i = N := by omega
      have hr5 := HR.out.frm HFW.out (by simp; omega)
      have d0 := (hr5.cell k).trans HK.out
      have f0 := hr5.free k
      have HE := Lib.hid (HEND.out L vs s W5 (by have h := HRT.out; rw [Nat.sub_self] at h; rw [h]; show (txt vs ++ [], s) = _; rw [List.append_nil]) HVL.out (by have := HLW.out; omega) HDW.out hr5 (by have h := HLW2.out; rw [Nat.sub_self] at h; simpa using h) HBW.out.bys HFW.out)
      clear hr5
      go_wp2_with fail
      go_end0
      exact HE.out
end Go.Proofs.Ythaebchmlicgaaa.Rec
