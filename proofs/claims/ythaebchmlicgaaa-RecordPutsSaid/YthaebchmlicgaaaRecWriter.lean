/-
  The program's records (layer 15): the writer. (Written by gen_recwriter.py.)
-/
import Derived.Test.YthaebchmlicgaaaRecPmay
import Derived.Test.YthaebchmlicgaaaRecPut
namespace Go.Proofs.Ythaebchmlicgaaa.Rec
open Go.RowKit Go.Proofs.Ythaebchmlicgaaa.Ord
open Go.Proofs.Ythaebchmlicgaaa.Lex (Tx Owb rowB lit_one)
open Go.Proofs.Ythaebchmlicgaaa.Pack (num text Own)
set_option linter.unusedVariables false
set_option linter.unusedSimpArgs false

abbrev B8 := BitVec 8
theorem own_ty {w : World} {base e size n : Nat} {v : Value} {us : List Value} (h : w.ownsRow base e size v n us) : ∀ g, v.ownBlock = some g → ∃ cs fz, w.heap[g]? = some (Obj.cells cs e fz) := fun g e' => by
  rcases h.2 with ⟨rfl, _⟩ | ⟨g', cap, cur, rfl, _, h1, _⟩
  · simp [Value.ownBlock] at e'
  · obtain rfl : g' = g := by simpa [Value.ownBlock] using e'
    exact ⟨_, _, h1⟩
theorem wm_number (J : Nat) : Meth 43 J "davit/record.number" 68 := ⟨fun m W => by kernel_rfl, fun _ _ => by kernel_rfl⟩
theorem wm_text (J : Nat) : Meth 43 J "davit/record.text" 69 := ⟨fun m W => by kernel_rfl, fun _ _ => by kernel_rfl⟩
theorem wm_texts (J : Nat) : Meth 43 J "davit/record.texts" 70 := ⟨fun m W => by kernel_rfl, fun _ _ => by kernel_rfl⟩
/-- Only bytes from block B on are written. -/
structure Wka (B : Nat) (J : Nat) (w w' : World) : Prop where
  os : w'.os = w.os
  tape : w'.tape = w.tape
  output : w'.output = w.output
  size : w.heap.size ≤ w'.heap.size
  block : ∀ k, k < w.heap.size → (k < B ∨ ∀ cs fz, w.heap[k]? ≠ some (Obj.cells cs 5 fz)) → w'.heap[k]? = w.heap[k]?
/-- And the writer's block J. -/
structure Wkp (B : Nat) (J : Nat) (w w' : World) : Prop where
  os : w'.os = w.os
  tape : w'.tape = w.tape
  output : w'.output = w.output
  size : w.heap.size ≤ w'.heap.size
  block : ∀ k, k < w.heap.size → k ≠ J → (k < B ∨ ∀ cs fz, w.heap[k]? ≠ some (Obj.cells cs 5 fz)) → w'.heap[k]? = w.heap[k]?
section
variable {B J : Nat} {w w1 w2 : World}
theorem Wka.of_below (h : Below w.heap.size w w1) : Wka B J w w1 := ⟨h.os, h.tape, h.output, h.size, fun k hk _ => h.block k hk⟩
theorem Wka.trans (h : Wka B J w w1) (h2 : Wka B J w1 w2) : Wka B J w w2 := ⟨h2.os.trans h.os, h2.tape.trans h.tape, h2.output.trans h.output, Nat.le_trans h.size h2.size, fun k hk hc => by
  have e := h.block k hk hc
  rw [h2.block k (Nat.lt_of_lt_of_le hk h.size) (by rw [e]; exact hc), e]⟩
theorem Wka.wkp (h : Wka B J w w1) : Wkp B J w w1 := ⟨h.os, h.tape, h.output, h.size, fun k hk _ hc => h.block k hk hc⟩
theorem Wka.cel {g : Nat} {t : TypeId} {cs : List Value} (h : Wka B J w w1) (hc : Cel w g t cs) (ht : t ≠ 5) : Cel w1 g t cs := (h.block g hc.lt (.inr (hc.not_ty ht))).trans hc
theorem Wka.celJ {g : Nat} {cs : List Value} (h : Wka B J w w1) (hc : Cel w g 47 cs) : Cel w1 g 47 cs := h.cel hc (by decide)
theorem Wka.grown {A : Option Addr} {n c : Nat} {bs : List B8} (ho : Owb w B A n c bs) (hg : w.grownBy w1 (Value.slice A n c).ownBlock) : Wka B J w w1 := ⟨hg.os, hg.tape, hg.output, hg.size, fun k hk hc => hg.block k hk fun e => by
  rcases hc with hc | hc
  · have := own_ge ho k e.symm
    omega
  · obtain ⟨cs, fz, he⟩ := own_ty ho k e.symm
    exact hc cs fz he⟩
theorem Wkp.refl (w : World) : Wkp B J w w := ⟨rfl, rfl, rfl, Nat.le_refl _, fun _ _ _ _ => rfl⟩
theorem Wkp.of_below (h : Below w.heap.size w w1) : Wkp B J w w1 := (Wka.of_below h).wkp
theorem Wkp.trans (h : Wkp B J w w1) (h2 : Wkp B J w1 w2) : Wkp B J w w2 := ⟨h2.os.trans h.os, h2.tape.trans h.tape, h2.output.trans h.output, Nat.le_trans h.size h2.size, fun k hk hn hc => by
  have e := h.block k hk hn hc
  rw [h2.block k (Nat.lt_of_lt_of_le hk h.size) hn (by rw [e]; exact hc), e]⟩
theorem Wkp.set (h : Wkp B J w w1) (i : Nat) (u : Value) : Wkp B J w (w1.setCell ⟨J, i, none⟩ u) :=
  h.trans ⟨rfl, rfl, rfl, by simp [World.setCell], fun k _ hn _ => Below.heap_setCell _ _ _ _ hn⟩
theorem Wkp.cel {g : Nat} {t : TypeId} {cs : List Value} (h : Wkp B J w w1) (hc : Cel w g t cs) (hn : g ≠ J) (ht : t ≠ 5) : Cel w1 g t cs := (h.block g hc.lt hn (.inr (hc.not_ty ht))).trans hc
theorem Wkp.below (h : Wkp B J w w1) (hB : B ≤ w.heap.size) (hJ : B ≤ J) : Below B w w1 := ⟨h.os, h.tape, h.output, h.size, fun k hk => h.block k (by omega) (by omega) (.inl hk)⟩
end
/-- The writer in block J has these bytes, in a row of its own from block B on. -/
def Wst (w : World) (B J : Nat) (bs : List B8) : Prop := ∃ A c, Cel w J 47 [.slice A bs.length c] ∧ Owb w B A bs.length c bs
def WrSays (w : World) (B J : Nat) (bs : List B8) (e : Ending) (w' : World) : Prop := e = .returned (.tuple #[]) ∧ Wst w' B J bs ∧ Wkp B J w w'
theorem wr_end {w V : World} {B J n n' c c' : Nat} {A A' : Option Addr} {bs : List B8} (h : Wkp B J w V) (hJ : Cel V J 47 [.slice A n c]) (ho : Owb V B A' n' c' bs) (hl : bs.length = n') :
    WrSays w B J bs (.returned (.tuple #[])) (V.setCell ⟨J, 0, none⟩ (.slice A' n' c')) := by
  subst hl
  refine ⟨rfl, ⟨A', c', hJ.set 0 _, ?_⟩, h.set 0 _⟩
  refine own_frm ho (l := [J]) ((Frm.refl _ _).set (by simp) _) (fun q hq e => ?_)
  simp at hq
  subst hq
  obtain ⟨cs, fz, he⟩ := own_ty ho q e
  exact hJ.not_ty (by decide) cs fz he
set_option maxRecDepth 100000 in
set_option maxHeartbeats 1000000 in
theorem w_number (w : World) {B J R k s : Nat} {bs : List B8} {t : TypeId} {cs : List Value} {x a b d : Int} (h : Wst w B J bs) (hB : B ≤ w.heap.size) (hR : Cel w R t cs) (hk : cs[k]? = some (.int .i64 x)) (ht : t ≠ 5) (hne : R ≠ J) (hs1 : 1 ≤ s) (hs8 : s ≤ 8) (hx0 : 0 ≤ x + d) (hx1 : x + d < 9223372036854775808) (hl : bs.length ≤ 100000) :
    Calls Try.prog 68 #[pp J 0, pp R k, spn a b d (s : Int)] w (WrSays w B J (bs ++ num s (n64 (x + d)))) := by
  obtain ⟨A, c, hJ, hO⟩ := h
  obtain ⟨w1, hw1⟩ : ∃ w1, w1 = w.alloc (.cells #[.int .i64 a, .int .i64 b, .int .i64 d, .int .i64 (s : Int)] 88) := ⟨_, rfl⟩
  obtain ⟨G, hG⟩ : ∃ G, G = w.heap.size := ⟨_, rfl⟩
  have hc1 : Cel w1 G 88 [.int .i64 a, .int .i64 b, .int .i64 d, .int .i64 (s : Int)] := by rw [hw1, hG]; exact Cel.new w 88 [.int .i64 a, .int .i64 b, .int .i64 d, .int .i64 (s : Int)]
  have hb0 : Below w.heap.size w w1 := by rw [hw1]; exact (Below.refl _ _).alloc (Nat.le_refl _) _
  have hGJ : G ≠ J := by rw [hG]; exact Nat.ne_of_gt hJ.lt
  obtain ⟨W1, hW1⟩ : ∃ W, W = w1.drew := ⟨_, rfl⟩
  have hb1 : Below w.heap.size w W1 := by rw [hW1]; exact hb0.drew
  have HO := Lib.hid (hO.below hb1)
  have HBS := Lib.hid (Nat.le_trans hB hb1.size)
  have HJ1 := Lib.hid (hJ.below hb1 hJ.lt)
  have HR1 := Lib.hid (show Cel W1 R t cs from hR.below hb1 hR.lt)
  have HG1 := Lib.hid (show Cel W1 G 88 _ by rw [hW1]; exact hc1.drew)
  have HWA := Lib.hid (show Wkp B J w W1 from Wkp.of_below hb1)
  have HD := Lib.hid (show w.alloc (.cells #[.int .i64 a, .int .i64 b, .int .i64 d, .int .i64 (s : Int)] 88) = w1 from hw1.symm)
  have HK := Lib.hid hk
  have hH : W1.cell? ⟨J, 0, none⟩ = some (.slice A bs.length c) ∧ W1.cell? ⟨R, k, none⟩ = some (.int .i64 x) ∧ W1.cell? ⟨G, 2, none⟩ = some (.int .i64 d) ∧ W1.cell? ⟨G, 3, none⟩ = some (.int .i64 (s : Int)) := ⟨HJ1.out.cell 0, (HR1.out.cell k).trans hk, HG1.out.cell 2, HG1.out.cell 3⟩
  have HJW := Lib.hid (show ∀ V, Wka B J W1 V → Cel V J 47 [.slice A bs.length c] from fun V h => h.celJ HJ1.out)
  have HSW := Lib.hid (show ∀ V, Wka B J W1 V → (fun V => V.cell? ⟨J, 0, none⟩ = some (.slice A bs.length c) ∧ V.cell? ⟨R, k, none⟩ = some (.int .i64 x) ∧ V.cell? ⟨G, 2, none⟩ = some (.int .i64 d) ∧ V.cell? ⟨G, 3, none⟩ = some (.int .i64 (s : Int))) V from fun V h => ⟨(h.celJ HJ1.out).cell 0, ((h.cel HR1.out ht).cell k).trans HK.out, (h.cel HG1.out (by decide)).cell 2, (h.cel HG1.out (by decide)).cell 3⟩)
  have HSB := Lib.hid (show ∀ V, Below W1.heap.size W1 V → (fun V => V.cell? ⟨J, 0, none⟩ = some (.slice A bs.length c) ∧ V.cell? ⟨R, k, none⟩ = some (.int .i64 x) ∧ V.cell? ⟨G, 2, none⟩ = some (.int .i64 d) ∧ V.cell? ⟨G, 3, none⟩ = some (.int .i64 (s : Int))) V from fun V h => HSW.out V (Wka.of_below h))
  have e1 : IntKind.i64.wrap (x + d) = x + d := by rw [IntKind.wrap_i64]; omega
  have e2 : IntKind.u64.wrap (x + d) = x + d := by rw [IntKind.wrap_u64]; omega
  clear hJ hO hc1 hb0 hb1 hR hk hB hw1
  unfold spn pp
  go_enter Try.func68, Try.ntmps68
  go_upto_region 1 with fail
  rw [HD.out, ← hG]
  clear HD hG
  refine Ord.wp_region_N [18] (fun V => V.cell? ⟨J, 0, none⟩ = some (.slice A bs.length c) ∧ V.cell? ⟨R, k, none⟩ = some (.int .i64 x) ∧ V.cell? ⟨G, 2, none⟩ = some (.int .i64 d) ∧ V.cell? ⟨G, 3, none⟩ = some (.int .i64 (s : Int))) (by kernel_rfl) ?_
  rw [← hW1]
  clear hW1
  refine wpAnyN_take (i := 0) (v := .pointer (some ⟨J, 0, none⟩)) [18] (by kernel_rfl) rfl (by kernel_rfl) (by kernel_rfl) (by kernel_rfl) (fun _ _ _ h => h) (Or.inl ⟨by rfl, ?_⟩) hH ?_
  · intro V hV; go_simp
  try simp only [Act.put, List.setIfInBounds_toArray, List.set_cons_zero, List.set_cons_succ, List.getElem_toArray, List.getElem_cons_succ, List.getElem_cons_zero]
  refine wpAnyN_take (i := 1) (v := .pointer (some ⟨J, 0, none⟩)) [18] (by kernel_rfl) rfl (by kernel_rfl) (by kernel_rfl) (by kernel_rfl) (fun _ _ _ h => h) (Or.inl ⟨by rfl, ?_⟩) hH ?_
  · intro V hV; go_simp
  try simp only [Act.put, List.setIfInBounds_toArray, List.set_cons_zero, List.set_cons_succ, List.getElem_toArray, List.getElem_cons_succ, List.getElem_cons_zero]
  refine wpAnyN_take (i := 2) (v := .pointer (some ⟨J, 0, none⟩)) [18] (by kernel_rfl) rfl (by kernel_rfl) (by kernel_rfl) (by kernel_rfl) (fun _ _ _ h => h) (Or.inl ⟨by rfl, ?_⟩) hH ?_
  · intro V hV; go_simp
  try simp only [Act.put, List.setIfInBounds_toArray, List.set_cons_zero, List.set_cons_succ, List.getElem_toArray, List.getElem_cons_succ, List.getElem_cons_zero]
  refine wpAnyN_take (i := 3) (v := .pointer (some ⟨J, 0, none⟩)) [18] (by kernel_rfl) rfl (by kernel_rfl) (by kernel_rfl) (by kernel_rfl) (fun _ _ _ h => h) (Or.inl ⟨by rfl, ?_⟩) hH ?_
  · intro V hV; go_simp
  try simp only [Act.put, List.setIfInBounds_toArray, List.set_cons_zero, List.set_cons_succ, List.getElem_toArray, List.getElem_cons_succ, List.getElem_cons_zero]
  refine wpAnyN_take (i := 4) (v := .slice A bs.length c) [18] (by kernel_rfl) rfl (by kernel_rfl) (by kernel_rfl) (by kernel_rfl) (fun _ _ _ h => h) (Or.inl ⟨by rfl, ?_⟩) hH ?_
  · intro V hV; obtain ⟨q0, q1, q2, q3⟩ := hV; go_simp
  try simp only [Act.put, List.setIfInBounds_toArray, List.set_cons_zero, List.set_cons_succ, List.getElem_toArray, List.getElem_cons_succ, List.getElem_cons_zero]
  refine wpAnyN_take (i := 5) (v := .pointer (some ⟨R, k, none⟩)) [18] (by kernel_rfl) rfl (by kernel_rfl) (by kernel_rfl) (by kernel_rfl) (fun _ _ _ h => h) (Or.inl ⟨by rfl, ?_⟩) hH ?_
  · intro V hV; go_simp
  try simp only [Act.put, List.setIfInBounds_toArray, List.set_cons_zero, List.set_cons_succ, List.getElem_toArray, List.getElem_cons_succ, List.getElem_cons_zero]
  refine wpAnyN_take (i := 6) (v := .pointer (some ⟨R, k, none⟩)) [18] (by kernel_rfl) rfl (by kernel_rfl) (by kernel_rfl) (by kernel_rfl) (fun _ _ _ h => h) (Or.inl ⟨by rfl, ?_⟩) hH ?_
  · intro V hV; go_simp
  try simp only [Act.put, List.setIfInBounds_toArray, List.set_cons_zero, List.set_cons_succ, List.getElem_toArray, List.getElem_cons_succ, List.getElem_cons_zero]
  refine wpAnyN_take (i := 7) (v := .int .i64 x) [18] (by kernel_rfl) rfl (by kernel_rfl) (by kernel_rfl) (by kernel_rfl) (fun _ _ _ h => h) (Or.inl ⟨by rfl, ?_⟩) hH ?_
  · intro V hV; obtain ⟨q0, q1, q2, q3⟩ := hV; go_simp
  try simp only [Act.put, List.setIfInBounds_toArray, List.set_cons_zero, List.set_cons_succ, List.getElem_toArray, List.getElem_cons_succ, List.getElem_cons_zero]
  refine wpAnyN_take (i := 8) (v := .pointer (some ⟨G, 2, none⟩)) [18] (by kernel_rfl) rfl (by kernel_rfl) (by kernel_rfl) (by kernel_rfl) (fun _ _ _ h => h) (Or.inl ⟨by rfl, ?_⟩) hH ?_
  · intro V hV; go_simp
  try simp only [Act.put, List.setIfInBounds_toArray, List.set_cons_zero, List.set_cons_succ, List.getElem_toArray, List.getElem_cons_succ, List.getElem_cons_zero]
  refine wpAnyN_take (i := 9) (v := .int .i64 d) [18] (by kernel_rfl) rfl (by kernel_rfl) (by kernel_rfl) (by kernel_rfl) (fun _ _ _ h => h) (Or.inl ⟨by rfl, ?_⟩) hH ?_
  · intro V hV; obtain ⟨q0, q1, q2, q3⟩ := hV; go_simp
  try simp only [Act.put, List.setIfInBounds_toArray, List.set_cons_zero, List.set_cons_succ, List.getElem_toArray, List.getElem_cons_succ, List.getElem_cons_zero]
  refine wpAnyN_take (i := 10) (v := .int .i64 (x + d)) [18] (by kernel_rfl) rfl (by kernel_rfl) (by kernel_rfl) (by kernel_rfl) (fun _ _ _ h => h) (Or.inl ⟨by rfl, ?_⟩) hH ?_
  · intro V hV; go_simp
  try simp only [Act.put, List.setIfInBounds_toArray, List.set_cons_zero, List.set_cons_succ, List.getElem_toArray, List.getElem_cons_succ, List.getElem_cons_zero]
  refine wpAnyN_take (i := 11) (v := .int .u64 (x + d)) [18] (by kernel_rfl) rfl (by kernel_rfl) (by kernel_rfl) (by kernel_rfl) (fun _ _ _ h => h) (Or.inl ⟨by rfl, ?_⟩) hH ?_
  · intro V hV; go_simp
  try simp only [Act.put, List.setIfInBounds_toArray, List.set_cons_zero, List.set_cons_succ, List.getElem_toArray, List.getElem_cons_succ, List.getElem_cons_zero]
  refine wpAnyN_take (i := 12) (v := .pointer (some ⟨G, 3, none⟩)) [18] (by kernel_rfl) rfl (by kernel_rfl) (by kernel_rfl) (by kernel_rfl) (fun _ _ _ h => h) (Or.inl ⟨by rfl, ?_⟩) hH ?_
  · intro V hV; go_simp
  try simp only [Act.put, List.setIfInBounds_toArray, List.set_cons_zero, List.set_cons_succ, List.getElem_toArray, List.getElem_cons_succ, List.getElem_cons_zero]
  refine wpAnyN_take (i := 13) (v := .int .i64 (s : Int)) [18] (by kernel_rfl) rfl (by kernel_rfl) (by kernel_rfl) (by kernel_rfl) (fun _ _ _ h => h) (Or.inl ⟨by rfl, ?_⟩) hH ?_
  · intro V hV; obtain ⟨q0, q1, q2, q3⟩ := hV; go_simp
  try simp only [Act.put, List.setIfInBounds_toArray, List.set_cons_zero, List.set_cons_succ, List.getElem_toArray, List.getElem_cons_succ, List.getElem_cons_zero]
  refine wpAnyN_one (i := 14) (by kernel_rfl) rfl (fun K hK => ?_)
  go_simp
  refine (Pack.number_at (n64 (x + d)) s hs1 hs8 _ _ (n64_val hx0 hx1) rfl W1).mono ?_
  rintro e V ⟨A2, c2, rfl, ho, hb⟩
  go_wp2_with fail
  refine hK.out _ _ (.inr (HSB.out V hb)) ?_
  clear hK K hH
  try simp only [Act.put, List.setIfInBounds_toArray, List.set_cons_zero, List.set_cons_succ, List.getElem_toArray, List.getElem_cons_succ, List.getElem_cons_zero]
  have HO2 := Lib.hid ho
  have HB2 := Lib.hid hb
  clear ho hb
  refine wpAnyN_one (i := 15) (by kernel_rfl) rfl (fun K hK => ?_)
  rw [if_pos (by rfl)]
  refine wp_append_bs V _ _ 25 rfl B 5 rowB (.slice A bs.length c) bs.length bs rfl (HO.out.below HB2.out) V.heap.size A2 s c2 (num s (n64 (x + d))) rfl (Bs.of_own HO2.out rfl) (by omega) (Nat.le_trans HBS.out HB2.out.size) ?_
  intro A3 c3 V3 ho3 hg3 _
  have HW3 := Lib.hid ((Wka.of_below HB2.out).trans (Wka.grown (J := J) (HO.out.below HB2.out) hg3))
  have HO3 := Lib.hid (show Owb V3 B A3 (bs.length + s) c3 (bs ++ (num s (n64 (x + d)))) from ho3)
  have hS3 := HSW.out V3 HW3.out
  clear ho3 hg3
  refine hK.out _ _ (.inr hS3) ?_
  clear hK K
  try simp only [Act.put, List.setIfInBounds_toArray, List.set_cons_zero, List.set_cons_succ, List.getElem_toArray, List.getElem_cons_succ, List.getElem_cons_zero]
  refine wpAnyN_one (i := 16) (by kernel_rfl) rfl (fun K hK => ?_)
  go_simp
  refine hK.out _ _ (.inr hS3) ?_
  clear hK K
  try simp only [Act.put, List.setIfInBounds_toArray, List.set_cons_zero, List.set_cons_succ, List.getElem_toArray, List.getElem_cons_succ, List.getElem_cons_zero]
  refine wpAnyN_one (i := 17) (by kernel_rfl) rfl (fun K hK => ?_)
  go_simp
  refine hK.out _ _ (.inr hS3) ?_
  clear hK K
  try simp only [Act.put, List.setIfInBounds_toArray, List.set_cons_zero, List.set_cons_succ, List.getElem_toArray, List.getElem_cons_succ, List.getElem_cons_zero]
  have d0 := hS3.1
  have f0 := (HJW.out V3 HW3.out).free 0
  clear hS3
  refine wpAnyN_one (i := 18) (by kernel_rfl) rfl (fun K hK => ?_)
  go_simp
  refine hK.out _ _ (.inl (by decide)) ?_
  clear hK K d0 f0
  try simp only [Act.put, List.setIfInBounds_toArray, List.set_cons_zero, List.set_cons_succ, List.getElem_toArray, List.getElem_cons_succ, List.getElem_cons_zero]
  refine wpAnyN_done (by kernel_rfl) ?_ _
  go_wp2_with fail
  go_end0
  exact wr_end (HWA.out.trans HW3.out.wkp) (HJW.out V3 HW3.out) HO3.out (by rw [List.length_append, Pack.num_length])
set_option maxRecDepth 100000 in
set_option maxHeartbeats 1000000 in
theorem w_text (w : World) {B J G k : Nat} {bs tx : List B8} {t : TypeId} {cs : List Value} {A1 : Option Addr} {n c1 : Nat} (h : Wst w B J bs) (hB : B ≤ w.heap.size) (hG : Cel w G t cs) (hk : cs[k]? = some (.slice A1 n c1)) (hb : Bs w w.heap.size A1 n tx) (hn : n ≤ 65535) (hl : bs.length ≤ 100000) :
    Calls Try.prog 69 #[pp J 0, pp G k] w (WrSays w B J (bs ++ text tx)) := by
  obtain ⟨A, c, hJ, hO⟩ := h
  have k0 := (hG.cell k).trans hk
  have hlen := hb.len
  have con := Pack.textOk w.heap.size A1 n c1 tx w hb (Nat.le_refl _) hn
  have HJ := Lib.hid hJ
  have HO := Lib.hid hO
  have HLN := Lib.hid hlen
  have HB := Lib.hid hB
  clear hG hk hb hJ hO hlen
  unfold pp
  go_enter Try.func69, Try.ntmps69
  go_wp2_with fail
  refine con.mono ?_
  clear con k0
  rintro e V ⟨A2, c2, rfl, ho, hb⟩
  have HO2 := Lib.hid ho
  have HW := Lib.hid (Wka.of_below (B := B) (J := J) hb)
  have HS := Lib.hid (Nat.le_trans hB hb.size)
  have HO1 := Lib.hid (HO.out.below hb)
  have HJ1 := Lib.hid (HJ.out.below hb HJ.out.lt)
  have j0 := HJ1.out.cell 0
  clear ho hb hB
  go_wp2_with (at_builtin; refine wpList_append_bs _ rfl _ _ 25 rfl B 5 rowB (.slice A bs.length c) bs.length bs rfl HO1.out V.heap.size A2 (2 + n) c2 (text tx) rfl (Bs.of_own HO2.out rfl) (bs.length + (2 + n)) (bs ++ text tx) rfl rfl (by omega) HS.out ?_; intro A3 c3 V3 ho3 hg3 _; have HW3 := Lib.hid (HW.out.trans (Wka.grown (J := J) HO1.out hg3)); have HO3 := Lib.hid (show Owb V3 B A3 (bs.length + (2 + n)) c3 (bs ++ text tx) from ho3); have HJ3 := Lib.hid (Wka.celJ (Wka.grown (J := J) HO1.out hg3) HJ1.out); have j3 := HJ3.out.cell 0; have f3 := HJ3.out.free 0; clear j0 ho3 hg3)
  go_end0
  exact wr_end HW3.out.wkp HJ3.out HO3.out (by rw [List.length_append, text, List.length_append, Pack.num_length, HLN.out])
set_option maxRecDepth 100000 in
set_option maxHeartbeats 2000000 in
theorem w_texts (w : World) {B J R k K : Nat} {bs : List B8} {t : TypeId} {cs : List Value} {A1 : Option Addr} {n c1 : Nat} {vs : List Vt} (h : Wst w B J bs) (hB : B ≤ w.heap.size) (hBJ : B ≤ J) (hR : Cel w R t cs) (hk : cs[k]? = some (.slice A1 n c1)) (ht : t ≠ 5) (hne : R ≠ J) (hT : ∀ V, Below B w V → Tvs V K A1 vs) (hKB : K ≤ B) (hv : vs.length = n) (hn : n ≤ 8) (hx : ∀ v ∈ vs, v.t.length ≤ 100) (hl : bs.length ≤ 90000) :
    Calls Try.prog 70 #[pp J 0, pp R k] w (WrSays w B J (bs ++ num 1 (n64 (n : Int)) ++ (txt vs).flatMap text)) := by
  obtain ⟨E, hE⟩ : ∃ E, E = bs ++ num 1 (n64 (n : Int)) ++ (txt vs).flatMap text := ⟨_, rfl⟩
  rw [← hE]
  have HE := Lib.hid hE
  clear hE
  obtain ⟨A, c, hJ, hO⟩ := h
  obtain ⟨W1, hW1⟩ : ∃ W, W = w.drew := ⟨_, rfl⟩
  have hb1 : Below w.heap.size w W1 := by rw [hW1]; exact (Below.refl _ _).drew
  have HO := Lib.hid (hO.below hb1)
  have HBS := Lib.hid (Nat.le_trans hB hb1.size)
  have HJ1 := Lib.hid (hJ.below hb1 hJ.lt)
  have HR1 := Lib.hid (show Cel W1 R t cs from hR.below hb1 hR.lt)
  have HWA := Lib.hid (show Wkp B J w W1 from Wkp.of_below hb1)
  have HK := Lib.hid hk
  have HV := Lib.hid hv
  have HX := Lib.hid hx
  have hH : W1.cell? ⟨J, 0, none⟩ = some (.slice A bs.length c) ∧ W1.cell? ⟨R, k, none⟩ = some (.slice A1 n c1) := ⟨HJ1.out.cell 0, (HR1.out.cell k).trans hk⟩
  have HJW := Lib.hid (show ∀ V, Wka B J W1 V → Cel V J 47 [.slice A bs.length c] from fun V h => h.celJ HJ1.out)
  have HRW := Lib.hid (show ∀ V, Wkp B J W1 V → Cel V R t cs from fun V h => h.cel HR1.out hne ht)
  have HSW := Lib.hid (show ∀ V, Wka B J W1 V → (fun V => V.cell? ⟨J, 0, none⟩ = some (.slice A bs.length c) ∧ V.cell? ⟨R, k, none⟩ = some (.slice A1 n c1)) V from fun V h => ⟨(h.celJ HJ1.out).cell 0, ((h.cel HR1.out ht).cell k).trans HK.out⟩)
  have HSB := Lib.hid (show ∀ V, Below W1.heap.size W1 V → (fun V => V.cell? ⟨J, 0, none⟩ = some (.slice A bs.length c) ∧ V.cell? ⟨R, k, none⟩ = some (.slice A1 n c1)) V from fun V h => HSW.out V (Wka.of_below h))
  have HTF := Lib.hid (show ∀ V, Wkp B J W1 V → Tvs V K A1 vs from fun V h => hT V ((HWA.out.trans h).below hB hBJ))
  have HSZ := Lib.hid hB
  clear hJ hO hb1 hR hk hB hv hx hT ht hne
  unfold pp
  go_enter Try.func70, Try.ntmps70
  have e2 : IntKind.u64.wrap (n : Int) = (n : Int) := by rw [IntKind.wrap_u64]; omega
  go_wp2_with fail
  refine Ord.wp_region_N [14] (fun V => V.cell? ⟨J, 0, none⟩ = some (.slice A bs.length c) ∧ V.cell? ⟨R, k, none⟩ = some (.slice A1 n c1)) (by kernel_rfl) ?_
  rw [← hW1]
  clear hW1
  refine wpAnyN_take (i := 0) (v := .pointer (some ⟨J, 0, none⟩)) [14] (by kernel_rfl) rfl (by kernel_rfl) (by kernel_rfl) (by kernel_rfl) (fun _ _ _ h => h) (Or.inl ⟨by rfl, ?_⟩) hH ?_
  · intro V hV; go_simp
  try simp only [Act.put, List.setIfInBounds_toArray, List.set_cons_zero, List.set_cons_succ, List.getElem_toArray, List.getElem_cons_succ, List.getElem_cons_zero]
  refine wpAnyN_take (i := 1) (v := .pointer (some ⟨J, 0, none⟩)) [14] (by kernel_rfl) rfl (by kernel_rfl) (by kernel_rfl) (by kernel_rfl) (fun _ _ _ h => h) (Or.inl ⟨by rfl, ?_⟩) hH ?_
  · intro V hV; go_simp
  try simp only [Act.put, List.setIfInBounds_toArray, List.set_cons_zero, List.set_cons_succ, List.getElem_toArray, List.getElem_cons_succ, List.getElem_cons_zero]
  refine wpAnyN_take (i := 2) (v := .pointer (some ⟨J, 0, none⟩)) [14] (by kernel_rfl) rfl (by kernel_rfl) (by kernel_rfl) (by kernel_rfl) (fun _ _ _ h => h) (Or.inl ⟨by rfl, ?_⟩) hH ?_
  · intro V hV; go_simp
  try simp only [Act.put, List.setIfInBounds_toArray, List.set_cons_zero, List.set_cons_succ, List.getElem_toArray, List.getElem_cons_succ, List.getElem_cons_zero]
  refine wpAnyN_take (i := 3) (v := .pointer (some ⟨J, 0, none⟩)) [14] (by kernel_rfl) rfl (by kernel_rfl) (by kernel_rfl) (by kernel_rfl) (fun _ _ _ h => h) (Or.inl ⟨by rfl, ?_⟩) hH ?_
  · intro V hV; go_simp
  try simp only [Act.put, List.setIfInBounds_toArray, List.set_cons_zero, List.set_cons_succ, List.getElem_toArray, List.getElem_cons_succ, List.getElem_cons_zero]
  refine wpAnyN_take (i := 4) (v := .slice A bs.length c) [14] (by kernel_rfl) rfl (by kernel_rfl) (by kernel_rfl) (by kernel_rfl) (fun _ _ _ h => h) (Or.inl ⟨by rfl, ?_⟩) hH ?_
  · intro V hV; obtain ⟨q0, q1⟩ := hV; go_simp
  try simp only [Act.put, List.setIfInBounds_toArray, List.set_cons_zero, List.set_cons_succ, List.getElem_toArray, List.getElem_cons_succ, List.getElem_cons_zero]
  refine wpAnyN_take (i := 5) (v := .pointer (some ⟨R, k, none⟩)) [14] (by kernel_rfl) rfl (by kernel_rfl) (by kernel_rfl) (by kernel_rfl) (fun _ _ _ h => h) (Or.inl ⟨by rfl, ?_⟩) hH ?_
  · intro V hV; go_simp
  try simp only [Act.put, List.setIfInBounds_toArray, List.set_cons_zero, List.set_cons_succ, List.getElem_toArray, List.getElem_cons_succ, List.getElem_cons_zero]
  refine wpAnyN_take (i := 6) (v := .pointer (some ⟨R, k, none⟩)) [14] (by kernel_rfl) rfl (by kernel_rfl) (by kernel_rfl) (by kernel_rfl) (fun _ _ _ h => h) (Or.inl ⟨by rfl, ?_⟩) hH ?_
  · intro V hV; go_simp
  try simp only [Act.put, List.setIfInBounds_toArray, List.set_cons_zero, List.set_cons_succ, List.getElem_toArray, List.getElem_cons_succ, List.getElem_cons_zero]
  refine wpAnyN_take (i := 7) (v := .slice A1 n c1) [14] (by kernel_rfl) rfl (by kernel_rfl) (by kernel_rfl) (by kernel_rfl) (fun _ _ _ h => h) (Or.inl ⟨by rfl, ?_⟩) hH ?_
  · intro V hV; obtain ⟨q0, q1⟩ := hV; go_simp
  try simp only [Act.put, List.setIfInBounds_toArray, List.set_cons_zero, List.set_cons_succ, List.getElem_toArray, List.getElem_cons_succ, List.getElem_cons_zero]
  refine wpAnyN_take (i := 8) (v := .int .i64 (n : Int)) [14] (by kernel_rfl) rfl (by kernel_rfl) (by kernel_rfl) (by kernel_rfl) (fun _ _ _ h => h) (Or.inl ⟨by rfl, ?_⟩) hH ?_
  · intro V hV; go_simp
  try simp only [Act.put, List.setIfInBounds_toArray, List.set_cons_zero, List.set_cons_succ, List.getElem_toArray, List.getElem_cons_succ, List.getElem_cons_zero]
  refine wpAnyN_take (i := 9) (v := .int .u64 (n : Int)) [14] (by kernel_rfl) rfl (by kernel_rfl) (by kernel_rfl) (by kernel_rfl) (fun _ _ _ h => h) (Or.inl ⟨by rfl, ?_⟩) hH ?_
  · intro V hV; go_simp
  try simp only [Act.put, List.setIfInBounds_toArray, List.set_cons_zero, List.set_cons_succ, List.getElem_toArray, List.getElem_cons_succ, List.getElem_cons_zero]
  refine wpAnyN_one (i := 10) (by kernel_rfl) rfl (fun K hK => ?_)
  go_simp
  refine (Pack.number_at (n64 (n : Int)) 1 (by decide) (by decide) _ _ (n64_val (by omega) (by omega)) rfl W1).mono ?_
  rintro e V ⟨A2, c2, rfl, ho, hb⟩
  go_wp2_with fail
  refine hK.out _ _ (.inr (HSB.out V hb)) ?_
  clear hK K hH
  try simp only [Act.put, List.setIfInBounds_toArray, List.set_cons_zero, List.set_cons_succ, List.getElem_toArray, List.getElem_cons_succ, List.getElem_cons_zero]
  have HO2 := Lib.hid ho
  have HB2 := Lib.hid hb
  clear ho hb
  refine wpAnyN_one (i := 11) (by kernel_rfl) rfl (fun K hK => ?_)
  rw [if_pos (by rfl)]
  refine wp_append_bs V _ _ 25 rfl B 5 rowB (.slice A bs.length c) bs.length bs rfl (HO.out.below HB2.out) V.heap.size A2 1 c2 (num 1 (n64 (n : Int))) rfl (Bs.of_own HO2.out rfl) (by omega) (Nat.le_trans HBS.out HB2.out.size) ?_
  intro A3 c3 V3 ho3 hg3 _
  have HW3 := Lib.hid ((Wka.of_below HB2.out).trans (Wka.grown (J := J) (HO.out.below HB2.out) hg3))
  have HO3 := Lib.hid (show Owb V3 B A3 (bs.length + 1) c3 (bs ++ (num 1 (n64 (n : Int)))) from ho3)
  have hS3 := HSW.out V3 HW3.out
  clear ho3 hg3
  refine hK.out _ _ (.inr hS3) ?_
  clear hK K
  try simp only [Act.put, List.setIfInBounds_toArray, List.set_cons_zero, List.set_cons_succ, List.getElem_toArray, List.getElem_cons_succ, List.getElem_cons_zero]
  refine wpAnyN_one (i := 12) (by kernel_rfl) rfl (fun K hK => ?_)
  go_simp
  refine hK.out _ _ (.inr hS3) ?_
  clear hK K
  try simp only [Act.put, List.setIfInBounds_toArray, List.set_cons_zero, List.set_cons_succ, List.getElem_toArray, List.getElem_cons_succ, List.getElem_cons_zero]
  refine wpAnyN_one (i := 13) (by kernel_rfl) rfl (fun K hK => ?_)
  go_simp
  refine hK.out _ _ (.inr hS3) ?_
  clear hK K
  try simp only [Act.put, List.setIfInBounds_toArray, List.set_cons_zero, List.set_cons_succ, List.getElem_toArray, List.getElem_cons_succ, List.getElem_cons_zero]
  have d0 := hS3.1
  have f0 := (HJW.out V3 HW3.out).free 0
  clear hS3
  refine wpAnyN_one (i := 14) (by kernel_rfl) rfl (fun K hK => ?_)
  go_simp
  refine hK.out _ _ (.inl (by decide)) ?_
  clear hK K d0 f0
  try simp only [Act.put, List.setIfInBounds_toArray, List.set_cons_zero, List.set_cons_succ, List.getElem_toArray, List.getElem_cons_succ, List.getElem_cons_zero]
  refine wpAnyN_done (by kernel_rfl) ?_ _

  obtain ⟨W4, hW4⟩ : ∃ W, W = V3.setCell ⟨J, 0, none⟩ (.slice A3 (bs.length + 1) c3) := ⟨_, rfl⟩
  obtain ⟨_, hw4, hk4⟩ := wr_end (w := w) (HWA.out.trans HW3.out.wkp) (HJW.out V3 HW3.out) HO3.out (by rw [List.length_append, Pack.num_length])
  have hr4 := HRW.out (V3.setCell ⟨J, 0, none⟩ (.slice A3 (bs.length + 1) c3)) (HW3.out.wkp.set 0 _)
  have hf4 : Wkp B J W1 W4 := by rw [hW4]; exact HW3.out.wkp.set 0 _
  rw [← hW4] at hw4 hk4 hr4 ⊢
  have HW4 := Lib.hid hw4
  have HK4 := Lib.hid hk4
  have HF4 := Lib.hid hf4
  have k0 := (hr4.cell k).trans HK.out
  clear hW4 hw4 hk4 hr4 hf4
  go_wp2_with fail
  clear k0
  go_loopw [24] (fun v24 wr => ∃ (i : Nat), i ≤ n ∧ v24 = .int .i64 (i : Int) ∧ Hid (Wst wr B J (bs ++ num 1 (n64 (n : Int)) ++ (txt (vs.take i)).flatMap text)) ∧ Hid (Wkp B J W1 wr) ∧ Hid (((txt (vs.take i)).flatMap text).length ≤ 102 * i)) (fun v24 _ => n - (intOf v24).toNat)
  case atStart => exact ⟨0, Nat.zero_le _, rfl, Lib.hid (by rw [List.take_zero]; show Wst W4 B J (_ ++ []); rw [List.append_nil]; exact HW4.out), HF4, Lib.hid (by simp [txt])⟩
  case round =>
    obtain ⟨i, hi, rfl, HST, HFW, HLW⟩ := hrel
    obtain ⟨W5, rfl⟩ : ∃ W, W = wr := ⟨_, rfl⟩
    rcases Nat.lt_or_ge i n with hlt | hge
    · obtain ⟨v, hv⟩ : ∃ v, vs[i]? = some v := ⟨_, List.getElem?_eq_getElem (by rw [HV.out]; exact hlt)⟩
      have hT := HTF.out _ HFW.out
      obtain ⟨ad, rfl, k2⟩ := hT.cr i v hv
      have hl1 := HX.out v (List.mem_of_getElem? hv)
      have hsz := HFW.out.size
      have hw1 : B ≤ W5.heap.size := Nat.le_trans HBS.out hsz
      obtain ⟨W6, hW6⟩ : ∃ W, W = W5.alloc (.cells #[v.cell] 25) := ⟨_, rfl⟩
      have hc6 : Cel W6 W5.heap.size 25 [v.cell] := by rw [hW6]; exact Cel.new W5 25 [v.cell]
      have hb6 : Below W5.heap.size W5 W6 := by rw [hW6]; exact (Below.refl _ _).alloc (Nat.le_refl _) _
      have hbs : Bs W6 W6.heap.size v.A v.t.length v.t := tx_bs ((hT.tx v (List.mem_of_getElem? hv)).1.below (Nat.le_trans hKB hw1) hb6) (Nat.le_trans hKB (Nat.le_trans hw1 hb6.size))
      have hst : Wst W6 B J (bs ++ num 1 (n64 (n : Int)) ++ (txt (vs.take i)).flatMap text) := by
        obtain ⟨A7, c7, h1, h2⟩ := HST.out
        exact ⟨A7, c7, h1.below hb6 h1.lt, h2.below hb6⟩
      have con := w_text W6 (k := 0) hst (Nat.le_trans hw1 hb6.size) hc6 rfl hbs (by omega) (by rw [List.length_append, List.length_append, Pack.num_length]; have := HLW.out; omega)
      have HNX := Lib.hid (flat_take hv)
      have HF6 := Lib.hid (HFW.out.trans (Wkp.of_below hb6))
      have HL1 := Lib.hid hl1
      clear hv hT hsz hw1 hc6 hb6 hbs hst hl1
      unfold Vt.cell at k2 hW6
      go_upto_region 4 with fail
      rw [← hW6]
      clear hW6
      go_wp2_with fail
      refine con.mono ?_
      rintro e W7 ⟨rfl, hs7, hk7⟩
      have HS7 := Lib.hid hs7
      have HK7 := Lib.hid (HF6.out.trans hk7)
      clear con hs7 hk7
      go_wp2_with fail
      exact ⟨⟨i + 1, by omega, by rw [show ((i + 1 : Nat) : Int) = (i : Int) + 1 by omega], Lib.hid (by rw [HNX.out, ← List.append_assoc]; exact HS7.out), HK7, Lib.hid (by rw [HNX.out, List.length_append, text, List.length_append, Pack.num_length]; have := HLW.out; have := HL1.out; omega)⟩, by simp [intOf]; omega⟩
    · obtain rfl : i = n := by omega
      have HS7 := Lib.hid (show Wst W5 B J E by rw [HE.out]; have h := HST.out; rw [← HV.out, List.take_length] at h; rw [← HV.out]; exact h)
      have HK7 := Lib.hid (HWA.out.trans HFW.out)
      go_wp2_with fail
      go_end0
      exact ⟨rfl, HS7.out, HK7.out⟩
end Go.Proofs.Ythaebchmlicgaaa.Rec
