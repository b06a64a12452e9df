/-
The program's link (layer 18): its rules are copied; New. (Written by gen_linkpnew.py.)
-/
import Derived.Test.YtnjmdgnghidjhaaLinkTakes0
import Derived.Test.YtnjmdgnghidjhaaLinkTakes1
import Derived.Test.YtnjmdgnghidjhaaLinkTakes2
import Derived.Test.YtnjmdgnghidjhaaLinkTakes4
import Derived.Test.YtnjmdgnghidjhaaLinkTakes5
import Derived.Test.YtnjmdgnghidjhaaLinkTakes6
set_option linter.unusedVariables false
set_option linter.unusedSimpArgs false
set_option maxRecDepth 100000
set_option maxHeartbeats 4000000
namespace Go.Proofs.Ytnjmdgnghidjhaa.Ord
end Go.Proofs.Ytnjmdgnghidjhaa.Ord
namespace Go.Proofs.Ytnjmdgnghidjhaa.Peer
open Go.RowKit Go.Proofs.Ytnjmdgnghidjhaa.Ord
open Lex (Tx)
open Rec (Vt Tvs Trow txt)
theorem infoPr : (Try.prog.info? 55).map (fun i => (i.zero, i.size, i.bytes)) = some (some (.agg #[.int .i64 0, .slice none 0 0, .slice none 0 0, .int .i64 0]), 4, 64) := by kernel_rfl
theorem rowPr : ElemRow Try.prog 22 55 4 64 := ElemRow.mk' Try.underlying22 infoPr rfl (by decide)
theorem rflat_len : ∀ vs : List Rl, (rflat vs).length = vs.length * 4
 | [] => rfl
 | v :: vs => by
  have := rflat_len vs
  unfold rflat at this ⊢
  rw [List.flatMap_cons, List.length_append, this, List.length_cons]
  show 4 + _ = _
  omega
theorem rflat_one (vs : List Rl) : ∀ u ∈ rflat vs, u.oneCell' = true := fun u hu => by
 obtain ⟨v, _, hv⟩ := List.mem_flatMap.1 hu
 unfold Rl.cells at hv
 simp only [List.mem_cons, List.not_mem_nil, or_false] at hv
 rcases hv with rfl | rfl | rfl | rfl <;> rfl
theorem src_rls {w : World} {T n : Nat} {A : Option Addr} {vs : List Rl} (h : Rls w T A vs) (hl : vs.length = n) : Src w A n (rflat vs) := fun h0 => by
 obtain ⟨v0, hv0⟩ : ∃ v, vs[0]? = some v := ⟨_, List.getElem?_eq_getElem (by omega)⟩
 obtain ⟨ad, e, _⟩ := h 0 v0 hv0
 refine ⟨ad, e, fun j u hj => ?_⟩
 have hjl : j < vs.length * 4 := by rw [← rflat_len]; exact (List.getElem?_eq_some_iff.1 hj).1
 obtain ⟨v, hv⟩ : ∃ v, vs[j / 4]? = some v := ⟨_, List.getElem?_eq_getElem (by omega)⟩
 have h4 := rflat4 vs (j / 4) (j % 4) v hv (Nat.mod_lt _ (by decide))
 have hje : j / 4 * 4 + j % 4 = j := by omega
 rw [hje, hj] at h4
 obtain ⟨ad', e', c0, c1, c2, c3, _⟩ := h (j / 4) v hv
 have eq : ad' = ad := Option.some.inj (e'.symm.trans e)
 rw [eq] at c0 c1 c2 c3
 have hk : j % 4 < 4 := Nat.mod_lt _ (by decide)
 obtain ⟨k, hke⟩ : ∃ k, k = j % 4 := ⟨_, rfl⟩
 rw [← hke] at h4 hje hk
 rw [← hje]
 match k, hk with
 | 0, _ => rw [Nat.add_zero]; exact c0.trans h4.symm
 | 1, _ => rw [Lex.add_at4 _ _ 1 (by decide)] at c1; exact c1.trans h4.symm
 | 2, _ => rw [Lex.add_at4 _ _ 2 (by decide)] at c2; exact c2.trans h4.symm
 | 3, _ => rw [Lex.add_at4 _ _ 3 (by decide)] at c3; exact c3.trans h4.symm
theorem eql_nilR (w : World) (A : Option Addr) (n c : Nat) : (binOp .eql 22 (.slice A n c) (.slice none 0 0)).run Try.prog w = .ok (.bool A.isNone) w := Lib.run_eql_slice_nil w 22 55 A n c 0 0 Try.underlying22
theorem clone_rules (w : World) (T : Nat) (hT : T ≤ w.heap.size) (A : Option Addr) (n c : Nat) (vs : List Rl) (h : Rls w T A vs) (hl : vs.length = n) (hn : n ≤ 100000) :
  Calls Try.prog 28 #[.slice A n c] w fun r w' => ∃ A' c', r = .returned (.slice A' n c') ∧ w'.ownsRow w.heap.size 55 4 (.slice A' n c') n (rflat vs) ∧ Below w.heap.size w w' := by
 have q := eql_nilR w A n c
 cases A with
 | none =>
  have hv : vs = [] := by
   rcases Nat.eq_zero_or_pos vs.length with h0 | h0
   ·exact List.length_eq_zero_iff.1 h0
   ·obtain ⟨ad, e, _⟩ := h 0 vs[0] (List.getElem?_eq_getElem h0)
    cases e
  subst hv
  obtain rfl : n = 0 := by simpa using hl.symm
  clear h hl
  go_enter Try.func28, Try.ntmps28
  go_wp2_with fail
  go_ret
  exact ⟨none, 0, rfl, World.ownsRow_nil _ _ _ _, Below.refl _ _⟩
 | some a =>
  have hb0 : Below w.heap.size w (w.alloc (.cells #[] 55)) := (Below.refl _ _).alloc (Nat.le_refl _) _
  have HSRC := Lib.hid (src_rls (h.below hT hb0) hl)
  have HO0 := Lib.hid (show (w.alloc (.cells #[] 55)).ownsRow w.heap.size 55 4 (.slice (some ⟨w.heap.size, 0, none⟩) 0 0) 0 [] from World.ownsRow_lit w #[] 0 (Nat.le_refl _) (Nat.zero_le _) rfl)
  have HLN := Lib.hid (show (rflat vs).length = n * 4 by rw [rflat_len, hl])
  have HON := Lib.hid (rflat_one vs)
  clear h hl hb0
  go_enter Try.func28, Try.ntmps28
  go_wp2_with ((at_builtin; refine wpList_append_any _ rfl _ _ 22 rfl w.heap.size 55 rowPr (.slice (some ⟨w.heap.size, 0, none⟩) 0 0) 0 [] rfl HO0.out (some a) n c (rflat vs) rfl HLN.out HSRC.out HON.out n (rflat vs) (Nat.zero_add _) (List.nil_append _) (by unfold maxLen; omega) (by omega) (by simp) ?_; intro A' c' w' h2 h3 _; have H2 := Lib.hid h2; have H3 := Lib.hid h3; clear h2 h3))
  go_ret
  exact ⟨A', c', rfl, H2.out, Below.grown ((Below.refl _ _).alloc (Nat.le_refl _) _) H3.out (by simp) (by intro g hg; cases hg; exact Nat.le_refl _)⟩
theorem own_putR {base e size n cap g : Nat} {w : World} {xs : List Value} (h : w.ownsRow base e size (.slice (some ⟨g, 0, none⟩) n cap) n xs) (o : Nat) (u : Value) : (w.setCell ⟨g, o, none⟩ u).ownsRow base e size (.slice (some ⟨g, 0, none⟩) n cap) n (xs.set o u) := by
 refine ⟨by rw [List.length_set]; exact h.1, .inr ?_⟩
 rcases h.2 with ⟨hv, _⟩ | ⟨g', cap', cur, hv, hb, hc, h1, h2, h3, h4⟩
 ·cases hv
 ·cases hv
  obtain ⟨cs, rfl⟩ : ∃ cs : List Value, cur = cs.toArray := ⟨cur.toList, by simp⟩
  have hs := Cel.set (show Cel w g e cs from hc) o u
  refine ⟨g, cap, _, rfl, hb, hs, h1, h2, by simpa using h3, ?_⟩
  rw [← h4]
  simp [List.take_set]
theorem own_free {base e size n cap g : Nat} {w : World} {xs : List Value} (h : w.ownsRow base e size (.slice (some ⟨g, 0, none⟩) n cap) n xs) (o : Nat) : w.frozen? ⟨g, o, none⟩ = false := by
 obtain ⟨cs, hc⟩ := own_is h g rfl
 exact (show Cel w g e cs.toList from by simpa [Cel] using hc).free o
theorem rflat_set : ∀ (ys : List Rl) (i : Nat) (y : Rl), ys[i]? = some y → ∀ (A1 : Option Addr) (c1 : Nat) (A2 : Option Addr) (c2 : Nat), ((rflat ys).set (i * 4 + 1) (.slice A1 y.r.line.length c1)).set (i * 4 + 2) (.slice A2 y.r.out.length c2) = rflat (ys.set i ⟨y.r, A1, c1, A2, c2⟩)
 | [], _, _, h, _, _, _, _ => by simp at h
 | u :: us, 0, y, h, A1, c1, A2, c2 => by
  simp at h
  subst h
  rfl
 | u :: us, i + 1, y, h, A1, c1, A2, c2 => by
  have ih := rflat_set us i y (by simpa using h) A1 c1 A2 c2
  show ((u.cells ++ rflat us).set _ _).set _ _ = u.cells ++ rflat (us.set i _)
  have h4 : u.cells.length = 4 := rfl
  rw [List.set_append_right _ _ (by omega), List.set_append_right _ _ (by omega), h4, show (i + 1) * 4 + 1 - 4 = i * 4 + 1 by omega, show (i + 1) * 4 + 2 - 4 = i * 4 + 2 by omega, ih]
structure Cpy (V : World) (vs ys : List Rl) (i : Nat) : Prop where
 len : ys.length = vs.length
 mp : ys.map (·.r) = vs.map (·.r)
 done : ∀ j y, j < i → ys[j]? = some y → By V y.A1 y.r.line.length y.r.line ∧ By V y.A2 y.r.out.length y.r.out
 rest : ∀ j, i ≤ j → ys[j]? = vs[j]?
theorem Cpy.step {V V' : World} {vs ys : List Rl} {i : Nat} (h : Cpy V vs ys i) {v : Rl} (hv : vs[i]? = some v) {A1 A2 : Option Addr} {c1 c2 : Nat} (hk : ∀ (q : Nat) cs fz, V.heap[q]? = some (Obj.cells cs 5 fz) → V'.heap[q]? = V.heap[q]?) (h1 : By V' A1 v.r.line.length v.r.line) (h2 : By V' A2 v.r.out.length v.r.out) : Cpy V' vs (ys.set i ⟨v.r, A1, c1, A2, c2⟩) (i + 1) := by
 have hlt := (List.getElem?_eq_some_iff.1 hv).1
 have hy : ys[i]? = some v := (h.rest i (Nat.le_refl _)).trans hv
 refine ⟨by rw [List.length_set]; exact h.len, ?_, fun j y hj hy' => ?_, fun j hj => ?_⟩
 ·rw [List.map_set, h.mp]
  apply List.ext_getElem?
  intro j
  rw [List.getElem?_set]
  split
  ·rename_i e
   subst e
   rw [if_pos (by rw [List.length_map]; exact hlt), List.getElem?_map, hv]
   rfl
  ·rfl
 ·rcases Nat.lt_or_ge j i with hji | hji
  ·rw [List.getElem?_set_ne (by omega)] at hy'
   obtain ⟨q1, q2⟩ := h.done j y hji hy'
   exact ⟨q1.keep fun q cs fz e => hk q cs fz e, q2.keep fun q cs fz e => hk q cs fz e⟩
  ·obtain rfl : j = i := by omega
   rw [List.getElem?_set_self (by rw [h.len]; exact hlt)] at hy'
   have := Option.some.inj hy'
   subst this
   exact ⟨h1, h2⟩
 ·rw [List.getElem?_set_ne (by omega)]
  exact h.rest j (by omega)
theorem Cpy.below {V V' : World} {vs ys : List Rl} {i : Nat} (h : Cpy V vs ys i) (hb : Below V.heap.size V V') : Cpy V' vs ys i := ⟨h.len, h.mp, fun j y hj hy => ⟨(h.done j y hj hy).1.below hb, (h.done j y hj hy).2.below hb⟩, h.rest⟩
def CrSays (w : World) (n : Nat) (vs : List Rl) (e : Ending) (w' : World) : Prop := ∃ A' c' ys, e = .returned (.slice A' n c') ∧ w'.ownsRow w.heap.size 55 4 (.slice A' n c') n (rflat ys) ∧ Cpy w' vs ys n ∧ Below w.heap.size w w'
theorem pcopied18 (w : World) (T : Nat) (hT : T ≤ w.heap.size) (AR : Option Addr) (n c : Nat) (vs : List Rl) (h : Rls w T AR vs) (hf : Rfew vs n) : Calls Try.prog 20 #[.slice AR n c] w (CrSays w n vs) := by
 have con := clone_rules w T hT AR n c vs h hf.1 (by have := hf.2.1; omega)
 have HR := Lib.hid (show ∀ V, Below w.heap.size w V → T ≤ V.heap.size ∧ Rls V T AR vs from fun V hV => ⟨Nat.le_trans hT hV.size, h.below hT hV⟩)
 have HF := Lib.hid hf
 have hn20 := hf.2.1
 clear h hf hT
 go_enter Try.func20, Try.ntmps20
 go_wp2_with fail
 refine con.mono ?_
 clear con
 rintro e w1 ⟨A1, k1, rfl, ho1, hb1⟩
 have HO1 := Lib.hid ho1
 have HB1 := Lib.hid hb1
 clear ho1 hb1
 go_wp2_with fail
 go_loopw [9] (fun v9 wr => ∃ (i : Nat) (ys : List Rl), i ≤ n ∧ v9 = .int .i64 (i : Int) ∧ Hid (Below w.heap.size w wr) ∧ Hid (wr.ownsRow w.heap.size 55 4 (.slice A1 n k1) n (rflat ys)) ∧ Hid (Cpy wr vs ys i)) (fun v9 _ => n - (intOf v9).toNat)
 case atStart => exact ⟨0, vs, Nat.zero_le _, rfl, HB1, HO1, Lib.hid ⟨rfl, rfl, fun j y hj => absurd hj (Nat.not_lt_zero _), fun _ _ => rfl⟩⟩
 case round =>
  clear HB1 HO1
  obtain ⟨i, ys, hi, rfl, HB, HO, HC⟩ := hrel
  obtain ⟨W, hW⟩ : ∃ W, W = wr := ⟨_, rfl⟩
  rw [← hW] at HB HO HC ⊢
  clear hW
  rcases Nat.lt_or_ge i n with hlt | hge
  rotate_left
  ·obtain rfl : i = n := by omega
   go_wp2_with fail
   go_ret
   exact ⟨A1, k1, ys, rfl, HO.out, HC.out, HB.out⟩
  obtain ⟨v, hv⟩ : ∃ v, vs[i]? = some v := ⟨_, List.getElem?_eq_getElem (by rw [HF.out.1]; exact hlt)⟩
  have HV := Lib.hid hv
  have HYV := Lib.hid ((HC.out.rest i (Nat.le_refl _)).trans hv)
  have HFV := Lib.hid (HF.out.2.2 v (List.mem_of_getElem? hv))
  obtain ⟨g, cap, hgv, hwg, hgl⟩ := HO.out.form (by omega)
  have hA1 : A1 = some ⟨g, 0, none⟩ := by injection hgv
  subst hA1
  obtain ⟨W3, hW3⟩ : ∃ X, X = W.drew := ⟨_, rfl⟩
  have hb3 : Below W.heap.size W W3 := by rw [hW3]; exact (Below.refl _ _).drew
  have HB3 := Lib.hid (HB.out.trans (hb3.mono HB.out.size))
  have HO3 := Lib.hid (show W3.ownsRow w.heap.size 55 4 (.slice (some ⟨g, 0, none⟩) n k1) n (rflat ys) from own_frm (l := []) HO.out (Frm.of_below hb3) (by simp))
  have HC3 := Lib.hid (HC.out.below hb3)
  have HWG := Lib.hid hwg
  obtain ⟨io, hio⟩ : ∃ io, io = i * 4 := ⟨_, rfl⟩
  have HIO := Lib.hid hio
  have HAD := Lib.hid (show (⟨g, 0, none⟩ : Addr).add (i * 4) = ⟨g, io, none⟩ by rw [add_row, hio])
  have HK := Lib.hid (show ∀ V, Below W3.heap.size W3 V → V.cell? ⟨g, io + 1, none⟩ = some (.slice v.A1 v.r.line.length v.c1) ∧ V.cell? ⟨g, io + 2, none⟩ = some (.slice v.A2 v.r.out.length v.c2) from fun V hV => by
   have ho : V.ownsRow w.heap.size 55 4 (.slice (some ⟨g, 0, none⟩) n k1) n (rflat ys) := own_frm (l := []) HO3.out (Frm.of_below hV) (by simp)
   have q1 := ho.cellAt (io + 1) (by omega)
   have q2 := ho.cellAt (io + 2) (by omega)
   rw [hio, rflat4 ys i 1 v HYV.out (by decide)] at q1
   rw [hio, rflat4 ys i 2 v HYV.out (by decide)] at q2
   rw [hio]
   exact ⟨q1, q2⟩)
  clear hv hgv hwg hgl hb3 HB HO HC hio
  go_upto_region 5 with fail
  refine wp_region_N [] (fun _ => True) (by kernel_rfl) ?_
  rw [← hW3]
  have hH : True := trivial
  clear hW3
  refine tk_ 0 (.slice (some ⟨g, 0, none⟩) n k1) [] rfl hH ?_ ?_
  ·intro V hV; go_simp
  try simp only [Act.put, lay_]
  refine tk_ 1 (.int .i64 (i : Int)) [] rfl hH ?_ ?_
  ·intro V hV; go_simp
  try simp only [Act.put, lay_]
  refine tk_ 2 (.slice (some ⟨g, 0, none⟩) n k1) [] rfl hH ?_ ?_
  ·intro V hV; go_simp
  try simp only [Act.put, lay_]
  refine tk_ 3 (.int .i64 (i : Int)) [] rfl hH ?_ ?_
  ·intro V hV; go_simp
  try simp only [Act.put, lay_]
  refine tk_ 4 (.slice (some ⟨g, 0, none⟩) n k1) [] rfl hH ?_ ?_
  ·intro V hV; go_simp
  try simp only [Act.put, lay_]
  refine tk_ 5 (.int .i64 (i : Int)) [] rfl hH ?_ ?_
  ·intro V hV; go_simp
  try simp only [Act.put, lay_]
  refine tk_ 6 (.pointer (some ⟨g, io, none⟩)) [] rfl hH ?_ ?_
  ·intro V hV; have hadd := HIO.out.symm; go_simp
  try simp only [Act.put, lay_]
  refine tk_ 7 (.pointer (some ⟨g, io + 1, none⟩)) [] rfl hH ?_ ?_
  ·intro V hV; go_simp
  try simp only [Act.put, lay_]
  refine tk_ 10 (.slice (some ⟨g, 0, none⟩) n k1) [] rfl hH ?_ ?_
  ·intro V hV; go_simp
  try simp only [Act.put, lay_]
  refine tk_ 11 (.int .i64 (i : Int)) [] rfl hH ?_ ?_
  ·intro V hV; go_simp
  try simp only [Act.put, lay_]
  refine tk_ 12 (.pointer (some ⟨g, io, none⟩)) [] rfl hH ?_ ?_
  ·intro V hV; have hadd := HIO.out.symm; go_simp
  try simp only [Act.put, lay_]
  refine tk_ 13 (.pointer (some ⟨g, io + 2, none⟩)) [] rfl hH ?_ ?_
  ·intro V hV; go_simp
  try simp only [Act.put, lay_]
  refine wpAnyN_free (S := fun V => Below W3.heap.size W3 V) (N := [18, 19, 20, 21]) _ _ _ _ ?_
  replace hH : Below W3.heap.size W3 W3 := Below.refl _ _
  refine tk_ 8 (.slice v.A1 v.r.line.length v.c1) [18, 19, 20, 21] rfl hH ?_ ?_
  ·intro V hV; have hk1 := (HK.out V hV).1; go_simp
  try simp only [Act.put, lay_]
  refine tk_ 14 (.slice v.A2 v.r.out.length v.c2) [18, 19, 20, 21] rfl hH ?_ ?_
  ·intro V hV; have hk2 := (HK.out V hV).2; go_simp
  try simp only [Act.put, lay_]
  refine wpAnyN_one (i := 9) (by kernel_rfl) rfl (fun Kq hKq => ?_)
  go_simp
  refine (Pack.clone W3.heap.size v.A1 v.r.line.length v.c1 v.r.line W3 (by obtain ⟨h1, h2⟩ := HR.out W3 HB3.out; obtain ⟨_, _, _, _, _, _, h3, _⟩ := h2 i v HV.out; exact Lex.Tx.bs h3 h1) (Nat.le_refl _) (by have := HFV.out.1; omega)).mono ?_
  rintro e V1 ⟨A4, c4, rfl, ho4, hb4⟩
  have HY4 := Lib.hid (By.of_own ho4)
  replace hH := hb4
  clear ho4 hb4
  go_wp2_with fail
  refine hKq.out _ _ (.inr hH) ?_
  clear hKq Kq
  try simp only [Act.put, lay_]
  refine wpAnyN_one (i := 15) (by kernel_rfl) rfl (fun Kq hKq => ?_)
  go_simp
  refine (Pack.clone V1.heap.size v.A2 v.r.out.length v.c2 v.r.out V1 (by obtain ⟨h1, h2⟩ := HR.out V1 (HB3.out.trans (hH.mono HB3.out.size)); obtain ⟨_, _, _, _, _, _, _, h3⟩ := h2 i v HV.out; exact Lex.Tx.bs h3 h1) (Nat.le_refl _) (by have := HFV.out.2; omega)).mono ?_
  rintro e V2 ⟨A5, c5, rfl, ho5, hb5⟩
  replace HY4 := Lib.hid (HY4.out.below hb5)
  have HY5 := Lib.hid (By.of_own ho5)
  replace hH := hH.trans (hb5.mono hH.size)
  clear ho5 hb5
  have hH2 := hH
  have HOV := Lib.hid (show V2.ownsRow w.heap.size 55 4 (.slice (some ⟨g, 0, none⟩) n k1) n (rflat ys) from own_frm (l := []) HO3.out (Frm.of_below hH) (by simp))
  have hk1 := (HK.out V2 hH).1
  have hf1 := own_free HOV.out (io + 1)
  go_wp2_with fail
  refine hKq.out _ _ (.inr hH) ?_
  clear hKq Kq
  try simp only [Act.put, lay_]
  refine tk_ 16 (.pointer (some ⟨g, io, none⟩)) [17, 18, 19, 20, 21] rfl hH ?_ ?_
  ·intro V hV; have hadd := HIO.out.symm; go_simp
  try simp only [Act.put, lay_]
  refine tk_ 17 (.pointer (some ⟨g, io + 1, none⟩)) [18, 19, 20, 21] rfl hH ?_ ?_
  ·intro V hV; go_simp
  try simp only [Act.put, lay_]
  refine wpAnyN_one (i := 18) (by kernel_rfl) rfl (fun Kq hKq => ?_)
  go_simp
  refine hKq.out _ _ (.inl (by decide)) ?_
  clear hKq Kq
  try simp only [Act.put, lay_]
  obtain ⟨V3, hV3⟩ : ∃ X, X = V2.setCell ⟨g, io + 1, none⟩ (.slice A4 v.r.line.length c4) := ⟨_, rfl⟩
  rw [← hV3]
  have HV3 := Lib.hid hV3
  have hov3 := own_putR HOV.out (io + 1) (.slice A4 v.r.line.length c4)
  rw [← hV3] at hov3
  have hf2 := own_free hov3 (io + 2)
  have hk2 : V3.cell? ⟨g, io + 2, none⟩ = some (.slice v.A2 v.r.out.length v.c2) := by
   rw [hov3.cellAt (io + 2) (by have := HIO.out; omega), List.getElem?_set_ne (by omega), HIO.out, rflat4 ys i 2 v HYV.out (by decide)]
   rfl
  clear hV3 hov3 hk1 hf1
  refine wpAnyN_one (i := 19) (by kernel_rfl) rfl (fun Kq hKq => ?_)
  have hadd := HIO.out.symm
  go_simp
  refine hKq.out _ _ (.inl (by decide)) ?_
  clear hKq Kq
  try simp only [Act.put, lay_]
  clear hadd
  refine wpAnyN_one (i := 20) (by kernel_rfl) rfl (fun Kq hKq => ?_)
  go_simp
  refine hKq.out _ _ (.inl (by decide)) ?_
  clear hKq Kq
  try simp only [Act.put, lay_]
  refine wpAnyN_one (i := 21) (by kernel_rfl) rfl (fun Kq hKq => ?_)
  go_simp
  refine hKq.out _ _ (.inl (by decide)) ?_
  clear hKq Kq
  try simp only [Act.put, lay_]
  clear hk2 hf2
  refine wpAnyN_done (by kernel_rfl) ?_ _
  obtain ⟨V5, hV5⟩ : ∃ X, X = V3.setCell ⟨g, io + 2, none⟩ (.slice A5 v.r.out.length c5) := ⟨_, rfl⟩
  rw [← hV5]
  have hf5 : Frm [g] V2 V5 := by rw [hV5, HV3.out]; exact ((Frm.refl [g] V2).set (p := ⟨g, io + 1, none⟩) (by simp) _).set (p := ⟨g, io + 2, none⟩) (by simp) _
  have ho5 : V5.ownsRow w.heap.size 55 4 (.slice (some ⟨g, 0, none⟩) n k1) n (rflat (ys.set i ⟨v.r, A4, c4, A5, c5⟩)) := by
   have := own_putR (own_putR HOV.out (io + 1) (.slice A4 v.r.line.length c4)) (io + 2) (.slice A5 v.r.out.length c5)
   rw [← HV3.out, ← hV5, HIO.out, rflat_set ys i v HYV.out] at this
   exact this
  have hnk : ∀ (j : Nat) cs fz, V2.heap[j]? = some (Obj.cells cs 5 fz) → V5.heap[j]? = V2.heap[j]? := fun j cs fz e => hf5.block j (Array.getElem?_eq_some_iff.1 e).1 (fun hm => by
   rw [List.mem_singleton.1 hm] at e
   exact own_not_ty HOV.out (t' := 5) (by decide) g cs fz rfl e)
  have HB5 := Lib.hid (show Below w.heap.size w V5 from (HB3.out.trans (hH2.mono HB3.out.size)).trans (hf5.below (Nat.le_trans HB3.out.size hH2.size) (by simpa using HWG.out)))
  have HO5 := Lib.hid ho5
  have HC5 := Lib.hid ((HC3.out.below hH2).step (c1 := c4) (c2 := c5) HV.out hnk (HY4.out.keep hnk) (HY5.out.keep hnk))
  clear hV5 hf5 ho5 hnk hH2 hH
  go_wp2_with fail
  exact ⟨⟨i + 1, _, by omega, by rw [show ((i + 1 : Nat) : Int) = (i : Int) + 1 by omega], HB5, HO5, HC5⟩, by simp [intOf]; omega⟩
theorem pnew18 (w : World) (T : Nat) (A : Option Addr) (n c : Nat) (vs : List Rl) (h : Rls w T A vs) (hT : T ≤ w.heap.size) (hf : Rfew vs n) : Calls Try.prog 8 #[.slice A n c] w fun e w' => ∃ l g, e = .returned (pp g 0) ∧ (∀ k ∈ l, w.heap.size ≤ k ∧ k < w'.heap.size ∧ ∀ o fz, w'.heap[k]? ≠ some (Obj.cells o 5 fz)) ∧ Plink w' l g (vs.map (·.r)) lk0 ∧ Below w.heap.size w w' := by
 have con := pcopied18 w T hT A n c vs h hf
 have HF := Lib.hid hf
 clear h hf
 go_enter Try.func8, Try.ntmps8
 go_wp2_with fail
 refine con.mono ?_
 clear con
 rintro e w1 ⟨A1, k1, ys, rfl, ho, hc, hb⟩
 have HO := Lib.hid ho
 have HC := Lib.hid hc
 have HB := Lib.hid hb
 obtain ⟨w2, hw2⟩ : ∃ X, X = w1.alloc (.cells #[.int .i64 0, .slice none 0 0, .slice none 0 0, .slice none 0 0, .slice A1 n k1, .int .i64 0] 60) := ⟨_, rfl⟩
 have hb2 : Below w1.heap.size w1 w2 := by rw [hw2]; exact (Below.refl _ _).alloc (Nat.le_refl _) _
 have HB2 := Lib.hid hb2
 have HCL := Lib.hid (show Cel w2 w1.heap.size 60 [.int .i64 0, .slice none 0 0, .slice none 0 0, .slice none 0 0, .slice A1 n k1, .int .i64 0] by rw [hw2]; exact Cel.new w1 _ _)
 clear ho hc hb hb2
 go_wp2_with fail
 rw [← hw2]
 go_ret
 have ho2 : w2.ownsRow w.heap.size 55 4 (.slice A1 n k1) n (rflat ys) := own_frm (l := []) HO.out (Frm.of_below HB2.out) (by simp)
 have hc2 := HC.out.below HB2.out
 have hby : ∀ {A : Option Addr} {n : Nat} {bs : List B}, By w2 A n bs → Bp w2 (Bq w2 0 none none) A n bs := fun hq => ⟨hq.1, fun h0 => by
  obtain ⟨ad, e, h4, hc⟩ := hq.2 h0
  exact ⟨ad, e, (show Bq w2 0 none none ad.block from ⟨Nat.zero_le _, fun e => (by cases e), fun e => (by cases e), h4⟩), hc⟩⟩
 refine ⟨[w1.heap.size], w1.heap.size, rfl, fun k hk => ?_, ⟨A1, n, k1, ys, ⟨none, 0, none, 0, none, 0, []⟩, ⟨HCL.out, ⟨World.ownsRow_nil _ _ _ _, World.ownsRow_nil _ _ _ _, rfl, fun u hu => absurd hu List.not_mem_nil, ⟨rfl, fun h => absurd h (Nat.lt_irrefl 0)⟩, Ry.of_own ho2 (by decide), fun v hv => ?_, hc2.len.trans HF.out.1⟩⟩, hc2.mp.symm, rfl⟩, HB.out.trans (HB2.out.mono HB.out.size)⟩
 ·rw [List.mem_singleton.1 hk]
  exact ⟨HB.out.size, HCL.out.lt, HCL.out.not_ty (by decide)⟩
 ·obtain ⟨j, hj⟩ := List.getElem?_of_mem hv
  have hjl := (List.getElem?_eq_some_iff.1 hj).1
  obtain ⟨q1, q2⟩ := hc2.done j v (by rw [hc2.len, HF.out.1] at hjl; exact hjl) hj
  exact ⟨hby q1, hby q2⟩
end Go.Proofs.Ytnjmdgnghidjhaa.Peer
