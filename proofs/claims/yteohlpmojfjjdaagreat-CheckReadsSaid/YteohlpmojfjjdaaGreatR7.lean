/-
Texts: LexText LexOne
-/
import Derived.Test.YteohlpmojfjjdaaGreatR0
import Derived.Test.YteohlpmojfjjdaaGreatR1
import Derived.Test.YteohlpmojfjjdaaGreatR2
import Derived.Test.YteohlpmojfjjdaaGreatR4
import Derived.Test.YteohlpmojfjjdaaGreatR6
set_option linter.unusedVariables false
set_option linter.unusedSimpArgs false
set_option maxRecDepth 100000
set_option maxHeartbeats 4000000
section
namespace Go.Proofs.YteohlpmojfjjdaaGreat.Lex
open Go.RowKit
theorem rowB : ByteRow Tryz.prog 41 5 := ByteRow.mk' Tryz.underlying41 (by kernel_rfl)
theorem own_room {w : World} {base n c e size : Nat} {A : Option Addr} {us : List Value} (h : w.ownsRow base e size (.slice A n c) n us) : n ≤ c := by
 rcases h.2 with ⟨hv, rfl⟩ | ⟨g, cap, cur, hv, _, _, h1, _⟩
 ·exact Nat.zero_le _
 ·simp only [Value.slice.injEq] at hv
  obtain ⟨_, _, rfl⟩ := hv
  exact h1
def Owb (w : World) (B : Nat) (A : Option Addr) (n c : Nat) (o : List (BitVec 8)) : Prop := w.ownsRow B 5 1 (.slice A n c) n (o.map v8)
theorem Owb.len {w : World} {B n c : Nat} {A : Option Addr} {o : List (BitVec 8)} (h : Owb w B A n c o) : o.length = n := by have := h.1; simpa using this
theorem Owb.nil_ (w : World) (B : Nat) : Owb w B none 0 0 [] := World.ownsRow_nil _ _ _ _
theorem Owb.below {w w' : World} {B n c : Nat} {A : Option Addr} {o : List (BitVec 8)} (h : Owb w B A n c o) (hb : Below w.heap.size w w') : Owb w' B A n c o := own_frm (l := []) h (Frm.of_below hb) (by simp)
theorem lit_one (w : World) (x : BitVec 8) : Bs (w.alloc (.cells #[v8 x] 5)) (w.heap.size + 1) (some ⟨w.heap.size, 0, none⟩) 1 [x] := Bs.lit w 5 (0, 0) #[v8 x] [x] rfl 1 rfl
theorem Owb.grew {w w' : World} {B n c : Nat} {A : Option Addr} {o : List (BitVec 8)} (h : Owb w B A n c o) (hg : w.grownBy w' (Value.slice A n c).ownBlock) (hB : B ≤ w.heap.size) : Below B w w' :=
 ⟨hg.os, hg.tape, hg.output, hg.size, fun k hk => hg.block k (by omega) fun e => by have := own_ge h k e.symm; omega⟩
def TxSays (w : World) (p : Nat) (r : Except Nat (List (BitVec 8) × Nat)) (e : Ending) (w' : World) : Prop := Below w.heap.size w w' ∧ match r with
 | .error k => e = .returned (.tuple #[.slice none 0 0, .int .i64 ((p + k : Nat) : Int), .int .i64 ((p + k : Nat) : Int)])
 | .ok (t, k) => ∃ A' c', e = .returned (.tuple #[.slice A' t.length c', .int .i64 ((p + k : Nat) : Int), .int .i64 (-1)]) ∧ Owb w' w.heap.size A' t.length c' t
theorem add_pos' (ad : Addr) (k : Nat) (h : 0 < k) : ad.add k = ⟨ad.block, ad.off + k, none⟩ := by
 unfold Addr.add; rw [if_neg (by omega)]
theorem tx_bad {w w' : World} {p k : Nat} {z : Int} {r : Except Nat (List (BitVec 8) × Nat)} (hb : Below w.heap.size w w') (hr : r = .error k) (hz : z = ((p + k : Nat) : Int)) : TxSays w p r (.returned (.tuple #[.slice none 0 0, .int .i64 z, .int .i64 z])) w' := by
 subst hr; subst hz; exact ⟨hb, rfl⟩
theorem tx_ok {w w' : World} {p k m c : Nat} {z : Int} {A : Option Addr} {t : List (BitVec 8)} {r : Except Nat (List (BitVec 8) × Nat)} (hb : Below w.heap.size w w') (hr : r = .ok (t, k)) (hz : z = ((p + k : Nat) : Int)) (ho : Owb w' w.heap.size A m c t) : TxSays w p r (.returned (.tuple #[.slice A m c, .int .i64 z, .int .i64 (-1)])) w' := by
 have := ho.len
 subst hr; subst hz; subst this; exact ⟨hb, A, c, rfl, ho⟩
theorem text_ (w : World) (B : Nat) (A : Option Addr) (n c : Nat) (s : List (BitVec 8)) (hs : Bs w B A n s) (hB : B ≤ w.heap.size) (hn : n ≤ 100000) (p : Nat) (hp : p ≤ n) :
  Calls Tryz.prog 134 #[.slice A n c, .int .i64 (p : Int)] w (TxSays w p (textR (s.drop p))) := by
 obtain ⟨T, hT⟩ : ∃ T, T = textR (s.drop p) := ⟨_, rfl⟩
 rw [← hT]
 have HS := Lib.hid hs
 have hsl := hs.len
 have HSL := Lib.hid hsl
 have HT := Lib.hid hT
 clear hs hsl hT
 go_enter Tryz.func134, Tryz.ntmps134
 go_wp2_with fail
 go_loopw [1, 7] (fun v1 v7 wr => ∃ (d m c7 : Nat) (A7 : Option Addr) (o : List (BitVec 8)), p + d ≤ n ∧ m ≤ d ∧ v1 = .int .i64 ((p + d : Nat) : Int) ∧ v7 = .slice A7 m c7 ∧ Owb wr w.heap.size A7 m c7 o ∧ Below w.heap.size w wr ∧ Hid (T = tadd o d (textR (s.drop (p + d))))) (fun v1 _ _ => n - (intOf v1).toNat)
 case atStart => exact ⟨0, 0, 0, none, [], hp, Nat.le_refl _, rfl, rfl, Owb.nil_ _ _, Below.refl _ _, by rw [tadd_zero]; exact HT⟩
 case round =>
  clear HT
  obtain ⟨d, m, c7, A7, o, hd, hmd, rfl, rfl, ho, hb, HK⟩ := hrel
  obtain ⟨W0, rfl⟩ : ∃ W0, W0 = wr := ⟨_, rfl⟩
  have HO := Lib.hid ho
  have HBW := Lib.hid hb
  have hws := hb.size
  clear ho hb
  obtain ⟨q, hq⟩ : ∃ q, q = p + d := ⟨_, rfl⟩
  have HQ := Lib.hid hq
  rw [← hq] at hd HK ⊢
  have hdq : m ≤ q := by omega
  clear hq
  rcases Nat.lt_or_ge q n with hlt | hge
  ·obtain ⟨x, hx⟩ : ∃ x, s[q]? = some x := ⟨_, List.getElem?_eq_getElem (by rw [HSL.out]; exact hlt)⟩
   obtain ⟨bd, rfl, hbk, b0⟩ := (HS.out.below (HBW.out.mono hB)).at_ hlt
   rw [List.getD_eq_getElem?_getD, hx] at b0
   change _ = some (v8 x) at b0
   have HX := Lib.hid hx
   clear hx
   by_cases h34 : x = 34#8
   ·have HN := Lib.hid (show T = .ok (o, d + 1) by rw [HK.out, drop_at HX.out, textR_end h34]; simp [tadd])
    subst h34
    clear HK HX
    go_wp2_with fail
    go_ret3
    exact tx_ok HBW.out HN.out (by have := HQ.out; omega) HO.out
   have e1 : ((x.toNat : Int) == 34) = false := b_ne (k := 34) (by decide) h34
   by_cases hlow : x.toNat < 32
   ·have HN := Lib.hid (show T = .error d by rw [HK.out, drop_at HX.out, textR_low hlow]; rfl)
    clear HK HX h34
    go_wp2_with fail
    go_ret3
    exact tx_bad HBW.out HN.out (by rw [HQ.out])
   by_cases h92 : x = 92#8
   ·rcases Nat.lt_or_ge (q + 1) n with hlt2 | hge2
    ·obtain ⟨y, hy⟩ : ∃ y, s[q + 1]? = some y := ⟨_, List.getElem?_eq_getElem (by rw [HSL.out]; exact hlt2)⟩
     obtain ⟨bd2, hbd, _, b1⟩ := (HS.out.below (HBW.out.mono hB)).at_ hlt2
     cases hbd
     rw [List.getD_eq_getElem?_getD, hy] at b1
     change _ = some (v8 y) at b1
     rw [add_pos' bd (q + 1) (by omega)] at b1
     have e5 : ((q : Int) + 1 == (n : Int)) = false := by simp; omega
     have HY := Lib.hid (show s.drop q = x :: y :: s.drop (q + 2) by rw [drop_at HX.out, drop_at hy])
     have HY34 := Lib.hid hy
     clear hy
     by_cases hl2 : y.toNat < 32
     ·have HN := Lib.hid (show T = .error (d + 1) by rw [HK.out, HY.out, textR_esc_low h92 hl2]; rfl)
      subst h92
      clear HK HX HY
      go_wp2_with fail
      go_ret3
      exact tx_bad HBW.out HN.out (by have := HQ.out; omega)
     ·have HK2 := Lib.hid (show T = tadd (o ++ if y = 34#8 then [y] else [x, y]) (d + 2) (textR (s.drop (q + 2))) by rw [HK.out, HY.out, textR_esc h92 hl2, tadd_tadd])
      subst h92
      clear HK HX HY
      by_cases hy34 : y = 34#8
      ·rw [if_pos hy34] at HK2
       subst hy34
       have hbA : Below W0.heap.size W0 (W0.alloc (.cells #[v8 34#8] 5)) := (Below.refl _ _).alloc (Nat.le_refl _) _
       have HOA := Lib.hid (HO.out.below hbA)
       have HBA := Lib.hid (HBW.out.trans (hbA.mono hws))
       have HSA := Lib.hid (lit_one W0 34#8)
       clear hbA
       go_wp2_with ((at_builtin; refine wpList_append_bs _ rfl _ _ 41 rfl w.heap.size 5 rowB (.slice A7 m c7) m o rfl HOA.out (W0.heap.size + 1) (some ⟨W0.heap.size, 0, none⟩) 1 1 [34#8] rfl HSA.out (m + 1) (o ++ [34#8]) rfl rfl (by omega) (by have := HBA.out.size; exact this) ?_; intro A3 c3 w3 o3 g3 _; have HO3 := Lib.hid (show Owb w3 w.heap.size A3 (m + 1) c3 (o ++ [34#8]) from o3); have HB3 := Lib.hid (HBA.out.trans (HOA.out.grew g3 HBA.out.size)); clear o3 g3))
       exact ⟨⟨d + 2, m + 1, c3, A3, _, by have := HQ.out; omega, by omega, by rw [show ((p + (d + 2) : Nat) : Int) = (q : Int) + 1 + 1 by have := HQ.out; omega], rfl, HO3.out, HB3.out, by rw [show p + (d + 2) = q + 2 by have := HQ.out; omega]; exact HK2.out⟩, by simp [intOf]; omega⟩
      ·rw [if_neg hy34] at HK2
       have e4 : ((y.toNat : Int) == 34) = false := b_ne (k := 34) (by decide) hy34
       have hbA : Below W0.heap.size W0 (W0.alloc (.cells #[v8 92#8] 5)) := (Below.refl _ _).alloc (Nat.le_refl _) _
       have HOA := Lib.hid (HO.out.below hbA)
       have HBA := Lib.hid (HBW.out.trans (hbA.mono hws))
       have HSA := Lib.hid (lit_one W0 92#8)
       have HRD := Lib.hid (HS.out)
       have tok1 : True := trivial
       have tok2 : True := trivial
       clear hbA hy34
       go_wp2_with (first
        | (at_builtin; have _t := tok1; refine wpList_append_bs _ rfl _ _ 41 rfl w.heap.size 5 rowB (.slice A7 m c7) m o rfl HOA.out (W0.heap.size + 1) (some ⟨W0.heap.size, 0, none⟩) 1 1 [92#8] rfl HSA.out (m + 1) (o ++ [92#8]) rfl rfl (by omega) (by have := HBA.out.size; exact this) ?_; clear tok1 _t; intro A2 c2 w2 o2 g2 _; have HO2 := Lib.hid (show Owb w2 w.heap.size A2 (m + 1) c2 (o ++ [92#8]) from o2); have HB2 := Lib.hid (HBA.out.trans (HOA.out.grew g2 HBA.out.size)); have b3 := ((HS.out.below (HB2.out.mono hB)).at_ hlt2); obtain ⟨bd3, hbd3, _, b3⟩ := b3; cases hbd3; rw [List.getD_eq_getElem?_getD, HY34.out, add_pos' bd (q + 1) (by omega)] at b3; change _ = some (v8 y) at b3; have HOB := Lib.hid (HO2.out.below ((Below.refl w2.heap.size w2).alloc (Nat.le_refl _) (.cells #[v8 y] 5))); have HBB := Lib.hid (HB2.out.trans (((Below.refl w2.heap.size w2).alloc (Nat.le_refl _) (.cells #[v8 y] 5)).mono HB2.out.size)); clear o2 g2)
        | (at_builtin; have _t := tok2; refine wpList_append_bs _ rfl _ _ 41 rfl w.heap.size 5 rowB (.slice A2 (m + 1) c2) (m + 1) (o ++ [92#8]) rfl HOB.out (w2.heap.size + 1) (some ⟨w2.heap.size, 0, none⟩) 1 1 [y] rfl (lit_one w2 y) (m + 2) (o ++ [92#8, y]) rfl (by simp) (by omega) (by have := HBB.out.size; exact this) ?_; clear tok2 _t; intro A3 c3 w3 o3 g3 _; have HO3 := Lib.hid (show Owb w3 w.heap.size A3 (m + 2) c3 (o ++ [92#8, y]) from o3); have HB3 := Lib.hid (HBB.out.trans (HOB.out.grew g3 HBB.out.size)); clear o3 g3)
        | fail)
       exact ⟨⟨d + 2, m + 2, c3, A3, _, by have := HQ.out; omega, by omega, by rw [show ((p + (d + 2) : Nat) : Int) = (q : Int) + 1 + 1 by have := HQ.out; omega], rfl, HO3.out, HB3.out, by rw [show p + (d + 2) = q + 2 by have := HQ.out; omega]; exact HK2.out⟩, by simp [intOf]; omega⟩
    ·obtain rfl : q + 1 = n := by omega
     have HN := Lib.hid (show T = .error (d + 1) by rw [HK.out, drop_at HX.out, List.drop_eq_nil_of_le (by rw [HSL.out]; exact Nat.le_refl _), textR_esc_nil h92]; rfl)
     subst h92
     clear HK HX
     go_wp2_with fail
     go_ret3
     exact tx_bad HBW.out HN.out (by have := HQ.out; omega)
   ·have HK2 := Lib.hid (show T = tadd (o ++ [x]) (d + 1) (textR (s.drop (q + 1))) by rw [HK.out, drop_at HX.out, textR_char h34 hlow h92, tadd_tadd])
    have e2 : ((x.toNat : Int) == 92) = false := b_ne (k := 92) (by decide) h92
    have hbA : Below W0.heap.size W0 (W0.alloc (.cells #[v8 x] 5)) := (Below.refl _ _).alloc (Nat.le_refl _) _
    have HOA := Lib.hid (HO.out.below hbA)
    have HBA := Lib.hid (HBW.out.trans (hbA.mono hws))
    have HSA := Lib.hid (lit_one W0 x)
    clear hbA HK HX h34 h92
    go_wp2_with ((at_builtin; refine wpList_append_bs _ rfl _ _ 41 rfl w.heap.size 5 rowB (.slice A7 m c7) m o rfl HOA.out (W0.heap.size + 1) (some ⟨W0.heap.size, 0, none⟩) 1 1 [x] rfl HSA.out (m + 1) (o ++ [x]) rfl rfl (by omega) (by have := HBA.out.size; exact this) ?_; intro A3 c3 w3 o3 g3 _; have HO3 := Lib.hid (show Owb w3 w.heap.size A3 (m + 1) c3 (o ++ [x]) from o3); have HB3 := Lib.hid (HBA.out.trans (HOA.out.grew g3 HBA.out.size)); clear o3 g3))
    exact ⟨⟨d + 1, m + 1, c3, A3, _, by have := HQ.out; omega, by omega, by rw [show ((p + (d + 1) : Nat) : Int) = (q : Int) + 1 by have := HQ.out; omega], rfl, HO3.out, HB3.out, by rw [show p + (d + 1) = q + 1 by have := HQ.out; omega]; exact HK2.out⟩, by simp [intOf]; omega⟩
  ·obtain rfl : q = n := by omega
   have HN := Lib.hid (show T = .error d by rw [HK.out, List.drop_eq_nil_of_le (by rw [HSL.out]; exact Nat.le_refl _)]; rfl)
   go_wp2_with fail
   go_ret3
   exact tx_bad HBW.out HN.out (by rw [HQ.out])
end Go.Proofs.YteohlpmojfjjdaaGreat.Lex
end
section
namespace Go.Proofs.YteohlpmojfjjdaaGreat.Lex
open Go.RowKit
theorem take_while {α : Type} (p : α → Bool) (l : List α) : l.takeWhile p = l.take (l.takeWhile p).length := List.prefix_iff_eq_take.1 (List.takeWhile_prefix p)
def far (p : B → Bool) (s : List B) (q : Nat) : Nat := ((s.drop q).takeWhile p).length
theorem far_go {p : B → Bool} {s : List B} {q : Nat} {x : B} (hx : s[q]? = some x) (hp : p x = true) : far p s q = 1 + far p s (q + 1) := by
 unfold far; rw [drop_at hx, List.takeWhile_cons, if_pos hp, List.length_cons, Nat.add_comm]
theorem far_no {p : B → Bool} {s : List B} {q : Nat} {x : B} (hx : s[q]? = some x) (hp : p x = false) : far p s q = 0 := by
 unfold far; rw [drop_at hx, List.takeWhile_cons, if_neg (by simp [hp])]; rfl
theorem far_end {p : B → Bool} {s : List B} {q : Nat} (h : s.length ≤ q) : far p s q = 0 := by unfold far; rw [List.drop_eq_nil_of_le h]; rfl
theorem within_ (w : World) (x : BitVec 8) :
  Calls Tryz.prog 135 #[v8 x] w fun e w' => e = .returned (.bool (within x)) ∧ w = w' := by
 obtain ⟨r, hr⟩ : ∃ r, r = within x := ⟨_, rfl⟩
 rw [← hr]
 by_cases h5 : x = 95#8
 ·subst h5
  rw [show within 95#8 = true by decide] at hr
  subst hr
  go_enter Tryz.func135, Tryz.ntmps135
  go_wp2_with fail
  go_ret
  exact ⟨rfl, rfl⟩
 have e5 : ((x.toNat : Int) == 95) = false := b_ne (k := 95) (by decide) h5
 have hv : within x = (letter x || digit x) := by simp [within, h5]
 rw [hv] at hr
 unfold letter digit at hr
 have HR := Lib.hid hr
 clear hr h5 hv
 by_cases h1 : 97 ≤ x.toNat
 ·by_cases h2 : x.toNat ≤ 122
  ·have hr := HR.out
   rw [decide_eq_true h1, decide_eq_true h2] at hr
   simp only [Bool.and_self, Bool.true_or] at hr
   subst hr
   go_enter Tryz.func135, Tryz.ntmps135
   go_wp2_with fail
   go_ret
   exact ⟨rfl, rfl⟩
  ·have h3 : 48 ≤ x.toNat := by omega
   have h4 : ¬ x.toNat ≤ 57 := by omega
   have hr := HR.out
   rw [decide_eq_true h1, decide_eq_false h2, decide_eq_true h3, decide_eq_false h4] at hr
   simp only [Bool.and_false, Bool.or_self] at hr
   subst hr
   have z2 : decide ((x.toNat : Int) ≤ 122) = false := by simp; omega
   have z4 : decide ((x.toNat : Int) ≤ 57) = false := by simp; omega
   go_enter Tryz.func135, Tryz.ntmps135
   go_wp2_with fail
   go_ret
   exact ⟨rfl, rfl⟩
 ·by_cases h3 : 48 ≤ x.toNat
  ·by_cases h4 : x.toNat ≤ 57
   ·have hr := HR.out
    rw [decide_eq_false h1, decide_eq_true h3, decide_eq_true h4] at hr
    simp only [Bool.and_self, Bool.false_and, Bool.false_or] at hr
    subst hr
    go_enter Tryz.func135, Tryz.ntmps135
    go_wp2_with fail
    go_ret
    exact ⟨rfl, rfl⟩
   ·have hr := HR.out
    rw [decide_eq_false h1, decide_eq_true h3, decide_eq_false h4] at hr
    simp only [Bool.and_false, Bool.false_and, Bool.or_self] at hr
    subst hr
    have z4 : decide ((x.toNat : Int) ≤ 57) = false := by simp; omega
    go_enter Tryz.func135, Tryz.ntmps135
    go_wp2_with fail
    go_ret
    exact ⟨rfl, rfl⟩
  ·have hr := HR.out
   rw [decide_eq_false h1, decide_eq_false h3] at hr
   simp only [Bool.false_and, Bool.or_self] at hr
   subst hr
   go_enter Tryz.func135, Tryz.ntmps135
   go_wp2_with fail
   go_ret
   exact ⟨rfl, rfl⟩
def Tx (w : World) (B : Nat) (A : Option Addr) (t : List (BitVec 8)) : Prop := Bs w B A t.length t ∨ By w A t.length t
theorem Tx.below {w w' : World} {B : Nat} {A : Option Addr} {t : List (BitVec 8)} (h : Tx w B A t) (hB : B ≤ w.heap.size) (hb : Below w.heap.size w w') : Tx w' B A t := by
 rcases h with h | h
 ·exact .inl (h.below (hb.mono hB))
 ·exact .inr (h.below hb)
def OnSays (w : World) (B p : Nat) (r : Except Nat (Tk × Nat)) (e : Ending) (w' : World) : Prop := Below w.heap.size w w' ∧ match r with
 | .error k => ∃ v, e = .returned v ∧ ∃ (y0 y1 y2 z : Int) (A' : Option Addr) (l' c' : Nat), v = .tuple #[.agg #[.int .i64 y0, .int .i64 y1, .int .i64 y2, .slice A' l' c'], .int .i64 z, .int .i64 ((p + k : Nat) : Int)]
 | .ok (x, k) => ∃ A' c', e = .returned (.tuple #[.agg #[.int .i64 x.kind, .int .i64 (p : Int), .int .i64 x.n, .slice A' x.text.length c'], .int .i64 ((p + k : Nat) : Int), .int .i64 (-1)]) ∧ Tx w' B A' x.text ∧ x.text.length ≤ c'
theorem results_at3 {P : Program} {fn : Func} {tmps : Array Value} {w : World} (a : Tmp) (t : TypeId) (b c : Tmp) (hr : fn.results = #[.cell a t, .tmp b, .tmp c]) (ad : Addr) (ha : tmps.getD a undef = .pointer (some ad)) (v u x : Value) (hu : tmps.getD b undef = u) (hx : tmps.getD c undef = x) (hl : (loadVar t ad).run P w = .ok v w) :
  (results fn tmps).run P w = .ok (.tuple #[v, u, x]) w := by
 unfold results
 rw [hr]
 simp only [List.mapM_toArray, List.mapM_cons, List.mapM_nil, ha, hu, hx, asAddr]
 simp [hl]
theorem load_tok {w : World} {g : Nat} {x0 x1 x2 x3 : Value} (h : Cel w g 109 [x0, x1, x2, x3]) : (loadVar 109 ⟨g, 0, none⟩).run Tryz.prog w = .ok (.agg #[x0, x1, x2, x3]) w :=
 run_loadVar_mid (P := Tryz.prog) w g 0 109 [x0, x1, x2, x3] _ (fun j v hv => by rw [Nat.zero_add, h.cell j, hv]) Tryz.underlying109 rfl (by kernel_rfl)
def fw4 (w : World) (g : Nat) (a b c d : Value) : World := (((w.setCell ⟨g, 0, none⟩ a).setCell ⟨g, 1, none⟩ b).setCell ⟨g, 2, none⟩ c).setCell ⟨g, 3, none⟩ d
theorem fw4_cel {w : World} {g : Nat} {t : TypeId} {x y z u a b c d : Value} (h : Cel w g t [x, y, z, u]) : Cel (fw4 w g a b c d) g t [a, b, c, d] := (((h.set 0 a).set 1 b).set 2 c).set 3 d
theorem fw4_frm (w : World) (g : Nat) (a b c d : Value) : Frm [g] w (fw4 w g a b c d) := ((((Frm.refl [g] w).set (p := ⟨g, 0, none⟩) (by simp) a).set (p := ⟨g, 1, none⟩) (by simp) b).set (p := ⟨g, 2, none⟩) (by simp) c).set (p := ⟨g, 3, none⟩) (by simp) d
theorem one_text (w : World) (B : Nat) (A : Option Addr) (n c : Nat) (s : List (BitVec 8)) (hs : Bs w B A n s) (hB : B ≤ w.heap.size) (hn : n ≤ 100000) (p : Nat) (hp : p < n) (hx : s[p]? = some 34#8) :
  Calls Tryz.prog 100 #[.slice A n c, .int .i64 (p : Int)] w (OnSays w B p (oneR 34#8 (s.drop (p + 1)))) := by
 obtain ⟨bd, rfl, hbk, b0⟩ := hs.at_ hp
 rw [List.getD_eq_getElem?_getD, hx] at b0
 change _ = some (v8 34#8) at b0
 obtain ⟨w1, hw1⟩ : ∃ w1, w1 = w.alloc (.cells #[.int .i64 0, .int .i64 0, .int .i64 0, .slice none 0 0] 109) := ⟨_, rfl⟩
 have hb1 : Below w.heap.size w w1 := by rw [hw1]; exact (Below.refl _ _).alloc (Nat.le_refl _) _
 have hc1 : Cel w1 w.heap.size 109 [.int .i64 0, .int .i64 0, .int .i64 0, .slice none 0 0] := by rw [hw1]; exact Cel.new w _ _
 have con := text_ w1 B (some bd) n c s (hs.below (hb1.mono hB)) (Nat.le_trans hB hb1.size) hn (p + 1) (by omega)
 rw [show ((p + 1 : Nat) : Int) = (p : Int) + 1 by omega] at con
 have b1 := (hb1.cell (cell_lt b0)).trans b0
 have HB1 := Lib.hid hb1
 have HC1 := Lib.hid hc1
 have HONE := Lib.hid (show oneR 34#8 (s.drop (p + 1)) = match textR (s.drop (p + 1)) with
  | .error k => .error (1 + k)
  | .ok (t, k) => .ok (⟨3, 0, t⟩, 1 + k) by unfold oneR; rw [if_pos rfl]; cases textR (s.drop (p + 1)) <;> rfl)
 rw [hw1] at b1 con
 clear hb1 hc1 hs hx
 go_enter Tryz.func100, Tryz.ntmps100
 go_wp2_with fail
 rw [← hw1] at con
 rw [← hw1]
 refine con.mono ?_
 clear con b1
 rintro e w2 ⟨hb2, htx⟩
 have HB2 := Lib.hid (HB1.out.trans (hb2.mono HB1.out.size))
 have hc2 := HC1.out.below hb2 HC1.out.lt
 cases hr : textR (s.drop (p + 1)) with
 | error k =>
  rw [hr] at htx
  subst htx
  have HO2 := Lib.hid (show oneR 34#8 (s.drop (p + 1)) = .error (1 + k) by rw [HONE.out, hr])
  obtain ⟨z, hz⟩ : ∃ z : Int, z = ((p + 1 + k : Nat) : Int) := ⟨_, rfl⟩
  have HZ := Lib.hid hz
  rw [← hz]
  have hc3 := fw4_cel (a := .int .i64 3) (b := .int .i64 (p : Int)) (c := .int .i64 0) (d := .slice none 0 0) hc2
  have HB3 := Lib.hid (HB2.out.trans ((fw4_frm w2 w.heap.size (.int .i64 3) (.int .i64 (p : Int)) (.int .i64 0) (.slice none 0 0)).below HB2.out.size (by intro q hq; simp at hq; omega)))
  have k0 := hc2.cell 0
  have k1 := hc2.cell 1
  have k2 := hc2.cell 2
  have k3 := hc2.cell 3
  have l0 := hc2.free 0
  have l1 := hc2.free 1
  have l2 := hc2.free 2
  have l3 := hc2.free 3
  have HC3 := Lib.hid hc3
  clear hc2 hc3 hr hb2 hz
  unfold fw4 at HC3 HB3
  go_wp2_with fail
  refine bodyPost_ret (v := .tuple #[.agg #[.int .i64 3, .int .i64 (p : Int), .int .i64 0, .slice none 0 0], .int .i64 z, .int .i64 z]) (results_at3 4 109 5 6 Tryz.results100 ⟨w.heap.size, 0, none⟩ rfl _ _ _ rfl rfl (load_tok HC3.out)) rfl ?_
  refine ⟨HB3.out, ?_⟩
  rw [HO2.out]
  exact ⟨_, rfl, 3, p, 0, z, none, 0, 0, by rw [HZ.out, show p + (1 + k) = p + 1 + k by omega]⟩
 | ok q =>
  obtain ⟨t, k⟩ := q
  rw [hr] at htx
  obtain ⟨A', c', rfl, ho⟩ := htx
  have HRM := Lib.hid (show t.length ≤ c' from own_room ho)
  have HO2 := Lib.hid (show oneR 34#8 (s.drop (p + 1)) = .ok (⟨3, 0, t⟩, 1 + k) by rw [HONE.out, hr])
  obtain ⟨z, hz⟩ : ∃ z : Int, z = ((p + 1 + k : Nat) : Int) := ⟨_, rfl⟩
  have HZ := Lib.hid hz
  rw [← hz]
  obtain ⟨m, hm⟩ : ∃ m, m = t.length := ⟨_, rfl⟩
  have HM := Lib.hid hm
  rw [← hm]
  have hc3 := fw4_cel (a := .int .i64 3) (b := .int .i64 (p : Int)) (c := .int .i64 0) (d := .slice A' m c') hc2
  have hf3 := fw4_frm w2 w.heap.size (.int .i64 3) (.int .i64 (p : Int)) (.int .i64 0) (.slice A' m c')
  have HB3 := Lib.hid (HB2.out.trans (hf3.below HB2.out.size (by intro q hq; simp at hq; omega)))
  have HBY := Lib.hid (show By (fw4 w2 w.heap.size (.int .i64 3) (.int .i64 (p : Int)) (.int .i64 0) (.slice A' m c')) A' t.length t from (By.of_own ho).keep (fun g cs fz hg => hf3.block g (Array.getElem?_eq_some_iff.1 hg).1 (by simp; rintro rfl; exact hc2.not_ty (by decide) _ _ hg)))
  have k0 := hc2.cell 0
  have k1 := hc2.cell 1
  have k2 := hc2.cell 2
  have k3 := hc2.cell 3
  have l0 := hc2.free 0
  have l1 := hc2.free 1
  have l2 := hc2.free 2
  have l3 := hc2.free 3
  have HC3 := Lib.hid hc3
  clear hc2 hc3 hr hb2 hz hf3 ho hm
  unfold fw4 at HC3 HB3 HBY
  go_wp2_with fail
  refine bodyPost_ret (v := .tuple #[.agg #[.int .i64 3, .int .i64 (p : Int), .int .i64 0, .slice A' m c'], .int .i64 z, .int .i64 (-1)]) (results_at3 4 109 5 6 Tryz.results100 ⟨w.heap.size, 0, none⟩ rfl _ _ _ rfl rfl (load_tok HC3.out)) rfl ?_
  refine ⟨HB3.out, ?_⟩
  rw [HO2.out]
  exact ⟨A', c', by rw [HZ.out, HM.out, show p + (1 + k) = p + 1 + k by omega], .inr HBY.out, HRM.out⟩
theorem run_cutMid {P : Program} (w : World) {t e : TypeId} {size : Nat} (ht : P.underlying t = some (.slice e)) (hs : (P.info? e).map (·.size) = some size) (A : Option Addr) (n c l h : Nat) (q q' : IntKind) (hl : l ≤ h) (hh : h ≤ c) :
  (Instr.sliceAt t (.slice A n c) (some (.int q l)) (some (.int q' h)) none).run P w = .ok (.slice (if c = l then A else A.map (·.add (l * size))) (h - l) (c - l)) w := by
 have he : P.elem t = e := by unfold Program.elem; rw [ht]
 have ht' : P.underlying t = some (.slice (P.elem t)) := by rw [he]; exact ht
 rw [run_sliceAt_slice w t _ _ _ _ ht', run_slice_lh w t A n c ht' q q' l h (by omega) (by omega) (by omega)]
 have hso : (sizeOf (P.elem t)).run P w = .ok size w := by
  rw [he]
  cases hq : P.info? e with
  | none => rw [hq] at hs; cases hs
  | some i => rw [hq] at hs; simp at hs; simp [sizeOf, typeInfo, hq, hs]
 rw [hso]
 simp only [Result.andThen, sliced, Int.toNat_natCast]
theorem bs_cut {w : World} {B m c f t : Nat} {A : Option Addr} {bs : List (BitVec 8)} (h : Bs w B A m bs) (hf : f ≤ t) (ht : t ≤ m) (hc : m ≤ c) : Bs w B (if c = f then A else A.map (·.add (f * 1))) (t - f) ((bs.take t).drop f) := by
 have := ((Bs.bp h).take ht).cut (cap := c) hf (by omega)
 rw [Nat.mul_one]
 exact this
theorem one_word (w : World) (B : Nat) (A : Option Addr) (n c : Nat) (s : List (BitVec 8)) (hs : Bs w B A n s) (hB : B ≤ w.heap.size) (hn : n ≤ 100000) (hcap : n ≤ c) (p : Nat) (hp : p < n) (x : BitVec 8) (hx : s[p]? = some x) (h34 : x ≠ 34#8) (hlt : letter x = true) :
  Calls Tryz.prog 100 #[.slice A n c, .int .i64 (p : Int)] w (OnSays w B p (oneR x (s.drop (p + 1)))) := by
 have hd := drop_at hx
 have HONE := Lib.hid (show oneR x (s.drop (p + 1)) = if 20 < far within s p then .error 0 else .ok (⟨1, 0, (s.drop p).take (far within s p)⟩, far within s p) by
  unfold oneR far
  rw [if_neg h34, if_pos hlt, ← hd, ← take_while])
 have HS := Lib.hid hs
 have HSL := Lib.hid hs.len
 have e34 : ((x.toNat : Int) == 34) = false := b_ne (k := 34) (by decide) h34
 have hl : 97 ≤ x.toNat ∧ x.toNat ≤ 122 := by unfold letter at hlt; simpa using hlt
 obtain ⟨hl1, hl2⟩ := hl
 have z122 : decide ((x.toNat : Int) ≤ 122) = true := by simp; omega
 have z97 : decide ((97 : Int) ≤ (x.toNat : Int)) = true := by simp; omega
 obtain ⟨bd, rfl, hbk, b0⟩ := hs.at_ hp
 rw [List.getD_eq_getElem?_getD, hx] at b0
 change _ = some (v8 x) at b0
 obtain ⟨w1, hw1⟩ : ∃ w1, w1 = w.alloc (.cells #[.int .i64 0, .int .i64 0, .int .i64 0, .slice none 0 0] 109) := ⟨_, rfl⟩
 have hb1 : Below w.heap.size w w1 := by rw [hw1]; exact (Below.refl _ _).alloc (Nat.le_refl _) _
 have hc1 : Cel w1 w.heap.size 109 [.int .i64 0, .int .i64 0, .int .i64 0, .slice none 0 0] := by rw [hw1]; exact Cel.new w _ _
 have b1 := (hb1.cell (cell_lt b0)).trans b0
 have HB1 := Lib.hid hb1
 have HC1 := Lib.hid hc1
 rw [hw1] at b1
 clear hb1 hc1 hs hx h34 hlt hd b0
 go_enter Tryz.func100, Tryz.ntmps100
 go_wp2_with fail
 rw [← hw1] at b1 ⊢
 clear hw1
 go_loopw [11] (fun v11 wr => ∃ (q : Nat), p ≤ q ∧ q ≤ n ∧ v11 = .int .i64 (q : Int) ∧ w1 = wr ∧ Hid (far within s p = (q - p) + far within s q)) (fun v11 _ => n - (intOf v11).toNat)
 case atStart => exact ⟨p, Nat.le_refl _, by omega, rfl, rfl, Lib.hid (by rw [Nat.sub_self, Nat.zero_add])⟩
 case round =>
  obtain ⟨q, hpq, hqn, rfl, rfl, HK⟩ := hrel
  rcases Nat.lt_or_ge q n with hlt | hge
  ·obtain ⟨y, hy⟩ : ∃ y, s[q]? = some y := ⟨_, List.getElem?_eq_getElem (by rw [HSL.out]; exact hlt)⟩
   obtain ⟨bd2, hbd, _, b2⟩ := (HS.out.below (HB1.out.mono hB)).at_ hlt
   cases hbd
   rw [List.getD_eq_getElem?_getD, hy] at b2
   change _ = some (v8 y) at b2
   have con := within_ w1 y
   cases hw : within y
   ·have HFIN := Lib.hid (show far within s p = q - p by rw [HK.out, far_no hy hw, Nat.add_zero])
    rw [hw] at con
    clear hy hw HK
    by_cases h20 : 20 < q - p
    ·have HE := Lib.hid (show oneR x (s.drop (p + 1)) = .error 0 by rw [HONE.out, HFIN.out, if_pos h20])
     have hc3 := fw4_cel (a := .int .i64 0) (b := .int .i64 0) (c := .int .i64 0) (d := .slice none 0 0) HC1.out
     have hf3 := fw4_frm w1 w.heap.size (.int .i64 0) (.int .i64 0) (.int .i64 0) (.slice none 0 0)
     have HB3 := Lib.hid (HB1.out.trans (hf3.below HB1.out.size (by intro q hq; simp at hq; omega)))
     have k0 := HC1.out.cell 0
     have k1 := HC1.out.cell 1
     have k2 := HC1.out.cell 2
     have k3 := HC1.out.cell 3
     have l0 := HC1.out.free 0
     have l1 := HC1.out.free 1
     have l2 := HC1.out.free 2
     have l3 := HC1.out.free 3
     have HC3 := Lib.hid hc3
     have HF3 := Lib.hid hf3
     clear hc3 hf3
     unfold fw4 at HC3 HB3 HF3
     go_wp2_with fail
     refine con.mono ?_
     rintro e w' ⟨rfl, rfl⟩
     go_wp2_with fail
     refine bodyPost_ret (v := .tuple #[.agg #[.int .i64 0, .int .i64 0, .int .i64 0, .slice none 0 0], .int .i64 (q : Int), .int .i64 (p : Int)]) (results_at3 4 109 5 6 Tryz.results100 ⟨w.heap.size, 0, none⟩ rfl _ _ _ rfl rfl (load_tok HC3.out)) rfl ?_
     refine ⟨HB3.out, ?_⟩
     rw [HE.out]
     exact ⟨_, rfl, 0, 0, 0, (q : Int), none, 0, 0, rfl⟩
    ·have HE := Lib.hid (show oneR x (s.drop (p + 1)) = .ok (⟨1, 0, (s.drop p).take (q - p)⟩, q - p) by rw [HONE.out, HFIN.out, if_neg h20])
     obtain ⟨Bc, d, dc, hcut⟩ : ∃ (Bc : Option Addr) (d dc : Nat), (∀ V, (Instr.sliceAt 41 (.slice (some bd) n c) (some (.int .i64 (p : Int))) (some (.int .i64 (q : Int))) none).run Tryz.prog V = .ok (.slice Bc d dc) V) ∧ (∀ V : World, Bs V B (some bd) n s → Bs V B Bc d ((s.drop p).take (q - p))) ∧ d = q - p ∧ d ≤ dc :=
      ⟨_, _, _, fun V => run_cutMid (size := 1) V Tryz.underlying41 (by kernel_rfl) (some bd) n c p q .i64 .i64 hpq (by omega), fun V hV => by rw [← List.drop_take]; exact bs_cut hV hpq hqn hcap, rfl, by omega⟩
     have HCUT := Lib.hid hcut
     clear hcut
     have hc3 := fw4_cel (a := .int .i64 1) (b := .int .i64 (p : Int)) (c := .int .i64 0) (d := .slice Bc d dc) HC1.out
     have hf3 := fw4_frm w1 w.heap.size (.int .i64 1) (.int .i64 (p : Int)) (.int .i64 0) (.slice Bc d dc)
     have HB3 := Lib.hid (HB1.out.trans (hf3.below HB1.out.size (by intro q hq; simp at hq; omega)))
     have k0 := HC1.out.cell 0
     have k1 := HC1.out.cell 1
     have k2 := HC1.out.cell 2
     have k3 := HC1.out.cell 3
     have l0 := HC1.out.free 0
     have l1 := HC1.out.free 1
     have l2 := HC1.out.free 2
     have l3 := HC1.out.free 3
     have HC3 := Lib.hid hc3
     have HF3 := Lib.hid hf3
     clear hc3 hf3
     unfold fw4 at HC3 HB3 HF3
     go_wp2_with fail
     refine con.mono ?_
     rintro e w' ⟨rfl, rfl⟩
     go_wp2_with ((refine wpList_slice rfl 41 (.tmp 60) (some (.tmp 61)) (some (.tmp 62)) none rfl (.slice Bc d dc) ?_ ?_; exact HCUT.out.1 _))
     refine bodyPost_ret (v := .tuple #[.agg #[.int .i64 1, .int .i64 (p : Int), .int .i64 0, .slice Bc d dc], .int .i64 (q : Int), .int .i64 (-1)]) (results_at3 4 109 5 6 Tryz.results100 ⟨w.heap.size, 0, none⟩ rfl _ _ _ rfl rfl (load_tok HC3.out)) rfl ?_
     refine ⟨HB3.out, ?_⟩
     rw [HE.out]
     have hbs := HCUT.out.2.1 _ (HS.out.below (HB3.out.mono hB))
     have hd : d = ((s.drop p).take (q - p)).length := hbs.len.symm
     refine ⟨Bc, dc, ?_, .inl (hd ▸ hbs), hd ▸ HCUT.out.2.2.2⟩
     rw [← hd, show ((p + (q - p) : Nat) : Int) = (q : Int) by omega]
   ·have HN := Lib.hid (show far within s p = (q + 1 - p) + far within s (q + 1) by rw [HK.out, far_go hy hw]; omega)
    rw [hw] at con
    clear hy hw HK
    go_wp2_with fail
    refine con.mono ?_
    rintro e w' ⟨rfl, rfl⟩
    go_wp2_with fail
    exact ⟨⟨q + 1, by omega, by omega, by rw [show ((q + 1 : Nat) : Int) = (q : Int) + 1 by omega], by trivial, HN⟩, by simp [intOf]; omega⟩
  ·have HFIN := Lib.hid (show far within s p = q - p by rw [HK.out, far_end (by rw [HSL.out]; exact hge), Nat.add_zero])
   clear HK
   by_cases h20 : 20 < q - p
   ·have HE := Lib.hid (show oneR x (s.drop (p + 1)) = .error 0 by rw [HONE.out, HFIN.out, if_pos h20])
    have hc3 := fw4_cel (a := .int .i64 0) (b := .int .i64 0) (c := .int .i64 0) (d := .slice none 0 0) HC1.out
    have hf3 := fw4_frm w1 w.heap.size (.int .i64 0) (.int .i64 0) (.int .i64 0) (.slice none 0 0)
    have HB3 := Lib.hid (HB1.out.trans (hf3.below HB1.out.size (by intro q hq; simp at hq; omega)))
    have k0 := HC1.out.cell 0
    have k1 := HC1.out.cell 1
    have k2 := HC1.out.cell 2
    have k3 := HC1.out.cell 3
    have l0 := HC1.out.free 0
    have l1 := HC1.out.free 1
    have l2 := HC1.out.free 2
    have l3 := HC1.out.free 3
    have HC3 := Lib.hid hc3
    have HF3 := Lib.hid hf3
    clear hc3 hf3
    unfold fw4 at HC3 HB3 HF3
    go_wp2_with fail
    refine bodyPost_ret (v := .tuple #[.agg #[.int .i64 0, .int .i64 0, .int .i64 0, .slice none 0 0], .int .i64 (q : Int), .int .i64 (p : Int)]) (results_at3 4 109 5 6 Tryz.results100 ⟨w.heap.size, 0, none⟩ rfl _ _ _ rfl rfl (load_tok HC3.out)) rfl ?_
    refine ⟨HB3.out, ?_⟩
    rw [HE.out]
    exact ⟨_, rfl, 0, 0, 0, (q : Int), none, 0, 0, rfl⟩
   ·have HE := Lib.hid (show oneR x (s.drop (p + 1)) = .ok (⟨1, 0, (s.drop p).take (q - p)⟩, q - p) by rw [HONE.out, HFIN.out, if_neg h20])
    obtain ⟨Bc, d, dc, hcut⟩ : ∃ (Bc : Option Addr) (d dc : Nat), (∀ V, (Instr.sliceAt 41 (.slice (some bd) n c) (some (.int .i64 (p : Int))) (some (.int .i64 (q : Int))) none).run Tryz.prog V = .ok (.slice Bc d dc) V) ∧ (∀ V : World, Bs V B (some bd) n s → Bs V B Bc d ((s.drop p).take (q - p))) ∧ d = q - p ∧ d ≤ dc :=
     ⟨_, _, _, fun V => run_cutMid (size := 1) V Tryz.underlying41 (by kernel_rfl) (some bd) n c p q .i64 .i64 hpq (by omega), fun V hV => by rw [← List.drop_take]; exact bs_cut hV hpq hqn hcap, rfl, by omega⟩
    have HCUT := Lib.hid hcut
    clear hcut
    have hc3 := fw4_cel (a := .int .i64 1) (b := .int .i64 (p : Int)) (c := .int .i64 0) (d := .slice Bc d dc) HC1.out
    have hf3 := fw4_frm w1 w.heap.size (.int .i64 1) (.int .i64 (p : Int)) (.int .i64 0) (.slice Bc d dc)
    have HB3 := Lib.hid (HB1.out.trans (hf3.below HB1.out.size (by intro q hq; simp at hq; omega)))
    have k0 := HC1.out.cell 0
    have k1 := HC1.out.cell 1
    have k2 := HC1.out.cell 2
    have k3 := HC1.out.cell 3
    have l0 := HC1.out.free 0
    have l1 := HC1.out.free 1
    have l2 := HC1.out.free 2
    have l3 := HC1.out.free 3
    have HC3 := Lib.hid hc3
    have HF3 := Lib.hid hf3
    clear hc3 hf3
    unfold fw4 at HC3 HB3 HF3
    go_wp2_with ((refine wpList_slice rfl 41 (.tmp 60) (some (.tmp 61)) (some (.tmp 62)) none rfl (.slice Bc d dc) ?_ ?_; exact HCUT.out.1 _))
    refine bodyPost_ret (v := .tuple #[.agg #[.int .i64 1, .int .i64 (p : Int), .int .i64 0, .slice Bc d dc], .int .i64 (q : Int), .int .i64 (-1)]) (results_at3 4 109 5 6 Tryz.results100 ⟨w.heap.size, 0, none⟩ rfl _ _ _ rfl rfl (load_tok HC3.out)) rfl ?_
    refine ⟨HB3.out, ?_⟩
    rw [HE.out]
    have hbs := HCUT.out.2.1 _ (HS.out.below (HB3.out.mono hB))
    have hd : d = ((s.drop p).take (q - p)).length := hbs.len.symm
    refine ⟨Bc, dc, ?_, .inl (hd ▸ hbs), hd ▸ HCUT.out.2.2.2⟩
    rw [← hd, show ((p + (q - p) : Nat) : Int) = (q : Int) by omega]
end Go.Proofs.YteohlpmojfjjdaaGreat.Lex
end
