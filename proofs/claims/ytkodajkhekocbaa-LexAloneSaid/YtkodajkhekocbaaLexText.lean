/-
  The document's cutter (layer 11): a text's bytes.
-/
import Derived.Test.YtkodajkhekocbaaLexRef
namespace Go.Proofs.Ytkodajkhekocbaa.Lex
open Go.RowKit
set_option linter.unusedVariables false
set_option linter.unusedSimpArgs false

theorem rowB : ByteRow Try.prog 22 5 := ByteRow.mk' Try.underlying22 (by kernel_rfl)
/-- Bytes in an own row, from block B on. -/
def Owb (w : World) (B : Nat) (A : Option Addr) (n c : Nat) (o : List (BitVec 8)) : Prop := w.ownsRow B 5 1 (.slice A n c) n (o.map v8)
theorem Owb.len {w : World} {B n c : Nat} {A : Option Addr} {o : List (BitVec 8)} (h : Owb w B A n c o) : o.length = n := by have := h.1; simpa using this
theorem Owb.nil_ (w : World) (B : Nat) : Owb w B none 0 0 [] := World.ownsRow_nil _ _ _ _
theorem Owb.below {w w' : World} {B n c : Nat} {A : Option Addr} {o : List (BitVec 8)} (h : Owb w B A n c o) (hb : Below w.heap.size w w') : Owb w' B A n c o := own_frm (l := []) h (Frm.of_below hb) (by simp)
theorem lit_one (w : World) (x : BitVec 8) : Bs (w.alloc (.cells #[v8 x] 5)) (w.heap.size + 1) (some ⟨w.heap.size, 0, none⟩) 1 [x] := Bs.lit w 5 (0, 0) #[v8 x] [x] rfl 1 rfl
theorem Owb.grew {w w' : World} {B n c : Nat} {A : Option Addr} {o : List (BitVec 8)} (h : Owb w B A n c o) (hg : w.grownBy w' (Value.slice A n c).ownBlock) (hB : B ≤ w.heap.size) : Below B w w' :=
  ⟨hg.os, hg.tape, hg.output, hg.size, fun k hk => hg.block k (by omega) fun e => by have := own_ge h k e.symm; omega⟩
/-- What Text returns. -/
def TxSays (w : World) (p : Nat) (r : Except Nat (List (BitVec 8) × Nat)) (e : Ending) (w' : World) : Prop := Below w.heap.size w w' ∧ match r with
  | .error k => e = .returned (.tuple #[.slice none 0 0, .int .i64 ((p + k : Nat) : Int), .int .i64 ((p + k : Nat) : Int)])
  | .ok (t, k) => ∃ A' c', e = .returned (.tuple #[.slice A' t.length c', .int .i64 ((p + k : Nat) : Int), .int .i64 (-1)]) ∧ Owb w' w.heap.size A' t.length c' t
theorem add_pos' (ad : Addr) (k : Nat) (h : 0 < k) : ad.add k = ⟨ad.block, ad.off + k, none⟩ := by
  unfold Addr.add; rw [if_neg (by omega)]
theorem tx_bad {w w' : World} {p k : Nat} {z : Int} {r : Except Nat (List (BitVec 8) × Nat)} (hb : Below w.heap.size w w') (hr : r = .error k) (hz : z = ((p + k : Nat) : Int)) : TxSays w p r (.returned (.tuple #[.slice none 0 0, .int .i64 z, .int .i64 z])) w' := by
  subst hr; subst hz; exact ⟨hb, rfl⟩
theorem tx_ok {w w' : World} {p k m c : Nat} {z : Int} {A : Option Addr} {t : List (BitVec 8)} {r : Except Nat (List (BitVec 8) × Nat)} (hb : Below w.heap.size w w') (hr : r = .ok (t, k)) (hz : z = ((p + k : Nat) : Int)) (ho : Owb w' w.heap.size A m c t) : TxSays w p r (.returned (.tuple #[.slice A m c, .int .i64 z, .int .i64 (-1)])) w' := by
  have := ho.len
  subst hr; subst hz; subst this; exact ⟨hb, A, c, rfl, ho⟩
set_option maxRecDepth 100000 in
set_option maxHeartbeats 2000000 in
theorem text_ (w : World) (B : Nat) (A : Option Addr) (n c : Nat) (s : List (BitVec 8)) (hs : Bs w B A n s) (hB : B ≤ w.heap.size) (hn : n ≤ 100000) (p : Nat) (hp : p ≤ n) :
    Calls Try.prog 30 #[.slice A n c, .int .i64 (p : Int)] w (TxSays w p (textR (s.drop p))) := by
  obtain ⟨T, hT⟩ : ∃ T, T = textR (s.drop p) := ⟨_, rfl⟩
  rw [← hT]
  have HS := Lib.hid hs
  have hsl := hs.len
  have HSL := Lib.hid hsl
  have HT := Lib.hid hT
  clear hs hsl hT
  go_enter Try.func30, Try.ntmps30
  go_wp2_with fail
  go_loopw [1, 7] (fun v1 v7 wr => ∃ (d m c7 : Nat) (A7 : Option Addr) (o : List (BitVec 8)), p + d ≤ n ∧ m ≤ d ∧ v1 = .int .i64 ((p + d : Nat) : Int) ∧ v7 = .slice A7 m c7 ∧ Owb wr w.heap.size A7 m c7 o ∧ Below w.heap.size w wr ∧ Hid (T = tadd o d (textR (s.drop (p + d))))) (fun v1 _ _ => n - (intOf v1).toNat)
  case atStart => exact ⟨0, 0, 0, none, [], hp, Nat.le_refl _, rfl, rfl, Owb.nil_ _ _, Below.refl _ _, by rw [tadd_zero]; exact HT⟩
  case round =>
    clear HT
    obtain ⟨d, m, c7, A7, o, hd, hmd, rfl, rfl, ho, hb, HK⟩ := hrel
    obtain ⟨W0, rfl⟩ : ∃ W0, W0 = wr := ⟨_, rfl⟩
    have HO := Lib.hid ho
    have HBW := Lib.hid hb
    have hws := hb.size
    clear ho hb
    obtain ⟨q, hq⟩ : ∃ q, q = p + d := ⟨_, rfl⟩
    have HQ := Lib.hid hq
    rw [← hq] at hd HK ⊢
    have hdq : m ≤ q := by omega
    clear hq
    rcases Nat.lt_or_ge q n with hlt | hge
    · obtain ⟨x, hx⟩ : ∃ x, s[q]? = some x := ⟨_, List.getElem?_eq_getElem (by rw [HSL.out]; exact hlt)⟩
      obtain ⟨bd, rfl, hbk, b0⟩ := (HS.out.below (HBW.out.mono hB)).at_ hlt
      rw [List.getD_eq_getElem?_getD, hx] at b0
      change _ = some (v8 x) at b0
      have HX := Lib.hid hx
      clear hx
      by_cases h34 : x = 34#8
      · have HN := Lib.hid (show T = .ok (o, d + 1) by rw [HK.out, drop_at HX.out, textR_end h34]; simp [tadd])
        subst h34
        clear HK HX
        go_wp2_with fail
        go_ret3
        exact tx_ok HBW.out HN.out (by have := HQ.out; omega) HO.out
      have e1 : ((x.toNat : Int) == 34) = false := b_ne (k := 34) (by decide) h34
      by_cases hlow : x.toNat < 32
      · have HN := Lib.hid (show T = .error d by rw [HK.out, drop_at HX.out, textR_low hlow]; rfl)
        clear HK HX h34
        go_wp2_with fail
        go_ret3
        exact tx_bad HBW.out HN.out (by rw [HQ.out])
      by_cases h92 : x = 92#8
      · rcases Nat.lt_or_ge (q + 1) n with hlt2 | hge2
        · obtain ⟨y, hy⟩ : ∃ y, s[q + 1]? = some y := ⟨_, List.getElem?_eq_getElem (by rw [HSL.out]; exact hlt2)⟩
          obtain ⟨bd2, hbd, _, b1⟩ := (HS.out.below (HBW.out.mono hB)).at_ hlt2
          cases hbd
          rw [List.getD_eq_getElem?_getD, hy] at b1
          change _ = some (v8 y) at b1
          rw [add_pos' bd (q + 1) (by omega)] at b1
          have e5 : ((q : Int) + 1 == (n : Int)) = false := by simp; omega
          have HY := Lib.hid (show s.drop q = x :: y :: s.drop (q + 2) by rw [drop_at HX.out, drop_at hy])
          have HY34 := Lib.hid hy
          clear hy
          by_cases hl2 : y.toNat < 32
          · have HN := Lib.hid (show T = .error (d + 1) by rw [HK.out, HY.out, textR_esc_low h92 hl2]; rfl)
            subst h92
            clear HK HX HY
            go_wp2_with fail
            go_ret3
            exact tx_bad HBW.out HN.out (by have := HQ.out; omega)
          · have HK2 := Lib.hid (show T = tadd (o ++ if y = 34#8 then [y] else [x, y]) (d + 2) (textR (s.drop (q + 2))) by rw [HK.out, HY.out, textR_esc h92 hl2, tadd_tadd])
            subst h92
            clear HK HX HY
            by_cases hy34 : y = 34#8
            · rw [if_pos hy34] at HK2
              subst hy34
              have hbA : Below W0.heap.size W0 (W0.alloc (.cells #[v8 34#8] 5)) := (Below.refl _ _).alloc (Nat.le_refl _) _
              have HOA := Lib.hid (HO.out.below hbA)
              have HBA := Lib.hid (HBW.out.trans (hbA.mono hws))
              have HSA := Lib.hid (lit_one W0 34#8)
              clear hbA
              go_wp2_with ((at_builtin; refine wpList_append_bs _ rfl _ _ 22 rfl w.heap.size 5 rowB (.slice A7 m c7) m o rfl HOA.out (W0.heap.size + 1) (some ⟨W0.heap.size, 0, none⟩) 1 1 [34#8] rfl HSA.out (m + 1) (o ++ [34#8]) rfl rfl (by omega) (by have := HBA.out.size; exact this) ?_; intro A3 c3 w3 o3 g3 _; have HO3 := Lib.hid (show Owb w3 w.heap.size A3 (m + 1) c3 (o ++ [34#8]) from o3); have HB3 := Lib.hid (HBA.out.trans (HOA.out.grew g3 HBA.out.size)); clear o3 g3))
              exact ⟨⟨d + 2, m + 1, c3, A3, _, by have := HQ.out; omega, by omega, by rw [show ((p + (d + 2) : Nat) : Int) = (q : Int) + 1 + 1 by have := HQ.out; omega], rfl, HO3.out, HB3.out, by rw [show p + (d + 2) = q + 2 by have := HQ.out; omega]; exact HK2.out⟩, by simp [intOf]; omega⟩
            · rw [if_neg hy34] at HK2
              have e4 : ((y.toNat : Int) == 34) = false := b_ne (k := 34) (by decide) hy34
              have hbA : Below W0.heap.size W0 (W0.alloc (.cells #[v8 92#8] 5)) := (Below.refl _ _).alloc (Nat.le_refl _) _
              have HOA := Lib.hid (HO.out.below hbA)
              have HBA := Lib.hid (HBW.out.trans (hbA.mono hws))
              have HSA := Lib.hid (lit_one W0 92#8)
              have HRD := Lib.hid (HS.out)
              have tok1 : True := trivial
              have tok2 : True := trivial
              clear hbA hy34
              go_wp2_with (first
                | (at_builtin; have _t := tok1; refine wpList_append_bs _ rfl _ _ 22 rfl w.heap.size 5 rowB (.slice A7 m c7) m o rfl HOA.out (W0.heap.size + 1) (some ⟨W0.heap.size, 0, none⟩) 1 1 [92#8] rfl HSA.out (m + 1) (o ++ [92#8]) rfl rfl (by omega) (by have := HBA.out.size; exact this) ?_; clear tok1 _t; intro A2 c2 w2 o2 g2 _; have HO2 := Lib.hid (show Owb w2 w.heap.size A2 (m + 1) c2 (o ++ [92#8]) from o2); have HB2 := Lib.hid (HBA.out.trans (HOA.out.grew g2 HBA.out.size)); have b3 := ((HS.out.below (HB2.out.mono hB)).at_ hlt2); obtain ⟨bd3, hbd3, _, b3⟩ := b3; cases hbd3; rw [List.getD_eq_getElem?_getD, HY34.out, add_pos' bd (q + 1) (by omega)] at b3; change _ = some (v8 y) at b3; have HOB := Lib.hid (HO2.out.below ((Below.refl w2.heap.size w2).alloc (Nat.le_refl _) (.cells #[v8 y] 5))); have HBB := Lib.hid (HB2.out.trans (((Below.refl w2.heap.size w2).alloc (Nat.le_refl _) (.cells #[v8 y] 5)).mono HB2.out.size)); clear o2 g2)
                | (at_builtin; have _t := tok2; refine wpList_append_bs _ rfl _ _ 22 rfl w.heap.size 5 rowB (.slice A2 (m + 1) c2) (m + 1) (o ++ [92#8]) rfl HOB.out (w2.heap.size + 1) (some ⟨w2.heap.size, 0, none⟩) 1 1 [y] rfl (lit_one w2 y) (m + 2) (o ++ [92#8, y]) rfl (by simp) (by omega) (by have := HBB.out.size; exact this) ?_; clear tok2 _t; intro A3 c3 w3 o3 g3 _; have HO3 := Lib.hid (show Owb w3 w.heap.size A3 (m + 2) c3 (o ++ [92#8, y]) from o3); have HB3 := Lib.hid (HBB.out.trans (HOB.out.grew g3 HBB.out.size)); clear o3 g3)
                | fail)
              exact ⟨⟨d + 2, m + 2, c3, A3, _, by have := HQ.out; omega, by omega, by rw [show ((p + (d + 2) : Nat) : Int) = (q : Int) + 1 + 1 by have := HQ.out; omega], rfl, HO3.out, HB3.out, by rw [show p + (d + 2) = q + 2 by have := HQ.out; omega]; exact HK2.out⟩, by simp [intOf]; omega⟩
        · obtain rfl : q + 1 = n := by omega
          have HN := Lib.hid (show T = .error (d + 1) by rw [HK.out, drop_at HX.out, List.drop_eq_nil_of_le (by rw [HSL.out]; exact Nat.le_refl _), textR_esc_nil h92]; rfl)
          subst h92
          clear HK HX
          go_wp2_with fail
          go_ret3
          exact tx_bad HBW.out HN.out (by have := HQ.out; omega)
      · have HK2 := Lib.hid (show T = tadd (o ++ [x]) (d + 1) (textR (s.drop (q + 1))) by rw [HK.out, drop_at HX.out, textR_char h34 hlow h92, tadd_tadd])
        have e2 : ((x.toNat : Int) == 92) = false := b_ne (k := 92) (by decide) h92
        have hbA : Below W0.heap.size W0 (W0.alloc (.cells #[v8 x] 5)) := (Below.refl _ _).alloc (Nat.le_refl _) _
        have HOA := Lib.hid (HO.out.below hbA)
        have HBA := Lib.hid (HBW.out.trans (hbA.mono hws))
        have HSA := Lib.hid (lit_one W0 x)
        clear hbA HK HX h34 h92
        go_wp2_with ((at_builtin; refine wpList_append_bs _ rfl _ _ 22 rfl w.heap.size 5 rowB (.slice A7 m c7) m o rfl HOA.out (W0.heap.size + 1) (some ⟨W0.heap.size, 0, none⟩) 1 1 [x] rfl HSA.out (m + 1) (o ++ [x]) rfl rfl (by omega) (by have := HBA.out.size; exact this) ?_; intro A3 c3 w3 o3 g3 _; have HO3 := Lib.hid (show Owb w3 w.heap.size A3 (m + 1) c3 (o ++ [x]) from o3); have HB3 := Lib.hid (HBA.out.trans (HOA.out.grew g3 HBA.out.size)); clear o3 g3))
        exact ⟨⟨d + 1, m + 1, c3, A3, _, by have := HQ.out; omega, by omega, by rw [show ((p + (d + 1) : Nat) : Int) = (q : Int) + 1 by have := HQ.out; omega], rfl, HO3.out, HB3.out, by rw [show p + (d + 1) = q + 1 by have := HQ.out; omega]; exact HK2.out⟩, by simp [intOf]; omega⟩
    · obtain rfl : q = n := by omega
      have HN := Lib.hid (show T = .error d by rw [HK.out, List.drop_eq_nil_of_le (by rw [HSL.out]; exact Nat.le_refl _)]; rfl)
      go_wp2_with fail
      go_ret3
      exact tx_bad HBW.out HN.out (by rw [HQ.out])
end Go.Proofs.Ytkodajkhekocbaa.Lex
