/-
  LexCuts (P11.1): the walk.
-/
import Derived.Test.YtkodajkhekocbaaLexKnows
namespace Go.Proofs.Ytkodajkhekocbaa.Lex
open Go.RowKit
set_option linter.unusedVariables false
set_option linter.unusedSimpArgs false

theorem Ptk.none_ (w : World) (B : Nat) : Ptk w B none [] := ⟨fun h => absurd rfl h, by simp⟩
set_option maxRecDepth 100000 in
set_option maxHeartbeats 2000000 in
theorem cuts_walk (A : Option Addr) (n c : Nat) (s : List (BitVec 8)) (w : World) (h : Bs w w.heap.size A n s) (hc1 : n ≤ c) (hc2 : c ≤ maxLen) :
    Calls Try.prog 3 #[.slice A n c] w fun e w' => e = .returned (.bool true) ∧ Below w.heap.size w w' := by
  by_cases h3 : 3000 < n
  · have con := knows11 w
    clear h
    go_enter Try.func3, Try.ntmps3
    go_wp2_with fail
    refine con.mono ?_
    clear con
    rintro e w1 ⟨rfl, hb⟩
    have HB := Lib.hid hb
    clear hb
    go_wp2_with fail
    go_ret
    exact ⟨rfl, HB.out⟩
  have con := pcut w w.heap.size A n c s h (Nat.le_refl _) (by omega)
  have H := Lib.hid h
  clear h
  go_enter Try.func3, Try.ntmps3
  go_wp2_with fail
  refine con.mono ?_
  clear con
  rintro e w1 ⟨hb1, hr1⟩
  have con2 := cut_ w1 w.heap.size A n c s (H.out.below hb1) hb1.size (by omega) hc1
  have HB1 := Lib.hid hb1
  cases hcut : cut s with
  | error r =>
    obtain ⟨p, bad⟩ := r
    rw [hcut] at hr1 con2
    obtain ⟨hbad, rfl⟩ := hr1
    clear hcut hb1
    go_wp2_with fail
    refine con2.mono ?_
    clear con2
    rintro e w2 ⟨hb2, _, rfl⟩
    have HB2 := Lib.hid (HB1.out.trans (hb2.mono HB1.out.size))
    have con3 := as11 w2 w.heap.size none 0 0 [] (Ptk.none_ _ _) HB2.out.size rfl (by omega)
    clear hb2
    go_wp2_with fail
    refine con3.mono ?_
    clear con3
    rintro e w3 ⟨A', c', vs, rfl, hrt, hvs, hb3⟩
    have con4 := same_ w3 w.heap.size A' none 0 c' 0 vs [] hrt.ttk (Rtk.nil_ w3 w3.heap.size w.heap.size).ttk (Nat.le_trans HB2.out.size hb3.size) hrt.len (by omega) hvs
    have HB3 := Lib.hid (HB2.out.trans (hb3.mono HB2.out.size))
    clear hrt hvs hb3
    go_wp2_with fail
    refine con4.mono ?_
    clear con4
    rintro e w4 ⟨rfl, hb4⟩
    have HB4 := Lib.hid (HB3.out.trans (hb4.mono HB3.out.size))
    have con5 := knows11 w4
    clear hb4
    go_wp2_with fail
    refine con5.mono ?_
    clear con5
    rintro e w5 ⟨rfl, hb5⟩
    have HB5 := Lib.hid (HB4.out.trans (hb5.mono HB4.out.size))
    clear hb5
    go_wp2_with fail
    go_ret
    exact ⟨rfl, HB5.out⟩
  | ok ts =>
    rw [hcut] at hr1 con2
    obtain ⟨A1, c1, us, rfl, hp, hus, hts⟩ := hr1
    have HP := Lib.hid (hp w.heap.size)
    have HUS := Lib.hid hus
    have hul : us.length = ts.length := by rw [← hus]; simp
    have HUL := Lib.hid hul
    generalize hk : ts.length = k at *
    clear hcut hb1 hp hus hul
    go_wp2_with fail
    refine con2.mono ?_
    clear con2
    rintro e w2 ⟨hb2, A2, n2, c2, vs, rfl, hr2, hvs⟩
    have HB2 := Lib.hid (HB1.out.trans (hb2.mono HB1.out.size))
    have hvl : n2 = k := by rw [← hr2.len, ← hk, ← hvs]; simp
    subst hvl
    have con3 := as11 w2 w.heap.size A1 n2 c1 us (HP.out.below HB1.out.size hb2) HB2.out.size HUL.out (by omega)
    have HR2 := Lib.hid hr2
    have HVS := Lib.hid hvs
    clear hb2 hr2 hvs hk
    go_wp2_with fail
    refine con3.mono ?_
    clear con3
    rintro e w3 ⟨A', c', xs, rfl, hrt, hxs, hb3⟩
    have con4 := same_ w3 w.heap.size A' A2 n2 c' c2 xs vs hrt.ttk (HR2.out.below HB2.out.size hb3).ttk (Nat.le_trans HB2.out.size hb3.size) hrt.len (by omega) (by rw [hxs, HUS.out, HVS.out])
    have HB3 := Lib.hid (HB2.out.trans (hb3.mono HB2.out.size))
    clear hrt hxs hb3
    go_wp2_with fail
    refine con4.mono ?_
    clear con4
    rintro e w4 ⟨rfl, hb4⟩
    have HB4 := Lib.hid (HB3.out.trans (hb4.mono HB3.out.size))
    have con5 := knows11 w4
    clear hb4
    go_wp2_with fail
    refine con5.mono ?_
    clear con5
    rintro e w5 ⟨rfl, hb5⟩
    have HB5 := Lib.hid (HB4.out.trans (hb5.mono HB4.out.size))
    clear hb5
    go_wp2_with fail
    go_ret
    exact ⟨rfl, HB5.out⟩
end Go.Proofs.Ytkodajkhekocbaa.Lex
