/-
  davitlaw09.NfaBuilds: the walk.
-/
import Derived.Test.YtpfogoncholiaaaNfaKnows
import Derived.Test.YtpfogoncholiaaaNfaOpen
import Derived.Test.YtpfogoncholiaaaNfaLast
namespace Go.Proofs.Ytpfogoncholiaaa.Nfa
open Go.RowKit Go.Proofs.Ytpfogoncholiaaa.Ord
open Go.Proofs.Ytpfogoncholiaaa.Reg (Ov oflat Sp sflat sflat_length Rop Spn)
set_option linter.unusedVariables false
set_option linter.unusedSimpArgs false

theorem build_sp {M : Nat} {l : List Rop} {a : List In} (h : build l = .ok a) (hl : ∀ o ∈ l, o.sp.length ≤ M) : ∀ x ∈ a, x.sp.length ≤ M := by
  rw [build_low] at h
  split at h
  · cases h
  · rename_i q e
    unfold finL at h
    split at h
    · split at h
      · cases h
      · injection h with h
        subst h
        intro x hx
        rcases ins_mem hx with hx | rfl
        · exact semL_sp l e hl (by simp) x hx
        · exact Nat.zero_le _
    · cases h
theorem pr9_of {w : World} {B n c : Nat} {A : Option Addr} {vs : List Iv} (ho : w.ownsRow B 38 5 (.slice A n c) n (iflat vs)) (hs : ∀ u ∈ vs, Spn w u.A u.i.sp) : Pr9 w A vs := ⟨cz_ry (Ry.of_own ho (by decide)), fun u hu => cz_ry (hs u hu)⟩
theorem Pr9.below {w w' : World} {A : Option Addr} {vs : List Iv} (h : Pr9 w A vs) (hb : Below w.heap.size w w') : Pr9 w' A vs := ⟨h.ry.below hb, fun u hu => (h.sp u hu).below hb⟩
theorem Pr8.below {w w' : World} {A : Option Addr} {us : List Ov} (h : Pr8 w A us) (hb : Below w.heap.size w w') : Pr8 w' A us := ⟨h.ry.below hb, fun u hu => (h.sp u hu).below hb⟩
theorem Rr.below {w w' : World} {A : Option Addr} {vs : List Iv} (h : Rr w A vs) (hb : Below w.heap.size w w') : Rr w' A vs := ⟨h.ry.below hb, fun u hu => Ry.below (h.sp u hu) hb⟩
theorem rr_nil (w : World) : Rr w none [] := ⟨Ry.nil_, by simp⟩
theorem pr9_nil (w : World) : Pr9 w none [] := ⟨fun h => absurd rfl h, by simp⟩

set_option maxRecDepth 100000 in
set_option maxHeartbeats 1000000 in
theorem builds_walk (A : Option Addr) (n c : Nat) (w : World) (h : IsV w (.recs [.int .i64, .bool, .recs [.int .u8, .int .u8]]) (.slice A n c)) :
    Calls Try.prog 3 #[.slice A n c] w fun e w' => e = .returned (.bool true) ∧ Below w.heap.size w w' := by
  obtain ⟨us, hl, hn, hp, hb⟩ := Pr8.of_isv h
  have con := few9 w A n c us hp hl hn (fun u hu => (hb u hu).1)
  have HL := Lib.hid hl
  have HP := Lib.hid hp
  have HK := Lib.hid (fun u (hu : u ∈ us) => (hb u hu).2)
  clear h hl hp hb
  go_enter Try.func3, Try.ntmps3
  go_wp2_with fail
  refine con.mono ?_
  rintro e w0 ⟨b, rfl, rfl, hfew⟩
  clear con
  cases b with
  | false =>
    clear hfew
    go_wp2_with fail
    refine (knows9 _).mono ?_
    rintro e w1 ⟨rfl, hb1⟩
    have HB1 := Lib.hid hb1
    clear hb1
    go_wp2_with fail
    go_ret
    exact ⟨rfl, HB1.out⟩
  | true =>
    obtain ⟨hn4, hs6⟩ := hfew rfl
    have HS := Lib.hid hs6
    clear hfew hs6
    have con1 := build_call w A n c us HP.out HL.out (by omega) HK.out (fun u hu => Nat.le_trans (HS.out u hu) (by omega))
    go_wp2_with fail
    refine con1.mono ?_
    rintro e w1 ⟨hb1, hr1⟩
    have HB1 := Lib.hid hb1
    have con2 := as8 w1 A n c us (HP.out.below hb1) HL.out (by omega) (fun u hu => Nat.le_trans (HS.out u hu) (by omega))
    have HSP := Lib.hid (fun a (ha : build (us.map (·.o)) = .ok a) => build_sp (M := 1000) ha (fun o ho => by obtain ⟨u, hu, rfl⟩ := List.mem_map.1 ho; exact Nat.le_trans (HS.out u hu) (by omega)))
    clear hb1 con1
    cases hbu : build (us.map (·.o)) with
    | error k =>
      rw [hbu] at hr1
      obtain rfl := hr1
      have HBU := Lib.hid hbu
      clear hbu
      go_wp2_with fail
      refine con2.mono ?_
      rintro e w2 ⟨A2, c2, vs, rfl, hro, hvo, hb2⟩
      have con3 := rbuild w2 A2 n c2 vs hro.rl (by omega) hro.len
      rw [hvo, HBU.out] at con3
      have HB2 := Lib.hid (HB1.out.trans (hb2.mono HB1.out.size))
      clear hro hvo hb2 con2
      go_wp2_with fail
      refine con3.mono ?_
      rintro e w3 ⟨hb3, hk0, rfl⟩
      have HB3 := Lib.hid (HB2.out.trans (hb3.mono HB2.out.size))
      have con4 := as9 w3 none 0 0 [] (pr9_nil _) rfl (by decide) (by simp)
      clear hb3 con3
      go_wp2_with fail
      refine con4.mono ?_
      rintro e w4 ⟨A4, c4, vs4, rfl, hri4, hvi4, hb4⟩
      have hv4 : vs4 = [] := by simpa using hvi4
      subst hv4
      have con5 := rsame w4 A4 none 0 c4 0 [] [] hri4.rr (rr_nil _) rfl (by decide) rfl (by simp)
      have HB4 := Lib.hid (HB3.out.trans (hb4.mono HB3.out.size))
      clear hri4 hvi4 hb4 con4
      go_wp2_with fail
      refine con5.mono ?_
      rintro e w5 ⟨rfl, hb5⟩
      have HB5 := Lib.hid (HB4.out.trans (hb5.mono HB4.out.size))
      clear hb5 con5
      go_wp2_with fail
      refine (knows9 _).mono ?_
      rintro e w6 ⟨rfl, hb6⟩
      have HB6 := Lib.hid (HB5.out.trans (hb6.mono HB5.out.size))
      clear hb6
      go_wp2_with fail
      go_ret
      exact ⟨rfl, HB6.out⟩
    | ok a =>
      rw [hbu] at hr1
      obtain ⟨A1, c1, us1, rfl, hu1, ho1, hs1⟩ := hr1
      have HBU := Lib.hid hbu
      obtain ⟨m, hm⟩ : ∃ m, m = a.length := ⟨_, rfl⟩
      have HM := Lib.hid hm
      rw [← hm] at ho1 ⊢
      have HP9 := Lib.hid (pr9_of ho1 hs1)
      have HU1 := Lib.hid hu1
      clear hbu hm hu1 ho1 hs1
      go_wp2_with fail
      refine con2.mono ?_
      rintro e w2 ⟨A2, c2, vs, rfl, hro, hvo, hb2⟩
      have con3 := rbuild w2 A2 n c2 vs hro.rl (by omega) hro.len
      rw [hvo, HBU.out] at con3
      have HP2 := Lib.hid (HP9.out.below hb2)
      have HB2 := Lib.hid (HB1.out.trans (hb2.mono HB1.out.size))
      clear hro hvo hb2 con2
      go_wp2_with fail
      refine con3.mono ?_
      rintro e w3 ⟨hb3, A3, m3, c3, vs3, rfl, hri3, hvi3, hm3⟩
      have hm3' : m3 = m := by rw [HM.out, ← hvi3, List.length_map, hri3.len]
      subst hm3'
      have con4 := as9 w3 A1 m3 c1 us1 (HP2.out.below hb3) (by rw [HM.out, ← HU1.out, List.length_map]) (by omega) (fun u hu => HSP.out _ HBU.out u.i (by rw [← HU1.out]; exact List.mem_map_of_mem hu))
      have HB3 := Lib.hid (HB2.out.trans (hb3.mono HB2.out.size))
      have HR3 := Lib.hid hri3.rr
      have HV3 := Lib.hid hvi3
      clear hb3 con3 hri3 hvi3
      go_wp2_with fail
      refine con4.mono ?_
      rintro e w4 ⟨A4, c4, vs4, rfl, hri4, hvi4, hb4⟩
      have con5 := rsame w4 A4 A3 m3 c4 c3 vs4 vs3 hri4.rr (HR3.out.below hb4) hri4.len (by omega) (by rw [hvi4, HU1.out, HV3.out]) (fun u hu => HSP.out _ HBU.out u.i (by rw [← HU1.out, ← hvi4]; exact List.mem_map_of_mem hu))
      have HB4 := Lib.hid (HB3.out.trans (hb4.mono HB3.out.size))
      clear hri4 hvi4 hb4 con4
      go_wp2_with fail
      refine con5.mono ?_
      rintro e w5 ⟨rfl, hb5⟩
      have HB5 := Lib.hid (HB4.out.trans (hb5.mono HB4.out.size))
      clear hb5 con5
      go_wp2_with fail
      refine (knows9 _).mono ?_
      rintro e w6 ⟨rfl, hb6⟩
      have HB6 := Lib.hid (HB5.out.trans (hb6.mono HB5.out.size))
      clear hb6
      go_wp2_with fail
      go_ret
      exact ⟨rfl, HB6.out⟩
end Go.Proofs.Ytpfogoncholiaaa.Nfa
