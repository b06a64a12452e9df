/-
  The document's cutter (layer 11): what lies between tokens.
-/
import Derived.Test.YtkodajkhekocbaaLexPure
import Derived.Test.YtkodajkhekocbaaChecked
import Derived.Test.YtkodajkhekocbaaMem
import Derived.Test.YtkodajkhekocbaaAppendAny
import Derived.Test.YtkodajkhekocbaaRowTy
import Derived.Test.YtkodajkhekocbaaBy
import Derived.Test.YtkodajkhekocbaaSlices
import Derived.WalkKit
import Derived.ProofKit
namespace Go.Proofs.Ytkodajkhekocbaa.Lex
open Go.RowKit
set_option linter.unusedVariables false
set_option linter.unusedSimpArgs false

theorem b_lit {x : BitVec 8} {k : Nat} (hk : k < 256) : ((x.toNat : Int) == (k : Int)) = decide (x = BitVec.ofNat 8 k) := by
  rw [Bool.eq_iff_iff]
  simp only [beq_iff_eq, decide_eq_true_eq]
  constructor
  · intro h
    apply BitVec.eq_of_toNat_eq
    rw [BitVec.toNat_ofNat, Nat.mod_eq_of_lt (by omega)]
    omega
  · rintro rfl
    rw [BitVec.toNat_ofNat, Nat.mod_eq_of_lt (by omega)]
theorem b_ne {x : BitVec 8} {k : Nat} (hk : k < 256) (h : x ≠ BitVec.ofNat 8 k) : ((x.toNat : Int) == (k : Int)) = false := by rw [b_lit hk]; exact decide_eq_false h
theorem b_nat {x : BitVec 8} {k : Nat} (hk : k < 256) (h : x ≠ BitVec.ofNat 8 k) : x.toNat ≠ k := fun e => h (BitVec.eq_of_toNat_eq (by rw [BitVec.toNat_ofNat, Nat.mod_eq_of_lt (by omega), e]))
set_option maxRecDepth 100000 in
set_option maxHeartbeats 400000 in
theorem between_ (w : World) (x : BitVec 8) :
    Calls Try.prog 29 #[v8 x] w fun e w' => e = .returned (.bool (blank x)) ∧ w = w' := by
  by_cases h1 : x = 9#8
  · subst h1
    go_enter Try.func29, Try.ntmps29
    go_wp2_with fail
    go_ret
    exact ⟨rfl, rfl⟩
  by_cases h2 : x = 10#8
  · subst h2
    go_enter Try.func29, Try.ntmps29
    go_wp2_with fail
    go_ret
    exact ⟨rfl, rfl⟩
  by_cases h3 : x = 13#8
  · subst h3
    go_enter Try.func29, Try.ntmps29
    go_wp2_with fail
    go_ret
    exact ⟨rfl, rfl⟩
  by_cases h4 : x = 32#8
  · subst h4
    go_enter Try.func29, Try.ntmps29
    go_wp2_with fail
    go_ret
    exact ⟨rfl, rfl⟩
  have e5 : blank x = false := by simp [blank, h1, h2, h3, h4]
  rw [e5]
  have e1 : ((x.toNat : Int) == 9) = false := b_ne (k := 9) (by decide) h1
  have e2 : ((x.toNat : Int) == 10) = false := b_ne (k := 10) (by decide) h2
  have e3 : ((x.toNat : Int) == 13) = false := b_ne (k := 13) (by decide) h3
  have e4 : ((x.toNat : Int) == 32) = false := b_ne (k := 32) (by decide) h4
  clear h1 h2 h3 h4 e5
  go_enter Try.func29, Try.ntmps29
  go_wp2_with fail
  go_ret
  exact ⟨rfl, rfl⟩
theorem drop_at {s : List (BitVec 8)} {q : Nat} {c : BitVec 8} (h : s[q]? = some c) : s.drop q = c :: s.drop (q + 1) := by
  obtain ⟨hl, rfl⟩ := List.getElem?_eq_some_iff.1 h
  exact List.drop_eq_getElem_cons hl
set_option maxRecDepth 100000 in
set_option maxHeartbeats 1000000 in
theorem skip_ (w : World) (B : Nat) (A : Option Addr) (n c : Nat) (s : List (BitVec 8)) (hs : Bs w B A n s) (hn : n ≤ 100000) (p : Nat) (hp : p ≤ n) :
    Calls Try.prog 13 #[.slice A n c, .int .i64 (p : Int)] w fun e w' => e = .returned (.int .i64 ((p + skipR false (s.drop p) : Nat) : Int)) ∧ w = w' := by
  obtain ⟨K, hK⟩ : ∃ K, K = p + skipR false (s.drop p) := ⟨_, rfl⟩
  rw [← hK]
  have HS := Lib.hid hs
  have hsl := hs.len
  have HSL := Lib.hid hsl
  have HK := Lib.hid hK
  clear hs hsl hK
  go_enter Try.func13, Try.ntmps13
  go_wp2_with fail
  go_loopw [1, 5] (fun v1 v5 wr => ∃ (q : Nat) (r : Bool), q ≤ n ∧ v1 = .int .i64 (q : Int) ∧ v5 = .bool r ∧ w = wr ∧ Hid (K = q + skipR r (s.drop q))) (fun v1 _ _ => n - (intOf v1).toNat)
  case atStart => exact ⟨p, false, hp, rfl, rfl, rfl, HK⟩
  case round =>
    clear HK
    obtain ⟨q, r, hq, rfl, rfl, rfl, HK⟩ := hrel
    rcases Nat.lt_or_ge q n with hlt | hge
    · obtain ⟨x, hx⟩ : ∃ x, s[q]? = some x := ⟨_, List.getElem?_eq_getElem (by rw [HSL.out]; exact hlt)⟩
      obtain ⟨bd, rfl, _, b0⟩ := HS.out.at_ hlt
      rw [List.getD_eq_getElem?_getD, hx] at b0
      change _ = some (v8 x) at b0
      have HGO := Lib.hid (fun r2 (h1 : rem r x = r2) (h2 : (r2 || blank x) = true) => (show K = (q + 1) + skipR r2 (s.drop (q + 1)) by
        rw [HK.out, drop_at hx, skipR_cons, h1, if_pos h2]; omega))
      have HST := Lib.hid (fun (h1 : rem r x = false) (h2 : blank x = false) => (show K = q by
        rw [HK.out, drop_at hx, skipR_cons, h1, h2]; rfl))
      clear hx HK
      by_cases h10 : x = 10#8
      · subst h10
        have HN := Lib.hid (HGO.out false (by simp [rem]) (by decide))
        have con := between_ w 10#8
        rw [show blank 10#8 = true by decide] at con
        go_wp2_with fail
        refine con.mono ?_
        rintro e w' ⟨rfl, rfl⟩
        go_wp2_with fail
        exact ⟨⟨q + 1, false, by omega, by rw [show ((q + 1 : Nat) : Int) = (q : Int) + 1 by omega], rfl, by trivial, HN⟩, by simp [intOf]; omega⟩
      · by_cases h35 : x = 35#8
        · subst h35
          have HN := Lib.hid (HGO.out true (by simp [rem]) (by simp))
          go_wp2_with fail
          exact ⟨⟨q + 1, true, by omega, by rw [show ((q + 1 : Nat) : Int) = (q : Int) + 1 by omega], rfl, by trivial, HN⟩, by simp [intOf]; omega⟩
        · have e1 : ((x.toNat : Int) == 35) = false := b_ne (k := 35) (by decide) h35
          have e2 : ((x.toNat : Int) == 10) = false := b_ne (k := 10) (by decide) h10
          have hrem : rem r x = r := by simp [rem, h10, h35]
          cases r
          · have con := between_ w x
            cases hb : blank x
            · have HN := Lib.hid (HST.out hrem hb)
              rw [hb] at con
              clear h10 h35 hrem hb
              go_wp2_with fail
              refine con.mono ?_
              rintro e w' ⟨rfl, rfl⟩
              go_wp2_with fail
              go_ret
              rw [HN.out]
              exact ⟨rfl, rfl⟩
            · have HN := Lib.hid (HGO.out false hrem (by rw [hb]; rfl))
              rw [hb] at con
              clear h10 h35 hrem hb
              go_wp2_with fail
              refine con.mono ?_
              rintro e w' ⟨rfl, rfl⟩
              go_wp2_with fail
              exact ⟨⟨q + 1, false, by omega, by rw [show ((q + 1 : Nat) : Int) = (q : Int) + 1 by omega], rfl, by trivial, HN⟩, by simp [intOf]; omega⟩
          · have HN := Lib.hid (HGO.out true hrem (by simp))
            clear h10 h35 hrem
            go_wp2_with fail
            exact ⟨⟨q + 1, true, by omega, by rw [show ((q + 1 : Nat) : Int) = (q : Int) + 1 by omega], rfl, by trivial, HN⟩, by simp [intOf]; omega⟩
    · obtain rfl : q = n := by omega
      have HN := Lib.hid (show K = q by rw [HK.out, List.drop_eq_nil_of_le (by rw [HSL.out]; exact Nat.le_refl _)]; rfl)
      go_wp2_with fail
      go_ret
      rw [HN.out]
      exact ⟨rfl, rfl⟩
end Go.Proofs.Ytkodajkhekocbaa.Lex
