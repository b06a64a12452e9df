/-
  Layer 13: VarsPlain's walk.
-/
import Derived.Test.YtamklllmjppinaaVarsFillW
import Derived.Test.YtamklllmjppinaaVarsPlainP
namespace Go.Proofs.Ytamklllmjppinaa.Vars
open Go.RowKit
open Go.Proofs.Ytamklllmjppinaa.Lex (Owb b_ne)
set_option linter.unusedVariables false
set_option linter.unusedSimpArgs false

theorem bytes_keep {s : List B} {ns : List ByteArray} {vs : List (List B)} : ∀ c ∈ bytesOf (fill s ns vs), keep c = true := fun c hc => by
  cases h : fill s ns vs with
  | error k => rw [h] at hc; cases hc
  | ok b => rw [h] at hc; exact (fill_keep h).2 c hc
theorem bytes_few {s : List B} {ns : List ByteArray} {vs : List (List B)} : (bytesOf (fill s ns vs)).length ≤ 200 := by
  cases h : fill s ns vs with
  | error k => simp [bytesOf]
  | ok b => exact (fill_keep h).1
set_option maxRecDepth 100000 in
set_option maxHeartbeats 4000000 in
theorem plain_walk (A : Option Addr) (n c : Nat) (s : List (BitVec 8)) (A1 : Option Addr) (n1 c1 : Nat) (ns : List ByteArray) (A2 : Option Addr) (n2 c2 : Nat) (vs : List V1) (w : World)
    (hs : Bs w w.heap.size A n s) (hcap : n ≤ c) (hc : c ≤ maxLen) (hns : Cv w A1 (ns.map Value.string)) (hnl : ns.length = n1) (hn1 : n1 ≤ maxLen) (hvs : Vals w w.heap.size A2 vs) (hvl : vs.length = n2) (hn2 : n2 ≤ maxLen) :
    Calls Try.prog 4 #[.slice A n c, .slice A1 n1 c1, .slice A2 n2 c2] w fun e w' => e = .returned (.bool true) ∧ Below w.heap.size w w' := by
  unfold maxLen at hc
  by_cases h500 : 500 < n
  · have con := knows13 w
    have z : decide ((500 : Int) < (n : Int)) = true := by simp; omega
    clear hs hns hvs
    go_enter Try.func4, Try.ntmps4
    go_wp2_with fail
    refine con.mono ?_
    rintro e w' ⟨rfl, hb⟩
    have HB := Lib.hid hb
    clear hb con
    go_wp2_with fail
    go_ret
    exact ⟨rfl, HB.out⟩
  have z : decide ((500 : Int) < (n : Int)) = false := by simp; omega
  have con := few13 w A1 n1 c1 ns hns hnl hn1 A2 n2 c2 vs hvs hvl hn2
  have HS := Lib.hid hs
  have HSL := Lib.hid hs.len
  have HNS := Lib.hid hns
  have HVS := Lib.hid hvs
  have HNL := Lib.hid hnl
  have HVL := Lib.hid hvl
  clear hs hns hvs hnl hvl
  go_enter Try.func4, Try.ntmps4
  go_wp2_with fail
  refine con.mono ?_
  clear con
  rintro e w' ⟨b, rfl, rfl, hb⟩
  cases b
  · have con := knows13 w
    clear hb
    go_wp2_with fail
    refine con.mono ?_
    rintro e w' ⟨rfl, hb⟩
    have HB := Lib.hid hb
    clear hb con
    go_wp2_with fail
    go_ret
    exact ⟨rfl, HB.out⟩
  obtain ⟨hf1, hf2, hf3⟩ := hb rfl
  have con3 := pfill w A n c s HS.out (by omega) hcap A1 n1 c1 ns HNS.out HNL.out (by omega) A2 n2 c2 vs HVS.out HVL.out (by omega) (fun v hv => by
    obtain ⟨x, hx, rfl⟩ := List.mem_map.1 hv
    have := hf3 x hx
    omega)
  have HBK := Lib.hid (bytes_keep (s := s) (ns := ns) (vs := vs.map V1.s))
  have hbf := bytes_few (s := s) (ns := ns) (vs := vs.map V1.s)
  have HSA := Lib.hid (fun (h : ∀ c ∈ s, c ≠ 36#8 ∧ keep c = true) => fill_same (ns := ns) (vs := vs.map V1.s) h)
  generalize fill s ns (vs.map V1.s) = r at *
  clear hb hf3
  go_wp2_with fail
  refine con3.mono ?_
  clear con3
  rintro e w5 h5
  obtain ⟨hb5, A5, c5, rfl, hy5⟩ := fl_get h5
  have HB5 := Lib.hid hb5
  have HY5 := Lib.hid hy5
  have HS5 := Lib.hid (HS.out.below hb5)
  generalize hbo : bytesOf r = bo at *
  generalize hco : codeOf r = code at *
  generalize hbl : bo.length = bl at *
  have HBO := Lib.hid hbo
  have HCO := Lib.hid hco
  have HBL := Lib.hid hbl
  clear h5 hb5 hy5 hbo hco hbl
  go_wp2_with fail
  go_loopw [9] (fun v9 wr => ∃ (i : Nat), i ≤ bl ∧ v9 = .int .i64 (i : Int) ∧ w5 = wr) (fun v9 _ => bl - (intOf v9).toNat)
  case atStart => exact ⟨0, Nat.zero_le _, rfl, rfl⟩
  case round =>
    obtain ⟨i, hi, rfl, rfl⟩ := hrel
    rcases Nat.lt_or_ge i bl with hlt | hge
    · obtain ⟨y, hy⟩ : ∃ y, bo[i]? = some y := ⟨_, List.getElem?_eq_getElem (by rw [HBL.out]; exact hlt)⟩
      obtain ⟨bd, rfl, _, b0⟩ := HY5.out.at_ hlt
      rw [List.getD_eq_getElem?_getD, hy] at b0
      change _ = some (v8 y) at b0
      have hk := (keep_iff y).1 (HBK.out y (List.mem_of_getElem? hy))
      have e10 : ((y.toNat : Int) == 10) = false := b_ne (k := 10) (by decide) hk.1
      have e13 : ((y.toNat : Int) == 13) = false := b_ne (k := 13) (by decide) hk.2.1
      have e21 : ((y.toNat : Int) == 21) = false := b_ne (k := 21) (by decide) hk.2.2
      clear hy hk
      go_wp2_with fail
      exact ⟨⟨i + 1, by omega, by rw [show ((i + 1 : Nat) : Int) = (i : Int) + 1 by omega], by trivial⟩, by simp [intOf]; omega⟩
    · have con := knows13 w5
      go_wp2_with fail
      go_loopw [10] (fun v10 wr => ∃ (j : Nat), j ≤ n ∧ v10 = .int .i64 (j : Int) ∧ w5 = wr ∧ Hid (∀ c ∈ s.take j, c ≠ 36#8 ∧ keep c = true)) (fun v10 _ => n - (intOf v10).toNat)
      case atStart => exact ⟨0, Nat.zero_le _, rfl, rfl, Lib.hid (by simp)⟩
      case round =>
        obtain ⟨j, hj, rfl, rfl, HK⟩ := hrel
        rcases Nat.lt_or_ge j n with hlt2 | hge2
        · obtain ⟨y, hy⟩ : ∃ y, s[j]? = some y := ⟨_, List.getElem?_eq_getElem (by rw [HSL.out]; exact hlt2)⟩
          obtain ⟨bd, rfl, _, b0⟩ := HS5.out.at_ hlt2
          rw [List.getD_eq_getElem?_getD, hy] at b0
          change _ = some (v8 y) at b0
          by_cases h36 : y = 36#8
          · subst h36
            clear hy HK
            go_wp2_with fail
            refine con.mono ?_
            clear con
            rintro e w7 ⟨rfl, hb7⟩
            have HB7 := Lib.hid (HB5.out.trans (hb7.mono HB5.out.size))
            clear hb7
            go_wp2_with fail
            go_ret
            exact ⟨rfl, HB7.out⟩
          have e36 : ((y.toNat : Int) == 36) = false := b_ne (k := 36) (by decide) h36
          by_cases h10 : y = 10#8
          · subst h10
            clear hy HK
            go_wp2_with fail
            refine con.mono ?_
            clear con
            rintro e w7 ⟨rfl, hb7⟩
            have HB7 := Lib.hid (HB5.out.trans (hb7.mono HB5.out.size))
            clear hb7
            go_wp2_with fail
            go_ret
            exact ⟨rfl, HB7.out⟩
          have e10 : ((y.toNat : Int) == 10) = false := b_ne (k := 10) (by decide) h10
          by_cases h13 : y = 13#8
          · subst h13
            clear hy HK
            go_wp2_with fail
            refine con.mono ?_
            clear con
            rintro e w7 ⟨rfl, hb7⟩
            have HB7 := Lib.hid (HB5.out.trans (hb7.mono HB5.out.size))
            clear hb7
            go_wp2_with fail
            go_ret
            exact ⟨rfl, HB7.out⟩
          have e13 : ((y.toNat : Int) == 13) = false := b_ne (k := 13) (by decide) h13
          by_cases h21 : y = 21#8
          · subst h21
            clear hy HK
            go_wp2_with fail
            refine con.mono ?_
            clear con
            rintro e w7 ⟨rfl, hb7⟩
            have HB7 := Lib.hid (HB5.out.trans (hb7.mono HB5.out.size))
            clear hb7
            go_wp2_with fail
            go_ret
            exact ⟨rfl, HB7.out⟩
          have e21 : ((y.toNat : Int) == 21) = false := b_ne (k := 21) (by decide) h21
          have HN := Lib.hid (show ∀ c ∈ s.take (j + 1), c ≠ 36#8 ∧ keep c = true by
            rw [List.take_add_one, hy]
            intro x hx
            rcases List.mem_append.1 hx with hx | hx
            · exact HK.out x hx
            · simp at hx
              subst hx
              exact ⟨h36, (keep_iff _).2 ⟨h10, h13, h21⟩⟩)
          clear hy HK h36 h10 h13 h21
          go_wp2_with fail
          exact ⟨⟨j + 1, by omega, by rw [show ((j + 1 : Nat) : Int) = (j : Int) + 1 by omega], by trivial, HN⟩, by simp [intOf]; omega⟩
        · have hr := HSA.out (fun c hc => HK.out c (by rw [List.take_of_length_le (by rw [HSL.out]; exact hge2)]; exact hc))
          rw [HSL.out] at hr
          by_cases h200 : 200 < n
          · rw [if_pos h200] at hr
            obtain rfl : bl = 0 := by rw [← HBL.out, ← HBO.out, hr]; rfl
            obtain rfl : code = 3 := by rw [← HCO.out, hr]; rfl
            clear hr HK
            go_wp2_with fail
            refine con.mono ?_
            clear con
            rintro e w7 ⟨rfl, hb7⟩
            have HB7 := Lib.hid (HB5.out.trans (hb7.mono HB5.out.size))
            clear hb7
            go_wp2_with fail
            go_ret
            exact ⟨rfl, HB7.out⟩
          · rw [if_neg h200] at hr
            have hbs : bo = s := by rw [← HBO.out, hr]; rfl
            obtain rfl : code = 0 := by rw [← HCO.out, hr]; rfl
            have s1 := str_run HY5.out c5
            have s2 := str_run HS5.out c
            rw [hbs] at s1
            clear hr HK hbs
            generalize str s = st at *
            go_wp2_with fail
            refine con.mono ?_
            clear con
            rintro e w7 ⟨rfl, hb7⟩
            have HB7 := Lib.hid (HB5.out.trans (hb7.mono HB5.out.size))
            clear hb7
            go_wp2_with fail
            go_ret
            exact ⟨rfl, HB7.out⟩
end Go.Proofs.Ytamklllmjppinaa.Vars
