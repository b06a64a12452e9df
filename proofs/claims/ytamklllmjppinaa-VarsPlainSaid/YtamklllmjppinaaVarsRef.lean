/-
  The document's lines (layer 13): how long a name is; bytes that may be in a line.
-/
import Derived.Test.YtamklllmjppinaaVarsPure
import Derived.Test.YtamklllmjppinaaLexOne
namespace Go.Proofs.Ytamklllmjppinaa.Vars
open Go.RowKit
open Go.Proofs.Ytamklllmjppinaa.Lex (letter digit within b_ne drop_at Owb lit_one rowB run_cutMid bs_cut add_pos')
set_option linter.unusedVariables false
set_option linter.unusedSimpArgs false

/-- How far a name goes on, when n of its bytes are read. -/
def more (n : Nat) (l : List B) : Nat := if n = 0 then nameR l else (l.takeWhile within).length
theorem more_go {n : Nat} {x : B} {l : List B} (h : letter x = true ∨ 0 < n ∧ within x = true) : more n (x :: l) = 1 + more (n + 1) l := by
  unfold more
  rw [if_neg (show ¬ n + 1 = 0 by omega)]
  by_cases h0 : n = 0
  · rw [if_pos h0]
    have hl : letter x = true := by rcases h with h | h; exact h; omega
    rw [nameR_cons, if_pos hl]
  · rw [if_neg h0]
    have hw : within x = true := by rcases h with h | h; exact Lex.letter_within h; exact h.2
    rw [List.takeWhile_cons, if_pos hw, List.length_cons, Nat.add_comm]
theorem more_no {n : Nat} {x : B} {l : List B} (h1 : letter x = false) (h2 : n = 0 ∨ within x = false) : more n (x :: l) = 0 := by
  unfold more
  by_cases h0 : n = 0
  · rw [if_pos h0, nameR_cons, if_neg (by simp [h1])]
  · rw [if_neg h0]
    have hw : within x = false := by rcases h2 with h | h; exact absurd h h0; exact h
    rw [List.takeWhile_cons, if_neg (by simp [hw])]; rfl
theorem more_nil (n : Nat) : more n [] = 0 := by unfold more; split <;> rfl
set_option maxRecDepth 100000 in
set_option maxHeartbeats 2000000 in
theorem name_ (w : World) (B : Nat) (A : Option Addr) (n c : Nat) (s : List (BitVec 8)) (hs : Bs w B A n s) (hn : n ≤ 100000) (p : Nat) (hp : p ≤ n) :
    Calls Try.prog 12 #[.slice A n c, .int .i64 (p : Int)] w fun e w' => e = .returned (.int .i64 (nameR (s.drop p) : Int)) ∧ w = w' := by
  obtain ⟨K, hK⟩ : ∃ K, K = nameR (s.drop p) := ⟨_, rfl⟩
  rw [← hK]
  have HS := Lib.hid hs
  have HSL := Lib.hid hs.len
  have HK0 := Lib.hid (show K = 0 + more 0 (s.drop (p + 0)) by rw [hK, Nat.zero_add]; rfl)
  clear hs hK
  go_enter Try.func12, Try.ntmps12
  go_wp2_with fail
  go_loopw [5] (fun v5 wr => ∃ (k : Nat), p + k ≤ n ∧ v5 = .int .i64 (k : Int) ∧ w = wr ∧ Hid (K = k + more k (s.drop (p + k)))) (fun v5 _ => n - (intOf v5).toNat)
  case atStart => exact ⟨0, by omega, rfl, rfl, HK0⟩
  case round =>
    clear HK0
    obtain ⟨k, hk, rfl, rfl, HK⟩ := hrel
    rcases Nat.lt_or_ge (p + k) n with hlt | hge
    · obtain ⟨x, hx⟩ : ∃ x, s[p + k]? = some x := ⟨_, List.getElem?_eq_getElem (by rw [HSL.out]; exact hlt)⟩
      obtain ⟨bd, rfl, _, b0⟩ := HS.out.at_ hlt
      rw [List.getD_eq_getElem?_getD, hx] at b0
      change _ = some (v8 x) at b0
      have HGO := Lib.hid (fun (h : letter x = true ∨ 0 < k ∧ within x = true) => (show K = (k + 1) + more (k + 1) (s.drop (p + (k + 1))) by
        rw [HK.out, drop_at hx, more_go h, Nat.add_assoc p k 1]; omega))
      have HST := Lib.hid (fun (h1 : letter x = false) (h2 : k = 0 ∨ within x = false) => (show K = k by
        rw [HK.out, drop_at hx, more_no h1 h2]; rfl))
      clear hx HK
      by_cases h97 : 97 ≤ x.toNat
      · by_cases h122 : x.toNat ≤ 122
        · have HN := Lib.hid (HGO.out (.inl (by unfold letter; simp; omega)))
          go_wp2_with fail
          exact ⟨⟨k + 1, by omega, by rw [show ((k + 1 : Nat) : Int) = (k : Int) + 1 by omega], by trivial, HN⟩, by simp [intOf]; omega⟩
        · have hl : letter x = false := by unfold letter; simp; omega
          have z122 : decide ((x.toNat : Int) ≤ 122) = false := by simp; omega
          have z57 : decide ((x.toNat : Int) ≤ 57) = false := by simp; omega
          have z48 : decide ((48 : Int) ≤ (x.toNat : Int)) = true := by simp; omega
          have e95 : ((x.toNat : Int) == 95) = false := b_ne (k := 95) (by decide) (by rintro rfl; simp at h97)
          have hw : within x = false := by unfold within digit; rw [hl]; simp; exact ⟨by omega, by rintro rfl; simp at h97⟩
          have HN := Lib.hid (HST.out hl (.inr hw))
          go_wp2_with fail
          all_goals (go_ret; rw [HN.out]; exact ⟨rfl, rfl⟩)
      · have hl : letter x = false := by unfold letter; simp; omega
        by_cases h0 : k = 0
        · have HN := Lib.hid (HST.out hl (.inl h0))
          subst h0
          rw [Nat.add_zero] at b0
          go_wp2_with fail
          go_ret
          rw [HN.out]
          exact ⟨rfl, rfl⟩
        · have hk0 : 0 < k := by omega
          have zk : decide ((0 : Int) < (k : Int)) = true := by simp; omega
          by_cases h48 : 48 ≤ x.toNat ∧ x.toNat ≤ 57
          · obtain ⟨h48, h57⟩ := h48
            have HN := Lib.hid (HGO.out (.inr ⟨hk0, by unfold within digit; simp; omega⟩))
            have z57 : decide ((x.toNat : Int) ≤ 57) = true := by simp; omega
            go_wp2_with fail
            exact ⟨⟨k + 1, by omega, by rw [show ((k + 1 : Nat) : Int) = (k : Int) + 1 by omega], by trivial, HN⟩, by simp [intOf]; omega⟩
          · by_cases h95 : x = 95#8
            · have HN := Lib.hid (HGO.out (.inr ⟨hk0, by subst h95; decide⟩))
              subst h95
              go_wp2_with fail
              exact ⟨⟨k + 1, by omega, by rw [show ((k + 1 : Nat) : Int) = (k : Int) + 1 by omega], by trivial, HN⟩, by simp [intOf]; omega⟩
            · have hw : within x = false := by unfold within digit; rw [hl]; simp [h95]; omega
              have HN := Lib.hid (HST.out hl (.inr hw))
              have e95 : ((x.toNat : Int) == 95) = false := b_ne (k := 95) (by decide) h95
              by_cases h48' : 48 ≤ x.toNat
              · have z57 : decide ((x.toNat : Int) ≤ 57) = false := by simp; omega
                go_wp2_with fail
                go_ret
                rw [HN.out]
                exact ⟨rfl, rfl⟩
              · have z48 : decide ((48 : Int) ≤ (x.toNat : Int)) = false := by simp; omega
                go_wp2_with fail
                go_ret
                rw [HN.out]
                exact ⟨rfl, rfl⟩
    · have HN := Lib.hid (show K = k by rw [HK.out, List.drop_eq_nil_of_le (by rw [HSL.out]; exact hge), more_nil]; rfl)
      go_wp2_with fail
      go_ret
      rw [HN.out]
      exact ⟨rfl, rfl⟩
/-- What a call that appends to an own row leaves: all blocks but that row's; the row lies where it lay, or in a new block. -/
structure Fr (w w' : World) (A : Option Addr) (m c : Nat) (A0 : Option Addr) (m0 c0 : Nat) : Prop where
  keep : ∀ k, k < w.heap.size → (Value.slice A m c).ownBlock ≠ some k → w'.heap[k]? = w.heap[k]?
  row : ∀ g, (Value.slice A0 m0 c0).ownBlock = some g → (Value.slice A m c).ownBlock = some g ∨ w.heap.size ≤ g
theorem Fr.step {w w1 w3 : World} {A A0 A3 : Option Addr} {m c m0 c0 m3 c3 : Nat} {o : Obj} (h : Fr w w1 A m c A0 m0 c0) (hs : w.heap.size ≤ w1.heap.size) (hg : (w1.alloc o).grownBy w3 (Value.slice A0 m0 c0).ownBlock) (hr : (Value.slice A3 m3 c3).ownBlock = (Value.slice A0 m0 c0).ownBlock ∨ (Value.slice A3 m3 c3).ownBlock = some (w1.alloc o).heap.size) : Fr w w3 A m c A3 m3 c3 := by
  refine ⟨fun k hk hn => ?_, fun g hgg => ?_⟩
  · rw [hg.block k (by simp; omega) (fun e => by
      rcases h.row k e.symm with q | q
      · exact hn q
      · omega), Below.heap_alloc _ _ _ (by omega)]
    exact h.keep k hk hn
  · rcases hr with hr | hr
    · exact h.row g (by rw [← hr]; exact hgg)
    · rw [hr] at hgg
      injection hgg with hgg
      simp at hgg
      exact .inr (by omega)
/-- What add returns. -/
def AddSays (w : World) (B m : Nat) (o b : List (BitVec 8)) (e : Ending) (w' : World) : Prop := ∃ A' c', e = .returned (.slice A' (o ++ filt b).length c') ∧ Owb w' B A' (o ++ filt b).length c' (o ++ filt b) ∧ Below B w w'
set_option maxRecDepth 100000 in
set_option maxHeartbeats 2000000 in
theorem add_ (w : World) (B : Nat) (A : Option Addr) (m c : Nat) (o : List (BitVec 8)) (ho : Owb w B A m c o) (hB : B ≤ w.heap.size) (hm : m ≤ 10000000) (A' : Option Addr) (n c' : Nat) (b : List (BitVec 8)) (hb : Bp w (fun k => k < w.heap.size ∧ (Value.slice A m c).ownBlock ≠ some k) A' n b) (hn : n ≤ 100000) :
    Calls Try.prog 16 #[.slice A m c, .slice A' n c'] w (AddSays w B m o b) := by
  have HO0 := Lib.hid ho
  have HS := Lib.hid hb
  have HSL := Lib.hid hb.len
  have hol := ho.len
  clear ho hb
  go_enter Try.func16, Try.ntmps16
  go_wp2_with fail
  go_loopw [0, 5] (fun v0 v5 wr => ∃ (k m0 c0 : Nat) (A0 : Option Addr) (o0 : List (BitVec 8)), k ≤ n ∧ v5 = .int .i64 (k : Int) ∧ v0 = .slice A0 m0 c0 ∧ Owb wr B A0 m0 c0 o0 ∧ m0 ≤ m + k ∧ Hid (o0 = o ++ filt (b.take k)) ∧ Below B w wr ∧ Hid (Fr w wr A m c A0 m0 c0)) (fun _ v5 _ => n - (intOf v5).toNat)
  case atStart => exact ⟨0, m, c, A, o, Nat.zero_le _, rfl, rfl, HO0.out, by omega, Lib.hid (by simp [filt]), Below.refl _ _, Lib.hid ⟨fun _ _ _ => rfl, fun g h => .inl h⟩⟩
  case round =>
    clear HO0
    obtain ⟨k, m0, c0, A0, o0, hk, rfl, rfl, hoo, hmk, HE, hbw, HFR⟩ := hrel
    obtain ⟨W0, rfl⟩ : ∃ W0, W0 = wr := ⟨_, rfl⟩
    have HO := Lib.hid hoo
    have HB := Lib.hid hbw
    have hws := hbw.size
    clear hoo hbw
    rcases Nat.lt_or_ge k n with hlt | hge
    · obtain ⟨x, hx⟩ : ∃ x, b[k]? = some x := ⟨_, List.getElem?_eq_getElem (by rw [HSL.out]; exact hlt)⟩
      obtain ⟨bd, rfl, _, b0⟩ := (HS.out.keep (fun k hk _ => HFR.out.keep k hk.1 hk.2)).at_ hlt
      rw [List.getD_eq_getElem?_getD, hx] at b0
      change _ = some (v8 x) at b0
      have htk : b.take (k + 1) = b.take k ++ [x] := by rw [List.take_add_one, hx]; rfl
      have HNO := Lib.hid (fun (h : keep x = false) => (show o0 = o ++ filt (b.take (k + 1)) by rw [htk, filt_app, HE.out]; simp [filt, h]))
      have HYES := Lib.hid (fun (h : keep x = true) => (show o0 ++ [x] = o ++ filt (b.take (k + 1)) by rw [htk, filt_app, HE.out]; simp [filt, h]))
      clear hx htk
      have fin : True := trivial
      by_cases h10 : x = 10#8
      · have HN := Lib.hid (HNO.out (by subst h10; decide))
        subst h10
        go_wp2_with fail
        exact ⟨⟨k + 1, m0, c0, A0, o0, by omega, by rw [show ((k + 1 : Nat) : Int) = (k : Int) + 1 by omega], rfl, HO.out, by omega, HN, HB.out, HFR⟩, by simp [intOf]; omega⟩
      have e10 : ((x.toNat : Int) == 10) = false := b_ne (k := 10) (by decide) h10
      have n10 : ((x.toNat : Int) != 10) = true := by unfold bne; rw [e10]; rfl
      by_cases h13 : x = 13#8
      · have HN := Lib.hid (HNO.out (by subst h13; decide))
        subst h13
        go_wp2_with fail
        exact ⟨⟨k + 1, m0, c0, A0, o0, by omega, by rw [show ((k + 1 : Nat) : Int) = (k : Int) + 1 by omega], rfl, HO.out, by omega, HN, HB.out, HFR⟩, by simp [intOf]; omega⟩
      have e13 : ((x.toNat : Int) == 13) = false := b_ne (k := 13) (by decide) h13
      have n13 : ((x.toNat : Int) != 13) = true := by unfold bne; rw [e13]; rfl
      by_cases h21 : x = 21#8
      · have HN := Lib.hid (HNO.out (by subst h21; decide))
        subst h21
        go_wp2_with fail
        exact ⟨⟨k + 1, m0, c0, A0, o0, by omega, by rw [show ((k + 1 : Nat) : Int) = (k : Int) + 1 by omega], rfl, HO.out, by omega, HN, HB.out, HFR⟩, by simp [intOf]; omega⟩
      have e21 : ((x.toNat : Int) == 21) = false := b_ne (k := 21) (by decide) h21
      have n21 : ((x.toNat : Int) != 21) = true := by unfold bne; rw [e21]; rfl
      have HN := Lib.hid (HYES.out (by unfold keep; simp [h10, h13, h21]))
      have hbA : Below W0.heap.size W0 (W0.alloc (.cells #[v8 x] 5)) := (Below.refl _ _).alloc (Nat.le_refl _) _
      have HOA := Lib.hid (HO.out.below hbA)
      have HBA := Lib.hid (HB.out.trans (hbA.mono (Nat.le_trans hB hws)))
      have HSA := Lib.hid (lit_one W0 x)
      have hBA := Nat.le_trans hB HBA.out.size
      clear hbA h10 h13 h21
      go_wp2_with ((at_builtin; refine wpList_append_bs _ rfl _ _ 22 rfl B 5 rowB (.slice A0 m0 c0) m0 o0 rfl HOA.out (W0.heap.size + 1) (some ⟨W0.heap.size, 0, none⟩) 1 1 [x] rfl HSA.out (m0 + 1) (o0 ++ [x]) rfl rfl (by omega) hBA ?_; intro A3 c3 w3 o3 g3 r3; have HFR3 := Lib.hid (HFR.out.step HB.out.size g3 r3); have HO3 := Lib.hid (show Owb w3 B A3 (m0 + 1) c3 (o0 ++ [x]) from o3); have HB3 := Lib.hid (HBA.out.trans (HOA.out.grew g3 hBA)); clear o3 g3))
      exact ⟨⟨k + 1, m0 + 1, c3, A3, _, by omega, by rw [show ((k + 1 : Nat) : Int) = (k : Int) + 1 by omega], rfl, HO3.out, by omega, HN, HB3.out, HFR3⟩, by simp [intOf]; omega⟩
    · obtain rfl : k = n := by omega
      have hl0 := HO.out.len
      have HE2 := Lib.hid (show o0 = o ++ filt b by have := HE.out; rwa [List.take_of_length_le (by rw [HSL.out]; exact Nat.le_refl _)] at this)
      go_wp2_with fail
      go_ret
      refine ⟨A0, c0, ?_, ?_, HB.out⟩
      · rw [← HE2.out, hl0]; rfl
      · rw [← HE2.out, hl0]; exact HO.out
end Go.Proofs.Ytamklllmjppinaa.Vars
