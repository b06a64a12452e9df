/-
  The document's parser of patterns (layer 8): the bytes of a set's items; the classes.
-/
import Derived.Test.YtjpbndpfbdfhjaaMRegRef
namespace Go.Proofs.Ytjpbndpfbdfhjaa.Reg
open Go.RowKit
set_option linter.unusedVariables false
set_option linter.unusedSimpArgs false

theorem setByte_esc {s : List (BitVec 8)} {k : Nat} (h : s[k]? = some 92#8) : setByte s k 0#8 = escd s (k + 1) := by
  unfold setByte escd
  rw [if_pos h]
  rcases s[k + 1]? with _ | c
  · rfl
  · dsimp only
    rcases escB c with _ | y
    · rfl
    · dsimp only
      rw [if_neg (by simp)]
/-- An item's second byte: the byte alone, and that it is not less than the first one. -/
theorem setByte_least (s : List (BitVec 8)) (k : Nat) (a : BitVec 8) : setByte s k a = match setByte s k 0#8 with
    | .error e => .error e
    | .ok (b, j) => if b.toNat < a.toNat then .error (j - 1) else .ok (b, j) := by
  by_cases h92 : s[k]? = some 92#8
  · rcases h1 : s[k + 1]? with _ | y
    · rw [setByte_e1 h92 h1, setByte_e1 h92 h1]
    · rcases h2 : escB y with _ | z
      · rw [setByte_e2 h92 h1 h2, setByte_e2 h92 h1 h2]
      · rw [setByte_o3 (least := 0#8) h92 h1 h2 (by simp)]
        dsimp only
        by_cases h3 : z.toNat < a.toNat
        · rw [setByte_e3 h92 h1 h2 h3, if_pos h3]; rfl
        · rw [setByte_o3 h92 h1 h2 h3, if_neg h3]
  · rcases h1 : s[k]? with _ | y
    · rw [setByte_e4 h1, setByte_e4 h1]
    · have h9 : y ≠ 92#8 := fun e => h92 (by rw [h1, e])
      by_cases h2 : y = 93#8 ∨ y = 45#8 ∨ y = 94#8
      · have h3 : ∀ l : BitVec 8, y = 93#8 ∨ y = 45#8 ∨ y = 94#8 ∨ y.toNat < l.toNat := fun l => by
          rcases h2 with q | q | q
          · exact .inl q
          · exact .inr (.inl q)
          · exact .inr (.inr (.inl q))
        rw [setByte_e5 h1 h9 (h3 a), setByte_e5 h1 h9 (h3 0#8)]
      · rw [setByte_o5 (least := 0#8) h1 h9 (fun q => by
          rcases q with q | q | q | q
          · exact h2 (.inl q)
          · exact h2 (.inr (.inl q))
          · exact h2 (.inr (.inr q))
          · simp at q)]
        dsimp only
        by_cases h3 : y.toNat < a.toNat
        · rw [setByte_e5 h1 h9 (.inr (.inr (.inr h3))), if_pos h3]; rfl
        · rw [setByte_o5 h1 h9 (fun q => by
            rcases q with q | q | q | q
            · exact h2 (.inl q)
            · exact h2 (.inr (.inl q))
            · exact h2 (.inr (.inr q))
            · exact h3 q), if_neg h3]

set_option maxRecDepth 100000 in
set_option maxHeartbeats 1000000 in
theorem rone (w : World) (B b : Nat) (A : Option Addr) (n c p k : Nat) (s : List (BitVec 8)) (h : Rc w b (.slice A n c) 0 p) (hs : Bs w B A n s) (hB : B ≤ b) (hk : k ≤ n) (hn : n ≤ 100000) :
    Calls Try.prog 78 #[.pointer (some ⟨b, 0, none⟩), .int .i64 (k : Int)] w (RbSays w b (.slice A n c) p n (setByte s k 0#8)) := by
  have h0 := Cel.cell h 0
  have hl := hs.len
  have H := Lib.hid h
  have HS := Lib.hid hs
  rcases Nat.lt_or_ge k n with hlt | hge
  · obtain ⟨ad, rfl, _, hc⟩ := hs.at_ hlt
    have e : s[k]? = some (s.getD k 0#8) := by rw [List.getD_eq_getElem?_getD, List.getElem?_eq_getElem (by omega)]; rfl
    generalize s.getD k 0#8 = y at *
    have d1 : decide (n ≤ k) = false := by simp; omega
    have HE := Lib.hid e
    clear h hs e
    by_cases h9 : y = 92#8
    · subst h9
      rw [setByte_esc HE.out]
      have con := rescaped w B b _ n c p (k + 1) s H.out HS.out (by omega) hn
      go_enter Try.func78, Try.ntmps78
      go_wp2_with fail
      have con2 := con
      rw [show ((k + 1 : Nat) : Int) = (k : Int) + 1 by omega] at con2
      refine con2.mono ?_
      clear con con2
      rintro e w1 hsay
      generalize escd s (k + 1) = r at *
      rcases r with q | ⟨z, j⟩
      · obtain ⟨u, j, rfl, hj, hra⟩ := hsay
        have HRA := Lib.hid hra
        clear hra
        go_wp2_with fail
        go_ret2
        exact ⟨u, j, rfl, hj, HRA.out⟩
      · obtain ⟨rfl, hra⟩ := hsay
        have HRA := Lib.hid hra
        clear hra
        go_wp2_with fail
        go_ret2
        exact ⟨rfl, HRA.out⟩
    have d2 : ((y.toNat : Int) == 92) = false := by rw [show ((y.toNat : Int) == 92) = decide (y = 92#8) from v8_lit (by decide)]; exact decide_eq_false h9
    have e1 : ((y.toNat : Int) == 93) = decide (y = 93#8) := v8_lit (by decide)
    have e2 : ((y.toNat : Int) == 45) = decide (y = 45#8) := v8_lit (by decide)
    have e3 : ((y.toNat : Int) == 94) = decide (y = 94#8) := v8_lit (by decide)
    have H9 := Lib.hid h9
    clear h9
    by_cases h2 : y = 93#8 ∨ y = 45#8 ∨ y = 94#8
    · rw [setByte_e5 HE.out H9.out (h2.elim .inl fun q => q.elim (fun q => .inr (.inl q)) fun q => .inr (.inr (.inl q)))]
      have con := rwrong w b _ k 2 p H.out
      clear e1 e2 e3 d2 H9
      rcases h2 with rfl | rfl | rfl
      all_goals
        go_enter Try.func78, Try.ntmps78
        go_wp2_with fail
        refine con.mono ?_
        rintro e w2 ⟨rfl, hra⟩
        have HRA := Lib.hid hra
        clear hra
        go_wp2_with fail
        go_ret2
        exact ⟨_, k + 1, rfl, by omega, HRA.out⟩
    · rw [setByte_o5 HE.out H9.out (fun q => by
          rcases q with q | q | q | q
          · exact h2 (.inl q)
          · exact h2 (.inr (.inl q))
          · exact h2 (.inr (.inr q))
          · simp at q)]
      rw [decide_eq_false (fun q => h2 (.inl q))] at e1
      rw [decide_eq_false (fun q => h2 (.inr (.inl q)))] at e2
      rw [decide_eq_false (fun q => h2 (.inr (.inr q)))] at e3
      clear h2
      go_enter Try.func78, Try.ntmps78
      go_wp2_with fail
      go_ret2
      exact ⟨rfl, Ra.refl H.out⟩
  · obtain rfl : k = n := by omega
    have e : s[k]? = none := List.getElem?_eq_none (by omega)
    rw [setByte_e4 e]
    clear h hs e
    go_enter Try.func78, Try.ntmps78
    go_wp2_with fail
    refine (rwrong w b _ k 2 p H.out).mono ?_
    rintro e w2 ⟨rfl, hra⟩
    have HRA := Lib.hid hra
    clear hra
    go_wp2_with fail
    go_ret2
    exact ⟨0#8, k, rfl, by omega, HRA.out⟩

/-- A slice of the document's spans. -/
def RSpn (w : World) (A : Option Addr) (l : List Sp) : Prop := Ry 61 w A (sflat l)
theorem rinfoSpan : (Try.prog.info? 61).map (fun i => (i.zero, i.size, i.bytes)) = some (some (.agg #[.int .u8 0, .int .u8 0]), 2, 2) := by kernel_rfl
theorem rrowSpan : ElemRow Try.prog 57 61 2 2 := ElemRow.mk' Try.underlying57 rinfoSpan rfl (by decide)

set_option maxRecDepth 100000 in
set_option maxHeartbeats 1000000 in
theorem rclass (w : World) (x : BitVec 8) :
    Calls Try.prog 66 #[v8 x] w fun e w' => ∃ A c, e = .returned (.slice A (classOf x).length c) ∧ RSpn w' A (classOf x) ∧ Below w.heap.size w w' := by
  by_cases h1 : x = 100#8
  · subst h1
    have hsrc := Lib.hid (Ry.src (m := 1) (Ry.of_cel (Cel.new w 61 [.int .u8 48, .int .u8 57])) (by simp))
    have HB := Lib.hid ((Below.refl w.heap.size w).alloc (Nat.le_refl _) (.cells #[.int .u8 48, .int .u8 57] 61))
    go_enter Try.func66, Try.ntmps66
    go_wp2_with ((at_builtin; refine wpList_append_any _ rfl _ _ 57 rfl w.heap.size 61 rrowSpan (.slice none 0 0) 0 [] rfl (World.ownsRow_nil _ _ _ _) (some ⟨w.heap.size, 0, none⟩) 1 1 [.int .u8 48, .int .u8 57] rfl rfl hsrc.out (by intro u hu; simp at hu; rcases hu with rfl | rfl <;> rfl) 1 [.int .u8 48, .int .u8 57] rfl rfl (by unfold maxLen; omega) (by omega) (by simp) ?_; intro A8 c8 w8 ho8 hg8 _))
    go_ret
    exact ⟨A8, c8, rfl, Ry.of_own ho8 (by decide), HB.out.grown hg8 HB.out.size (by intro g e; cases e)⟩
  by_cases h3 : x = 115#8
  · subst h3
    have hsrc := Lib.hid (Ry.src (m := 2) (Ry.of_cel (Cel.new w 61 [.int .u8 9, .int .u8 13, .int .u8 32, .int .u8 32])) (by simp))
    have HB := Lib.hid ((Below.refl w.heap.size w).alloc (Nat.le_refl _) (.cells #[.int .u8 9, .int .u8 13, .int .u8 32, .int .u8 32] 61))
    go_enter Try.func66, Try.ntmps66
    go_wp2_with ((at_builtin; refine wpList_append_any _ rfl _ _ 57 rfl w.heap.size 61 rrowSpan (.slice none 0 0) 0 [] rfl (World.ownsRow_nil _ _ _ _) (some ⟨w.heap.size, 0, none⟩) 2 2 [.int .u8 9, .int .u8 13, .int .u8 32, .int .u8 32] rfl rfl hsrc.out (by intro u hu; simp at hu; rcases hu with rfl | rfl | rfl | rfl <;> rfl) 2 [.int .u8 9, .int .u8 13, .int .u8 32, .int .u8 32] rfl rfl (by unfold maxLen; omega) (by omega) (by simp) ?_; intro A8 c8 w8 ho8 hg8 _))
    go_ret
    exact ⟨A8, c8, rfl, Ry.of_own ho8 (by decide), HB.out.grown hg8 HB.out.size (by intro g e; cases e)⟩
  by_cases h2 : x = 119#8
  · subst h2
    have hsrc := Lib.hid (Ry.src (m := 1) (Ry.of_cel (Cel.new w 61 [.int .u8 48, .int .u8 57])) (by simp))
    have HB := Lib.hid ((Below.refl w.heap.size w).alloc (Nat.le_refl _) (.cells #[.int .u8 48, .int .u8 57] 61))
    go_enter Try.func66, Try.ntmps66
    go_wp2_with (first | (at_builtin; refine wpList_append_any _ rfl _ _ 57 rfl w.heap.size 61 rrowSpan (.slice none 0 0) 0 [] rfl (World.ownsRow_nil _ _ _ _) (some ⟨w.heap.size, 0, none⟩) 1 1 [.int .u8 48, .int .u8 57] rfl rfl hsrc.out (by intro u hu; simp at hu; rcases hu with rfl | rfl <;> rfl) 1 [.int .u8 48, .int .u8 57] rfl rfl (by unfold maxLen; omega) (by omega) (by simp) ?_; intro A8 c8 w8 ho8 hg8 _; have hb8 := Lib.hid (HB.out.grown hg8 HB.out.size (by intro g e; cases e)); have hs8 := hb8.out.size; have hsr8 := Lib.hid (Ry.src (m := 3) (Ry.of_cel (Cel.new w8 61 [.int .u8 65, .int .u8 90, .int .u8 95, .int .u8 95, .int .u8 97, .int .u8 122])) (by simp)); have HO8 := Lib.hid (World.ownsRow.alloc ho8 (.cells #[.int .u8 65, .int .u8 90, .int .u8 95, .int .u8 95, .int .u8 97, .int .u8 122] 61)); clear ho8 hg8) | (at_builtin; refine wpList_append_any _ rfl _ _ 57 rfl w.heap.size 61 rrowSpan (.slice A8 1 c8) 1 [.int .u8 48, .int .u8 57] rfl HO8.out (some ⟨w8.heap.size, 0, none⟩) 3 3 [.int .u8 65, .int .u8 90, .int .u8 95, .int .u8 95, .int .u8 97, .int .u8 122] rfl rfl hsr8.out (by intro u hu; simp at hu; rcases hu with rfl | rfl | rfl | rfl | rfl | rfl <;> rfl) 4 [.int .u8 48, .int .u8 57, .int .u8 65, .int .u8 90, .int .u8 95, .int .u8 95, .int .u8 97, .int .u8 122] rfl rfl (by unfold maxLen; omega) (by omega) (by simp; omega) ?_; intro A9 c9 w9 ho9 hg9 _))
    go_ret
    exact ⟨A9, c9, rfl, Ry.of_own ho9 (by decide), (hb8.out.alloc hs8 _).grown hg9 (by simp; omega) (own_ge HO8.out)⟩
  have e1 : ((x.toNat : Int) == 100) = false := by rw [show ((x.toNat : Int) == 100) = decide (x = 100#8) from v8_lit (by decide)]; exact decide_eq_false h1
  have e2 : ((x.toNat : Int) == 119) = false := by rw [show ((x.toNat : Int) == 119) = decide (x = 119#8) from v8_lit (by decide)]; exact decide_eq_false h2
  have e3 : ((x.toNat : Int) == 115) = false := by rw [show ((x.toNat : Int) == 115) = decide (x = 115#8) from v8_lit (by decide)]; exact decide_eq_false h3
  have e : classOf x = [] := by unfold classOf; rw [if_neg h1, if_neg h2, if_neg h3]
  rw [e]
  clear h1 h2 h3 e
  go_enter Try.func66, Try.ntmps66
  go_wp2_with fail
  go_ret
  exact ⟨_, _, rfl, Ry.nil_, Below.refl _ _⟩
end Go.Proofs.Ytjpbndpfbdfhjaa.Reg
