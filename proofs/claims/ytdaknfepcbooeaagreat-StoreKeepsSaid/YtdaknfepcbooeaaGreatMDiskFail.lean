/-
  What slices.Clone of bools, and the program's Fail, come to.
-/
import Derived.Test.YtdaknfepcbooeaaGreatMDiskCalls
namespace Go.Proofs.YtdaknfepcbooeaaGreat.Disk
open Go.RowKit Go.Maps
set_option linter.unusedVariables false
set_option linter.unusedSimpArgs false

theorem infoBool : (Tryz.prog.info? 4).map (fun i => (i.zero, i.size, i.bytes)) = some (some (.bool false), 1, 1) := by kernel_rfl
theorem undBools : Tryz.prog.underlying 36 = some (.slice 4) := by kernel_rfl
theorem eql_nil_bools (w : World) (A : Option Addr) (n c : Nat) : (binOp .eql 36 (.slice A n c) (.slice none 0 0)).run Tryz.prog w = .ok (.bool A.isNone) w := Lib.run_eql_slice_nil w 36 4 A n c 0 0 undBools
theorem Bo.own {w : World} {base B n : Nat} {v : Value} {ks : List Bool} (h : w.ownsRow base 4 1 v n (ks.map Value.bool)) : Bo w B v ks := by
  have hl : ks.length = n := by have := h.1; simpa using this
  subst hl
  rcases h.2 with ⟨rfl, h0⟩ | ⟨g, cap, cur, rfl, hb, hg, hc, _, _, _⟩
  · exact ⟨none, 0, by rw [h0], by omega, fun h => by omega⟩
  · exact ⟨some ⟨g, 0, none⟩, cap, rfl, hc, fun _ => ⟨_, rfl, ⟨_, hg, .inr ⟨_, _, rfl⟩⟩, fun j k hj => World.ownsRow.cells h (g := g) rfl j (.bool k) (by rw [List.getElem?_map, hj]; rfl)⟩⟩

set_option maxRecDepth 100000 in
set_option maxHeartbeats 1000000 in
theorem clone_bools (w : World) (B : Nat) (A : Option Addr) (n c : Nat) (ks : List Bool) (h : Bo w B (.slice A n c) ks) (hn : n ≤ 100000) :
    Calls Tryz.prog 47 #[.slice A n c] w fun r w' => ∃ A' c', r = .returned (.slice A' n c') ∧ Bo w' B (.slice A' n c') ks ∧ Below w.heap.size w w' := by
  obtain ⟨A0, c0, e, hc, hcell⟩ := h
  cases e
  cases A with
  | none =>
    have hk0 : ks = [] := by
      rcases Nat.eq_zero_or_pos ks.length with h0 | h0
      · exact List.length_eq_zero_iff.1 h0
      · obtain ⟨ad, h', _⟩ := hcell h0; cases h'
    subst hk0
    have q := fun n : Nat => eql_nil_bools w none n c
    clear hcell
    go_enter Tryz.func47, Tryz.ntmps47
    go_wp2_with fail
    go_ret
    exact ⟨none, 0, rfl, Bo.nil_ _ _, Below.refl _ _⟩
  | some a =>
    have q := fun n : Nat => eql_nil_bools w (some a) n c
    obtain ⟨i0, hi0, hz0, hz1, hz2⟩ := info_parts infoBool
    have HC := Lib.hid hcell
    have hcl : ∀ j u, (ks.map Value.bool)[j]? = some u → (w.alloc (.cells #[] 4)).cell? (a.add j) = some u := fun j u hu => by
      have hj : j < ks.length := by
        rcases Nat.lt_or_ge j ks.length with h | h
        · exact h
        · rw [List.getElem?_eq_none (by simpa using h)] at hu; cases hu
      obtain ⟨ad, e, ⟨o, ho, _⟩, h1⟩ := HC.out (by omega)
      cases e
      rw [List.getElem?_map, List.getElem?_eq_getElem hj] at hu
      cases hu
      rw [World.cell?_of_block (by rw [add_block]; exact Below.heap_alloc w _ _ (Array.getElem?_eq_some_iff.1 ho).1 : (w.alloc (.cells #[] 4)).heap[(a.add j).block]? = w.heap[(a.add j).block]?)]
      exact h1 j _ (List.getElem?_eq_getElem hj)
    have o0 : (w.alloc (.cells #[] 4)).ownsRow w.heap.size 4 1 (.slice (some ⟨w.heap.size, 0, none⟩) 0 0) 0 [] := World.ownsRow_lit w #[] 0 (Nat.le_refl _) (Nat.zero_le _) rfl
    have h63 : 0 + ks.length ≤ maxLen := by unfold maxLen; omega
    have hone : ∀ u ∈ ks.map Value.bool, u.oneCell' = true := by intro u hu; obtain ⟨x, _, rfl⟩ := List.mem_map.1 hu; rfl
    have HCL := Lib.hid hcl
    have HO0 := Lib.hid o0
    have HI := Lib.hid hi0
    have HZ0 := Lib.hid hz0
    have HZ1 := Lib.hid hz1
    have HZ2 := Lib.hid hz2
    have HON := Lib.hid hone
    clear hcell hcl o0 HC hi0 hz0 hz1 hz2 hone
    go_enter Tryz.func47, Tryz.ntmps47
    go_wp2_with ((at_builtin; refine wpList_append_own_at _ rfl _ _ 36 rfl w.heap.size 4 i0 _ 1 1 undBools HI.out HZ0.out HZ1.out HZ2.out rfl (by decide) _ 0 [] rfl HO0.out a ks.length c (ks.map Value.bool) rfl (by simp) HCL.out HON.out h63 (by omega) (by simp) ?_; intro v' w' h2 h3 _ _; have H2 := Lib.hid h2; have H3 := Lib.hid h3; clear h2 h3))
    go_ret
    have h2 := H2.out
    rw [Nat.zero_add, List.nil_append] at h2
    obtain ⟨A', c', rfl⟩ : ∃ A' c', v' = .slice A' ks.length c' := by
      rcases h2.2 with ⟨rfl, h0⟩ | ⟨g, cap, cur, rfl, _⟩
      · exact ⟨none, 0, by rw [show ks.length = 0 by omega]⟩
      · exact ⟨_, _, rfl⟩
    exact ⟨A', c', rfl, Bo.own h2, Below.grown ((Below.refl _ _).alloc (Nat.le_refl _) _) H3.out (by simp) (by intro g hg; cases hg; exact Nat.le_refl _)⟩

set_option maxRecDepth 100000 in
set_option maxHeartbeats 1000000 in
theorem fail_call (w : World) (B d : Nat) (m : M) (s : Int) (hs : s < 9223372036854775808) (keepV : Value) (ks : List Bool) (h : Dk w B d m) (hk : Bo w B keepV ks) (hB : B ≤ w.heap.size) (hks : ks.length ≤ maxLen) :
    Calls Tryz.prog 17 #[.pointer (some ⟨d, 0, none⟩), .int .i64 s, keepV] w (Done w B d (fail m s ks)) := by
  obtain ⟨b, vs, kv, h⟩ := h
  obtain ⟨k0, k1, k2, k3, k4⟩ := Cel.at0 h.cel
  obtain ⟨f0, f1, f2, f3, f4⟩ := Cel.free5 h.cel
  obtain ⟨kA, kc, rfl, hkc, hkn⟩ := id hk
  unfold maxLen at hks
  by_cases hneg : s < 0
  · have hc := (h.cel.set 3 (.int .i64 (-1))).set 4 (.slice none 0 0)
    have hg := (grown_setCell w ⟨d, 3, none⟩ (.int .i64 (-1))).andThen (grown_setCell _ ⟨d, 4, none⟩ (.slice none 0 0)) (fun j hj => .inr hj)
    obtain ⟨q1, q2⟩ := h.head hg m.off none (.slice none 0 0) hc (by simp) (by simp)
    have Q1 := Lib.hid q1
    have Q2 := Lib.hid q2
    unfold fail
    rw [if_pos hneg]
    clear h hk hkc hkn hc hg q1 q2 k0 k1 k2 f0 f1 f2
    go_enter Tryz.func17, Tryz.ntmps17
    go_wp2_with fail
    exact bodyPost_ret (results_none rfl _ _ _) rfl ⟨rfl, ⟨_, _, _, Q1.out⟩, Q2.out⟩
  · have hroom := h.inv.room
    obtain ⟨r, hr⟩ : ∃ r, r = min ks.length m.room := ⟨_, rfl⟩
    have hr1 : r ≤ ks.length := by omega
    have hr2 : r ≤ 1000 := by omega
    have hr3 : min (ks.length : Int) (m.room : Int) = (r : Int) := by omega
    have hr4 : ks.take m.room = ks.take r := by
      rw [hr]
      rcases Nat.le_total ks.length m.room with h | h
      · rw [Nat.min_eq_left h, List.take_of_length_le h, List.take_of_length_le (Nat.le_refl _)]
      · rw [Nat.min_eq_right h]
    have hkr : Bo w B (.slice kA r kc) (ks.take r) := by
      have hl : (ks.take r).length = r := by rw [List.length_take]; omega
      refine ⟨kA, kc, by rw [hl], by omega, fun h0 => ?_⟩
      obtain ⟨ad, e, ho, h1⟩ := hkn (by omega)
      refine ⟨ad, e, ho, fun j k hj => h1 j k ?_⟩
      rw [List.getElem?_take] at hj
      split at hj
      · exact hj
      · cases hj
    have con := clone_bools w B kA r kc (ks.take r) hkr (by omega)
    unfold fail
    rw [if_neg hneg]
    have HH := Lib.hid h
    have HK := Lib.hid hk
    have HR := Lib.hid hr
    have HR3 := Lib.hid hr3
    have HR4 := Lib.hid hr4
    clear h hk hr hr3 hr4 hkn hkr
    go_enter Tryz.func17, Tryz.ntmps17
    go_wp2_with fail
    rw [HR3.out, Int.toNat_natCast]
    refine con.mono ?_
    clear con
    rintro e w1 ⟨A', c', rfl, hbo, hbl⟩
    have h1 := HH.out.below hbl
    obtain ⟨k0, k1, k2, k3, k4⟩ := Cel.at0 h1.cel
    obtain ⟨f0, f1, f2, f3, f4⟩ := Cel.free5 h1.cel
    have hc := (h1.cel.set 3 (.int .i64 s)).set 4 (.slice A' r c')
    have hg := (grown_setCell w1 ⟨d, 3, none⟩ (.int .i64 s)).andThen (grown_setCell _ ⟨d, 4, none⟩ (.slice A' r c')) (fun j hj => .inr hj)
    have es : (s.toNat : Int) = s := by omega
    obtain ⟨q1, q2⟩ := h1.head hg m.off (some (s.toNat, ks)) (.slice A' r c') (by show Cel _ d _ [_, _, _, .int .i64 (s.toNat : Int), _]; rw [es]; exact hc) (fun k l e => by cases e; omega) (fun k l e => by
      cases e
      rw [HR4.out]
      exact hbo.chg (T := Dob) (B := B) ((Chg.refl B Dob w1).grown hg fun g e => by cases e; exact .inr ⟨h1.own.1, _, h1.cel, .inl rfl⟩) (by rintro cs fz (h | h) <;> revert h <;> decide))
    have Q1 := Lib.hid q1
    have Q2 := Lib.hid q2
    have HBL := Lib.hid hbl
    clear h1 hc hg es q1 q2 hbo hbl k0 k1 k2 f0 f1 f2
    go_wp2_with fail
    go_end0
    exact ⟨rfl, ⟨_, _, _, Q1.out⟩, (Chg.of_below HBL.out).trans Q2.out⟩
end Go.Proofs.YtdaknfepcbooeaaGreat.Disk
