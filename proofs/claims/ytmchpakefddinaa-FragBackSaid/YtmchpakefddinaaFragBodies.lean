/-
  What frag.bodies comes to.
-/
import Derived.Test.YtmchpakefddinaaFragSmall
namespace Go.Proofs.Ytmchpakefddinaa.Frag
open Go.RowKit
set_option linter.unusedVariables false

/-- The bodies, one after the other. -/
def whole (xs : List Pv) : List (BitVec 8) := xs.flatMap (·.p.body)
theorem whole_take {xs : List Pv} {k : Nat} {x : Pv} (h : xs[k]? = some x) : whole (xs.take (k + 1)) = whole (xs.take k) ++ x.p.body := by
  rw [List.take_add_one, h, whole, whole, List.flatMap_append]
  simp
theorem whole_le (xs : List Pv) (k : Nat) : (whole (xs.take k)).length ≤ (whole xs).length := by
  conv => rhs; rw [← List.take_append_drop k xs]
  rw [whole, whole, List.flatMap_append, List.length_append]
  omega

theorem own_base {w : World} {base e size n : Nat} {v : Value} {xs : List Value} (h : w.ownsRow base e size v n xs) : ∀ g, v.ownBlock = some g → base ≤ g := by
  intro g hv
  rcases h.2 with ⟨rfl, _⟩ | ⟨g', cap, cur, rfl, hb, _⟩
  · simp [Value.ownBlock] at hv
  · obtain rfl : g' = g := by simpa [Value.ownBlock] using hv
    exact hb

set_option maxRecDepth 100000 in
set_option maxHeartbeats 2000000 in
theorem bodies (A : Option Addr) (n c : Nat) (xs : List Pv) (w : World) (B : Nat) (h : Pr w B A n xs) (hB : B ≤ w.heap.size) (hc : n ≤ c) (hm : n ≤ 4096) (hw : (whole xs).length ≤ 140737488355328) :
    Calls Try.prog 15 #[.slice A n c] w fun r w' => ∃ A' c', r = .returned (.slice A' (whole xs).length c') ∧ By w' A' (whole xs).length (whole xs) ∧ Below w.heap.size w w' := by
  have H := Lib.hid h
  have HW := Lib.hid hw
  clear h hw
  go_enter Try.func15, Try.ntmps15
  go_wp2_with fail
  go_loopw [3, 8] (fun v i wr => ∃ k : Nat, k ≤ n ∧ i = .int .i64 (k : Int) ∧ (∃ A' c', v = .slice A' (whole (xs.take k)).length c') ∧ wr.ownsRow w.heap.size 5 1 v (whole (xs.take k)).length ((whole (xs.take k)).map v8) ∧ Below w.heap.size w wr) (fun _ i _ => n - (intOf i).toNat)
  case atStart => exact ⟨0, Nat.zero_le _, rfl, ⟨none, 0, rfl⟩, World.ownsRow_nil _ _ _ _, Below.refl _ _⟩
  case round =>
    obtain ⟨k, hk, rfl, ⟨A', c', rfl⟩, ho, hb⟩ := hrel
    have sb := hb.size
    have hkm : k ≤ 4096 := by omega
    by_cases hlt : k < n
    · obtain ⟨ad, x, rfl, hx, hxb, hl, c0, c1, c2, c3⟩ := (H.out.below (hb.mono hB)).at_ hlt
      have HT := Lib.hid (whole_take hx)
      have hle := whole_le xs (k + 1)
      rw [HT.out, List.length_append] at hle
      have HLE := Lib.hid (Nat.le_trans hle HW.out)
      have HBL := Lib.hid (hxb.alloc (Nat.le_trans hB sb) (.cells #[v32 x.p.epoch, v32 x.p.seq, .int .i64 x.p.flags, .slice x.A x.p.body.length x.c] 35))
      obtain ⟨⟨e, s, f, bs⟩, xA, xc⟩ := x
      dsimp only at *
      have HO := Lib.hid ho
      have HB := Lib.hid hb
      clear hx hxb hb hl ho hle
      generalize whole (xs.take k) = T at *
      generalize hTn : T.length = m at *
      have HM := Lib.hid hTn
      clear hTn
      go_wp2_with ((at_builtin; refine wpList_append_bs _ rfl _ _ 22 rfl w.heap.size 5 bytesT (.slice A' m c') m T rfl (HO.out.alloc _) B xA bs.length xc bs rfl HBL.out (m + bs.length) (T ++ bs) rfl rfl HLE.out (by simp; omega) ?_; intro A3 c3' w3 o3 g3 _))
      go_roundw
      case rel =>
        refine ⟨k + 1, by omega, by go_num, ⟨A3, c3', ?_⟩, ?_, ?_⟩
        · rw [HT.out, List.length_append, HM.out]
        · rw [HT.out, List.length_append, HM.out]; exact o3
        · exact (HB.out.alloc sb _).grown g3 (by simp; omega) (own_base HO.out)
      case measure => simp [intOf]; omega
    · obtain rfl : k = n := by omega
      have HE := Lib.hid (show xs.take k = xs from List.take_of_length_le (by rw [H.out.len]; exact Nat.le_refl _))
      rw [HE.out] at ho
      have HO := Lib.hid ho
      clear ho
      go_wp2_with fail
      go_ret
      exact ⟨A', c', by rw [HE.out]; rfl, By.of_own HO.out, hb⟩
end Go.Proofs.Ytmchpakefddinaa.Frag
