/-
  The program's cutter (layer 11): between tokens, whatever the entrances.
-/
import Derived.Test.YtadfoilbcipdjaaLexMake
namespace Go.Proofs.Ytadfoilbcipdjaa.Lex
open Go.RowKit
set_option linter.unusedVariables false
set_option linter.unusedSimpArgs false

/-- Between tokens: of the first entrances that there are the k-th is the first that fits. -/
def Fits (w : World) (eb : Nat) (kf ke : Nat → Nat) (cf : Nat → Array Value) : Prop := ∀ i, i < 5 → w.cell? ⟨eb, i * 2, none⟩ = some (.func (.func (kf i)) #[] (cf i)) ∧ w.cell? ⟨eb, i * 2 + 1, none⟩ = some (fv (ke i))
set_option maxRecDepth 100000 in
set_option maxHeartbeats 1000000 in
theorem between_at {w : World} {g eb k : Nat} {A : Option Addr} {m c : Nat} {p z : Int} {kf ke : Nat → Nat} {cf : Nat → Array Value} {Post : Ending → World → Prop} (b : BitVec 8) (hk : k ≤ 5) (hc : Pcc w g (.slice (some ⟨eb, 0, none⟩) 5 5) A m c p z) (hf : Fits w eb kf ke cf)
    (hF : ∀ i, i < 5 → ∀ args W, (callFunc (kf i) args).run Try.prog W = .ok (.enter (kf i) args) W) (hE : ∀ i, i < 5 → ∀ args W, (callFunc (ke i) args).run Try.prog W = .ok (.enter (ke i) args) W)
    (conF : ∀ i, i < 5 → i ≤ k → ∀ W, Below w.heap.size w W → Calls Try.prog (kf i) (#[v8 b] ++ cf i) W fun e w' => e = .returned (.bool (decide (i = k))) ∧ w' = W)
    (conE : k < 5 → ∀ W, Below w.heap.size w W → Calls Try.prog (ke k) #[.pointer (some ⟨g, 0, none⟩), v8 b] W fun e w' => (∃ v, e = .returned v) ∧ Post e w')
    (con5 : k = 5 → ∀ W, Below w.heap.size w W → Calls Try.prog 28 #[.pointer (some ⟨g, 0, none⟩), .int .i64 p] W fun e w' => (∃ v, e = .returned v) ∧ Post e w') :
    Calls Try.prog 10 #[.pointer (some ⟨g, 0, none⟩), v8 b] w Post := by
  have k0 := Cel.cell hc 0
  have HC := Lib.hid hc
  have HFT := Lib.hid hf
  have CF := Lib.hid conF
  have CE := Lib.hid conE
  have C5 := Lib.hid con5
  have RF := Lib.hid hF
  have RE := Lib.hid hE
  have hst := fun (W : World) (a : Addr) (fn : Fn) (x y : Array Value) (m : Mode) => run_store_fn (P := Try.prog) W a fn x y m
  clear hc hf conF conE con5 hF hE
  go_enter Try.func10, Try.ntmps10
  go_wp2_with fail
  go_loopw [12] (fun v12 wr => ∃ i : Nat, i ≤ k ∧ v12 = .int .i64 (i : Int) ∧ Below w.heap.size w wr) (fun v12 _ => 6 - (intOf v12).toNat)
  case atStart => exact ⟨0, Nat.zero_le _, rfl, Below.refl _ _⟩
  case round =>
    obtain ⟨i, hi, rfl, hb⟩ := hrel
    obtain ⟨W0, rfl⟩ : ∃ W0, W0 = wr := ⟨_, rfl⟩
    have HB := Lib.hid hb
    rcases Nat.lt_or_ge i 5 with h5 | h5
    · obtain ⟨f0, f1⟩ := HFT.out i h5
      have f0 := (hb.cell (cell_lt f0)).trans f0
      have f1 := (hb.cell (cell_lt f1)).trans f1
      have rf := RF.out i h5
      have re := RE.out i h5
      have hlt : decide ((i : Int) < 5) = true := by simp; omega
      clear hb
      have hb2 : Below W0.heap.size W0 (W0.alloc (.cells #[.func (.func (kf i)) #[] (cf i), fv (ke i)] 58)) := (Below.refl _ _).alloc (Nat.le_refl _) _
      have hbw : Below w.heap.size w (W0.alloc (.cells #[.func (.func (kf i)) #[] (cf i), fv (ke i)] 58)) := HB.out.trans (hb2.mono HB.out.size)
      have con := CF.out i h5 hi _ hbw
      rcases Nat.lt_or_ge i k with hik | hik
      · rw [show decide (i = k) = false by simp; omega] at con
        have HBW := Lib.hid hbw
        clear hb2 hbw re
        go_wp2_with fail
        refine con.mono ?_
        clear con
        rintro e w2 ⟨rfl, rfl⟩
        go_wp2_with fail
        exact ⟨⟨i + 1, hik, by rw [show ((i + 1 : Nat) : Int) = (i : Int) + 1 by omega], HBW.out⟩, by simp [intOf]; omega⟩
      · obtain rfl : i = k := by omega
        rw [show decide (i = i) = true by simp] at con
        have con2 := CE.out h5 _ hbw
        clear hb2 hbw
        go_wp2_with fail
        refine con.mono ?_
        clear con
        rintro e w2 ⟨rfl, rfl⟩
        go_wp2_with fail
        refine con2.mono ?_
        clear con2
        rintro e w3 ⟨⟨v, rfl⟩, hp⟩
        have HP := Lib.hid hp
        clear hp
        go_wp2_with fail
        exact HP.out
    · obtain rfl : i = 5 := by omega
      obtain rfl : k = 5 := by omega
      have con := C5.out rfl W0 hb
      have k2 := Cel.cell (Cel.below HC.out hb (Cel.lt HC.out)) 2
      clear hb
      go_wp2_with fail
      refine con.mono ?_
      clear con
      rintro e w3 ⟨⟨v, rfl⟩, hp⟩
      have HP := Lib.hid hp
      clear hp
      go_wp2_with fail
      exact HP.out
end Go.Proofs.Ytadfoilbcipdjaa.Lex
