/-
  The step that counts (step), whatever is handed to it.
-/
import Derived.Test.YtdaknfepcbooeaaGreatMDiskLose
namespace Go.Proofs.YtdaknfepcbooeaaGreat.Disk
open Go.RowKit Go.Maps
set_option linter.unusedVariables false
set_option linter.unusedSimpArgs false

theorem fails_iff {m : M} : fails m = true ↔ ∃ k, m.plan = some (0, k) := by
  unfold fails
  split
  · rename_i k e; exact ⟨fun _ => ⟨k, e⟩, fun _ => rfl⟩
  · rename_i h; exact ⟨fun h => (by cases h), fun ⟨k, e⟩ => absurd e (h k)⟩
theorem stepped_fails {m : M} {k : List Bool} (h : m.plan = some (0, k)) : stepped m = lost m k := by unfold stepped; rw [h]
theorem stepped_more {m : M} {n : Nat} {k : List Bool} (h : m.plan = some (n + 1, k)) : stepped m = { m with plan := some (n, k) } := by unfold stepped; rw [h]
theorem stepped_none {m : M} (h : m.plan = none) : stepped m = m := by unfold stepped; rw [h]
theorem lost_take {m : M} (h : Inv m) (k : List Bool) : lost m (k.take m.room) = lost m k := by
  unfold lost
  rw [passes_take _ _ _ _ h.most]

set_option maxRecDepth 100000 in
set_option maxHeartbeats 1000000 in
theorem step_fails (w : World) (B d b : Nat) (m : M) (vs : Int → Value) (kv fv : Value) (h : Dv w B d m b vs kv) (hB : B ≤ w.heap.size) (hf : fails m = true) :
    Calls Tryz.prog 51 #[.pointer (some ⟨d, 0, none⟩), fv] w fun e w' => e = .returned (.int .i64 8) ∧ Dv w' B d (stepped m) b vs (.slice none 0 0) ∧ Chg B Dob w w' := by
  obtain ⟨k, hp⟩ := fails_iff.1 hf
  obtain ⟨k0, k1, k2, k3, k4⟩ := Cel.at0 h.cel
  rw [hp] at k3
  simp only [leftOf] at k3
  have hl : (k.take m.room).length ≤ maxLen := by
    have := h.inv.room
    rw [List.length_take]; unfold maxLen; omega
  have con := lose_ok w B d b m vs kv kv (k.take m.room) h (h.keep _ _ hp) hB hl
  rw [lost_take h.inv, ← stepped_fails hp] at con
  clear hf hp k0 k1 k2 hl h
  go_enter Tryz.func51, Tryz.ntmps51
  go_wp2_with (first | (go_at_call 48; refine con.mono ?_; rintro e w' ⟨rfl, h1, h2⟩))
  go_ret
  exact ⟨rfl, h1, h2⟩

set_option maxRecDepth 100000 in
set_option maxHeartbeats 1000000 in
theorem step_goes (w : World) (B d b : Nat) (m : M) (vs : Int → Value) (kv ov : Value) (F : Nat) (Post : World → Prop) (hent : ∀ args w, (callFunc F args).run Tryz.prog w = .ok (.enter F args) w) (h : Dv w B d m b vs kv) (hf : fails m = false)
    (hdo : ∀ w1, Dv w1 B d (stepped m) b vs kv → Chg B Dob w w1 → Calls Tryz.prog F #[ov] w1 fun e w' => e = .returned (.tuple #[]) ∧ Post w') :
    Calls Tryz.prog 51 #[.pointer (some ⟨d, 0, none⟩), .func (.func F) #[ov] #[]] w fun e w' => e = .returned (.int .i64 0) ∧ Post w' := by
  obtain ⟨k0, k1, k2, k3, k4⟩ := Cel.at0 h.cel
  obtain ⟨f0, f1, f2, f3, f4⟩ := Cel.free5 h.cel
  cases hp : m.plan with
  | none =>
    have con := hdo w (by rw [stepped_none hp]; exact h) (Chg.refl _ _ _)
    rw [hp] at k3
    simp only [leftOf] at k3
    clear hdo hf hp k0 k1 k2 k4 f0 f1 f2 f3 f4 h
    go_enter Tryz.func51, Tryz.ntmps51
    go_wp2_with (first | (refine con.mono ?_; rintro e w' ⟨rfl, h1⟩))
    go_ret
    exact ⟨rfl, h1⟩
  | some p =>
    obtain ⟨n, ks⟩ := p
    cases n with
    | zero => rw [fails_iff.2 ⟨ks, hp⟩] at hf; cases hf
    | succ n =>
      have hbd := h.inv.plan _ _ hp
      have hw1 : Dv (w.setCell ⟨d, 3, none⟩ (.int .i64 n)) B d (stepped m) b vs kv ∧ Chg B Dob w (w.setCell ⟨d, 3, none⟩ (.int .i64 n)) := by
        have hc := h.cel.set 3 (.int .i64 n)
        have := h.head (grown_setCell w ⟨d, 3, none⟩ (.int .i64 n)) m.off (some (n, ks)) kv hc (fun a b e => by cases e; omega) (fun a c e => by
          cases e
          exact (h.keep _ _ hp).chg ((Chg.refl B Dob w).grown (grown_setCell w ⟨d, 3, none⟩ (.int .i64 n)) fun g e => by cases e; exact .inr ⟨h.own.1, _, h.cel, .inl rfl⟩) (by rintro cs fz (h | h) <;> revert h <;> decide))
        rw [stepped_more hp]
        exact this
      have con := hdo _ hw1.1 hw1.2
      rw [hp] at k3
      simp only [leftOf] at k3
      have en : IntKind.i64.wrap (((n + 1 : Nat) : Int) - 1) = (n : Int) := by rw [show ((n + 1 : Nat) : Int) - 1 = (n : Int) by omega]; exact IntWalk.i64_in _ (by omega)
      clear hdo hf hp k0 k1 k2 k4 f0 f1 f2 f4 h hw1
      go_enter Tryz.func51, Tryz.ntmps51
      go_wp2_with (first | (refine con.mono ?_; rintro e w' ⟨rfl, h1⟩))
      go_ret
      exact ⟨rfl, h1⟩
end Go.Proofs.YtdaknfepcbooeaaGreat.Disk
