/-
  What the program's Sync, Remove, Rename, Crash, Up and Fail come to.
-/
import Derived.Test.YtdaknfepcbooeaaGreatMDiskAppend
namespace Go.Proofs.YtdaknfepcbooeaaGreat.Disk
open Go.RowKit Go.Maps
set_option linter.unusedVariables false
set_option linter.unusedSimpArgs false

theorem sync_not {m : M} {f : Int} (h : there m f ≠ 0) : sync m f = (there m f, m) := by unfold sync; rw [if_pos h]
theorem sync_fails {m : M} {f : Int} (h : there m f = 0) (h2 : fails m = true) : sync m f = (8, stepped m) := by unfold sync; rw [if_neg (by simp [h]), if_pos h2]
theorem sync_goes {m : M} {f : Int} (h : there m f = 0) (h2 : fails m = false) : sync m f = (0, { stepped m with l := syncL f m.l }) := by unfold sync; rw [if_neg (by simp [h]), if_neg (by simp [h2])]
theorem remove_not {m : M} {f : Int} (h : there m f ≠ 0) : remove m f = (there m f, m) := by unfold remove; rw [if_pos h]
theorem remove_fails {m : M} {f : Int} (h : there m f = 0) (h2 : fails m = true) : remove m f = (8, stepped m) := by unfold remove; rw [if_neg (by simp [h]), if_pos h2]
theorem remove_goes {m : M} {f : Int} (h : there m f = 0) (h2 : fails m = false) : remove m f = (0, { stepped m with files := without f m.files, l := dropL f m.l }) := by unfold remove; rw [if_neg (by simp [h]), if_neg (by simp [h2])]
theorem rename_not {m : M} {f t : Int} (h : there m f ≠ 0) : rename m f t = (there m f, m) := by unfold rename; rw [if_pos h]
theorem rename_arg {m : M} {f t : Int} (h : there m f = 0) (ht : t < 0) : rename m f t = (1, m) := by unfold rename; rw [if_neg (by simp [h]), if_pos ht]
theorem rename_fails {m : M} {f t : Int} (h : there m f = 0) (ht : ¬ t < 0) (h2 : fails m = true) : rename m f t = (8, stepped m) := by unfold rename; rw [if_neg (by simp [h]), if_neg ht, if_pos h2]
theorem rename_same {m : M} {f : Int} (h : there m f = 0) (ht : ¬ f < 0) (h2 : fails m = false) : rename m f f = (0, stepped m) := by unfold rename; rw [if_neg (by simp [h]), if_neg ht, if_neg (by simp [h2]), if_pos rfl]
theorem rename_goes {m : M} {f t : Int} (h : there m f = 0) (ht : ¬ t < 0) (h2 : fails m = false) (hne : f ≠ t) : rename m f t = (0, { stepped m with files := without f (add t m.files), l := moveL f t (dropL t m.l) }) := by unfold rename; rw [if_neg (by simp [h]), if_neg ht, if_neg (by simp [h2]), if_neg hne]
set_option maxRecDepth 100000 in
set_option maxHeartbeats 1000000 in
theorem sync_call_not (w : World) (B d b : Nat) (m : M) (vs : Int → Value) (kv : Value) (f : Int) (hf : -9223372036854775808 ≤ f ∧ f < 9223372036854775808) (h : Dv w B d m b vs kv) (hB : B ≤ w.heap.size) (ht : there m f ≠ 0) :
    Calls Tryz.prog 73 #[.pointer (some ⟨d, 0, none⟩), .int .i64 f] w (Bad w B d b m vs kv (there m f)) := by
  have con := find_ok w B d b m vs kv f hf h
  have H := Lib.hid h
  obtain ⟨x, hx⟩ : ∃ x, x = there m f := ⟨_, rfl⟩
  rw [← hx] at ht con ⊢
  have q1 : (x == 0) = false := by simpa using ht
  have q2 : (x != 0) = true := by simpa using ht
  clear hf h hx ht
  go_enter Tryz.func73, Tryz.ntmps73
  go_wp2_with (first | (go_at_call 89; refine con.mono ?_; rintro e w' ⟨rfl, rfl⟩))
  go_ret
  exact ⟨rfl, H.out, Chg.refl _ _ _⟩
set_option maxRecDepth 100000 in
set_option maxHeartbeats 1000000 in
theorem sync_call_fails (w : World) (B d b : Nat) (m : M) (vs : Int → Value) (kv : Value) (f : Int) (hf : -9223372036854775808 ≤ f ∧ f < 9223372036854775808) (h : Dv w B d m b vs kv) (hB : B ≤ w.heap.size) (ht : there m f = 0) (h5 : fails m = true) :
    Calls Tryz.prog 73 #[.pointer (some ⟨d, 0, none⟩), .int .i64 f] w (Did w B d (8, stepped m)) := by
  have con := find_ok w B d b m vs kv f hf h
  rw [ht] at con
  have con2 := fun fv => step_fails w B d b m vs kv fv h hB h5
  clear hf h ht h5
  go_enter Tryz.func73, Tryz.ntmps73
  go_wp2_with (first | (go_at_call 89; refine con.mono ?_; rintro e w' ⟨rfl, rfl⟩) | (go_at_call 51; refine (con2 _).mono ?_; rintro e w' ⟨rfl, h1, h2⟩))
  go_ret
  exact ⟨rfl, ⟨_, _, _, h1⟩, h2⟩
set_option maxRecDepth 100000 in
set_option maxHeartbeats 1000000 in
theorem sync_call_goes (w : World) (B d b : Nat) (m : M) (vs : Int → Value) (kv : Value) (f : Int) (hf : -9223372036854775808 ≤ f ∧ f < 9223372036854775808) (h : Dv w B d m b vs kv) (hB : B ≤ w.heap.size) (ht : there m f = 0) (h5 : fails m = false) :
    Calls Tryz.prog 73 #[.pointer (some ⟨d, 0, none⟩), .int .i64 f] w (Did w B d (0, { stepped m with l := syncL f m.l })) := by
  have con := find_ok w B d b m vs kv f hf h
  have hfm := there_here ht
  have hi := h.inv.sync f
  rw [sync_goes ht h5] at hi
  dsimp only at hi
  obtain ⟨e1, e2, e3, e4⟩ := stepped_same h5
  have con2 := step_goes w B d b m vs kv (ordV d f 0 none 0 0) 100 (fun w' => Dk w' B d ({ stepped m with l := syncL f m.l }) ∧ Chg B Dob w w') (enters_of Tryz.func100 (by kernel_rfl) rfl) h h5 (fun w1 hd hc => by
    have hx := o_sync w1 B d b (stepped m) vs kv f 0 none 0 0 hd (by rw [e1]; exact hfm) (by rw [e2]; exact hi)
    rw [e2] at hx
    exact hx.mono fun e w' ⟨q1, q2, q3⟩ => ⟨q1, ⟨_, _, _, q2⟩, hc.trans q3⟩)
  rw [ht] at con
  clear hf h ht h5 hfm e1 e2 e3 e4
  go_enter Tryz.func73, Tryz.ntmps73
  go_wp2_with (first | (go_at_call 89; refine con.mono ?_; rintro e w' ⟨rfl, rfl⟩) | (go_at_call 51; refine (con2).mono ?_; rintro e w' ⟨rfl, h1, h2⟩))
  go_ret
  exact ⟨rfl, h1, h2⟩
set_option maxRecDepth 100000 in
set_option maxHeartbeats 1000000 in
theorem remove_call_not (w : World) (B d b : Nat) (m : M) (vs : Int → Value) (kv : Value) (f : Int) (hf : -9223372036854775808 ≤ f ∧ f < 9223372036854775808) (h : Dv w B d m b vs kv) (hB : B ≤ w.heap.size) (ht : there m f ≠ 0) :
    Calls Tryz.prog 98 #[.pointer (some ⟨d, 0, none⟩), .int .i64 f] w (Bad w B d b m vs kv (there m f)) := by
  have con := find_ok w B d b m vs kv f hf h
  have H := Lib.hid h
  obtain ⟨x, hx⟩ : ∃ x, x = there m f := ⟨_, rfl⟩
  rw [← hx] at ht con ⊢
  have q1 : (x == 0) = false := by simpa using ht
  have q2 : (x != 0) = true := by simpa using ht
  clear hf h hx ht
  go_enter Tryz.func98, Tryz.ntmps98
  go_wp2_with (first | (go_at_call 89; refine con.mono ?_; rintro e w' ⟨rfl, rfl⟩))
  go_ret
  exact ⟨rfl, H.out, Chg.refl _ _ _⟩
set_option maxRecDepth 100000 in
set_option maxHeartbeats 1000000 in
theorem remove_call_fails (w : World) (B d b : Nat) (m : M) (vs : Int → Value) (kv : Value) (f : Int) (hf : -9223372036854775808 ≤ f ∧ f < 9223372036854775808) (h : Dv w B d m b vs kv) (hB : B ≤ w.heap.size) (ht : there m f = 0) (h5 : fails m = true) :
    Calls Tryz.prog 98 #[.pointer (some ⟨d, 0, none⟩), .int .i64 f] w (Did w B d (8, stepped m)) := by
  have con := find_ok w B d b m vs kv f hf h
  rw [ht] at con
  have con2 := fun fv => step_fails w B d b m vs kv fv h hB h5
  clear hf h ht h5
  go_enter Tryz.func98, Tryz.ntmps98
  go_wp2_with (first | (go_at_call 89; refine con.mono ?_; rintro e w' ⟨rfl, rfl⟩) | (go_at_call 51; refine (con2 _).mono ?_; rintro e w' ⟨rfl, h1, h2⟩))
  go_ret
  exact ⟨rfl, ⟨_, _, _, h1⟩, h2⟩
set_option maxRecDepth 100000 in
set_option maxHeartbeats 1000000 in
theorem remove_call_goes (w : World) (B d b : Nat) (m : M) (vs : Int → Value) (kv : Value) (f : Int) (hf : -9223372036854775808 ≤ f ∧ f < 9223372036854775808) (h : Dv w B d m b vs kv) (hB : B ≤ w.heap.size) (ht : there m f = 0) (h5 : fails m = false) :
    Calls Tryz.prog 98 #[.pointer (some ⟨d, 0, none⟩), .int .i64 f] w (Did w B d (0, { stepped m with files := without f m.files, l := dropL f m.l })) := by
  have con := find_ok w B d b m vs kv f hf h
  have hfm := there_here ht
  have hi := h.inv.remove f
  rw [remove_goes ht h5] at hi
  dsimp only at hi
  obtain ⟨e1, e2, e3, e4⟩ := stepped_same h5
  have con2 := step_goes w B d b m vs kv (ordV d f 0 none 0 0) 116 (fun w' => Dk w' B d ({ stepped m with files := without f m.files, l := dropL f m.l }) ∧ Chg B Dob w w') (enters_of Tryz.func116 (by kernel_rfl) rfl) h h5 (fun w1 hd hc => by
    have hx := o_remove w1 B d b (stepped m) vs kv f 0 none 0 0 hd (by rw [e1]; exact hfm) (by rw [e1, e2]; exact hi)
    rw [e1, e2] at hx
    exact hx.mono fun e w' ⟨q1, q2, q3⟩ => ⟨q1, ⟨_, _, _, q2⟩, hc.trans q3⟩)
  rw [ht] at con
  clear hf h ht h5 hfm e1 e2 e3 e4
  go_enter Tryz.func98, Tryz.ntmps98
  go_wp2_with (first | (go_at_call 89; refine con.mono ?_; rintro e w' ⟨rfl, rfl⟩) | (go_at_call 51; refine (con2).mono ?_; rintro e w' ⟨rfl, h1, h2⟩))
  go_ret
  exact ⟨rfl, h1, h2⟩
set_option maxRecDepth 100000 in
set_option maxHeartbeats 1000000 in
theorem rename_call_not (w : World) (B d b : Nat) (m : M) (vs : Int → Value) (kv : Value) (f : Int) (t : Int) (hf : -9223372036854775808 ≤ f ∧ f < 9223372036854775808) (h : Dv w B d m b vs kv) (hB : B ≤ w.heap.size) (ht : there m f ≠ 0) :
    Calls Tryz.prog 75 #[.pointer (some ⟨d, 0, none⟩), .int .i64 f, .int .i64 t] w (Bad w B d b m vs kv (there m f)) := by
  have con := find_ok w B d b m vs kv f hf h
  have H := Lib.hid h
  obtain ⟨x, hx⟩ : ∃ x, x = there m f := ⟨_, rfl⟩
  rw [← hx] at ht con ⊢
  have q1 : (x == 0) = false := by simpa using ht
  have q2 : (x != 0) = true := by simpa using ht
  clear hf h hx ht
  go_enter Tryz.func75, Tryz.ntmps75
  go_wp2_with (first | (go_at_call 89; refine con.mono ?_; rintro e w' ⟨rfl, rfl⟩))
  go_ret
  exact ⟨rfl, H.out, Chg.refl _ _ _⟩
set_option maxRecDepth 100000 in
set_option maxHeartbeats 1000000 in
theorem rename_call_arg (w : World) (B d b : Nat) (m : M) (vs : Int → Value) (kv : Value) (f : Int) (t : Int) (hf : -9223372036854775808 ≤ f ∧ f < 9223372036854775808) (h : Dv w B d m b vs kv) (hB : B ≤ w.heap.size) (ht : there m f = 0) (ht0 : t < 0) :
    Calls Tryz.prog 75 #[.pointer (some ⟨d, 0, none⟩), .int .i64 f, .int .i64 t] w (Bad w B d b m vs kv 1) := by
  have con := find_ok w B d b m vs kv f hf h
  rw [ht] at con
  have H := Lib.hid h
  clear hf h ht
  go_enter Tryz.func75, Tryz.ntmps75
  go_wp2_with (first | (go_at_call 89; refine con.mono ?_; rintro e w' ⟨rfl, rfl⟩))
  go_ret
  exact ⟨rfl, H.out, Chg.refl _ _ _⟩
set_option maxRecDepth 100000 in
set_option maxHeartbeats 1000000 in
theorem rename_call_fails (w : World) (B d b : Nat) (m : M) (vs : Int → Value) (kv : Value) (f : Int) (t : Int) (hf : -9223372036854775808 ≤ f ∧ f < 9223372036854775808) (h : Dv w B d m b vs kv) (hB : B ≤ w.heap.size) (ht : there m f = 0) (h5 : fails m = true) (ht0 : 0 ≤ t) :
    Calls Tryz.prog 75 #[.pointer (some ⟨d, 0, none⟩), .int .i64 f, .int .i64 t] w (Did w B d (8, stepped m)) := by
  have con := find_ok w B d b m vs kv f hf h
  rw [ht] at con
  have con2 := fun fv => step_fails w B d b m vs kv fv h hB h5
  clear hf h ht h5
  go_enter Tryz.func75, Tryz.ntmps75
  go_wp2_with (first | (go_at_call 89; refine con.mono ?_; rintro e w' ⟨rfl, rfl⟩) | (go_at_call 51; refine (con2 _).mono ?_; rintro e w' ⟨rfl, h1, h2⟩))
  go_ret
  exact ⟨rfl, ⟨_, _, _, h1⟩, h2⟩
set_option maxRecDepth 100000 in
set_option maxHeartbeats 1000000 in
theorem rename_call_same (w : World) (B d b : Nat) (m : M) (vs : Int → Value) (kv : Value) (f : Int) (hf : -9223372036854775808 ≤ f ∧ f < 9223372036854775808) (h : Dv w B d m b vs kv) (hB : B ≤ w.heap.size) (ht : there m f = 0) (h5 : fails m = false) (ht0 : 0 ≤ f) :
    Calls Tryz.prog 75 #[.pointer (some ⟨d, 0, none⟩), .int .i64 f, .int .i64 f] w (Did w B d (0, stepped m)) := by
  have con := find_ok w B d b m vs kv f hf h
  have hfm := there_here ht
  obtain ⟨e1, e2, e3, e4⟩ := stepped_same h5
  have con2 := step_goes w B d b m vs kv (ordV d f f none 0 0) 101 (fun w' => Dk w' B d (stepped m) ∧ Chg B Dob w w') (enters_of Tryz.func101 (by kernel_rfl) rfl) h h5 (fun w1 hd hc => by
    have hx := o_rename_same w1 B d b (stepped m) vs kv f none 0 0 hd
    exact hx.mono fun e w' ⟨q1, q2, q3⟩ => ⟨q1, ⟨_, _, _, q2⟩, hc.trans q3⟩)
  rw [ht] at con
  clear hf h ht h5 hfm e1 e2 e3 e4
  go_enter Tryz.func75, Tryz.ntmps75
  go_wp2_with (first | (go_at_call 89; refine con.mono ?_; rintro e w' ⟨rfl, rfl⟩) | (go_at_call 51; refine (con2).mono ?_; rintro e w' ⟨rfl, h1, h2⟩))
  go_ret
  exact ⟨rfl, h1, h2⟩
set_option maxRecDepth 100000 in
set_option maxHeartbeats 1000000 in
theorem rename_call_goes (w : World) (B d b : Nat) (m : M) (vs : Int → Value) (kv : Value) (f : Int) (t : Int) (hf : -9223372036854775808 ≤ f ∧ f < 9223372036854775808) (h : Dv w B d m b vs kv) (hB : B ≤ w.heap.size) (ht : there m f = 0) (h5 : fails m = false) (hne : f ≠ t) (ht0 : 0 ≤ t) (htb : t < 9223372036854775808) :
    Calls Tryz.prog 75 #[.pointer (some ⟨d, 0, none⟩), .int .i64 f, .int .i64 t] w (Did w B d (0, { stepped m with files := without f (add t m.files), l := moveL f t (dropL t m.l) })) := by
  have con := find_ok w B d b m vs kv f hf h
  have hfm := there_here ht
  have hi := h.inv.rename f t htb
  rw [rename_goes ht (by omega) h5 hne] at hi
  dsimp only at hi
  obtain ⟨e1, e2, e3, e4⟩ := stepped_same h5
  have con2 := step_goes w B d b m vs kv (ordV d f t none 0 0) 101 (fun w' => Dk w' B d ({ stepped m with files := without f (add t m.files), l := moveL f t (dropL t m.l) }) ∧ Chg B Dob w w') (enters_of Tryz.func101 (by kernel_rfl) rfl) h h5 (fun w1 hd hc => by
    have hx := o_rename w1 B d b (stepped m) vs kv f t none 0 0 hd (by rw [e1]; exact hfm) hne ⟨ht0, htb⟩ (by rw [e1, e2]; exact hi)
    rw [e1, e2] at hx
    exact hx.mono fun e w' ⟨q1, q2, q3⟩ => ⟨q1, ⟨_, _, _, q2⟩, hc.trans q3⟩)
  rw [ht] at con
  clear hf h ht h5 hfm e1 e2 e3 e4 hne
  go_enter Tryz.func75, Tryz.ntmps75
  go_wp2_with (first | (go_at_call 89; refine con.mono ?_; rintro e w' ⟨rfl, rfl⟩) | (go_at_call 51; refine (con2).mono ?_; rintro e w' ⟨rfl, h1, h2⟩))
  go_ret
  exact ⟨rfl, h1, h2⟩
theorem sync_call (w : World) (B d : Nat) (m : M) (f : Int) (hf : -9223372036854775808 ≤ f ∧ f < 9223372036854775808) (h : Dk w B d m) (hB : B ≤ w.heap.size) :
    Calls Tryz.prog 73 #[.pointer (some ⟨d, 0, none⟩), .int .i64 f] w (Did w B d (sync m f)) := by
  obtain ⟨b, vs, kv, h⟩ := h
  by_cases ht : there m f = 0
  · cases h5 : fails m
    · rw [sync_goes ht h5]; exact sync_call_goes w B d b m vs kv f hf h hB ht h5
    · rw [sync_fails ht h5]; exact sync_call_fails w B d b m vs kv f hf h hB ht h5
  · rw [sync_not ht]; exact (sync_call_not w B d b m vs kv f hf h hB ht).mono fun _ _ h => h.did
theorem remove_call (w : World) (B d : Nat) (m : M) (f : Int) (hf : -9223372036854775808 ≤ f ∧ f < 9223372036854775808) (h : Dk w B d m) (hB : B ≤ w.heap.size) :
    Calls Tryz.prog 98 #[.pointer (some ⟨d, 0, none⟩), .int .i64 f] w (Did w B d (remove m f)) := by
  obtain ⟨b, vs, kv, h⟩ := h
  by_cases ht : there m f = 0
  · cases h5 : fails m
    · rw [remove_goes ht h5]; exact remove_call_goes w B d b m vs kv f hf h hB ht h5
    · rw [remove_fails ht h5]; exact remove_call_fails w B d b m vs kv f hf h hB ht h5
  · rw [remove_not ht]; exact (remove_call_not w B d b m vs kv f hf h hB ht).mono fun _ _ h => h.did
theorem rename_call (w : World) (B d : Nat) (m : M) (f t : Int) (hf : -9223372036854775808 ≤ f ∧ f < 9223372036854775808) (htb : t < 9223372036854775808) (h : Dk w B d m) (hB : B ≤ w.heap.size) :
    Calls Tryz.prog 75 #[.pointer (some ⟨d, 0, none⟩), .int .i64 f, .int .i64 t] w (Did w B d (rename m f t)) := by
  obtain ⟨b, vs, kv, h⟩ := h
  by_cases ht : there m f = 0
  · by_cases ht0 : t < 0
    · rw [rename_arg ht ht0]; exact (rename_call_arg w B d b m vs kv f t hf h hB ht ht0).mono fun _ _ h => h.did
    · cases h5 : fails m
      · by_cases hne : f = t
        · subst hne
          rw [rename_same ht ht0 h5]; exact rename_call_same w B d b m vs kv f hf h hB ht h5 (by omega)
        · rw [rename_goes ht ht0 h5 hne]; exact rename_call_goes w B d b m vs kv f t hf h hB ht h5 hne (by omega) htb
      · rw [rename_fails ht ht0 h5]; exact rename_call_fails w B d b m vs kv f t hf h hB ht h5 (by omega)
  · rw [rename_not ht]; exact (rename_call_not w B d b m vs kv f t hf h hB ht).mono fun _ _ h => h.did

set_option maxRecDepth 100000 in
set_option maxHeartbeats 1000000 in
theorem sync_call_nil (w : World) (f : Int) : Calls Tryz.prog 73 #[.pointer none, .int .i64 f] w fun r w' => r = .returned (.int .i64 8) ∧ w = w' := by
  have con := find_nil w f
  go_enter Tryz.func73, Tryz.ntmps73
  go_wp2_with (first | (go_at_call 89; refine con.mono ?_; rintro e w' ⟨rfl, rfl⟩))
  go_ret
  exact ⟨rfl, rfl⟩

/-- A call without results. -/
def Done (w : World) (B d : Nat) (m : M) (r : Ending) (w' : World) : Prop := r = .returned (.tuple #[]) ∧ Dk w' B d m ∧ Chg B Dob w w'

set_option maxRecDepth 100000 in
set_option maxHeartbeats 1000000 in
theorem crash_call (w : World) (B d : Nat) (m : M) (keepV : Value) (ks : List Bool) (h : Dk w B d m) (hk : Bo w B keepV ks) (hB : B ≤ w.heap.size) (hks : ks.length ≤ maxLen) :
    Calls Tryz.prog 19 #[.pointer (some ⟨d, 0, none⟩), keepV] w (Done w B d (crash m ks)) := by
  obtain ⟨b, vs, kv, h⟩ := h
  obtain ⟨k0, k1, k2, k3, k4⟩ := Cel.at0 h.cel
  have con := on_cell w d _ k1
  have con2 := lose_ok w B d b m vs kv keepV ks h hk hB hks
  unfold crash
  cases ho : m.off
  · rw [ho] at con
    simp only [Bool.not_false] at con
    rw [if_neg (by simp)]
    clear h hk hks hB k0 k1 k2 k3 k4 ho
    go_enter Tryz.func19, Tryz.ntmps19
    go_wp2_with (first | (go_at_call 30; refine con.mono ?_; rintro e w' ⟨rfl, rfl⟩) | (go_at_call 48; refine con2.mono ?_; rintro e w' ⟨rfl, h1, h2⟩))
    go_end0
    exact ⟨rfl, ⟨_, _, _, h1⟩, h2⟩
  · rw [ho] at con
    simp only [Bool.not_true] at con
    rw [if_pos rfl]
    have H := Lib.hid h
    clear h hk hks hB k0 k1 k2 k3 k4 ho con2
    go_enter Tryz.func19, Tryz.ntmps19
    go_wp2_with (first | (go_at_call 30; refine con.mono ?_; rintro e w' ⟨rfl, rfl⟩))
    go_end0
    exact ⟨rfl, ⟨_, _, _, H.out⟩, Chg.refl _ _ _⟩

set_option maxRecDepth 100000 in
set_option maxHeartbeats 1000000 in
theorem up_call (w : World) (B d : Nat) (m : M) (h : Dk w B d m) :
    Calls Tryz.prog 21 #[.pointer (some ⟨d, 0, none⟩)] w (Done w B d (up m)) := by
  obtain ⟨b, vs, kv, h⟩ := h
  obtain ⟨k0, k1, k2, k3, k4⟩ := Cel.at0 h.cel
  obtain ⟨f0, f1, f2, f3, f4⟩ := Cel.free5 h.cel
  have hc := h.cel.set 1 (.bool true)
  have hg := grown_setCell w ⟨d, 1, none⟩ (.bool true)
  obtain ⟨q1, q2⟩ := h.head hg false m.plan kv hc h.inv.plan (fun k ks e => (h.keep k ks e).chg (T := Dob) (B := B) ((Chg.refl B Dob w).grown hg fun g e => by cases e; exact .inr ⟨h.own.1, _, h.cel, .inl rfl⟩) (by rintro cs fz (h | h) <;> revert h <;> decide))
  have Q1 := Lib.hid q1
  have Q2 := Lib.hid q2
  clear h hc hg q1 q2 k0 k2 k3 k4 f0 f2 f3 f4
  go_enter Tryz.func21, Tryz.ntmps21
  go_wp2_with fail
  go_end0
  exact ⟨rfl, ⟨_, _, _, Q1.out⟩, Q2.out⟩
end Go.Proofs.YtdaknfepcbooeaaGreat.Disk
