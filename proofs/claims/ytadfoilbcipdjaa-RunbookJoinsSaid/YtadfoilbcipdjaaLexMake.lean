/-
  The program's cutter (layer 11): the function values that it makes.
-/
import Derived.Test.YtadfoilbcipdjaaLexRun
namespace Go.Proofs.Ytadfoilbcipdjaa.Lex
open Go.RowKit
set_option linter.unusedVariables false
set_option linter.unusedSimpArgs false

abbrev fv (k : Nat) : Value := .func (.func k) #[] #[]
abbrev fp (k g : Nat) : Value := .func (.func k) #[] #[.pointer (some ⟨g, 0, none⟩)]
abbrev f3 (k a b c : Nat) : Value := .func (.func k) #[] #[.pointer (some ⟨a, 0, none⟩), .pointer (some ⟨b, 0, none⟩), .pointer (some ⟨c, 0, none⟩)]
theorem hmf : ∀ (fn : Fn) (first cap : Array Value) (w : World), (Instr.makeFunc fn first cap).run Try.prog w = .ok (.func fn first cap) w := fun _ _ _ _ => rfl
theorem letter_ (w : World) : Calls Try.prog 19 #[] w fun e w' => e = .returned (fv 43) ∧ w' = w := by
  go_enter Try.func19, Try.ntmps19
  go_wp2_with fail
  go_ret
  exact ⟨rfl, rfl⟩
theorem digit_ (w : World) : Calls Try.prog 23 #[] w fun e w' => e = .returned (fv 47) ∧ w' = w := by
  go_enter Try.func23, Try.ntmps23
  go_wp2_with fail
  go_ret
  exact ⟨rfl, rfl⟩
theorem among_ (w : World) (s : ByteArray) : Calls Try.prog 15 #[.string s] w fun e w' => e = .returned (fp 41 w.heap.size) ∧ w' = w.alloc (.cells #[.string s] 9) := by
  have hm := hmf
  go_enter Try.func15, Try.ntmps15
  go_wp2_with fail
  go_ret
  exact ⟨rfl, rfl⟩
theorem either_ (w : World) (A : Option Addr) (n c : Nat) : Calls Try.prog 44 #[.slice A n c] w fun e w' => e = .returned (fp 62 w.heap.size) ∧ w' = w.alloc (.cells #[.slice A n c] 78) := by
  have hm := hmf
  go_enter Try.func44, Try.ntmps44
  go_wp2_with fail
  go_ret
  exact ⟨rfl, rfl⟩
theorem run_store_fn {P : Program} (w : World) (a : Addr) (fn : Fn) (x y : Array Value) (m : Mode) : (store a (.func fn x y) m).run P w = stored P w a (.func fn x y) m := run_store P w a (.func fn x y) m rfl
/-- What run makes. -/
def RnSays (w : World) (F G : Value) (e : Ending) (w' : World) : Prop := e = .returned (f3 63 w.heap.size (w.heap.size + 1) (w.heap.size + 1 + 1)) ∧ Below w.heap.size w w' ∧
  Cel w' w.heap.size 55 [F] ∧ Cel w' (w.heap.size + 1) 71 [G] ∧ Cel w' (w.heap.size + 1 + 1) 49 [f3 63 w.heap.size (w.heap.size + 1) (w.heap.size + 1 + 1)]
theorem run_ (w : World) (kf kg : Nat) (cf cg : Array Value) : Calls Try.prog 45 #[.func (.func kf) #[] cf, .func (.func kg) #[] cg] w (RnSays w (.func (.func kf) #[] cf) (.func (.func kg) #[] cg)) := by
  have hm := hmf
  have hst := fun (W : World) (a : Addr) (fn : Fn) (x y : Array Value) (m : Mode) => run_store_fn (P := Try.prog) W a fn x y m
  have h1 : Cel (w.alloc (.cells #[.func (.func kf) #[] cf] 55)) w.heap.size 55 [.func (.func kf) #[] cf] := Cel.new w _ [.func (.func kf) #[] cf]
  have h2 := Cel.new (w.alloc (.cells #[.func (.func kf) #[] cf] 55)) 71 [.func (.func kg) #[] cg]
  rw [show (w.alloc (.cells #[.func (.func kf) #[] cf] 55)).heap.size = w.heap.size + 1 by simp] at h2
  obtain ⟨v, hv⟩ : ∃ v, v = f3 63 w.heap.size (w.heap.size + 1) (w.heap.size + 1 + 1) := ⟨_, rfl⟩
  have h3 := Cel.new ((w.alloc (.cells #[.func (.func kf) #[] cf] 55)).alloc (.cells #[.func (.func kg) #[] cg] 71)) 49 [v]
  rw [show ((w.alloc (.cells #[.func (.func kf) #[] cf] 55)).alloc (.cells #[.func (.func kg) #[] cg] 71)).heap.size = w.heap.size + 1 + 1 by simp] at h3
  have hb : Below w.heap.size w _ := ((((Below.refl w.heap.size w).alloc (Nat.le_refl _) (.cells #[.func (.func kf) #[] cf] 55)).alloc (by simp) (.cells #[.func (.func kg) #[] cg] 71)).alloc (by simp; omega) (.cells #[v] 49))
  have HEND := Lib.hid (show RnSays w (.func (.func kf) #[] cf) (.func (.func kg) #[] cg) (.returned v) _ from ⟨by rw [hv], hb, (h1.alloc _).alloc _, h2.alloc _, by rw [← hv]; exact h3⟩)
  rw [hv] at HEND
  clear h3 hb hv v
  clear h1 h2
  go_enter Try.func45, Try.ntmps45
  go_wp2_with fail
  go_ret
  exact HEND.out
/-- A word's state. -/
def Wv (w : World) (v : Value) : Prop := ∃ p2 p3 p4 tv ta sa, v = f3 63 p2 p3 p4 ∧ Cel w p2 55 [fp 62 tv] ∧ Cel w p3 71 [fv 46] ∧ Cel w p4 49 [v] ∧
  Cel w tv 78 [.slice (some ⟨ta, 0, none⟩) 3 3] ∧ Cel w ta 55 [fv 43, fv 47, fp 41 sa] ∧ Cel w sa 9 [.string ⟨#[95]⟩]
/-- A number's, behind d digits. -/
def Nv (w : World) (D d : Nat) (v : Value) : Prop := ∃ p2 p3 p4 dg, v = f3 63 p2 p3 p4 ∧ Cel w p2 55 [fv 47] ∧ Cel w p3 71 [fp 48 dg] ∧ Cel w p4 49 [v] ∧ D ≤ dg ∧ Cel w dg 3 [.int .i64 (d : Int)]
/-- The entrances. -/
def En (w : World) (E : Value) : Prop := ∃ eb a0 a1 a2, E = .slice (some ⟨eb, 0, none⟩) 5 5 ∧ Cel w a0 9 [.string ⟨#[9, 10, 13, 32]⟩] ∧ Cel w a1 9 [.string ⟨#[35]⟩] ∧ Cel w a2 9 [.string ⟨#[34]⟩] ∧
  Cel w eb 58 [fp 41 a0, fv 16, fp 41 a1, fv 17, fv 43, fv 20, fv 47, fv 24, fp 41 a2, fv 26]
theorem Wv.chl {D : Nat} {w w' : World} {v : Value} (h : Wv w v) (hc : Chl D w w') : Wv w' v := by
  obtain ⟨p2, p3, p4, tv, ta, sa, e, h1, h2, h3, h4, h5, h6⟩ := h
  exact ⟨p2, p3, p4, tv, ta, sa, e, Cel.chl h1 hc (by simp [Lob]), Cel.chl h2 hc (by simp [Lob]), Cel.chl h3 hc (by simp [Lob]), Cel.chl h4 hc (by simp [Lob]), Cel.chl h5 hc (by simp [Lob]), Cel.chl h6 hc (by simp [Lob])⟩
theorem En.chl {D : Nat} {w w' : World} {E : Value} (h : En w E) (hc : Chl D w w') : En w' E := by
  obtain ⟨eb, a0, a1, a2, e, h1, h2, h3, h4⟩ := h
  exact ⟨eb, a0, a1, a2, e, Cel.chl h1 hc (by simp [Lob]), Cel.chl h2 hc (by simp [Lob]), Cel.chl h3 hc (by simp [Lob]), Cel.chl h4 hc (by simp [Lob])⟩
theorem Nv.below {w w' : World} {D d : Nat} {v : Value} (h : Nv w D d v) (hb : Below w.heap.size w w') : Nv w' D d v := by
  obtain ⟨p2, p3, p4, dg, e, h1, h2, h3, h4, h5⟩ := h
  exact ⟨p2, p3, p4, dg, e, Cel.below h1 hb (Cel.lt h1), Cel.below h2 hb (Cel.lt h2), Cel.below h3 hb (Cel.lt h3), h4, Cel.below h5 hb (Cel.lt h5)⟩
set_option maxRecDepth 100000 in
set_option maxHeartbeats 1000000 in
theorem word_ (w : World) : Calls Try.prog 22 #[] w fun e w' => ∃ v, e = .returned v ∧ Wv w' v ∧ Below w.heap.size w w' := by
  have c1 := fun W => letter_ W
  have c2 := fun W => digit_ W
  have c3 := fun W => among_ W ⟨#[95]⟩
  have c4 := fun W A n c => either_ W A n c
  have c5 := fun W kf kg cf cg => run_ W kf kg cf cg
  go_enter Try.func22, Try.ntmps22
  go_wp2_with fail
  refine (c1 _).mono ?_
  rintro e w1 ⟨rfl, rfl⟩
  go_wp2_with fail
  refine (c2 _).mono ?_
  rintro e w2 ⟨rfl, rfl⟩
  go_wp2_with fail
  refine (c3 _).mono ?_
  rintro e w3 ⟨rfl, rfl⟩
  have h1 := Cel.new w2 9 [.string ⟨#[95]⟩]
  have h2 := Cel.new (w2.alloc (.cells #[.string ⟨#[95]⟩] 9)) 55 [fv 43, fv 47, fp 41 w2.heap.size]
  rw [show (w2.alloc (.cells #[.string ⟨#[95]⟩] 9)).heap.size = w2.heap.size + 1 by simp] at h2
  have hb : Below w2.heap.size w2 _ := ((Below.refl w2.heap.size w2).alloc (Nat.le_refl _) (.cells #[.string ⟨#[95]⟩] 9)).alloc (by simp) (.cells #[fv 43, fv 47, fp 41 w2.heap.size] 55)
  have h1 := Cel.alloc h1 (.cells #[fv 43, fv 47, fp 41 w2.heap.size] 55)
  obtain ⟨W, hW⟩ : ∃ W, W = (w2.alloc (.cells #[.string ⟨#[95]⟩] 9)).alloc (.cells #[fv 43, fv 47, fp 41 w2.heap.size] 55) := ⟨_, rfl⟩
  have con := c4 W (some ⟨w2.heap.size + 1, 0, none⟩) 3 3
  have H1 := Lib.hid (show Cel W _ _ _ from hW ▸ h1)
  have H2 := Lib.hid (show Cel W _ _ _ from hW ▸ h2)
  have HB := Lib.hid (show Below w2.heap.size w2 W from hW ▸ hb)
  have C5 := Lib.hid c5
  rw [hW] at con
  have HW := Lib.hid hW
  clear h1 h2 hb hW c1 c2 c3 c4 c5
  go_wp2_with fail
  refine con.mono ?_
  clear con
  rintro e w4 ⟨rfl, rfl⟩
  rw [← HW.out]
  have con := C5.out (W.alloc (.cells #[.slice (some ⟨w2.heap.size + 1, 0, none⟩) 3 3] 78)) 62 46 #[.pointer (some ⟨W.heap.size, 0, none⟩)] #[]
  have h3 := Cel.new W 78 [.slice (some ⟨w2.heap.size + 1, 0, none⟩) 3 3]
  have hb3 : Below W.heap.size W (W.alloc (.cells #[.slice (some ⟨w2.heap.size + 1, 0, none⟩) 3 3] 78)) := (Below.refl _ _).alloc (Nat.le_refl _) _
  have H3 := Lib.hid h3
  have HB3 := Lib.hid hb3
  clear h3 hb3
  go_wp2_with fail
  refine con.mono ?_
  rintro e w5 ⟨rfl, hb, r1, r2, r3⟩
  have HEND := Lib.hid (show Wv w5 _ ∧ Below w2.heap.size w2 w5 from ⟨⟨_, _, _, W.heap.size, w2.heap.size + 1, w2.heap.size, rfl, r1, r2, r3, Cel.below H3.out hb (Cel.lt H3.out), Cel.below (Cel.below H2.out HB3.out (Cel.lt H2.out)) hb (Cel.lt (Cel.below H2.out HB3.out (Cel.lt H2.out))), Cel.below (Cel.below H1.out HB3.out (Cel.lt H1.out)) hb (Cel.lt (Cel.below H1.out HB3.out (Cel.lt H1.out)))⟩, HB.out.trans ((HB3.out.mono HB.out.size).trans (hb.mono (Nat.le_trans HB.out.size HB3.out.size)))⟩)
  rw [show (W.alloc (.cells #[.slice (some ⟨w2.heap.size + 1, 0, none⟩) 3 3] 78)).heap.size = W.heap.size + 1 by simp] at HEND
  clear r1 r2 r3 hb con
  go_wp2_with fail
  go_ret
  exact ⟨_, rfl, HEND.out⟩
set_option maxRecDepth 100000 in
set_option maxHeartbeats 1000000 in
theorem number_ (w : World) (D : Nat) (hD : D ≤ w.heap.size) : Calls Try.prog 25 #[] w fun e w' => ∃ v, e = .returned v ∧ Nv w' D 0 v ∧ Below w.heap.size w w' := by
  have hm := hmf
  have c2 := fun W => digit_ W
  have c5 := fun W kf kg cf cg => run_ W kf kg cf cg
  go_enter Try.func25, Try.ntmps25
  go_wp2_with fail
  refine (c2 _).mono ?_
  rintro e w2 ⟨rfl, rfl⟩
  go_wp2_with fail
  refine (c5 _ _ _ _ _).mono ?_
  have hd := Cel.new w 3 [.int .i64 0]
  have hb0 : Below w.heap.size w (w.alloc (.cells #[.int .i64 0] 3)) := (Below.refl _ _).alloc (Nat.le_refl _) _
  rintro e w3 ⟨rfl, hb, h1, h2, h3⟩
  have HEND := Lib.hid (show Nv w3 D 0 _ ∧ Below w.heap.size w w3 from ⟨⟨_, _, _, w.heap.size, rfl, h1, h2, h3, hD, Cel.below hd hb (Cel.lt hd)⟩, hb0.trans (hb.mono hb0.size)⟩)
  rw [show (w.alloc (.cells #[.int .i64 0] 3)).heap.size = w.heap.size + 1 by simp] at HEND
  clear h1 h2 h3 hb hd hb0
  go_wp2_with fail
  go_ret
  exact ⟨_, rfl, HEND.out⟩
def w0e (w : World) : World := ((w.alloc (.cells #[.string ⟨#[9, 10, 13, 32]⟩] 9)).alloc (.cells #[.string ⟨#[35]⟩] 9)).alloc (.cells #[.string ⟨#[34]⟩] 9)
theorem ents_made (w : World) : En ((((w.alloc (.cells #[.string ⟨#[9, 10, 13, 32]⟩] 9)).alloc (.cells #[.string ⟨#[35]⟩] 9)).alloc (.cells #[.string ⟨#[34]⟩] 9)).alloc (.cells #[fp 41 w.heap.size, fv 16, fp 41 (w.heap.size + 1), fv 17, fv 43, fv 20, fv 47, fv 24, fp 41 (w.heap.size + 1 + 1), fv 26] 58))
    (.slice (some ⟨w.heap.size + 1 + 1 + 1, 0, none⟩) 5 5) ∧ Below w.heap.size w ((((w.alloc (.cells #[.string ⟨#[9, 10, 13, 32]⟩] 9)).alloc (.cells #[.string ⟨#[35]⟩] 9)).alloc (.cells #[.string ⟨#[34]⟩] 9)).alloc (.cells #[fp 41 w.heap.size, fv 16, fp 41 (w.heap.size + 1), fv 17, fv 43, fv 20, fv 47, fv 24, fp 41 (w.heap.size + 1 + 1), fv 26] 58)) := by
  have h0 := Cel.new w 9 [.string ⟨#[9, 10, 13, 32]⟩]
  have h1 := Cel.new (w.alloc (.cells #[.string ⟨#[9, 10, 13, 32]⟩] 9)) 9 [.string ⟨#[35]⟩]
  have s1 : (w.alloc (.cells #[.string ⟨#[9, 10, 13, 32]⟩] 9)).heap.size = w.heap.size + 1 := by simp
  rw [s1] at h1
  have h2 := Cel.new ((w.alloc (.cells #[.string ⟨#[9, 10, 13, 32]⟩] 9)).alloc (.cells #[.string ⟨#[35]⟩] 9)) 9 [.string ⟨#[34]⟩]
  have s2 : ((w.alloc (.cells #[.string ⟨#[9, 10, 13, 32]⟩] 9)).alloc (.cells #[.string ⟨#[35]⟩] 9)).heap.size = w.heap.size + 1 + 1 := by simp
  rw [s2] at h2
  have h3 := Cel.new (w0e w) 58 [fp 41 w.heap.size, fv 16, fp 41 (w.heap.size + 1), fv 17, fv 43, fv 20, fv 47, fv 24, fp 41 (w.heap.size + 1 + 1), fv 26]
  rw [show (w0e w).heap.size = w.heap.size + 1 + 1 + 1 by simp [w0e]] at h3
  exact ⟨⟨_, _, _, _, rfl, ((h0.alloc _).alloc _).alloc _, (h1.alloc _).alloc _, h2.alloc _, h3⟩, ((((Below.refl w.heap.size w).alloc (Nat.le_refl _) _).alloc (by simp) _).alloc (by simp; omega) _).alloc (by simp; omega) _⟩
set_option maxRecDepth 100000 in
set_option maxHeartbeats 1000000 in
theorem entrances_ (w : World) : Calls Try.prog 9 #[] w fun e w' => ∃ E, e = .returned E ∧ En w' E ∧ Below w.heap.size w w' := by
  have c1 := fun W => letter_ W
  have c2 := fun W => digit_ W
  have c3 := fun W s => among_ W s
  go_enter Try.func9, Try.ntmps9
  go_wp2_with fail
  refine (c3 _ _).mono ?_
  rintro e w1 ⟨rfl, rfl⟩
  go_wp2_with fail
  refine (c3 _ _).mono ?_
  rintro e w2 ⟨rfl, rfl⟩
  go_wp2_with fail
  refine (c1 _).mono ?_
  rintro e w3 ⟨rfl, rfl⟩
  go_wp2_with fail
  refine (c2 _).mono ?_
  rintro e w4 ⟨rfl, rfl⟩
  go_wp2_with fail
  refine (c3 _ _).mono ?_
  rintro e w5 ⟨rfl, rfl⟩
  have HEND := Lib.hid (ents_made w)
  clear c1 c2 c3
  go_wp2_with fail
  go_ret
  exact ⟨_, rfl, HEND.out⟩
end Go.Proofs.Ytadfoilbcipdjaa.Lex
