/-
  What davitlaw03.knows comes to: true.
-/
import Derived.Test.YtickagagbdfncaaSectorRefGet
namespace Go.Proofs.Ytickagagbdfncaa.Sector
open Go.RowKit Go.Proofs.Ytickagagbdfncaa.Pack
set_option linter.unusedVariables false

theorem sec_first {p : Pt} : (sec p).getD 0 0#8 = 68#8 := by
  rw [sec_eq]; rfl
theorem get_zeros : get (List.replicate 512 0#8) = none := by
  cases h : get (List.replicate 512 0#8) with
  | none => rfl
  | some p =>
    exfalso
    obtain ⟨_, e, _⟩ := get_some h
    have h1 := sec_first (p := p)
    rw [e] at h1
    rw [List.getD_eq_getElem?_getD, List.getElem?_replicate, if_pos (by decide)] at h1
    exact absurd h1 (by decide)
def p0 : Pt := ⟨0#32, 7#32, 3, [97#8, 98#8]⟩
theorem may0 : p0.may = true := by decide
theorem strAb : str [97#8, 98#8] = ⟨#[97, 98]⟩ := by decide

set_option maxRecDepth 100000 in
set_option maxHeartbeats 1000000 in
theorem knows (w : World) : Calls Try.prog 6 #[] w fun e w' => e = .returned (.bool true) ∧ Below w.heap.size w w' := by
  have kc := fun (w : World) (C : Array Value) (n c : Nat) => Lib.run_convert_bytes_const (P := Try.prog) w 23 5 C n c Try.underlying23 Try.underlying5
  obtain ⟨zl, hZ⟩ : ∃ zl : List Value, zl = (List.replicate 512 0#8).map v8 := ⟨_, rfl⟩
  have hmk : ∀ w : World, (Instr.makeSlice 23 (.int .i64 512) (.int .i64 512)).run Try.prog w = .ok (.slice (some ⟨w.heap.size, 0, none⟩) 512 512) (w.alloc (.cells zl.toArray 5)) := fun w => by
    rw [hZ, List.map_replicate]; exact run_make_bytes (P := Try.prog) w 23 5 bytesT .i64 .i64 512 (by decide)
  have HZ := Lib.hid hZ
  clear hZ
  go_enter Try.func6, Try.ntmps6
  go_wp2_with fail
  refine (put_yes p0 (w.heap.size + 1) _ 2 2 _ (Bs.lit w _ _ _ [97#8, 98#8] rfl 2 rfl) (by simp) may0).mono ?_
  rintro r w1 ⟨g, rfl, hg, hc1, hb1⟩
  simp only [World.size_alloc] at hb1 hg
  have hg1 := hc1.lt
  have HC1 := Lib.hid hc1
  have hbw1 : Below w.heap.size w w1 := ((Below.refl _ _).alloc (Nat.le_refl _) _).trans (hb1.mono (by omega))
  have HW1 := Lib.hid hbw1
  have s1 := hbw1.size
  clear hc1 hb1 hbw1
  go_wp2_with fail
  refine (get_yes w1.heap.size _ 512 512 (sec p0) _ (Cel.bs HC1.out hg1 (by rw [sec_length may0]; exact Nat.le_refl _) (List.take_of_length_le (by rw [sec_length may0]; exact Nat.le_refl _))) (Nat.le_refl _) p0 (get_sec p0 may0)).mono ?_
  rintro r w2 ⟨A2, c2, rfl, ho2, hb2⟩
  have s2 := hb2.size
  have O2 := Lib.hid (Own.low ho2)
  have HB2 := Lib.hid hb2
  have hp2 := Cel.new w2 25 [v32 p0.epoch, v32 p0.seq, .int .i64 p0.flags, .slice A2 p0.body.length c2]
  have HP2 := Lib.hid hp2
  clear ho2 hb2 hp2
  go_wp2_with fail
  have hz3 := Cel.new (w2.alloc (.cells #[v32 p0.epoch, v32 p0.seq, .int .i64 p0.flags, .slice A2 p0.body.length c2] 25)) 5 zl
  rw [HZ.out] at hz3
  simp only [World.size_alloc] at hz3
  have HZ3 := Lib.hid hz3
  have hb3 : Below w2.heap.size w2 ((w2.alloc (.cells #[v32 p0.epoch, v32 p0.seq, .int .i64 p0.flags, .slice A2 p0.body.length c2] 25)).alloc (.cells zl.toArray 5)) := ((Below.refl _ _).alloc (Nat.le_refl _) _).alloc (by simp) _
  have hq3 := HP2.out.alloc (.cells zl.toArray 5)
  have HB3 := Lib.hid hb3
  have HQ3 := Lib.hid hq3
  clear hz3 hb3 hq3
  rw [← HZ.out] at HZ3
  generalize (w2.alloc (.cells #[v32 p0.epoch, v32 p0.seq, .int .i64 p0.flags, .slice A2 p0.body.length c2] 25)).alloc (.cells zl.toArray 5) = W3 at *
  rw [HZ.out] at HZ3
  have hl3 := HZ3.out.lt
  refine (get_not W3.heap.size _ 512 512 (List.replicate 512 0#8) _ (Cel.bs HZ3.out hl3 (by rw [List.length_replicate]; exact Nat.le_refl _) (List.take_of_length_le (by rw [List.length_replicate]; exact Nat.le_refl _))) (Nat.le_refl _) (by decide) get_zeros).mono ?_
  rintro r w4 ⟨rfl, hb4⟩
  have s3 := HB3.out.size
  have s4 := hb4.size
  have hb24 : Below w2.heap.size w2 w4 := HB3.out.trans (hb4.mono s3)
  have hq4 : Cel (w4.alloc (.cells #[.int .u32 0, .int .u32 0, .int .i64 0, .slice none 0 0] 25)) w2.heap.size 25 [.int .u32 0, .int .u32 7, .int .i64 3, .slice A2 2 c2] := (HQ3.out.below hb4 HQ3.out.lt).alloc _
  have k1 := hq4.cell 1
  have k3 := hq4.cell 3
  have q4 := toStr (Bp.below (Bs.bp O2.out) (hb24.alloc hb24.size (.cells #[.int .u32 0, .int .u32 0, .int .i64 0, .slice none 0 0] 25)) (fun _ h => h)) c2
  rw [show str p0.body = ⟨#[97, 98]⟩ from strAb] at q4
  have q4' : (convert 23 9 (.slice A2 2 c2)).run Try.prog (w4.alloc (.cells #[.int .u32 0, .int .u32 0, .int .i64 0, .slice none 0 0] 25)) = .ok (.string ⟨#[97, 98]⟩) (w4.alloc (.cells #[.int .u32 0, .int .u32 0, .int .i64 0, .slice none 0 0] 25)) := q4
  have HB4 := Lib.hid hb24
  clear hq4 hb4 hb24 q4
  go_wp2_with fail
  go_ret
  have hbw2 : Below w.heap.size w w2 := HW1.out.trans (HB2.out.mono s1)
  have hbw4 := hbw2.trans (HB4.out.mono hbw2.size)
  exact ⟨rfl, hbw4.alloc hbw4.size _⟩
end Go.Proofs.Ytickagagbdfncaa.Sector
