/-
  What the examples of layer 13's statements ask (knows): a text that is filled; a $ at the end.
-/
import Derived.Test.YtamklllmjppinaaVarsPfill
import Derived.Lib.SlBytesConst
namespace Go.Proofs.Ytamklllmjppinaa.Vars
open Go.RowKit
open Go.Proofs.Ytamklllmjppinaa.Lex (Owb)
set_option linter.unusedVariables false
set_option linter.unusedSimpArgs false

theorem find_self (a : ByteArray) (l : List ByteArray) : findV (a :: l) a 0 = some 0 := by unfold findV; rw [if_pos (by simp)]
theorem names_k : names [97#8, 36#8, 36#8, 98#8, 36#8, 118#8] = .ok [[118#8]] := by kernel_rfl
theorem pcs_k : pcs [97#8, 36#8, 36#8, 98#8, 36#8, 118#8] = [(0, ⟨0, 1, [97#8]⟩), (1, ⟨0, 2, [36#8]⟩), (3, ⟨0, 1, [98#8]⟩), (4, ⟨1, 2, [118#8]⟩)] := by kernel_rfl
theorem names_kq : names [97#8, 36#8] = .error 1 := by kernel_rfl
theorem fill_k : fill [97#8, 36#8, 36#8, 98#8, 36#8, 118#8] [⟨#[118]⟩] [[120#8, 10#8]] = .ok [97#8, 36#8, 98#8, 120#8] := by
  have e : str [118#8] = ⟨#[118]⟩ := rfl
  have v : valR [⟨#[118]⟩] [[120#8, 10#8]] (str [118#8]) = some [120#8, 10#8] := by unfold valR; rw [e, find_self]; rfl
  have f : ((pcs [97#8, 36#8, 36#8, 98#8, 36#8, 118#8]).flatMap (byP [⟨#[118]⟩] [[120#8, 10#8]])) = [97#8, 36#8, 98#8, 120#8] := by
    rw [pcs_k]
    simp only [List.flatMap_cons, List.flatMap_nil, byP, mean, v]
    rfl
  rw [fill_pcs names_k, f, if_neg (by simp [v]), if_neg (by simp)]
theorem cv_cel {w : World} {g : Nat} {t : TypeId} {cs : List Value} (h : Cel w g t cs) : Cv w (some ⟨g, 0, none⟩) cs := fun _ => ⟨_, rfl, fun j u hj => by rw [add_row, h.cell j, hj]⟩
set_option maxRecDepth 100000 in
set_option maxHeartbeats 1000000 in
theorem knows13 (w : World) : Calls Try.prog 6 #[] w fun e w' => e = .returned (.bool true) ∧ Below w.heap.size w w' := by
  have kc := fun (w : World) (C : Array Value) (n c : Nat) => Lib.run_convert_bytes_const (P := Try.prog) w 22 5 C n c Try.underlying22 Try.underlying5
  go_enter Try.func6, Try.ntmps6
  go_wp2_with fail
  obtain ⟨W1, hW1⟩ : ∃ W1, W1 = (((w.alloc (.cells #[.int .u8 97, .int .u8 36, .int .u8 36, .int .u8 98, .int .u8 36, .int .u8 118] 5 (6, 7))).alloc (.cells #[.string ⟨#[118]⟩] 9)).alloc (.cells #[.int .u8 120, .int .u8 10] 5)).alloc (.cells #[.slice (some ⟨w.heap.size + 1 + 1, 0, none⟩) 2 2] 22) := ⟨_, rfl⟩
  have hb1 : Below w.heap.size w W1 := by rw [hW1]; exact ((((Below.refl _ _).alloc (Nat.le_refl _) _).alloc (by simp) _).alloc (by simp; omega) _).alloc (by simp; omega) _
  have hsz : W1.heap.size = w.heap.size + 1 + 1 + 1 + 1 := by rw [hW1]; simp
  have b1 : Bs W1 W1.heap.size (some ⟨w.heap.size, 0, none⟩) 6 [97#8, 36#8, 36#8, 98#8, 36#8, 118#8] := by
    have := Bs.lit w 5 (6, 7) #[.int .u8 97, .int .u8 36, .int .u8 36, .int .u8 98, .int .u8 36, .int .u8 118] [97#8, 36#8, 36#8, 98#8, 36#8, 118#8] rfl 6 rfl
    refine Bs.more ?_ (by omega : w.heap.size + 1 ≤ W1.heap.size)
    rw [hW1]
    exact ((this.alloc (by simp) _).alloc (by simp) _).alloc (by simp <;> omega) _
  have c2 : Cel W1 (w.heap.size + 1) 9 [.string ⟨#[118]⟩] := by
    have := Cel.new (w.alloc (.cells #[.int .u8 97, .int .u8 36, .int .u8 36, .int .u8 98, .int .u8 36, .int .u8 118] 5 (6, 7))) 9 [.string ⟨#[118]⟩]
    rw [World.size_alloc] at this
    rw [hW1]; exact (this.alloc _).alloc _
  have c3 : Cel W1 (w.heap.size + 1 + 1) 5 [v8 120#8, v8 10#8] := by
    have := Cel.new ((w.alloc (.cells #[.int .u8 97, .int .u8 36, .int .u8 36, .int .u8 98, .int .u8 36, .int .u8 118] 5 (6, 7))).alloc (.cells #[.string ⟨#[118]⟩] 9)) 5 [v8 120#8, v8 10#8]
    simp only [World.size_alloc] at this
    rw [hW1]; exact this.alloc _
  have c4 : Cel W1 (w.heap.size + 1 + 1 + 1) 22 [.slice (some ⟨w.heap.size + 1 + 1, 0, none⟩) 2 2] := by
    have := Cel.new (((w.alloc (.cells #[.int .u8 97, .int .u8 36, .int .u8 36, .int .u8 98, .int .u8 36, .int .u8 118] 5 (6, 7))).alloc (.cells #[.string ⟨#[118]⟩] 9)).alloc (.cells #[.int .u8 120, .int .u8 10] 5)) 22 [.slice (some ⟨w.heap.size + 1 + 1, 0, none⟩) 2 2]
    simp only [World.size_alloc] at this
    rw [hW1]; exact this
  have b3 : Bs W1 W1.heap.size (some ⟨w.heap.size + 1 + 1, 0, none⟩) 2 [120#8, 10#8] := ⟨rfl, fun _ => ⟨_, rfl, by simp; omega, fun j hj => by
    rw [add_row, c3.cell j]
    match j, hj with
    | 0, _ => rfl
    | 1, _ => rfl⟩⟩
  have con := pfill W1 (some ⟨w.heap.size, 0, none⟩) 6 6 _ b1 (by decide) (by decide) (some ⟨w.heap.size + 1, 0, none⟩) 1 1 [⟨#[118]⟩] (cv_cel c2) rfl (by decide) (some ⟨w.heap.size + 1 + 1 + 1, 0, none⟩) 1 1 [⟨[120#8, 10#8], some ⟨w.heap.size + 1 + 1, 0, none⟩, 2⟩]
    ⟨cv_cel c4, fun x hx => by rw [List.mem_singleton.1 hx]; exact b3⟩ rfl (by decide) (fun v hv => by rw [List.map_cons, List.map_nil] at hv; rw [List.mem_singleton.1 hv]; show (2 : Nat) ≤ 1000; omega)
  rw [show fill [97#8, 36#8, 36#8, 98#8, 36#8, 118#8] [⟨#[118]⟩] ([(⟨[120#8, 10#8], some ⟨w.heap.size + 1 + 1, 0, none⟩, 2⟩ : V1)].map V1.s) = _ from fill_k] at con
  rw [← hW1]
  refine con.mono ?_
  clear con b1 c2 c3 c4 b3 hW1
  rintro e w2 ⟨hb2, A, c, rfl, ho⟩
  have HB2 := Lib.hid (hb1.trans (hb2.mono hb1.size))
  have HO := Lib.hid ho
  clear hb1 hb2 ho hsz
  go_wp2_with fail
  obtain ⟨W3, hW3⟩ : ∃ W3, W3 = w2.alloc (.cells #[.int .u8 97, .int .u8 36] 5 (2, 3)) := ⟨_, rfl⟩
  have hb3 : Below w2.heap.size w2 W3 := by rw [hW3]; exact (Below.refl _ _).alloc (Nat.le_refl _) _
  have b3 := Bs.lit w2 5 (2, 3) #[.int .u8 97, .int .u8 36] [97#8, 36#8] rfl 2 rfl
  have con := pnames W3 (some ⟨w2.heap.size, 0, none⟩) 2 2 [97#8, 36#8] (by rw [hW3]; simpa using b3) (by decide) (by decide)
  rw [names_kq] at con
  rw [← hW3]
  refine con.mono ?_
  clear con b3 hW3
  rintro e w4 ⟨hb4, rfl⟩
  have HB4 := Lib.hid (HB2.out.trans ((hb3.trans (hb4.mono hb3.size)).mono HB2.out.size))
  have s1 : (convert 22 9 (.slice A 4 c)).run Try.prog w4 = .ok (.string ⟨#[97, 36, 98, 120]⟩) w4 := by
    have hb := Bs.of_own ((HO.out.below hb3).below hb4) rfl
    exact (Bs.bp hb).string c (P := Try.prog) (src := 22) (dst := 9) Try.underlying22 Try.underlying5 Try.underlying9
  clear hb3 hb4 HO HB2
  go_wp2_with fail
  go_ret
  exact ⟨rfl, HB4.out⟩
end Go.Proofs.Ytamklllmjppinaa.Vars
