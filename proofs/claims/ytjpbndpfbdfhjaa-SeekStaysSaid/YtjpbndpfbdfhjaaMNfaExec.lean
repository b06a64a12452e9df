/-
  The program executes ops (layer 9): execute.
-/
import Derived.Test.YtjpbndpfbdfhjaaMNfaMap
namespace Go.Proofs.Ytjpbndpfbdfhjaa.Nfa
open Go.RowKit Go.Proofs.Ytjpbndpfbdfhjaa.Ord
open Go.Proofs.Ytjpbndpfbdfhjaa.Reg (Ov oflat Sp sflat Rop setCells3)
set_option linter.unusedVariables false
set_option linter.unusedSimpArgs false

theorem semL_ok : ∀ (l : List Rop) {p q : Lw}, semL p l = some q → Ok p → Ok q
  | [], p, q, h, hp => by cases h; exact hp
  | o :: l, p, q, h, hp => by
    unfold semL at h
    split at h
    · cases h
    · rename_i p' e
      exact semL_ok l h (opL_ok e hp)
theorem opL_bs {o : Rop} {p q : Lw} (h : opL o p = some q) : q.bs.length ≤ p.bs.length + 1 := by
  unfold opL at h
  split at h
  · cases h; simp [Lw.emit, ins_bs, Lw.push]
  split at h
  · cases h; simp [Lw.push]
  split at h
  · split at h
    · rename_i b a r e
      cases h; rw [e]; simp
    · cases h
  split at h
  · split at h
    · rename_i b a r e
      cases h; rw [e]; simp [ins_bs]
    · cases h
  split at h
  · split at h
    · cases h; simp [Lw.emit, ins_bs]
    · cases h
  split at h
  · split at h
    · cases h; simp [Lw.emit, ins_bs]
    · cases h
  split at h
  · split at h
    · cases h; simp [ins_bs]
    · cases h
  · cases h
theorem semL_bs : ∀ (l : List Rop) {p q : Lw}, semL p l = some q → q.bs.length ≤ p.bs.length + l.length
  | [], p, q, h => by cases h; simp
  | o :: l, p, q, h => by
    unfold semL at h
    split at h
    · cases h
    · rename_i p' e
      have h1 := opL_bs e
      have h2 := semL_bs l h
      simp only [List.length_cons]; omega
/-- A function of the map is entered. -/
theorem run_enter {P : Program} {f : FuncId} {fn : Func} {c : Code} (hf : P.funcs[f]? = some fn) (hname : (fn.name == "runtime.NumGoroutine") = false) (hb : fn.body = some c) (args : Array Value) (w : World) : (callFunc f args).run P w = .ok (.enter f args) w := by
  have h1 : ¬ fn.name = "runtime.NumGoroutine" := by simpa using hname
  simp [callFunc, hf, h1, hb]
theorem run_maker {k : Int} {j : FuncId} (h : mkF k = some j) (args : Array Value) (w : World) : (callFunc j args).run Try.prog w = .ok (.enter j args) w := by
  unfold mkF at h
  split at h
  · cases h
    exact run_enter Try.func63 (by kernel_rfl) rfl args w
  split at h
  · cases h
    exact run_enter Try.func62 (by kernel_rfl) rfl args w
  split at h
  · cases h
    exact run_enter Try.func61 (by kernel_rfl) rfl args w
  split at h
  · cases h
    exact run_enter Try.func60 (by kernel_rfl) rfl args w
  split at h
  · cases h
    exact run_enter Try.func59 (by kernel_rfl) rfl args w
  split at h
  · cases h
    exact run_enter Try.func58 (by kernel_rfl) rfl args w
  split at h
  · cases h
    exact run_enter Try.func57 (by kernel_rfl) rfl args w
  · cases h
/-- What execute returns. -/
def XSays (w0 w : World) (s : Nat) (l : List Rop) (e : Ending) (w' : World) : Prop := match semL ⟨[], [], false⟩ l with
  | none => e = .returned (.bool false) ∧ Below w0.heap.size w0 w'
  | some q => e = .returned (.bool (decide (q.bs.length = 1))) ∧ Sq w0 w' s q
theorem semL_cut {p : Lw} {us : List Ov} {i : Nat} (h : semL p ((us.take i).map (·.o)) = none) : semL p (us.map (·.o)) = none := by
  rw [← List.take_append_drop i us, List.map_append, semL_append, h]
theorem xsays_none {w0 w w' : World} {s : Nat} {l : List Rop} (h : semL ⟨[], [], false⟩ l = none) (hb : Below w0.heap.size w0 w') : XSays w0 w s l (.returned (.bool false)) w' := by
  unfold XSays; rw [h]; exact ⟨rfl, hb⟩
theorem xsays_some {w0 w w' : World} {s : Nat} {l : List Rop} {q : Lw} {b : Bool} (h : semL ⟨[], [], false⟩ l = some q) (hq : Sq w0 w' s q) (hb : b = decide (q.bs.length = 1)) : XSays w0 w s l (.returned (.bool b)) w' := by
  unfold XSays; rw [h, hb]; exact ⟨rfl, hq⟩

set_option maxRecDepth 100000 in
set_option maxHeartbeats 1000000 in
theorem execute_call (w0 w : World) (s : Nat) (h : Sq w0 w s ⟨[], [], false⟩) (A : Option Addr) (n c : Nat) (us : List Ov) (hp : Pr8 w0 A us) (hl : us.length = n) (hn : n ≤ 100000) (hk : ∀ u ∈ us, -9223372036854775808 ≤ u.o.kind ∧ u.o.kind < 9223372036854775808) :
    Calls Try.prog 36 #[.pointer (some ⟨s, 0, none⟩), .slice A n c] w (XSays w0 w s (us.map (·.o))) := by
  have con := makers_call w
  have H := Lib.hid h
  have HP := Lib.hid hp
  have HL := Lib.hid hl
  have HK := Lib.hid hk
  clear h hp hl hk
  go_enter Try.func36, Try.ntmps36
  go_wp2_with fail
  refine con.mono ?_
  rintro e w1 ⟨rfl, hm, hb⟩
  obtain ⟨b, hbb⟩ : ∃ b, b = w.heap.size := ⟨_, rfl⟩
  rw [← hbb] at hm ⊢
  have HM := Lib.hid hm
  have HQ := Lib.hid (H.out.below hb)
  clear hm hb hbb
  go_wp2_with fail
  go_loopw [13] (fun v13 wr => ∃ (i : Nat) (q : Lw), i ≤ n ∧ v13 = .int .i64 (i : Int) ∧ semL ⟨[], [], false⟩ ((us.take i).map (·.o)) = some q ∧ Sq w0 wr s q ∧ Mk wr b 7 mkF) (fun v13 _ => n - (intOf v13).toNat)
  case atStart => exact ⟨0, _, Nat.zero_le _, rfl, rfl, HQ.out, HM.out⟩
  case round =>
    obtain ⟨i, q, hi, rfl, hs, hq, hm⟩ := hrel
    obtain ⟨W0, rfl⟩ : ∃ W0, W0 = wr := ⟨_, rfl⟩
    have HS := Lib.hid hs
    have HQ := Lib.hid hq
    have HM := Lib.hid hm
    clear hs hq hm
    rcases Nat.lt_or_ge i n with hlt | hge
    · obtain ⟨u, hu⟩ : ∃ u, us[i]? = some u := ⟨_, List.getElem?_eq_getElem (by rw [HL.out]; exact hlt)⟩
      obtain ⟨ad, rfl, k0, k1, k2⟩ := cz_three (HP.out.ry.below (HQ.out.low)) hu
      have HSP := Lib.hid (HP.out.sp u (List.mem_of_getElem? hu))
      have hkr := HK.out u (List.mem_of_getElem? hu)
      have HU := Lib.hid (show (us.take (i + 1)).map (·.o) = (us.take i).map (·.o) ++ [u.o] by rw [take_snocO us i u hu, List.map_append]; rfl)
      clear hu
      obtain ⟨W1, hW1⟩ : ∃ W1, W1 = W0.alloc (.cells #[.int .i64 u.o.kind, .bool u.o.neg, .slice u.A u.o.sp.length u.c] 122) := ⟨_, rfl⟩
      have hc1 : Cel W1 W0.heap.size 122 [.int .i64 u.o.kind, .bool u.o.neg, .slice u.A u.o.sp.length u.c] := by rw [hW1]; exact Cel.new W0 _ _
      have hb1 : Below W0.heap.size W0 W1 := by rw [hW1]; exact (Below.refl _ _).alloc (Nat.le_refl _) _
      have HQ1 := Lib.hid (HQ.out.below hb1)
      have HM1 := Lib.hid (HM.out.below hb1)
      have hlook := HM1.out.look u.o.kind hkr
      have x0 := hc1.cell 0
      have x1 := hc1.cell 1
      have x2 := hc1.cell 2
      have hlen : q.bs.length ≤ 100000 := by
        have := semL_bs _ HS.out
        simp only [List.length_nil, List.length_map, List.length_take] at this
        omega
      rw [hW1] at hlook x0 x1 x2
      clear hc1 hb1
      cases hf : mkF u.o.kind with
      | none =>
        rw [hf] at hlook
        have hno := semL_cut (i := i + 1) (show semL ⟨[], [], false⟩ ((us.take (i + 1)).map (·.o)) = none by rw [HU.out, semL_snoc _ HS.out, op_none _ _ hf])
        have HX := Lib.hid (fun W => xsays_none (w := w) (w' := W) (s := s) (w0 := w0) hno)
        have HLOW := Lib.hid HQ1.out.low
        rw [hW1] at HLOW
        clear hf hno
        go_wp2_with fail
        go_ret
        exact HX.out _ HLOW.out
      | some j =>
        rw [hf] at hlook
        have con := op_call w0 W1 s q HQ1.out hlen u.o u.A u.o.sp.length u.c HSP.out rfl j hf
        rw [hW1] at con
        simp only [fv] at hlook
        have henter := fun args W => run_maker hf args W
        clear hf
        have HW1 := Lib.hid hW1
        go_wp2_with fail
        refine con.mono ?_
        intro e w2 hms
        cases hop : opL u.o q with
        | none =>
          rw [hop] at hms
          obtain ⟨rfl, hb2, hw2⟩ := hms
          have hno := semL_cut (i := i + 1) (show semL ⟨[], [], false⟩ ((us.take (i + 1)).map (·.o)) = none by rw [HU.out, semL_snoc _ HS.out, hop])
          have HX := Lib.hid (xsays_none (w := w) (w' := w2) (s := s) (w0 := w0) hno hb2)
          clear hno hb2 hw2 hop con
          go_wp2_with fail
          go_ret
          exact HX.out
        | some q' =>
          rw [hop] at hms
          obtain ⟨rfl, hq2, hw2⟩ := hms
          have HQ2 := Lib.hid hq2
          have HS2 := Lib.hid (show semL ⟨[], [], false⟩ ((us.take (i + 1)).map (·.o)) = some q' by rw [HU.out, semL_snoc _ HS.out, hop])
          have HM2 := Lib.hid (HM1.out.wr (by rw [HW1.out]; exact hw2))
          clear hq2 hw2 hop con
          go_wp2_with fail
          exact ⟨⟨i + 1, q', by omega, by rw [show ((i + 1 : Nat) : Int) = (i : Int) + 1 by omega], HS2.out, HQ2.out, HM2.out⟩, by simp [intOf]; omega⟩
    · obtain rfl : i = n := by omega
      have hall : semL ⟨[], [], false⟩ (us.map (·.o)) = some q := by
        have := HS.out
        rwa [List.take_of_length_le (by rw [HL.out]; exact Nat.le_refl _)] at this
      obtain ⟨Ac, cc, Ab, cb, vs, _, _, h3⟩ := HQ.out.ex
      obtain ⟨m, hm⟩ : ∃ m, m = q.bs.length := ⟨_, rfl⟩
      rw [← hm] at h3
      have c1 := h3.cel.cell 1
      have HX := Lib.hid (fun (b : Bool) (hb : b = decide (q.bs.length = 1)) => xsays_some (w := w) (w0 := w0) hall HQ.out hb)
      have HMM := Lib.hid hm
      clear h3 hall hm
      have d1 : ((m : Int) == 1) = decide (m = 1) := by by_cases h : m = 1 <;> simp [h] <;> omega
      go_wp2_with fail
      go_ret
      refine HX.out _ ?_
      rw [← HMM.out]
end Go.Proofs.Ytjpbndpfbdfhjaa.Nfa
