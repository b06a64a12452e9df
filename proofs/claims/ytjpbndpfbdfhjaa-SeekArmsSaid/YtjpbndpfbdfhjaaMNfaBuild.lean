/-
  The program's Build (layer 9), against the document's build.
-/
import Derived.Test.YtjpbndpfbdfhjaaMNfaSpans
namespace Go.Proofs.Ytjpbndpfbdfhjaa.Nfa
open Go.RowKit Go.Proofs.Ytjpbndpfbdfhjaa.Ord
open Go.Proofs.Ytjpbndpfbdfhjaa.Reg (Ov oflat Sp sflat sflat_length Rop Spn rowSpan)
set_option linter.unusedVariables false
set_option linter.unusedSimpArgs false

theorem ins_mem {q : Lw} {a : Nat} {y x : In} (h : x ∈ (q.ins a y).code) : x ∈ q.code ∨ x = y := by
  unfold Lw.ins at h
  split at h
  · exact .inl h
  · rcases List.mem_append.1 h with h | h
    · exact .inl (List.mem_of_mem_take h)
    · rcases List.mem_cons.1 h with h | h
      · exact .inr h
      · exact .inl (List.mem_of_mem_drop h)
theorem opL_sp {o : Rop} {p q : Lw} {M : Nat} (h : opL o p = some q) (ho : o.sp.length ≤ M) (hp : ∀ x ∈ p.code, x.sp.length ≤ M) : ∀ x ∈ q.code, x.sp.length ≤ M := by
  have h2 : ∀ {r : Lw} {a : Nat} {y : In}, (∀ x ∈ r.code, x.sp.length ≤ M) → y.sp.length ≤ M → ∀ x ∈ (r.ins a y).code, x.sp.length ≤ M := fun hr hy x hx => by
    rcases ins_mem hx with hx | rfl
    · exact hr x hx
    · exact hy
  have h0 : ∀ x y : Int, (two x y).sp.length ≤ M ∧ (go x).sp.length ≤ M := fun x y => ⟨Nat.zero_le _, Nat.zero_le _⟩
  unfold opL at h
  split at h
  · cases h; exact h2 hp ho
  split at h
  · cases h; exact hp
  split at h
  · split at h
    · cases h; exact hp
    · cases h
  split at h
  · split at h
    · cases h; exact h2 (h2 hp (h0 _ 0).2) (h0 _ _).1
    · cases h
  split at h
  · split at h
    · cases h; exact h2 (h2 hp (h0 _ _).1) (h0 _ 0).2
    · cases h
  split at h
  · split at h
    · cases h; exact h2 hp (h0 _ _).1
    · cases h
  split at h
  · split at h
    · cases h; exact h2 hp (h0 _ _).1
    · cases h
  · cases h
theorem semL_sp {M : Nat} : ∀ (l : List Rop) {p q : Lw}, semL p l = some q → (∀ o ∈ l, o.sp.length ≤ M) → (∀ x ∈ p.code, x.sp.length ≤ M) → ∀ x ∈ q.code, x.sp.length ≤ M
  | [], p, q, h, _, hp => by cases h; exact hp
  | o :: l, p, q, h, ho, hp => by
    unfold semL at h
    split at h
    · cases h
    · rename_i p' e
      exact semL_sp l h (fun x hx => ho x (List.mem_cons_of_mem _ hx)) (opL_sp e (ho o (by simp)) hp)

/-- What Build returns. -/
def BSays (w : World) (r : Except Nat (List In)) (e : Ending) (w' : World) : Prop := Below w.heap.size w w' ∧ match r with
  | .error k => e = .returned (.tuple #[.slice none 0 0, .int .i64 (k : Int)])
  | .ok l => ∃ A' c' vs, e = .returned (.tuple #[.slice A' l.length c', .int .i64 0]) ∧ vs.map (·.i) = l ∧ w'.ownsRow w.heap.size 39 5 (.slice A' l.length c') l.length (iflat vs) ∧ ∀ u ∈ vs, Spn w' u.A u.i.sp
theorem bsays_err {w w' : World} {r : Except Nat (List In)} {k : Nat} (hr : r = .error k) (hb : Below w.heap.size w w') : BSays w r (.returned (.tuple #[.slice none 0 0, .int .i64 (k : Int)])) w' := by
  subst hr; exact ⟨hb, rfl⟩

set_option maxRecDepth 100000 in
set_option maxHeartbeats 1000000 in
theorem build_call (w : World) (A : Option Addr) (n c : Nat) (us : List Ov) (hp : Pr8 w A us) (hl : us.length = n) (hn : n ≤ 100000) (hk : ∀ u ∈ us, -9223372036854775808 ≤ u.o.kind ∧ u.o.kind < 9223372036854775808) (hsp : ∀ u ∈ us, u.o.sp.length ≤ 1000) :
    Calls Try.prog 24 #[.slice A n c] w (BSays w (build (us.map (·.o)))) := by
  obtain ⟨s, hs⟩ : ∃ s, s = w.heap.size := ⟨_, rfl⟩
  obtain ⟨W, hW⟩ : ∃ W, W = w.alloc (.cells #[.slice none 0 0, .slice none 0 0, .bool false] 103) := ⟨_, rfl⟩
  have hb0 : Below w.heap.size w W := by rw [hW]; exact (Below.refl _ _).alloc (Nat.le_refl _) _
  have hq0 : Sq w W s ⟨[], [], false⟩ := ⟨⟨by decide, by simp⟩, none, 0, none, 0, [], rfl, by simp, hb0, by omega, by rw [hs, hW]; exact Cel.new w _ _, World.ownsRow_nil _ _ _ _, World.ownsRow_nil _ _ _ _⟩
  have con := execute_call w W s hq0 A n c us hp hl hn hk
  rw [hs, hW] at con
  have HLO := Lib.hid (build_low (us.map (·.o)))
  have HSP := Lib.hid (show ∀ o ∈ us.map (·.o), o.sp.length ≤ 1000 from fun o ho => by obtain ⟨u, hu, rfl⟩ := List.mem_map.1 ho; exact hsp u hu)
  have HS := Lib.hid hs
  clear hp hl hk hsp hb0 hq0 hs
  go_enter Try.func24, Try.ntmps24
  go_wp2_with fail
  refine con.mono ?_
  clear con hW
  intro e w1 hx
  unfold XSays at hx
  cases hsem : semL ⟨[], [], false⟩ (us.map (·.o)) with
  | none =>
    rw [hsem] at hx
    obtain ⟨rfl, hb⟩ := hx
    have HX := Lib.hid (bsays_err (r := build (us.map (·.o))) (k := 1) (by rw [HLO.out, hsem]) hb)
    clear hb hsem
    go_wp2_with fail
    go_ret2
    exact HX.out
  | some q =>
    rw [hsem] at hx
    obtain ⟨rfl, hq1⟩ := hx
    rw [← HS.out] at hq1 ⊢
    have hfin : build (us.map (·.o)) = finL q := by rw [HLO.out, hsem]
    unfold finL at hfin
    by_cases h1 : q.bs.length = 1
    · rw [if_pos h1] at hfin
      rw [decide_eq_true h1]
      have con2 := emit_call w w1 s q hq1 4 0 0 false none [] 0 0 (cz_nil _ _) rfl
      have HSQ := Lib.hid (semL_sp _ hsem HSP.out (by simp))
      have HFIN := Lib.hid hfin
      clear hq1 h1 hsem hfin
      go_wp2_with fail
      refine con2.mono ?_
      rintro e w2 ⟨rfl, hq2, hw2⟩
      have hq2 : Sq w w2 s (q.emit doneI) := hq2
      have hmem : ∀ x ∈ (q.emit doneI).code, x.sp.length ≤ 1000 := fun x hx => by
        rcases ins_mem hx with hx | rfl
        · exact HSQ.out x hx
        · exact Nat.zero_le _
      have hfin := HFIN.out
      generalize q.emit doneI = r at *
      obtain ⟨Ac, cc, Ab, cb, vs, hv1, hv2, h3⟩ := hq2.ex
      have c0 := h3.cel.cell 0
      have c2 := h3.cel.cell 2
      have hlow := h3.low
      have hrl := hq2.ok.len
      cases hbig : r.big with
      | true =>
        rw [hbig] at c2 hfin
        have HX := Lib.hid (bsays_err hfin hlow)
        clear h3 hq2 hw2 hmem hv1 hv2 hlow c0 con2
        go_wp2_with fail
        go_ret2
        exact HX.out
      | false =>
        rw [hbig] at c2 hfin h3
        obtain ⟨m, hm⟩ : ∃ m, m = r.code.length := ⟨_, rfl⟩
        rw [← hm] at c0 h3 hrl
        have hvl : vs.length = m := by rw [hm, ← hv1, List.length_map]
        have con3 := copy_call w w2 m cc Ac vs h3.code hvl (by omega) hlow (fun u hu => ⟨hv2 u hu, hmem _ (by rw [← hv1]; exact List.mem_map_of_mem hu)⟩)
        have H3 := Lib.hid h3
        have HLOW := Lib.hid hlow
        have HM := Lib.hid hm
        have HV1 := Lib.hid hv1
        have HF := Lib.hid hfin
        clear h3 hq2 hw2 hmem hv1 hv2 hlow con2 hm hvl hfin HFIN
        go_wp2_with fail
        refine con3.mono ?_
        rintro e w4 ⟨rfl, vs4, hi4, ho4, hs4, hg4⟩
        have h4 := H3.out.cel.grown hg4 (own_ty_ne H3.out.code H3.out.cel (by decide))
        have c0 := h4.cell 0
        have HB4 := Lib.hid (HLOW.out.trans (show Below w.heap.size w2 w4 from ⟨hg4.os, hg4.tape, hg4.output, hg4.size, fun k hk => hg4.block k (Nat.lt_of_lt_of_le hk HLOW.out.size) fun e => by have := own_ge H3.out.code k e.symm; omega⟩))
        have HI4 := Lib.hid hi4
        have HO4 := Lib.hid ho4
        have HS4 := Lib.hid hs4
        clear h4 hi4 ho4 hs4 hg4 con3
        go_wp2_with fail
        go_ret2
        rw [HF.out]
        exact ⟨HB4.out, Ac, cc, vs4, by rw [← HM.out]; rfl, by rw [HI4.out, HV1.out], by rw [← HM.out]; exact HO4.out, HS4.out⟩
    · rw [if_neg h1] at hfin
      rw [decide_eq_false h1]
      have HX := Lib.hid (bsays_err hfin hq1.low)
      clear hq1 h1 hsem hfin
      go_wp2_with fail
      go_ret2
      exact HX.out
end Go.Proofs.Ytjpbndpfbdfhjaa.Nfa
