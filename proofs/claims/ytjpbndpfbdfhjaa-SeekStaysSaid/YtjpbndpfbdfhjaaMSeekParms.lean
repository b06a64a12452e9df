/-
  The program's Arms (layer 10): the instructions of patterns, or the first error, and where.
-/
import Derived.Test.YtjpbndpfbdfhjaaMSeekArms
import Derived.Test.YtjpbndpfbdfhjaaMNfaKnows
namespace Go.Proofs.Ytjpbndpfbdfhjaa.Seek
open Go.RowKit Go.Proofs.Ytjpbndpfbdfhjaa.Nfa
open Go.Proofs.Ytjpbndpfbdfhjaa.Reg (Sp Spn sflat Ov oflat Rop Ows parse ParseSays parse_top parse_good parse_sp piled_kinds parse_len weight heavy)
set_option linter.unusedVariables false
set_option linter.unusedSimpArgs false

/-- Instructions whose numbers are small, of few spans. -/
def NiceI (x : In) : Prop := (-1000 ≤ x.x ∧ x.x ≤ 1000) ∧ (-1000 ≤ x.y ∧ x.y ≤ 1000) ∧ x.sp.length ≤ 1000
def Nice (p : List (List In)) : Prop := ∀ a ∈ p, ∀ x ∈ a, NiceI x
theorem opS_nice {o : Rop} {p q : List (List In)} (h : opS o p = some q) (hp : Nice p) (ho : o.sp.length ≤ 1000) (hl : lens q ≤ 500) : Nice q := by
  unfold opS at h
  split at h
  · cases h
    intro a ha x hx
    rcases List.mem_cons.1 ha with rfl | ha
    · rw [List.mem_singleton.1 hx]; exact ⟨by simp [oneI], by simp [oneI], ho⟩
    · exact hp a ha x hx
  split at h
  · cases h
    intro a ha x hx
    rcases List.mem_cons.1 ha with rfl | ha
    · cases hx
    · exact hp a ha x hx
  split at h
  · split at h
    · rename_i b a r
      cases h
      intro z hz x hx
      rcases List.mem_cons.1 hz with rfl | hz
      · rcases List.mem_append.1 hx with hx | hx
        · exact hp a (by simp) x hx
        · exact hp b (by simp) x hx
      · exact hp z (by simp [hz]) x hx
    · cases h
  split at h
  · split at h
    · rename_i b a r
      cases h
      rw [lens_cons] at hl
      have hal : (altOf a b).length = a.length + b.length + 2 := by simp [altOf]; omega
      intro z hz x hx
      rcases List.mem_cons.1 hz with rfl | hz
      · simp only [altOf, List.mem_cons, List.mem_append] at hx
        rcases hx with rfl | hx | rfl | hx
        · simp only [NiceI, two, List.length_nil]; omega
        · exact hp a (by simp) x hx
        · simp only [NiceI, go, List.length_nil]; omega
        · exact hp b (by simp) x hx
      · exact hp z (by simp [hz]) x hx
    · cases h
  split at h
  · split at h
    · rename_i a r
      cases h
      rw [lens_cons] at hl
      have hal : (starOf a).length = a.length + 2 := by simp [starOf]
      intro z hz x hx
      rcases List.mem_cons.1 hz with rfl | hz
      · simp only [starOf, List.mem_cons, List.mem_append, List.not_mem_nil, or_false] at hx
        rcases hx with rfl | hx | rfl
        · simp only [NiceI, two, List.length_nil]; omega
        · exact hp a (by simp) x hx
        · simp only [NiceI, go, List.length_nil]; omega
      · exact hp z (by simp [hz]) x hx
    · cases h
  split at h
  · split at h
    · rename_i a r
      cases h
      rw [lens_cons] at hl
      have hal : (plusOf a).length = a.length + 1 := by simp [plusOf]
      intro z hz x hx
      rcases List.mem_cons.1 hz with rfl | hz
      · simp only [plusOf, List.mem_cons, List.mem_append, List.not_mem_nil, or_false] at hx
        rcases hx with hx | rfl
        · exact hp a (by simp) x hx
        · simp only [NiceI, two, List.length_nil]; omega
      · exact hp z (by simp [hz]) x hx
    · cases h
  split at h
  · split at h
    · rename_i a r
      cases h
      rw [lens_cons] at hl
      have hal : (optOf a).length = a.length + 1 := by simp [optOf]
      intro z hz x hx
      rcases List.mem_cons.1 hz with rfl | hz
      · simp only [optOf, List.mem_cons] at hx
        rcases hx with rfl | hx
        · simp only [NiceI, two, List.length_nil]; omega
        · exact hp a (by simp) x hx
      · exact hp z (by simp [hz]) x hx
    · cases h
  · cases h
theorem sem_nice : ∀ (l : List Rop) (p q : List (List In)), sem p l = some q → Nice p → (∀ o ∈ l, o.sp.length ≤ 1000) → lens q ≤ 500 → Nice q
  | [], p, q, h, hp, _, _ => by cases h; exact hp
  | o :: l, p, q, h, hp, ho, hl => by
    have h' : (match opS o p with | none => none | some r => sem r l) = some q := h
    cases e : opS o p with
    | none => rw [e] at h'; cases h'
    | some r =>
      rw [e] at h'
      have h1 := (sem_some h').2
      exact sem_nice l r q h' (opS_nice e hp (ho o (by simp)) (by omega)) (fun x hx => ho x (by simp [hx])) hl
theorem build_nice {l : List Rop} {a : List In} (h : build l = .ok a) (ho : ∀ o ∈ l, o.sp.length ≤ 1000) : a.length ≤ 200 ∧ ∀ x ∈ a, NiceI x := by
  unfold build at h
  split at h
  · rename_i b e
    split at h
    · cases h
    · injection h with h
      subst h
      refine ⟨by rw [List.length_append]; simp; omega, fun x hx => ?_⟩
      rcases List.mem_append.1 hx with hx | hx
      · exact sem_nice l [] [b] e (by intro a ha; cases ha) ho (by simp [lens]; omega) b (by simp) x hx
      · rw [List.mem_singleton.1 hx]; exact ⟨by simp [doneI], by simp [doneI], Nat.zero_le _⟩
  · cases h
theorem oneArm_nice {s : List (BitVec 8)} {p : List In} (h : oneArm s = .ok p) : p.length ≤ 200 ∧ ∀ x ∈ p, NiceI x := by
  unfold oneArm at h
  cases e : parse s with
  | error q => rw [e] at h; obtain ⟨_, _⟩ := q; cases h
  | ok l => rw [e] at h; exact build_nice h (parse_sp e)
theorem armsF_nice : ∀ (i : Nat) (l : List (List (BitVec 8))) (ps : List (List In)), armsF i l = .ok ps → ps.length = l.length ∧ ∀ p ∈ ps, p.length ≤ 200 ∧ ∀ x ∈ p, NiceI x
  | _, [], ps, h => by cases h; simp
  | i, s :: l, ps, h => by
    rw [armsF_cons] at h
    cases e : oneArm s with
    | error bad => rw [e] at h; cases h
    | ok p =>
      rw [e] at h
      dsimp only at h
      cases e2 : armsF (i + 1) l with
      | error q => rw [e2] at h; cases h
      | ok qs =>
        rw [e2] at h
        injection h with h
        subst h
        obtain ⟨h1, h2⟩ := armsF_nice (i + 1) l qs e2
        refine ⟨by simp [h1], fun q hq => ?_⟩
        rcases List.mem_cons.1 hq with rfl | hq
        · exact oneArm_nice e
        · exact h2 q hq
theorem build_err {l : List Rop} {k : Nat} (h : build l = .error k) : k ≠ 0 := by
  unfold build at h
  split at h
  · split at h
    · injection h with h; omega
    · cases h
  · injection h with h; omega

/-- The program's instructions, that can be read, in a block of their type. -/
structure Ar9 (w : World) (A : Option Addr) (us : List Iv) : Prop where
  ry : Ry 39 w A (iflat us)
  sp : ∀ u ∈ us, Spn w u.A u.i.sp
theorem Ar9.pr {w : World} {A : Option Addr} {us : List Iv} (h : Ar9 w A us) : Pr9 w A us := ⟨cz_ry h.ry, fun u hu => cz_ry (h.sp u hu)⟩
theorem Ar9.below {w w' : World} {A : Option Addr} {us : List Iv} (h : Ar9 w A us) (hb : Below w.heap.size w w') : Ar9 w' A us := ⟨Ry.below h.ry hb, fun u hu => Ry.below (h.sp u hu) hb⟩
theorem Ar9.grown {w w' : World} {A : Option Addr} {us : List Iv} {B size n : Nat} {v : Value} {cs : List Value} (h : Ar9 w A us) (ho : w.ownsRow B 36 size v n cs) (hg : w.grownBy w' v.ownBlock) : Ar9 w' A us :=
  ⟨Ry.grown h.ry hg (own_not_ty ho (by decide)), fun u hu => Ry.grown (h.sp u hu) hg (own_not_ty ho (by decide))⟩
/-- The program's arms, in an own row. -/
structure Pao (w : World) (B : Nat) (A : Option Addr) (n c : Nat) (ys : List Av) : Prop where
  own : w.ownsRow B 36 1 (.slice A n c) n (ys.map Av.cell)
  len : ys.length = n
  arms : ∀ y ∈ ys, Ar9 w y.A y.us
theorem Pao.below {w w' : World} {B n c : Nat} {A : Option Addr} {ys : List Av} (h : Pao w B A n c ys) (hb : Below w.heap.size w w') : Pao w' B A n c ys := ⟨own_frm (l := []) h.own (Frm.of_below hb) (by simp), h.len, fun y hy => (h.arms y hy).below hb⟩
theorem Pao.pas {w : World} {B n c : Nat} {A : Option Addr} {ys : List Av} (h : Pao w B A n c ys) : Pas w A ys := ⟨cz_ry (Ry.of_own h.own (by decide)), fun y hy => (h.arms y hy).pr⟩
theorem Pao.pushed {w w' : World} {B n c c' : Nat} {A A' : Option Addr} {ys : List Av} {y : Av} (h : Pao w B A n c ys) (hy : Ar9 w y.A y.us) (hg : w.grownBy w' (Value.slice A n c).ownBlock) (ho : w'.ownsRow B 36 1 (.slice A' (n + 1) c') (n + 1) ((ys ++ [y]).map Av.cell)) : Pao w' B A' (n + 1) c' (ys ++ [y]) := by
  refine ⟨ho, by rw [List.length_append, h.len]; rfl, fun z hz => ?_⟩
  rcases List.mem_append.1 hz with hz | hz
  · exact (h.arms z hz).grown h.own hg
  · rw [List.mem_singleton.1 hz]; exact hy.grown h.own hg
theorem Pao.grew {w w' : World} {B n c : Nat} {A : Option Addr} {ys : List Av} (h : Pao w B A n c ys) (hg : w.grownBy w' (Value.slice A n c).ownBlock) (hB : B ≤ w.heap.size) : Below B w w' :=
  ⟨hg.os, hg.tape, hg.output, hg.size, fun k hk => hg.block k (by omega) fun e => by have := own_ge h.own k e.symm; omega⟩
theorem infoParm : (Try.prog.info? 36).map (fun i => (i.zero, i.size, i.bytes)) = some (some (.slice none 0 0), 1, 24) := by kernel_rfl
theorem rowParm : ElemRow Try.prog 25 36 1 24 := ElemRow.mk' Try.underlying25 infoParm rfl (by decide)

/-- What instructions returns. -/
def InSays (w : World) (r : Except Nat (List In)) (e : Ending) (w' : World) : Prop := Below w.heap.size w w' ∧ match r with
  | .error bad => bad ≠ 0 ∧ e = .returned (.tuple #[.slice none 0 0, .int .i64 (bad : Int)])
  | .ok p => ∃ A' c' vs, e = .returned (.tuple #[.slice A' p.length c', .int .i64 0]) ∧ vs.map (·.i) = p ∧ Ar9 w' A' vs
set_option maxRecDepth 100000 in
set_option maxHeartbeats 1000000 in
theorem instr_call (w : World) (B : Nat) (A : Option Addr) (n c : Nat) (s : List (BitVec 8)) (hs : Bs w B A n s) (hB : B ≤ w.heap.size) :
    Calls Try.prog 15 #[.slice A n c] w (InSays w (oneArm s)) := by
  have con := parse_top w B A n c s hs hB
  have HSL := Lib.hid hs.len
  clear hs
  go_enter Try.func15, Try.ntmps15
  go_wp2_with fail
  refine con.mono ?_
  intro e w1 hps
  clear con
  cases hpa : parse s with
  | error x =>
    obtain ⟨bad, p⟩ := x
    rw [hpa] at hps
    obtain ⟨hb1, hbad, rfl⟩ := hps
    have HB1 := Lib.hid hb1
    have HNE := Lib.hid hbad
    have HONE := Lib.hid (show oneArm s = .error bad by unfold oneArm; rw [hpa])
    have hbi : ¬ ((bad : Int) = 0) := by omega
    clear hb1 hpa hbad
    go_wp2_with fail
    go_ret2
    rw [HONE.out]
    exact ⟨HB1.out, HNE.out, rfl⟩
  | ok l =>
    rw [hpa] at hps
    obtain ⟨hb1, A1, c1, rfl, ho1⟩ := hps
    obtain ⟨us, hm1, hl1, hp1⟩ := Pr8.of_ows ho1 rfl
    have hg := parse_good hpa
    have hln : l.length ≤ 100000 := Nat.le_trans (parse_len hpa) (by decide)
    have con2 := build_call w1 A1 l.length c1 us hp1 hl1 hln (fun u hu => by have := piled_kinds _ 0 1 hg.2.1 u.o (by rw [← hm1]; exact List.mem_map_of_mem hu); omega) (fun u hu => parse_sp hpa u.o (by rw [← hm1]; exact List.mem_map_of_mem hu))
    rw [hm1] at con2
    have HB1 := Lib.hid hb1
    have HONE := Lib.hid (show oneArm s = build l by unfold oneArm; rw [hpa])
    generalize l.length = ll at *
    clear hb1 ho1 hm1 hl1 hp1 hg hpa
    go_wp2_with fail
    refine con2.mono ?_
    clear con2
    rintro e w2 ⟨hb2, hr2⟩
    have HB2 := Lib.hid (HB1.out.trans (hb2.mono HB1.out.size))
    clear hb2
    cases hbu : build l with
    | error bad =>
      rw [hbu] at hr2
      obtain rfl := hr2
      have HO2 := Lib.hid (HONE.out.trans hbu)
      have HNE := Lib.hid (build_err hbu)
      clear hbu
      go_wp2_with fail
      go_ret2
      rw [HO2.out]
      exact ⟨HB2.out, HNE.out, rfl⟩
    | ok a =>
      rw [hbu] at hr2
      obtain ⟨A2, c2, vs, rfl, hvi, hov, hsv⟩ := hr2
      have HO2 := Lib.hid (HONE.out.trans hbu)
      have HVI := Lib.hid hvi
      have HAR := Lib.hid (show Ar9 w2 A2 vs from ⟨Ry.of_own hov (by decide), hsv⟩)
      clear hbu hvi hov hsv
      generalize hal : a.length = m
      have HAL := Lib.hid hal
      clear hal
      go_wp2_with fail
      go_ret2
      rw [HO2.out]
      refine ⟨HB2.out, A2, c2, vs, ?_, HVI.out, HAR.out⟩
      rw [HAL.out]
      rfl
theorem made_nils (k : Nat) : madeCells (Value.cells (.slice none 0 0)) (k * 1) = (List.replicate k (Value.slice none 0 0)).toArray := by
  apply Array.ext
  · simp [size_madeCells]
  · intro i h1 h2
    simp [madeCells, Value.cells, Nat.mod_one]
theorem run_make_arms (w : World) (k : Nat) (hk : k ≤ 1000) :
    (Instr.makeSlice 25 (.int .i64 0) (.int .i64 (k : Int))).run Try.prog w = .ok (.slice (some ⟨w.heap.size, 0, none⟩) 0 k) (w.alloc (.cells (List.replicate k (Value.slice none 0 0)).toArray 36)) := by
  cases hi : Try.prog.info? 36 with
  | none => have := infoParm; rw [hi] at this; cases this
  | some i =>
    have e := infoParm
    rw [hi] at e
    simp only [Option.map_some, Option.some.injEq, Prod.mk.injEq] at e
    obtain ⟨hz, hsz, hby⟩ := e
    have h := run_make (P := Try.prog) w 25 36 i (.slice none 0 0) Try.underlying25 hi hz .i64 .i64 0 k (by omega) (by omega) (by rw [hby]; omega) (by omega)
    simp only [Int.toNat_natCast] at h
    rw [h, hsz, made_nils]
    rfl
/-- What Arms returns. -/
def PaSays (w : World) (r : Except (Nat × Nat) (List (List In))) (e : Ending) (w' : World) : Prop := Below w.heap.size w w' ∧ match r with
  | .error (i, bad) => bad ≠ 0 ∧ e = .returned (.tuple #[.slice none 0 0, .int .i64 (i : Int), .int .i64 (bad : Int)])
  | .ok ps => ∃ A' n' c' ys, e = .returned (.tuple #[.slice A' n' c', .int .i64 0, .int .i64 0]) ∧ n' = ys.length ∧ Pas w' A' ys ∧ ys.map Av.p = ps
set_option maxRecDepth 100000 in
set_option maxHeartbeats 2000000 in
theorem parms (w : World) (B : Nat) (A : Option Addr) (n c : Nat) (ss : List Sv) (h : Sas w B A ss) (hB : B ≤ w.heap.size) (hl : ss.length = n) (hn : n ≤ 1000) :
    Calls Try.prog 7 #[.slice A n c] w (PaSays w (armsF 0 (ss.map Sv.s))) := by
  obtain ⟨zs, hz⟩ : ∃ zs, zs = List.replicate n (Value.slice none 0 0) := ⟨_, rfl⟩
  have hmk := run_make_arms w n hn
  rw [← hz] at hmk
  have hc0 := Cel.new w 36 zs
  have hzl : zs.length = n := by rw [hz, List.length_replicate]
  have H := Lib.hid h
  have HL := Lib.hid hl
  have HB0 := Lib.hid (show Below w.heap.size w (w.alloc (.cells zs.toArray 36)) from (Below.refl _ _).alloc (Nat.le_refl _) _)
  have HP0 := Lib.hid (show Pao (w.alloc (.cells zs.toArray 36)) w.heap.size (some ⟨w.heap.size, 0, none⟩) 0 n [] from ⟨⟨rfl, .inr ⟨w.heap.size, n, zs.toArray, rfl, Nat.le_refl _, hc0, Nat.zero_le _, by unfold maxLen; omega, by simp [hzl], by simp⟩⟩, rfl, by simp⟩)
  clear h hl hc0 hz
  go_enter Try.func7, Try.ntmps7
  go_wp2_with fail
  go_loopw [5, 15] (fun v5 v15 wr => ∃ (i c3 : Nat) (A3 : Option Addr) (ys : List Av), i ≤ n ∧ v15 = .int .i64 (i : Int) ∧ v5 = .slice A3 i c3 ∧ Pao wr w.heap.size A3 i c3 ys ∧ ((ss.map Sv.s).take i).map oneArm = (ys.map Av.p).map Except.ok ∧ Below w.heap.size w wr) (fun _ v15 _ => n - (intOf v15).toNat)
  case atStart => exact ⟨0, n, _, [], Nat.zero_le _, rfl, rfl, HP0.out, by simp, HB0.out⟩
  case round =>
    clear hmk HP0 HB0
    obtain ⟨i, c3, A3, ys, hi, rfl, rfl, hra, hys, hb⟩ := hrel
    obtain ⟨W0, rfl⟩ : ∃ W0, W0 = wr := ⟨_, rfl⟩
    have HRA := Lib.hid hra
    have HYS := Lib.hid hys
    have HB := Lib.hid hb
    clear hra hys hb
    rcases Nat.lt_or_ge i n with hlt | hge
    · obtain ⟨x, hx⟩ : ∃ x, ss[i]? = some x := ⟨_, List.getElem?_eq_getElem (by rw [HL.out]; exact hlt)⟩
      have HX := Lib.hid (show (ss.map Sv.s)[i]? = some x.s by rw [List.getElem?_map, hx]; rfl)
      obtain ⟨ad, rfl, a0⟩ := (H.out.below hB HB.out).at_ hx
      have con := instr_call W0 B x.A x.s.length x.c x.s ((H.out.below hB HB.out).bs x (List.mem_of_getElem? hx)) (Nat.le_trans hB HB.out.size)
      clear hx
      go_wp2_with fail
      refine con.mono ?_
      clear con a0
      intro e w2 hps
      cases hpa : oneArm x.s with
      | error bad =>
        rw [hpa] at hps
        obtain ⟨hb2, hbad, rfl⟩ := hps
        have HBAD := Lib.hid (show armsF 0 (ss.map Sv.s) = .error (i, bad) from armsF_bad HYS.out HX.out hpa)
        have HB2 := Lib.hid (HB.out.trans (hb2.mono HB.out.size))
        have HNE := Lib.hid hbad
        have hbi : ¬ ((bad : Int) = 0) := by omega
        clear hb2 hpa hbad
        go_wp2_with fail
        go_ret3
        rw [HBAD.out]
        exact ⟨HB2.out, HNE.out, rfl⟩
      | ok p =>
        rw [hpa] at hps
        obtain ⟨hb2, A2, c2, vs, rfl, hvi, har⟩ := hps
        have hvl : vs.length = p.length := by rw [← hvi, List.length_map]
        obtain ⟨m2, hm2⟩ : ∃ m2, m2 = p.length := ⟨_, rfl⟩
        rw [← hm2] at hvl ⊢
        have hw4 : Below w2.heap.size w2 (w2.alloc (.cells #[.slice A2 m2 c2] 36)) := (Below.refl _ _).alloc (Nat.le_refl _) _
        have HR4 := Lib.hid ((HRA.out.below hb2).below hw4)
        have HY4 := Lib.hid (har.below hw4)
        have HB4 := Lib.hid ((HB.out.trans (hb2.mono HB.out.size)).trans (hw4.mono (Nat.le_trans HB.out.size hb2.size)))
        have HSRC := Lib.hid (show Src (w2.alloc (.cells #[.slice A2 m2 c2] 36)) (some ⟨w2.heap.size, 0, none⟩) 1 [Av.cell ⟨vs, A2, c2⟩] from fun _ => ⟨_, rfl, fun j u hj => by
          have hc := Cel.new w2 36 [.slice A2 m2 c2]
          rw [add_row, hc.cell j]
          rw [show Av.cell ⟨vs, A2, c2⟩ = .slice A2 m2 c2 by rw [← hvl]; rfl] at hj
          exact hj⟩)
        have HST := Lib.hid (show ((ss.map Sv.s).take (i + 1)).map oneArm = ((ys ++ [(⟨vs, A2, c2⟩ : Av)]).map Av.p).map Except.ok by
          rw [List.map_append]
          exact arms_snoc HYS.out HX.out (by rw [hpa, ← hvi]; rfl))
        have hws := HB4.out.size
        clear hvi har hb2 hw4 hvl hpa hm2
        go_wp2_with ((at_builtin; refine wpList_append_any _ rfl _ _ 25 rfl w.heap.size 36 rowParm (.slice A3 i c3) i (ys.map Av.cell) rfl HR4.out.own (some ⟨w2.heap.size, 0, none⟩) 1 1 [Av.cell ⟨vs, A2, c2⟩] rfl rfl HSRC.out (arm_one [⟨vs, A2, c2⟩]) (i + 1) _ rfl rfl (by unfold maxLen; omega) (by omega) hws ?_; intro A8 c8 w8 ho8 hg8 _; have HR8 := Lib.hid (HR4.out.pushed (y := ⟨vs, A2, c2⟩) HY4.out hg8 (by rw [List.map_append]; exact ho8)); have HB8 := Lib.hid (HB4.out.trans (HR4.out.grew hg8 hws)); clear ho8 hg8))
        exact ⟨⟨i + 1, c8, A8, _, by omega, by rw [show ((i + 1 : Nat) : Int) = (i : Int) + 1 by omega], rfl, HR8.out, HST.out, HB8.out⟩, by simp [intOf]; omega⟩
    · obtain rfl : i = n := by omega
      have HALL := Lib.hid (show armsF 0 (ss.map Sv.s) = .ok (ys.map Av.p) from armsF_all (by have := HYS.out; rwa [List.take_of_length_le (by rw [List.length_map, HL.out]; exact Nat.le_refl _)] at this))
      go_wp2_with fail
      go_ret3
      rw [HALL.out]
      exact ⟨HB.out, A3, i, c3, ys, rfl, HRA.out.len.symm, HRA.out.pas, rfl⟩
end Go.Proofs.Ytjpbndpfbdfhjaa.Seek
