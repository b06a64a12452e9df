/-
  The document's Arms (layer 10): the instructions of patterns, or the first error, and where.
-/
import Derived.Test.YtjpbndpfbdfhjaaMNfaLast
import Derived.Test.YtjpbndpfbdfhjaaMSeekAs
import Derived.Test.YtjpbndpfbdfhjaaMRegRefParse
import Derived.Test.YtjpbndpfbdfhjaaMRegFew
namespace Go.Proofs.Ytjpbndpfbdfhjaa.Seek
open Go.RowKit Go.Proofs.Ytjpbndpfbdfhjaa.Nfa
open Go.Proofs.Ytjpbndpfbdfhjaa.Reg (Sp RSpn sflat Ov oflat Rop parse ROws RParseSays rparse parse_len)
set_option linter.unusedVariables false
set_option linter.unusedSimpArgs false

/-- A pattern's instructions, or an error's number. -/
def oneArm (s : List (BitVec 8)) : Except Nat (List In) := match parse s with
  | .error (bad, _) => .error bad
  | .ok l => build l
/-- P10.1: the instructions of all patterns; or the first error's place, and its number. -/
def armsF : Nat → List (List (BitVec 8)) → Except (Nat × Nat) (List (List In))
  | _, [] => .ok []
  | i, s :: l => match oneArm s with
    | .error bad => .error (i, bad)
    | .ok p => match armsF (i + 1) l with
      | .error e => .error e
      | .ok ps => .ok (p :: ps)
theorem armsF_cons (i : Nat) (s : List (BitVec 8)) (l : List (List (BitVec 8))) : armsF i (s :: l) = match oneArm s with
    | .error bad => .error (i, bad)
    | .ok p => match armsF (i + 1) l with
      | .error e => .error e
      | .ok ps => .ok (p :: ps) := rfl
theorem armsF_go : ∀ (l : List (List (BitVec 8))) (ps : List (List In)) (i : Nat) (r : List (List (BitVec 8))), l.map oneArm = ps.map Except.ok → armsF i (l ++ r) = match armsF (i + l.length) r with
    | .error e => .error e
    | .ok qs => .ok (ps ++ qs)
  | [], ps, i, r, h => by
    obtain rfl : ps = [] := by cases ps with
      | nil => rfl
      | cons => cases h
    simp only [List.nil_append, List.length_nil, Nat.add_zero]
    cases armsF i r <;> rfl
  | s :: l, ps, i, r, h => by
    rcases ps with _ | ⟨p, ps⟩
    · cases h
    · rw [List.map_cons, List.map_cons] at h
      injection h with h1 h2
      rw [List.cons_append, armsF_cons, h1, armsF_go l ps (i + 1) r h2]
      simp only [List.length_cons, show i + 1 + l.length = i + (l.length + 1) by omega]
      cases armsF (i + (l.length + 1)) r <;> rfl
theorem armsF_all {l : List (List (BitVec 8))} {ps : List (List In)} (h : l.map oneArm = ps.map Except.ok) : armsF 0 l = .ok ps := by
  have := armsF_go l ps 0 [] h
  rw [List.append_nil] at this
  rw [this]
  simp [armsF]
theorem armsF_bad {l : List (List (BitVec 8))} {ps : List (List In)} {k bad : Nat} {s : List (BitVec 8)} (h : (l.take k).map oneArm = ps.map Except.ok) (hs : l[k]? = some s) (hb : oneArm s = .error bad) : armsF 0 l = .error (k, bad) := by
  have hk := (List.getElem?_eq_some_iff.1 hs).1
  have e : l = l.take k ++ s :: l.drop (k + 1) := by
    have := (List.take_append_drop k l).symm
    rw [List.drop_eq_getElem_cons hk] at this
    rw [(List.getElem?_eq_some_iff.1 hs).2] at this
    exact this
  have := armsF_go (l.take k) ps 0 (s :: l.drop (k + 1)) h
  rw [← e] at this
  rw [this]
  have hl : 0 + (l.take k).length = k := by rw [List.length_take]; omega
  rw [hl, armsF_cons, hb]
theorem arms_snoc {l : List (List (BitVec 8))} {ps : List (List In)} {k : Nat} {s : List (BitVec 8)} {p : List In} (h : (l.take k).map oneArm = ps.map Except.ok) (hs : l[k]? = some s) (hp : oneArm s = .ok p) : (l.take (k + 1)).map oneArm = (ps ++ [p]).map Except.ok := by
  rw [List.take_add_one, hs, List.map_append, List.map_append, h]
  simp [hp]

/-- A pattern in a slice: its bytes, where they lie. -/
structure Sv where
  s : List (BitVec 8)
  A : Option Addr
  c : Nat
def Sv.cell (x : Sv) : Value := .slice x.A x.s.length x.c
/-- Patterns that can be read. -/
structure Sas (w : World) (B : Nat) (A : Option Addr) (ss : List Sv) : Prop where
  ry : Cz w A (ss.map Sv.cell)
  bs : ∀ x ∈ ss, Bs w B x.A x.s.length x.s
theorem Sas.below {w w' : World} {B : Nat} {A : Option Addr} {ss : List Sv} (h : Sas w B A ss) (hB : B ≤ w.heap.size) (hb : Below w.heap.size w w') : Sas w' B A ss := ⟨h.ry.below hb, fun x hx => (h.bs x hx).below (hb.mono hB)⟩
theorem Sas.at_ {w : World} {B : Nat} {A : Option Addr} {ss : List Sv} (h : Sas w B A ss) {i : Nat} {x : Sv} (hi : ss[i]? = some x) : ∃ ad, A = some ad ∧ w.cell? (ad.add i) = some (.slice x.A x.s.length x.c) := by
  have e : (ss.map Sv.cell)[i]? = some x.cell := by rw [List.getElem?_map, hi]; rfl
  obtain ⟨ad, rfl, hc⟩ := h.ry (fun q => by rw [q] at e; simp at e)
  exact ⟨ad, rfl, hc i _ e⟩
theorem rl_of_rows {w : World} {B n c : Nat} {A : Option Addr} {l : List Rop} (h : ROws w B (.slice A n c) l) (hn : l.length = n) : ∃ us : List Ov, us.map (·.o) = l ∧ us.length = n ∧ Rl w A us := by
  obtain ⟨us, ho, hm, hs⟩ := h.row
  rw [hn] at ho
  exact ⟨us, hm, by rw [← hn, ← hm, List.length_map], ⟨Ry.of_own ho (by decide), hs⟩⟩

/-- What the document's Arms returns. -/
def RArms (w : World) (r : Except (Nat × Nat) (List (List In))) (e : Ending) (w' : World) : Prop := Below w.heap.size w w' ∧ match r with
  | .error (i, bad) => bad ≠ 0 ∧ e = .returned (.tuple #[.slice none 0 0, .int .i64 (i : Int), .int .i64 (bad : Int)])
  | .ok ps => ∃ A' n' c' ys, e = .returned (.tuple #[.slice A' n' c', .int .i64 0, .int .i64 0]) ∧ Rao w' w.heap.size A' n' c' ys ∧ ys.map Av.p = ps
set_option maxRecDepth 100000 in
set_option maxHeartbeats 2000000 in
theorem rarms (w : World) (B : Nat) (A : Option Addr) (n c : Nat) (ss : List Sv) (h : Sas w B A ss) (hB : B ≤ w.heap.size) (hl : ss.length = n) (hn : n ≤ 1000) :
    Calls Try.prog 8 #[.slice A n c] w (RArms w (armsF 0 (ss.map Sv.s))) := by
  have H := Lib.hid h
  have HL := Lib.hid hl
  clear h hl
  go_enter Try.func8, Try.ntmps8
  go_wp2_with fail
  go_loopw [5, 6] (fun v5 v6 wr => ∃ (i c3 : Nat) (A3 : Option Addr) (ys : List Av), i ≤ n ∧ v6 = .int .i64 (i : Int) ∧ v5 = .slice A3 i c3 ∧ Rao wr w.heap.size A3 i c3 ys ∧ ((ss.map Sv.s).take i).map oneArm = (ys.map Av.p).map Except.ok ∧ Below w.heap.size w wr) (fun _ v6 _ => n - (intOf v6).toNat)
  case atStart => exact ⟨0, 0, none, [], Nat.zero_le _, rfl, rfl, Rao.nil_ _ _, by simp, Below.refl _ _⟩
  case round =>
    obtain ⟨i, c3, A3, ys, hi, rfl, rfl, hra, hys, hb⟩ := hrel
    obtain ⟨W0, rfl⟩ : ∃ W0, W0 = wr := ⟨_, rfl⟩
    have HRA := Lib.hid hra
    have HYS := Lib.hid hys
    have HB := Lib.hid hb
    clear hra hys hb
    rcases Nat.lt_or_ge i n with hlt | hge
    · obtain ⟨x, hx⟩ : ∃ x, ss[i]? = some x := ⟨_, List.getElem?_eq_getElem (by rw [HL.out]; exact hlt)⟩
      have HX := Lib.hid (show (ss.map Sv.s)[i]? = some x.s by rw [List.getElem?_map, hx]; rfl)
      obtain ⟨ad, rfl, a0⟩ := (H.out.below hB HB.out).at_ hx
      have con := rparse W0 B x.A x.s.length x.c x.s ((H.out.below hB HB.out).bs x (List.mem_of_getElem? hx)) (Nat.le_trans hB HB.out.size)
      clear hx
      go_wp2_with fail
      refine con.mono ?_
      clear con a0
      intro e w2 hps
      cases hpa : parse x.s with
      | error q =>
        obtain ⟨bad, p⟩ := q
        rw [hpa] at hps
        obtain ⟨hb2, hbad, rfl⟩ := hps
        have HBAD := Lib.hid (show armsF 0 (ss.map Sv.s) = .error (i, bad) from armsF_bad HYS.out HX.out (by unfold oneArm; rw [hpa]))
        have HB2 := Lib.hid (HB.out.trans (hb2.mono HB.out.size))
        have HNE := Lib.hid hbad
        have hbi : ¬ ((bad : Int) = 0) := by omega
        clear hb2 hpa hbad
        go_wp2_with fail
        go_ret3
        rw [HBAD.out]
        exact ⟨HB2.out, HNE.out, rfl⟩
      | ok l =>
        rw [hpa] at hps
        obtain ⟨hb2, A2, c2, rfl, ho2⟩ := hps
        obtain ⟨us, hm2, hl2, hr2⟩ := rl_of_rows ho2 rfl
        have con2 := rbuild w2 A2 l.length c2 us hr2 (parse_len hpa) hl2
        rw [hm2] at con2
        have HONE := Lib.hid (show oneArm x.s = build l by unfold oneArm; rw [hpa])
        have HR2 := Lib.hid (HRA.out.below hb2)
        have HB2 := Lib.hid (HB.out.trans (hb2.mono HB.out.size))
        generalize l.length = ll at *
        clear hb2 ho2 hm2 hl2 hr2 hpa
        go_wp2_with fail
        refine con2.mono ?_
        clear con2
        rintro e w3 ⟨hb3, hr3⟩
        have HB3 := Lib.hid (HB2.out.trans (hb3.mono HB2.out.size))
        have HR3 := Lib.hid (HR2.out.below hb3)
        clear hb3
        cases hbu : build l with
        | error bad =>
          rw [hbu] at hr3
          obtain ⟨hbad, rfl⟩ := hr3
          have HBAD := Lib.hid (show armsF 0 (ss.map Sv.s) = .error (i, bad) from armsF_bad HYS.out HX.out (by rw [HONE.out, hbu]))
          have HNE := Lib.hid hbad
          have hbi : ¬ ((bad : Int) = 0) := by omega
          clear hbu hbad
          go_wp2_with fail
          go_ret3
          rw [HBAD.out]
          exact ⟨HB3.out, HNE.out, rfl⟩
        | ok p =>
          rw [hbu] at hr3
          obtain ⟨A3', m3, c3', vs, rfl, hri, hvi, hm3⟩ := hr3
          have hvl : vs.length = m3 := hri.len
          have hw4 : Below w3.heap.size w3 (w3.alloc (.cells #[.slice A3' m3 c3'] 34)) := (Below.refl _ _).alloc (Nat.le_refl _) _
          have HR4 := Lib.hid (HR3.out.below hw4)
          have HY4 := Lib.hid (Rr.below' hri.rr hw4)
          have HB4 := Lib.hid (HB3.out.trans (hw4.mono HB3.out.size))
          have HSRC := Lib.hid (show Src (w3.alloc (.cells #[.slice A3' m3 c3'] 34)) (some ⟨w3.heap.size, 0, none⟩) 1 [Av.cell ⟨vs, A3', c3'⟩] from fun _ => ⟨_, rfl, fun j u hj => by
            have hc := Cel.new w3 34 [.slice A3' m3 c3']
            rw [add_row, hc.cell j]
            rw [show Av.cell ⟨vs, A3', c3'⟩ = .slice A3' m3 c3' by rw [← hvl]; rfl] at hj
            exact hj⟩)
          have HST := Lib.hid (show ((ss.map Sv.s).take (i + 1)).map oneArm = ((ys ++ [(⟨vs, A3', c3'⟩ : Av)]).map Av.p).map Except.ok by
            rw [List.map_append]
            exact arms_snoc HYS.out HX.out (by rw [HONE.out, hbu, ← hvi]; rfl))
          have hws := HB4.out.size
          clear hri hvi hw4 hvl hbu
          go_wp2_with ((at_builtin; refine wpList_append_any _ rfl _ _ 29 rfl w.heap.size 34 rowArm (.slice A3 i c3) i (ys.map Av.cell) rfl HR4.out.own (some ⟨w3.heap.size, 0, none⟩) 1 1 [Av.cell ⟨vs, A3', c3'⟩] rfl rfl HSRC.out (arm_one [⟨vs, A3', c3'⟩]) (i + 1) _ rfl rfl (by unfold maxLen; omega) (by omega) hws ?_; intro A8 c8 w8 ho8 hg8 _; have HR8 := Lib.hid (HR4.out.pushed (y := ⟨vs, A3', c3'⟩) HY4.out hg8 (by rw [List.map_append]; exact ho8)); have HB8 := Lib.hid (HB4.out.trans (HR4.out.grew hg8 hws)); clear ho8 hg8))
          exact ⟨⟨i + 1, c8, A8, _, by omega, by rw [show ((i + 1 : Nat) : Int) = (i : Int) + 1 by omega], rfl, HR8.out, HST.out, HB8.out⟩, by simp [intOf]; omega⟩
    · obtain rfl : i = n := by omega
      have HALL := Lib.hid (show armsF 0 (ss.map Sv.s) = .ok (ys.map Av.p) from armsF_all (by have := HYS.out; rwa [List.take_of_length_le (by rw [List.length_map, HL.out]; exact Nat.le_refl _)] at this))
      go_wp2_with fail
      go_ret3
      rw [HALL.out]
      exact ⟨HB.out, A3, i, c3, ys, rfl, HRA.out, rfl⟩
end Go.Proofs.Ytjpbndpfbdfhjaa.Seek
