/-
  The program's lines (layer 13): the names of a text.
-/
import Derived.Test.YtamklllmjppinaaVarsIter
namespace Go.Proofs.Ytamklllmjppinaa.Vars
open Go.RowKit Go.Shelf
set_option linter.unusedVariables false
set_option linter.unusedSimpArgs false
attribute [local go_sem] Oper.semAt_some

/-- What Names' loop keeps: the boxes of the three answers, of the list; the list. -/
structure Nb (w : World) (xs : List (Nat × Pce)) (W : World) (A' : Option Addr) (m c' : Nat) : Prop where
  r0 : Cel W w.heap.size 23 [.slice none 0 0]
  r1 : Cel W (w.heap.size + 1) 3 [.int .i64 0]
  r2 : Cel W (w.heap.size + 1 + 1) 27 [.int .i64 0]
  r3 : Cel W (w.heap.size + 1 + 1 + 1) 23 [.slice A' m c']
  row : Ons W w.heap.size A' m c' (nms xs)
  low : Below w.heap.size w W
  ok : ∀ x ∈ xs, x.2.k ≠ 2
  few : m ≤ xs.length
/-- Where the loop has left: a $ that stands for nothing. -/
structure Nx (w : World) (xs : List (Nat × Pce)) (W : World) (p : Nat) : Prop where
  bad : ∀ r, nmP (xs ++ r) = .error p
  r0 : Cel W w.heap.size 23 [.slice none 0 0]
  r1 : Cel W (w.heap.size + 1) 3 [.int .i64 (p : Int)]
  r2 : Cel W (w.heap.size + 1 + 1) 27 [.int .i64 2]
  low : Below w.heap.size w W
theorem nb_own (w : World) (w0 : World) (G : Pce → Prop) (B B' : Nat) (hB : w.heap.size ≤ B') : OwnFrom B' (fun (pre : List (PqIn w0 B G)) W => ∃ A' m c', Nb w (saidQ pre) W A' m c') := by
  rintro s X Y row ⟨A', m, c', h⟩ hg hr
  have hr' : ∀ r, row = some r → ∃ o : Obj, X.heap[r]? = some o ∧ o.isCells = false := fun r e => (hr r e).2
  exact ⟨A', m, c', h.r0.own_ hg hr', h.r1.own_ hg hr', h.r2.own_ hg hr', h.r3.own_ hg hr', own_own h.row hg hr', ownFrom_below (Nat.le_refl _) hB s X Y row h.low hg hr, h.ok, h.few⟩
theorem nx_own (w : World) (w0 : World) (G : Pce → Prop) (B B' : Nat) (hB : w.heap.size ≤ B') (c : Code) : OwnFrom B' (fun (pre : List (PqIn w0 B G)) W => c = .ret ∧ ∃ p, Nx w (saidQ pre) W p) := by
  rintro s X Y row ⟨hc, p, h⟩ hg hr
  have hr' : ∀ r, row = some r → ∃ o : Obj, X.heap[r]? = some o ∧ o.isCells = false := fun r e => (hr r e).2
  exact ⟨hc, p, h.bad, h.r0.own_ hg hr', h.r1.own_ hg hr', h.r2.own_ hg hr', ownFrom_below (Nat.le_refl _) hB s X Y row h.low hg hr⟩
theorem saidQ_snoc {w : World} {B : Nat} {G : Pce → Prop} (pre : List (PqIn w B G)) (x : PqIn w B G) : saidQ (pre ++ [x]) = saidQ pre ++ [(x.1.at_, x.1.p)] := by simp [saidQ]
theorem nms_snoc (xs : List (Nat × Pce)) (x : Nat × Pce) : nms (xs ++ [x]) = nms xs ++ (if x.2.k = 1 then [x.2.t] else []) := by simp [nms]
theorem loopK_turn {w : World} {B Bl : Nat} (hB : B ≤ w.heap.size) : ∀ (W : World) (l : Nat) (o o' : Obj), w.heap.size ≤ l → W.heap[l]? = some o → o.isCells = false → o.isWalk = false → Kp B Bl W (W.putObj l o') :=
  fun W l o o' hl h hc _ => (Kp.refl B Bl W).turn h hc (Nat.le_trans hB hl) o'

/-- What Names returns. -/
def PnSays (w : World) (r : Except Nat (List (List (BitVec 8)))) (e : Ending) (w' : World) : Prop := Below w.heap.size w w' ∧ match r with
  | .error p => e = .returned (.tuple #[.slice none 0 0, .int .i64 (p : Int), .int .i64 2])
  | .ok ns => ∃ A' m c', e = .returned (.tuple #[.slice A' m c', .int .i64 0, .int .i64 0]) ∧ Ons w' w.heap.size A' m c' ns
/-- Three answers are stored. -/
theorem three {w W : World} {t0 t1 t2 : TypeId} {x y z : Value} (h0 : Cel W w.heap.size t0 [x]) (h1 : Cel W (w.heap.size + 1) t1 [y]) (h2 : Cel W (w.heap.size + 1 + 1) t2 [z]) (a b c : Value) :
    Cel (((W.setCell ⟨w.heap.size, 0, none⟩ a).setCell ⟨w.heap.size + 1, 0, none⟩ b).setCell ⟨w.heap.size + 1 + 1, 0, none⟩ c) w.heap.size t0 [a] ∧
    Cel (((W.setCell ⟨w.heap.size, 0, none⟩ a).setCell ⟨w.heap.size + 1, 0, none⟩ b).setCell ⟨w.heap.size + 1 + 1, 0, none⟩ c) (w.heap.size + 1) t1 [b] ∧
    Cel (((W.setCell ⟨w.heap.size, 0, none⟩ a).setCell ⟨w.heap.size + 1, 0, none⟩ b).setCell ⟨w.heap.size + 1 + 1, 0, none⟩ c) (w.heap.size + 1 + 1) t2 [c] ∧
    Frm [w.heap.size, w.heap.size + 1, w.heap.size + 1 + 1] W (((W.setCell ⟨w.heap.size, 0, none⟩ a).setCell ⟨w.heap.size + 1, 0, none⟩ b).setCell ⟨w.heap.size + 1 + 1, 0, none⟩ c) ∧
    KeepsOthers W (((W.setCell ⟨w.heap.size, 0, none⟩ a).setCell ⟨w.heap.size + 1, 0, none⟩ b).setCell ⟨w.heap.size + 1 + 1, 0, none⟩ c) :=
  ⟨((h0.set 0 a).far (p := ⟨w.heap.size + 1, 0, none⟩) (by simp) _).far (p := ⟨w.heap.size + 1 + 1, 0, none⟩) (by simp; omega) _,
    ((h1.far (p := ⟨w.heap.size, 0, none⟩) (by simp) _).set 0 b).far (p := ⟨w.heap.size + 1 + 1, 0, none⟩) (by simp) _,
    ((h2.far (p := ⟨w.heap.size, 0, none⟩) (by simp; omega) _).far (p := ⟨w.heap.size + 1, 0, none⟩) (by simp) _).set 0 c,
    (((Frm.refl _ W).set (p := ⟨w.heap.size, 0, none⟩) (by simp) a).set (p := ⟨w.heap.size + 1, 0, none⟩) (by simp) b).set (p := ⟨w.heap.size + 1 + 1, 0, none⟩) (by simp) c,
    ((KeepsOthers.setCell _ _ _).trans (KeepsOthers.setCell _ _ _)).trans (KeepsOthers.setCell _ _ _)⟩
theorem grow_cel {W W' : World} {base e size n g : Nat} {t : TypeId} {v : Value} {us cs : List Value} (h : Cel W g t cs) (hr : W.ownsRow base e size v n us) (hne : e ≠ t) (hg : W.grownBy W' v.ownBlock) : Cel W' g t cs := (hg.block g h.lt (fun q => own_ty_ne hr h hne q.symm)).trans h
/-- A name more: appended, and stored. -/
theorem Nb.push {w W Wa w8 : World} {xs : List (Nat × Pce)} {A' A8 : Option Addr} {m c' c8 : Nat} (h : Nb w xs W A' m c') (x : Nat × Pce) (hx2 : x.2.k ≠ 2) (hba : Below W.heap.size W Wa) (hg : Wa.grownBy w8 (Value.slice A' m c').ownBlock)
    (ho : w8.ownsRow w.heap.size 9 1 (.slice A8 (m + 1) c8) (m + 1) ((nms (xs ++ [x])).map scell)) :
    Cel w8 (w.heap.size + 1 + 1 + 1) 23 [.slice A' m c'] ∧ KeepsOthers Wa (w8.setCell ⟨w.heap.size + 1 + 1 + 1, 0, none⟩ (.slice A8 (m + 1) c8)) ∧ Kp w.heap.size (w.heap.size + 1 + 1 + 1) W (w8.setCell ⟨w.heap.size + 1 + 1 + 1, 0, none⟩ (.slice A8 (m + 1) c8)) ∧
      Nb w (xs ++ [x]) (w8.setCell ⟨w.heap.size + 1 + 1 + 1, 0, none⟩ (.slice A8 (m + 1) c8)) A8 (m + 1) c8 := by
  have hlw := h.low.size
  have hra : Wa.ownsRow w.heap.size 9 1 (.slice A' m c') m ((nms xs).map scell) := h.row.below hba
  have go : ∀ {g : Nat} {t : TypeId} {cs : List Value}, Cel W g t cs → 9 ≠ t → Cel w8 g t cs := fun hc hne => grow_cel (hc.below hba hc.lt) hra hne hg
  have k3 := go h.r3 (by decide)
  refine ⟨k3, (KeepsOthers.of_grownBy hg (fun j o ej hj => by obtain ⟨cs, fz, rfl⟩ := own_cells hra j o ej hj; rfl)).trans (KeepsOthers.setCell _ _ _), ?_, ?_⟩
  · refine ((((Kp.refl _ _ W).call hba hlw).grown hg (Nat.le_trans hlw hba.size) (own_ge hra) (fun g cs t fz e hgg => .inr ?_))).set (by omega) 0 _
    obtain ⟨_, _, q⟩ := own_cells hra g _ e hgg
    injection q
  · refine ⟨(go h.r0 (by decide)).far (by simp <;> omega) _, (go h.r1 (by decide)).far (by simp <;> omega) _, (go h.r2 (by decide)).far (by simp) _, k3.set 0 _, ?_, ?_, ?_, ?_⟩
    · exact own_frm (l := [w.heap.size + 1 + 1 + 1]) ho ((Frm.refl _ _).set (p := ⟨w.heap.size + 1 + 1 + 1, 0, none⟩) (by simp) _) (by intro g hgm; simp at hgm; subst hgm; exact own_ty_ne ho k3 (by decide))
    · exact ((h.low.trans (hba.mono hlw)).grown hg (Nat.le_trans hlw hba.size) (own_ge hra)).setCell (p := ⟨w.heap.size + 1 + 1 + 1, 0, none⟩) (by simp; omega) _
    · intro y hy
      rcases List.mem_append.1 hy with hy | hy
      · exact h.ok y hy
      · rw [List.mem_singleton.1 hy]; exact hx2
    · rw [List.length_append]; have := h.few; simp; omega

set_option maxRecDepth 100000 in
set_option maxHeartbeats 2000000 in
theorem pnames (w : World) (A : Option Addr) (n c : Nat) (s : List (BitVec 8)) (hs : Bs w w.heap.size A n s) (hn : n ≤ 100000) (hcap : n ≤ c) :
    Calls Try.prog 7 #[.slice A n c] w (PnSays w (names s)) := by
  rw [names_pcs]
  obtain ⟨i0, hi, hz0, hz1, hz2⟩ := info_parts infoStr
  refine (callsIn_wide (n := 10)).1 ?_
  refine callsIn_of_wp_marks Try.func7 rfl trivial ?_ rfl
  simp only [Try.ntmps7, List.size_toArray, List.length_cons, List.length_nil, Nat.reduceAdd, Nat.reduceSub, Array.replicate_succ, Array.replicate_zero, List.push_toArray, List.append_toArray, List.nil_append, List.cons_append]
  gi_wp2_with ((refine ⟨trivial, ?_⟩; refine (callsIn_wide.2 (ppieces A n c _)).mono ?_; rintro e w' ⟨rfl, rfl⟩))
  obtain ⟨W0, hW0⟩ : ∃ W0, W0 = ((((w.alloc (.cells #[.slice none 0 0] 23)).alloc (.cells #[.int .i64 0] 3)).alloc (.cells #[.int .i64 0] 27)).alloc (.cells #[.slice none 0 0] 23)).alloc (.cells #[.slice A n c] 22) := ⟨_, rfl⟩
  rw [← hW0]
  have c0 := Cel.new w 23 [.slice none 0 0]
  have c1 := Cel.new (w.alloc (.cells #[.slice none 0 0] 23)) 3 [.int .i64 0]
  have c2 := Cel.new ((w.alloc (.cells #[.slice none 0 0] 23)).alloc (.cells #[.int .i64 0] 3)) 27 [.int .i64 0]
  have c3 := Cel.new (((w.alloc (.cells #[.slice none 0 0] 23)).alloc (.cells #[.int .i64 0] 3)).alloc (.cells #[.int .i64 0] 27)) 23 [.slice none 0 0]
  have c4 := Cel.new ((((w.alloc (.cells #[.slice none 0 0] 23)).alloc (.cells #[.int .i64 0] 3)).alloc (.cells #[.int .i64 0] 27)).alloc (.cells #[.slice none 0 0] 23)) 22 [.slice A n c]
  simp only [World.size_alloc] at c1 c2 c3 c4
  have hl0 : Below w.heap.size w W0 := by rw [hW0]; exact (((((Below.refl _ w).alloc (Nat.le_refl _) _).alloc (by simp) _).alloc (by simp; omega) _).alloc (by simp; omega) _).alloc (by simp; omega) _
  have hsz0 : W0.heap.size = w.heap.size + 1 + 1 + 1 + 1 + 1 := by rw [hW0]; simp
  have hNB : Nb w (saidQ ([] : List (PqIn w w.heap.size fun _ => True))) W0 none 0 0 := ⟨by rw [hW0]; exact (((c0.alloc _).alloc _).alloc _).alloc _, by rw [hW0]; exact ((c1.alloc _).alloc _).alloc _, by rw [hW0]; exact (c2.alloc _).alloc _, by rw [hW0]; exact c3.alloc _, Ons.nil_ _ _, hl0, by simp [saidQ], Nat.le_refl _⟩
  rw [← hW0] at c4
  have hN := pcsR_len (s.length + 1) 0 s
  have hNl : (pcs s).length ≤ 100000 := by have := hs.len; unfold pcs; omega
  have hlow : w.heap.size ≤ W0.heap.size := by omega
  have HC4 := Lib.hid c4
  have HNB := Lib.hid hNB
  have HL0 := Lib.hid hl0
  clear c0 c1 c2 c3 hN c4 hNB hl0
  refine wpIn_rangeFunc_ownH rfl (by decide) (gf := 17) (lb := #[.pointer (some ⟨w.heap.size + 1 + 1 + 1 + 1, 0, none⟩)]) rfl trivial (enters_of Try.func17 (by kernel_rfl) rfl)
    (pieces_stops w w.heap.size (fun _ => True) A n c s hs hn hcap (fun _ _ => trivial) (10 - 1) (w.heap.size + 1 + 1 + 1 + 1) (w.heap.size + 1 + 1 + 1) W0 HL0.out hlow HC4.out (by omega) (by omega)) (fun h k => h.trans k) (loopK_turn hlow) (Below.refl _ _) (fun _ => rfl)
    (fun pre W => ∃ A' m c', Nb w (saidQ pre) W A' m c') (fun c pre W => c = .ret ∧ ∃ p, Nx w (saidQ pre) W p) (nb_own w w _ _ _ hlow) (nx_own w w _ _ _ hlow) ⟨_, _, _, HNB.out⟩
    (fun x a' W => ∃ Bx, Cel W Bx 41 [.int .i64 (x.1.p.k : Int), .int .i64 (x.1.p.n : Int), .slice x.1.A x.1.p.t.length x.1.c] ∧ a' = { tmps := #[.slice A n c, undef, .pointer (some ⟨w.heap.size, 0, none⟩), .pointer (some ⟨w.heap.size + 1, 0, none⟩), .pointer (some ⟨w.heap.size + 1 + 1, 0, none⟩), .pointer (some ⟨w.heap.size + 1 + 1 + 1, 0, none⟩), .int .i64 (x.1.at_ : Int), .pointer (some ⟨Bx, 0, none⟩), .slice A n c, .func (.func 17) #[] #[.pointer (some ⟨w.heap.size + 1 + 1 + 1 + 1, 0, none⟩)], .int .i64 (x.1.at_ : Int), .agg #[.int .i64 (x.1.p.k : Int), .int .i64 (x.1.p.n : Int), .slice x.1.A x.1.p.t.length x.1.c], undef, undef, undef, undef, undef, undef, undef, undef, undef, undef, undef, undef, undef, undef], defers := [] })
    (fun x a' s X Y row h hg hr => by obtain ⟨Bx, h1, h2⟩ := h; exact ⟨Bx, h1.own_ hg (fun r e => (hr r e).2), h2⟩) ?assign ?body ?done ?stop
  case assign =>
    rintro l pre x W K ⟨A', m, c', hI⟩ hK
    have hb := (Below.refl W.heap.size W).alloc (Nat.le_refl _) (.cells #[.int .i64 (x.1.p.k : Int), .int .i64 (x.1.p.n : Int), .slice x.1.A x.1.p.t.length x.1.c] 41)
    have hKK := hK _ _ ((KeepsOthers.alloc W (.cells #[.int .i64 (x.1.p.k : Int), .int .i64 (x.1.p.n : Int), .slice x.1.A x.1.p.t.length x.1.c] 41)).from _) (Kp.of_below hb hI.low.size) ⟨A', m, c', hI.r0.alloc _, hI.r1.alloc _, hI.r2.alloc _, hI.r3.alloc _, hI.row.below hb, hI.low.trans (hb.mono hI.low.size), hI.ok, hI.few⟩ ⟨W.heap.size, Cel.new W _ _, rfl⟩
    dsimp only [encQ]
    gi_wp2
    exact hKK
  case body =>
    rintro l pre x a' W hl ⟨r, hr⟩ ⟨A', m, c', hI⟩ ⟨Bx, hx, rfl⟩ hlt
    have hpl : (saidQ pre).length = pre.length := by rw [saidQ, List.length_map]
    have hmb : m ≤ 100000 := by have := hI.few; omega
    have hlw := hI.low.size
    have j0 := hx.cell 0
    have j2 := hx.cell 2
    have HI := Lib.hid hI
    have hxs := x.2.1
    obtain ⟨at_, p, xA, xc, hX⟩ : ∃ at_ p xA xc, x.1 = ⟨at_, p, xA, xc⟩ := ⟨_, _, _, _, rfl⟩
    rw [hX] at hxs
    simp only [hX] at hx j0 j2 ⊢
    have HX := Lib.hid hX
    have HXS := Lib.hid (hxs.below hI.low)
    clear hX hxs hI hx hpl
    by_cases hk2 : p.k = 2
    · have k0 := HI.out.r0.cell 0
      have k1 := HI.out.r1.cell 0
      have k2 := HI.out.r2.cell 0
      have f0 := HI.out.r0.free 0
      have f1 := HI.out.r1.free 0
      have f2 := HI.out.r2.free 0
      have z2 : ((p.k : Int) == 2) = true := by rw [hk2]; rfl
      have HN := Lib.hid (show Nx w (saidQ (pre ++ [x])) (((W.setCell ⟨w.heap.size, 0, none⟩ (.slice none 0 0)).setCell ⟨w.heap.size + 1, 0, none⟩ (.int .i64 (at_ : Int))).setCell ⟨w.heap.size + 1 + 1, 0, none⟩ (.int .i64 2)) at_ from
        ⟨fun r => by rw [saidQ_snoc, HX.out, List.append_assoc]; exact nmP_bad HI.out.ok hk2,
          (((HI.out.r0.set 0 (.slice none 0 0)).far (p := ⟨w.heap.size + 1, 0, none⟩) (by simp) _).far (p := ⟨w.heap.size + 1 + 1, 0, none⟩) (by simp; omega) _),
          (((HI.out.r1.far (p := ⟨w.heap.size, 0, none⟩) (by simp) _).set 0 (.int .i64 (at_ : Int))).far (p := ⟨w.heap.size + 1 + 1, 0, none⟩) (by simp) _),
          (((HI.out.r2.far (p := ⟨w.heap.size, 0, none⟩) (by simp; omega) _).far (p := ⟨w.heap.size + 1, 0, none⟩) (by simp) _).set 0 (.int .i64 2)),
          ((HI.out.low.setCell (p := ⟨w.heap.size, 0, none⟩) (by simp) _).setCell (p := ⟨w.heap.size + 1, 0, none⟩) (by simp) _).setCell (p := ⟨w.heap.size + 1 + 1, 0, none⟩) (by simp; omega) _⟩)
      generalize p.k = pk at *
      generalize p.t.length = tl at *
      clear hk2
      gi_wp2
      exact ⟨(((KeepsOthers.setCell _ _ _).trans (KeepsOthers.setCell _ _ _)).trans (KeepsOthers.setCell _ _ _)).from _, rfl, _, HN.out⟩
    · have z2 : ((p.k : Int) == 2) = false := by simp; omega
      by_cases hk1 : p.k = 1
      · have z1 : ((p.k : Int) == 1) = true := by rw [hk1]; rfl
        obtain ⟨st, hst⟩ : ∃ st, st = str p.t := ⟨_, rfl⟩
        have hcv : (convert 22 9 (.slice xA p.t.length xc)).run Try.prog W = .ok (.string st) W := by
          rw [hst]
          exact (Bs.bp HXS.out).string xc (P := Try.prog) (src := 22) (dst := 9) Try.underlying22 Try.underlying5 Try.underlying9
        have HNM := Lib.hid (show (nms (saidQ pre)).map scell ++ [.string st] = (nms (saidQ (pre ++ [x]))).map scell by rw [saidQ_snoc, nms_snoc, HX.out]; dsimp only; rw [if_pos hk1, List.map_append, hst]; rfl)
        have HPU := Lib.hid (fun (Wa w8 : World) (A8 : Option Addr) (c8 : Nat) => HI.out.push (Wa := Wa) (w8 := w8) (A8 := A8) (c8 := c8) (at_, p) hk2)
        have k3 := HI.out.r3.cell 0
        have f3 := HI.out.r3.free 0
        clear hst hk1 hk2
        generalize p.k = pk at *
        generalize p.t.length = tl at *
        obtain ⟨Wa, hWa⟩ : ∃ Wa, Wa = W.alloc (.cells #[.string st] 9) := ⟨_, rfl⟩
        have hba : Below W.heap.size W Wa := by rw [hWa]; exact (Below.refl _ _).alloc (Nat.le_refl _) _
        have HBA := Lib.hid hba
        have HRA := Lib.hid (HI.out.row.below hba)
        have hba1 := hba.size
        have hca : ∀ j u, ([.string st] : List Value)[j]? = some u → Wa.cell? ((⟨W.heap.size, 0, none⟩ : Addr).add j) = some u := by
          intro j u hu
          rw [add_row, hWa]
          exact ((Cel.new W 9 [.string st]).cell j).trans hu
        have HCA := Lib.hid hca
        have HKA := Lib.hid (show KeepsOthers W Wa by rw [hWa]; exact KeepsOthers.alloc _ _)
        clear hba hca
        gi_wp2_with ((rw [← hWa]; clear hWa; gi_at_builtin; refine wpListIn_append_own _ rfl _ _ 23 rfl w.heap.size 9 i0 (.string ByteArray.empty) 1 16 Try.underlying23 hi hz0 hz1 hz2 rfl (by decide) _ _ _ rfl HRA.out ⟨W.heap.size, 0, none⟩ 1 1 [.string st] rfl rfl HCA.out (by intro u hu; rw [List.mem_singleton.1 hu]; rfl) (by unfold maxLen; omega) (by omega) (by omega) ?_; intro v8 w8 ho8 hg8 _; obtain ⟨g8, c8, rfl⟩ := ownsRow_succ ho8; rw [HNM.out, saidQ_snoc, HX.out] at ho8; obtain ⟨h81, h82, h83, h84⟩ := HPU.out _ _ _ _ HBA.out hg8 ho8; have k8 := h81.cell 0; have f8 := h81.free 0; have H82 := Lib.hid (HKA.out.trans h82); have H83 := Lib.hid h83; have H84 := Lib.hid h84; clear h81 h82 h83 h84 ho8 hg8 k3 f3))
        exact ⟨H82.out.from _, H83.out, _, _, _, by rw [saidQ_snoc, HX.out]; exact H84.out⟩
      · have z1 : ((p.k : Int) == 1) = false := by simp; omega
        have HN := Lib.hid (show Nb w (saidQ (pre ++ [x])) W A' m c' from by
          have h := HI.out
          rw [saidQ_snoc, HX.out]
          refine ⟨h.r0, h.r1, h.r2, h.r3, ?_, h.low, ?_, ?_⟩
          · rw [nms_snoc, if_neg hk1, List.append_nil]; exact h.row
          · intro y hy
            rcases List.mem_append.1 hy with hy | hy
            · exact h.ok y hy
            · rw [List.mem_singleton.1 hy]; exact hk2
          · rw [List.length_append]; have := h.few; omega)
        generalize p.k = pk at *
        generalize p.t.length = tl at *
        clear hk1 hk2
        gi_wp2
        exact ⟨KeepsFrom.refl _ _, Kp.refl _ _ _, _, _, _, HN.out⟩
  case done =>
    rintro D ys W hD hys ⟨A', m, c', hI⟩ hK
    have hok : nmP (pcs s) = .ok (nms (saidQ ys)) := by rw [← hys]; exact nmP_all hI.ok
    have k0 := hI.r0.cell 0
    have k1 := hI.r1.cell 0
    have k2 := hI.r2.cell 0
    have k3 := hI.r3.cell 0
    have f0 := hI.r0.free 0
    have f1 := hI.r1.free 0
    have f2 := hI.r2.free 0
    have HI := Lib.hid hI
    have HOK := Lib.hid hok
    have HT := Lib.hid (three hI.r0 hI.r1 hI.r2 (.slice A' m c') (.int .i64 0) (.int .i64 0))
    have hsz := hI.low.size
    have HHK := Lib.hid hK
    clear hI hys hok hK
    gi_wp2
    obtain ⟨q0, q1, q2, qf, qk⟩ := HT.out
    have hK := qk.same D _ HHK.out rfl
    clear k0 k1 k2 k3 f0 f1 f2
    refine ⟨by simp, .inl ⟨_, _, rfl, run_takeDeferred hK, ?_⟩⟩
    have hg := grownBy_putObj' (((W.setCell ⟨w.heap.size, 0, none⟩ (.slice A' m c')).setCell ⟨w.heap.size + 1, 0, none⟩ (.int .i64 0)).setCell ⟨w.heap.size + 1 + 1, 0, none⟩ (.int .i64 0)) D (.deferred none)
    have hr : ∀ r, some D = some r → ∃ o : Obj, (((W.setCell ⟨w.heap.size, 0, none⟩ (.slice A' m c')).setCell ⟨w.heap.size + 1, 0, none⟩ (.int .i64 0)).setCell ⟨w.heap.size + 1 + 1, 0, none⟩ (.int .i64 0)).heap[r]? = some o ∧ o.isCells = false := fun r e => by cases e; exact ⟨_, hK, rfl⟩
    have p0 := (q0.own_ hg hr).cell 0
    have p1 := (q1.own_ hg hr).cell 0
    have p2 := (q2.own_ hg hr).cell 0
    refine ⟨.tuple #[.slice A' m c', .int .i64 0, .int .i64 0], ?_, ?_, ?_⟩
    · simp [results, Try.f7, go_sem, p0, p1, p2]
    · exact (HI.out.low.trans (qf.below hsz (by intro g hgm; simp at hgm; omega))).trans (belowK_b (w := w) (Nat.le_refl _) _ D _ _ (by omega) hK rfl rfl)
    · rw [HOK.out]
      refine ⟨A', m, c', rfl, own_own (own_frm HI.out.row qf (fun g hgm => ?_)) hg hr⟩
      simp at hgm
      rcases hgm with rfl | rfl | rfl
      · exact own_ty_ne HI.out.row HI.out.r0 (by decide)
      · exact own_ty_ne HI.out.row HI.out.r1 (by decide)
      · exact own_ty_ne HI.out.row HI.out.r2 (by decide)
  case stop =>
    rintro D c pre W hD ⟨r, hr⟩ ⟨rfl, p, hI⟩ hK
    have hbad := hI.bad r
    rw [hr] at hbad
    gi_wp2
    refine ⟨by simp, .inl ⟨_, _, rfl, run_takeDeferred hK, ?_⟩⟩
    have hg := grownBy_putObj' W D (.deferred none)
    have hrr : ∀ r, some D = some r → ∃ o : Obj, W.heap[r]? = some o ∧ o.isCells = false := fun r e => by cases e; exact ⟨_, hK, rfl⟩
    have p0 := (hI.r0.own_ hg hrr).cell 0
    have p1 := (hI.r1.own_ hg hrr).cell 0
    have p2 := (hI.r2.own_ hg hrr).cell 0
    refine ⟨.tuple #[.slice none 0 0, .int .i64 (p : Int), .int .i64 2], ?_, ?_, ?_⟩
    · simp [results, Try.f7, go_sem, p0, p1, p2]
    · exact hI.low.trans (belowK_b (w := w) (Nat.le_refl _) _ D _ _ (by omega) hK rfl rfl)
    · rw [hbad]
end Go.Proofs.Ytamklllmjppinaa.Vars
