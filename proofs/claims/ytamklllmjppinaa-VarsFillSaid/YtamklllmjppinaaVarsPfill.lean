/-
  The program's lines (layer 13): a filled text.
-/
import Derived.Test.YtamklllmjppinaaVarsPfilled
namespace Go.Proofs.Ytamklllmjppinaa.Vars
open Go.RowKit Go.Shelf
open Go.Proofs.Ytamklllmjppinaa.Lex (Owb rowB)
set_option linter.unusedVariables false
set_option linter.unusedSimpArgs false
attribute [local go_sem] Oper.semAt_some

set_option maxHeartbeats 1000000 in
set_option maxRecDepth 100000 in
theorem pfilled (A : Option Addr) (n c : Nat) (u v : Value) (w : World) :
    Calls Try.prog 14 #[.slice A n c, .agg #[u, v]] w fun e w' => e = .returned (.func (.func 20) #[] #[.pointer (some ⟨w.heap.size, 0, none⟩), .pointer (some ⟨w.heap.size + 1, 0, none⟩)]) ∧ w' = (w.alloc (.cells #[.slice A n c] 22)).alloc (.cells #[u, v] 44) := by
  go_enter Try.func14, Try.ntmps14
  go_wp2_with fail
  go_ret
  exact ⟨rfl, rfl⟩
theorem filled_seq (w : World) (A : Option Addr) (n c : Nat) (s : List (BitVec 8)) (hs : Bs w w.heap.size A n s) (hn : n ≤ 100000) (hcap : n ≤ c)
    (A1 : Option Addr) (n1 c1 : Nat) (ns : List ByteArray) (hns : Cv w A1 (ns.map Value.string)) (hnl : ns.length = n1) (hn1 : n1 ≤ 100000) (A2 : Option Addr) (n2 c2 : Nat) (vs : List V1) (hvs : Vals w w.heap.size A2 vs) (hvl : vs.length = n2) (hn2 : n2 ≤ 100000)
    (hsm : ∀ v ∈ vs.map V1.s, v.length ≤ 1000) (hG : ∀ x ∈ pcs s, fits ns x.2) (m Bt Bk Bl : Nat) (w0 : World) (h0 : Below w.heap.size w w0) (hBt : Cel w0 Bt 22 [.slice A n c]) (hBk : Cel w0 Bk 44 [.slice A1 n1 c1, .slice A2 n2 c2]) (ht : Bt ≠ Bl) (hk : Bk ≠ Bl) (hBl : Bl < w0.heap.size) :
    SeqOwn Fence.wide m Try.prog 20 #[.pointer (some ⟨Bt, 0, none⟩), .pointer (some ⟨Bk, 0, none⟩)] (fun x : BitVec 8 => #[v8 x]) (Kp w.heap.size Bl) (fun xs => xs = (pcs s).flatMap (byP ns (vs.map V1.s))) (fun pre => ∃ r, pre ++ r = (pcs s).flatMap (byP ns (vs.map V1.s))) w0 := fun l J Jx W hW hJ hJx hY hJ0 =>
  callsIn_wide.2 (callsIn_wide.1 (filled1 w A n c s hs hn hcap A1 n1 c1 ns hns hnl hn1 A2 n2 c2 vs hvs hvl hn2 hsm hG l Bt Bk Bl J Jx W (h0.trans (hW.mono h0.size)) hJ hJx (fun pre x V h => yield_any (hY pre x V h)) (hBt.below hW hBt.lt) (hBk.below hW hBk.lt) ht hk (Nat.lt_of_lt_of_le hBl hW.size) hJ0))
theorem any_none (ns : List ByteArray) (vv : List (List (BitVec 8))) : ∀ l : List (List (BitVec 8)), l.any (fun n => (valR ns vv (str n)).isNone) = !((l.map str).all fun x => (findV ns x 0).isSome)
  | [] => rfl
  | a :: l => by
    rw [List.any_cons, any_none ns vv l, List.map_cons, List.all_cons]
    unfold valR
    cases findV ns (str a) 0 <;> simp
theorem names_fit {s : List (BitVec 8)} {l : List (List (BitVec 8))} {ns : List ByteArray} (h : names s = .ok l) (hl : s.length ≤ 100000) (ha : ((l.map str).all fun x => (findV ns x 0).isSome) = true) : ∀ x ∈ pcs s, fits ns x.2 := fun x hx => by
  refine ⟨fun hk => ?_, Nat.le_trans (pcsR_small _ _ _ x hx) hl⟩
  rw [names_pcs] at h
  rw [nmP_all (nmP_ok h)] at h
  injection h with h
  refine List.all_eq_true.1 ha _ (List.mem_map.2 ⟨x.2.t, ?_, rfl⟩)
  rw [← h]
  exact List.mem_flatMap.2 ⟨x, hx, by rw [if_pos hk]; simp⟩
theorem results_two {P : Program} {fn : Func} {tmps : Array Value} {w : World} (a b : Tmp) (t u : TypeId) (hr : fn.results = #[.cell a t, .cell b u]) (ad bd : Addr) (ha : tmps.getD a undef = .pointer (some ad)) (hb : tmps.getD b undef = .pointer (some bd)) (v x : Value) (hv : (loadVar t ad).run P w = .ok v w) (hx : (loadVar u bd).run P w = .ok x w) :
    (results fn tmps).run P w = .ok (.tuple #[v, x]) w := by
  unfold results
  rw [hr]
  simp only [List.mapM_toArray, List.mapM_cons, List.mapM_nil, ha, hb, asAddr]
  simp [hv, hx]
/-- Fill's two answers, in memory, still as they were made. -/
structure Fb (w V : World) : Prop where
  r0 : Cel V w.heap.size 22 [.slice none 0 0]
  r1 : Cel V (w.heap.size + 1) 27 [.int .i64 0]
  low : Below w.heap.size w V
theorem Fb.below {w V V' : World} (h : Fb w V) (hb : Below V.heap.size V V') : Fb w V' := ⟨h.r0.below hb h.r0.lt, h.r1.below hb h.r1.lt, h.low.trans (hb.mono h.low.size)⟩
theorem Fb.leave {w V : World} (h : Fb w V) (a b : Value) :
    Cel ((V.setCell ⟨w.heap.size, 0, none⟩ a).setCell ⟨w.heap.size + 1, 0, none⟩ b) w.heap.size 22 [a] ∧ Cel ((V.setCell ⟨w.heap.size, 0, none⟩ a).setCell ⟨w.heap.size + 1, 0, none⟩ b) (w.heap.size + 1) 27 [b] ∧
      Below w.heap.size w ((V.setCell ⟨w.heap.size, 0, none⟩ a).setCell ⟨w.heap.size + 1, 0, none⟩ b) ∧ KeepsOthers V ((V.setCell ⟨w.heap.size, 0, none⟩ a).setCell ⟨w.heap.size + 1, 0, none⟩ b) ∧ Frm [w.heap.size, w.heap.size + 1] V ((V.setCell ⟨w.heap.size, 0, none⟩ a).setCell ⟨w.heap.size + 1, 0, none⟩ b) :=
  ⟨(h.r0.set 0 a).far (p := ⟨w.heap.size + 1, 0, none⟩) (by simp) _, (h.r1.far (p := ⟨w.heap.size, 0, none⟩) (by simp) _).set 0 b,
    (h.low.setCell (p := ⟨w.heap.size, 0, none⟩) (Nat.le_refl _) _).setCell (p := ⟨w.heap.size + 1, 0, none⟩) (by simp) _, (KeepsOthers.setCell _ _ _).trans (KeepsOthers.setCell _ _ _),
    ((Frm.refl _ V).set (p := ⟨w.heap.size, 0, none⟩) (by simp) a).set (p := ⟨w.heap.size + 1, 0, none⟩) (by simp) b⟩
theorem Fb.own_ {w V V' : World} {row : Option Nat} {B' : Nat} (h : Fb w V) (hB : w.heap.size ≤ B') (hg : V.grownBy V' row) (hr : ∀ r, row = some r → B' ≤ r ∧ ∃ o : Obj, V.heap[r]? = some o ∧ o.isCells = false) : Fb w V' :=
  ⟨h.r0.own_ hg (fun r e => (hr r e).2), h.r1.own_ hg (fun r e => (hr r e).2), ownFrom_below (Nat.le_refl _) hB () V V' row h.low hg hr⟩
/-- What Fill's loop keeps: the line so far, in box N. -/
structure Fl (w : World) (N : Nat) (V : World) (pre : List (BitVec 8)) (A' : Option Addr) (m c' : Nat) : Prop where
  fb : Fb w V
  line : Cel V N 22 [.slice A' m c']
  row : Owb V w.heap.size A' m c' pre
  few : pre.length ≤ 200
theorem fl_own (w : World) (N B' : Nat) (hB : w.heap.size ≤ B') : OwnFrom B' (fun (pre : List (BitVec 8)) V => ∃ A' m c', Fl w N V pre A' m c') := by
  rintro s X Y row ⟨A', m, c', h⟩ hg hr
  exact ⟨A', m, c', h.fb.own_ hB hg hr, h.line.own_ hg (fun r e => (hr r e).2), own_own h.row hg (fun r e => (hr r e).2), h.few⟩
/-- Where the loop has left: a byte too many. -/
structure Fx (w V : World) : Prop where
  r0 : Cel V w.heap.size 22 [.slice none 0 0]
  r1 : Cel V (w.heap.size + 1) 27 [.int .i64 3]
  low : Below w.heap.size w V
theorem fx_own (w : World) (B' : Nat) (hB : w.heap.size ≤ B') (c : Code) : OwnFrom B' (fun (pre : List (BitVec 8)) V => c = .ret ∧ 200 < pre.length ∧ Fx w V) := by
  rintro s X Y row ⟨hc, hp, h⟩ hg hr
  exact ⟨hc, hp, h.r0.own_ hg (fun r e => (hr r e).2), h.r1.own_ hg (fun r e => (hr r e).2), ownFrom_below (Nat.le_refl _) hB () X Y row h.low hg hr⟩
/-- A byte more: appended, and stored. -/
theorem Fl.push {w V Va v8' : World} {N : Nat} {pre : List (BitVec 8)} {A' A8 : Option Addr} {m c' c8 : Nat} (h : Fl w N V pre A' m c') (hN : w.heap.size + 2 ≤ N) (x : BitVec 8) (h200 : pre.length < 200) (hba : Below V.heap.size V Va) (hg : Va.grownBy v8' (Value.slice A' m c').ownBlock)
    (ho : v8'.ownsRow w.heap.size 5 1 (.slice A8 (m + 1) c8) (m + 1) ((pre ++ [x]).map v8)) :
    Cel v8' N 22 [.slice A' m c'] ∧ KeepsOthers Va (v8'.setCell ⟨N, 0, none⟩ (.slice A8 (m + 1) c8)) ∧ Kp w.heap.size N V (v8'.setCell ⟨N, 0, none⟩ (.slice A8 (m + 1) c8)) ∧
      Fl w N (v8'.setCell ⟨N, 0, none⟩ (.slice A8 (m + 1) c8)) (pre ++ [x]) A8 (m + 1) c8 := by
  have hlw := h.fb.low.size
  have hra : Va.ownsRow w.heap.size 5 1 (.slice A' m c') m (pre.map v8) := h.row.below hba
  have go : ∀ {g : Nat} {t : TypeId} {cs : List Value}, Cel V g t cs → 5 ≠ t → Cel v8' g t cs := fun hc hne => grow_cel (hc.below hba hc.lt) hra hne hg
  have k3 := go h.line (by decide)
  refine ⟨k3, (KeepsOthers.of_grownBy hg (fun j o ej hj => by obtain ⟨cs, fz, rfl⟩ := own_cells hra j o ej hj; rfl)).trans (KeepsOthers.setCell _ _ _), ?_, ?_⟩
  · refine ((((Kp.refl _ _ V).call hba hlw).grown hg (Nat.le_trans hlw hba.size) (own_ge hra) (fun g cs t fz e hgg => .inl ?_))).set (by omega) 0 _
    obtain ⟨_, _, q⟩ := own_cells hra g _ e hgg
    injection q
  · refine ⟨⟨(go h.fb.r0 (by decide)).far (by simp; omega) _, (go h.fb.r1 (by decide)).far (by simp; omega) _, ?_⟩, k3.set 0 _, ?_, by rw [List.length_append]; simp; omega⟩
    · exact ((h.fb.low.trans (hba.mono hlw)).grown hg (Nat.le_trans hlw hba.size) (own_ge hra)).setCell (p := ⟨N, 0, none⟩) (by simp; omega) _
    · exact own_frm (l := [N]) ho ((Frm.refl _ _).set (p := ⟨N, 0, none⟩) (by simp) _) (by intro g hgm; simp at hgm; subst hgm; exact own_ty_ne ho k3 (by decide))
set_option maxRecDepth 100000 in
set_option maxHeartbeats 2000000 in
theorem pfill (w : World) (A : Option Addr) (n c : Nat) (s : List (BitVec 8)) (hs : Bs w w.heap.size A n s) (hn : n ≤ 100000) (hcap : n ≤ c)
    (A1 : Option Addr) (n1 c1 : Nat) (ns : List ByteArray) (hns : Cv w A1 (ns.map Value.string)) (hnl : ns.length = n1) (hn1 : n1 ≤ 100000) (A2 : Option Addr) (n2 c2 : Nat) (vs : List V1) (hvs : Vals w w.heap.size A2 vs) (hvl : vs.length = n2) (hn2 : n2 ≤ 100000)
    (hsm : ∀ v ∈ vs.map V1.s, v.length ≤ 1000) :
    Calls Try.prog 9 #[.slice A n c, .slice A1 n1 c1, .slice A2 n2 c2] w (FlSays w (fill s ns (vs.map V1.s))) := by
  obtain ⟨w1, hw1⟩ : ∃ w1, w1 = (w.alloc (.cells #[.slice none 0 0] 22)).alloc (.cells #[.int .i64 0] 27) := ⟨_, rfl⟩
  have hb1 : Below w.heap.size w w1 := by rw [hw1]; exact ((Below.refl _ _).alloc (Nat.le_refl _) _).alloc (by simp) _
  have hsz1 : w1.heap.size = w.heap.size + 1 + 1 := by rw [hw1]; simp
  have hF1 : Fb w w1 := ⟨by rw [hw1]; exact (Cel.new w _ _).alloc _, by rw [hw1]; exact (by simpa using Cel.new (w.alloc (.cells #[.slice none 0 0] 22)) 27 [.int .i64 0]), hb1⟩
  have con := pnames w1 A n c s ((hs.below hb1).more hb1.size) hn hcap
  have HF1 := Lib.hid hF1
  have HB1 := Lib.hid hb1
  have HSL := Lib.hid hs.len
  cases hnm : names s with
  | error p =>
    rw [hnm] at con
    have HE := Lib.hid (fill_bad (ns := ns) (vs := vs.map V1.s) hnm)
    clear hs hns hvs hsm hF1 hb1 hnm hnl hvl
    go_enter Try.func9, Try.ntmps9
    go_wp2_with fail
    rw [← hw1]
    clear hw1
    refine con.mono ?_
    clear con
    rintro e w2 ⟨hb2, rfl⟩
    have hF2 := HF1.out.below hb2
    have k0 := hF2.r0.cell 0
    have k1 := hF2.r1.cell 0
    have f0 := hF2.r0.free 0
    have f1 := hF2.r1.free 0
    have HF2 := Lib.hid hF2
    clear hF2 hb2
    go_wp2_with fail
    obtain ⟨q0, q1, ql, _, _⟩ := HF2.out.leave (.slice none 0 0) (.int .i64 2)
    have p0 := q0.cell 0
    have p1 := q1.cell 0
    refine bodyPost_ret (v := .tuple #[.slice none 0 0, .int .i64 2]) (by simp [results, Try.f9, go_sem, p0, p1]) rfl ?_
    exact fl_bad (k := 2) ql HE.out
  | ok l =>
    rw [hnm] at con
    have hfo := fill_pcs (ns := ns) (vs := vs.map V1.s) hnm
    rw [any_none] at hfo
    have hml : l.length ≤ 100000 := by have := namesR_len _ _ _ _ (by omega) hnm; have := hs.len; omega
    cases hall : (l.map str).all fun x => (findV ns x 0).isSome
    · have HE := Lib.hid (show fill s ns (vs.map V1.s) = .error 9 by rw [hfo, if_pos (by rw [hall]; rfl)])
      have HNS := Lib.hid hns
      clear hs hvs hsm hF1 hnm hvl hfo
      go_enter Try.func9, Try.ntmps9
      go_wp2_with fail
      rw [← hw1]
      clear hw1
      refine con.mono ?_
      clear con
      rintro e w2 ⟨hb2, A', m, c', rfl, hol⟩
      obtain ⟨w3, hw3⟩ : ∃ w3, w3 = w2.alloc (.cells #[.slice A1 n1 c1, .slice A2 n2 c2] 44) := ⟨_, rfl⟩
      have hb3 : Below w2.heap.size w2 w3 := by rw [hw3]; exact (Below.refl _ _).alloc (Nat.le_refl _) _
      have hc3 : Cel w3 w2.heap.size 44 [.slice A1 n1 c1, .slice A2 n2 c2] := by rw [hw3]; exact Cel.new w2 _ _
      have hb13 : Below w1.heap.size w1 w3 := hb2.trans (hb3.mono hb2.size)
      have hcx : Cv w3 A' ((l.map str).map Value.string) := fun hne => by
        have := Ry.of_own (hol.below hb3) (by decide)
        rw [show l.map scell = (l.map str).map Value.string by rw [List.map_map]; rfl] at this
        obtain ⟨ad, e, _, hc⟩ := this hne
        exact ⟨ad, e, hc⟩
      have con := phasAll w3 A1 n1 c1 ns (HNS.out.below (HB1.out.trans (hb13.mono HB1.out.size))) hnl hn1 A2 n2 c2 A' m c' (l.map str) hcx (by rw [List.length_map]; exact hol.len) (by have := hol.len; omega)
      rw [hall] at con
      have HF3 := Lib.hid (HF1.out.below hb13)
      have k0 := hc3.cell 0
      have k1 := hc3.cell 1
      clear hb2 hol hb3 hc3 hb13 hcx hall
      go_wp2_with fail
      rw [← hw3]
      clear hw3 k0 k1
      refine con.mono ?_
      clear con
      rintro e w4 ⟨rfl, hb4⟩
      have hF4 := HF3.out.below hb4
      have k0 := hF4.r0.cell 0
      have k1 := hF4.r1.cell 0
      have f0 := hF4.r0.free 0
      have f1 := hF4.r1.free 0
      have HF4 := Lib.hid hF4
      clear hF4 hb4
      go_wp2_with fail
      obtain ⟨q0, q1, ql, _, _⟩ := HF4.out.leave (.slice none 0 0) (.int .i64 9)
      have p0 := q0.cell 0
      have p1 := q1.cell 0
      refine bodyPost_ret (v := .tuple #[.slice none 0 0, .int .i64 9]) (by simp [results, Try.f9, go_sem, p0, p1]) rfl ?_
      exact fl_bad (k := 9) ql HE.out
    · have HG := Lib.hid (names_fit hnm (by have := hs.len; omega) hall)
      have HNS := Lib.hid hns
      have HSM := Lib.hid hsm
      have HVS := Lib.hid hvs
      have HS := Lib.hid hs
      obtain ⟨T, hT⟩ : ∃ T, T = (pcs s).flatMap (byP ns (vs.map V1.s)) := ⟨_, rfl⟩
      have HT := Lib.hid hT
      have HE := Lib.hid (show fill s ns (vs.map V1.s) = if 200 < T.length then .error 3 else .ok T by rw [hfo, if_neg (by rw [hall]; simp), ← hT])
      clear hs hvs hsm hF1 hnm hfo hT
      refine (callsIn_wide (n := 10)).1 ?_
      refine callsIn_of_wp_marks Try.func9 rfl trivial ?_ rfl
      simp only [Try.ntmps9, List.size_toArray, List.length_cons, List.length_nil, Nat.reduceAdd, Nat.reduceSub, Array.replicate_succ, Array.replicate_zero, List.push_toArray, List.append_toArray, List.nil_append, List.cons_append]
      gi_wp2
      rw [← hw1]
      clear hw1
      refine ⟨trivial, (callsIn_wide.2 con).mono ?_⟩
      clear con
      rintro e w2 ⟨hb2, A', m, c', rfl, hol⟩
      obtain ⟨w3, hw3⟩ : ∃ w3, w3 = w2.alloc (.cells #[.slice A1 n1 c1, .slice A2 n2 c2] 44) := ⟨_, rfl⟩
      have hb3 : Below w2.heap.size w2 w3 := by rw [hw3]; exact (Below.refl _ _).alloc (Nat.le_refl _) _
      have hc3 : Cel w3 w2.heap.size 44 [.slice A1 n1 c1, .slice A2 n2 c2] := by rw [hw3]; exact Cel.new w2 _ _
      have hb13 : Below w1.heap.size w1 w3 := hb2.trans (hb3.mono hb2.size)
      have hcx : Cv w3 A' ((l.map str).map Value.string) := fun hne => by
        have := Ry.of_own (hol.below hb3) (by decide)
        rw [show l.map scell = (l.map str).map Value.string by rw [List.map_map]; rfl] at this
        obtain ⟨ad, e, _, hc⟩ := this hne
        exact ⟨ad, e, hc⟩
      have con := phasAll w3 A1 n1 c1 ns (HNS.out.below (HB1.out.trans (hb13.mono HB1.out.size))) hnl hn1 A2 n2 c2 A' m c' (l.map str) hcx (by rw [List.length_map]; exact hol.len) (by have := hol.len; omega)
      rw [hall] at con
      have HF3 := Lib.hid (HF1.out.below hb13)
      have k0 := hc3.cell 0
      have k1 := hc3.cell 1
      have HC3 := Lib.hid hc3
      have hsz3 := hb13.size
      clear hb2 hol hb3 hc3 hb13 hcx hall
      gi_wp2
      rw [← hw3]
      clear hw3 k0 k1
      refine ⟨trivial, (callsIn_wide.2 con).mono ?_⟩
      clear con
      rintro e w4 ⟨rfl, hb4⟩
      have hF4 := HF3.out.below hb4
      have hc4 := HC3.out.below hb4 HC3.out.lt
      have lt4 := hc4.lt
      have k0 := hc4.cell 0
      have k1 := hc4.cell 1
      have HF4 := Lib.hid hF4
      have HC4 := Lib.hid hc4
      have hs4 := hb4.size
      clear hF4 hb4 hc4
      gi_wp2_with ((refine ⟨trivial, ?_⟩; refine (callsIn_wide.2 (pfilled A n c (.slice A1 n1 c1) (.slice A2 n2 c2) _)).mono ?_; rintro e w' ⟨rfl, rfl⟩))
      obtain ⟨W0, hW0⟩ : ∃ W0, W0 = ((w4.alloc (.cells #[.slice none 0 0] 22)).alloc (.cells #[.slice A n c] 22)).alloc (.cells #[.slice A1 n1 c1, .slice A2 n2 c2] 44) := ⟨_, rfl⟩
      rw [← hW0]
      have hb5 : Below w4.heap.size w4 W0 := by rw [hW0]; exact (((Below.refl _ _).alloc (Nat.le_refl _) _).alloc (by simp) _).alloc (by simp; omega) _
      have hsz0 : W0.heap.size = w4.heap.size + 1 + 1 + 1 := by rw [hW0]; simp
      have cl : Cel W0 w4.heap.size 22 [.slice none 0 0] := by rw [hW0]; exact ((Cel.new w4 _ _).alloc _).alloc _
      have ct : Cel W0 (w4.heap.size + 1) 22 [.slice A n c] := by rw [hW0]; exact (by simpa using Cel.new (w4.alloc (.cells #[.slice none 0 0] 22)) 22 [.slice A n c] : Cel _ (w4.heap.size + 1) _ _).alloc _
      have ck : Cel W0 (w4.heap.size + 1 + 1) 44 [.slice A1 n1 c1, .slice A2 n2 c2] := by rw [hW0]; exact (by simpa using Cel.new ((w4.alloc (.cells #[.slice none 0 0] 22)).alloc (.cells #[.slice A n c] 22)) 44 [.slice A1 n1 c1, .slice A2 n2 c2])
      have hF5 := HF4.out.below hb5
      have HF0 := Lib.hid (show Fl w w4.heap.size W0 [] none 0 0 from ⟨hF5, cl, Owb.nil_ _ _, by simp⟩)
      have hw2 : w.heap.size + 2 ≤ w4.heap.size := by omega
      have hlow : w.heap.size ≤ W0.heap.size := by omega
      have HCT := Lib.hid ct
      have HCK := Lib.hid ck
      have HL5 := Lib.hid hF5.low
      obtain ⟨_, i0, hi, hz0, hz1, hz2⟩ := rowB
      clear k0 k1 lt4 cl ct ck hF5 hb5 hW0 hs4 hsz3 hsz1
      refine range_own rfl (by decide) (gf := 20) (lb := #[.pointer (some ⟨w4.heap.size + 1, 0, none⟩), .pointer (some ⟨w4.heap.size + 1 + 1, 0, none⟩)]) rfl trivial (enters_of Try.func20 (by kernel_rfl) rfl)
        (filled_seq w A n c s HS.out hn hcap A1 n1 c1 ns HNS.out hnl hn1 A2 n2 c2 vs HVS.out hvl hn2 HSM.out HG.out (10 - 1) (w4.heap.size + 1) (w4.heap.size + 1 + 1) w4.heap.size W0 HL5.out HCT.out HCK.out (by omega) (by omega) (by omega)) (fun h k => h.trans k)
        (fun W R R' hR => (Kp.refl _ _ W).turn hR rfl (by omega) _) (fun _ => rfl)
        (fun pre V => ∃ A' m c', Fl w w4.heap.size V pre A' m c') (fun c pre V => c = .ret ∧ 200 < pre.length ∧ Fx w V) (fl_own w _ _ hlow) (fx_own w _ hlow) ⟨_, _, _, HF0.out⟩
        (fun x => { tmps := #[.slice A n c, .slice A1 n1 c1, .slice A2 n2 c2, undef, undef, undef, .pointer (some ⟨w.heap.size, 0, none⟩), .pointer (some ⟨w.heap.size + 1, 0, none⟩), .slice A' m c', .int .i64 0, .int .i64 0, .pointer (some ⟨w2.heap.size, 0, none⟩), .pointer (some ⟨w4.heap.size, 0, none⟩), v8 x, .tuple #[.slice A' m c', .int .i64 0, .int .i64 0], .slice A n c, .tuple #[.slice A' m c', .int .i64 0, .int .i64 0], .slice A' m c', .int .i64 0, .int .i64 0, .int .i64 0, .bool false, undef, .slice A1 n1 c1, .slice A2 n2 c2, .agg #[.slice A1 n1 c1, .slice A2 n2 c2], .agg #[.slice A1 n1 c1, .slice A2 n2 c2], .slice A' m c', .bool true, .bool false, .slice A n c, .agg #[.slice A1 n1 c1, .slice A2 n2 c2], .func (.func 20) #[] #[.pointer (some ⟨w4.heap.size + 1, 0, none⟩), .pointer (some ⟨w4.heap.size + 1 + 1, 0, none⟩)], v8 x, undef, undef, undef, undef, undef, undef, undef, undef], defers := [] }) ?assign ?body ?done ?stop
      case assign =>
        intro l x W K hK
        gi_wp2
        exact hK
      case body =>
        rintro l pre x V ⟨A3, m3, c3, hI⟩
        have hml := hI.row.len
        have hlw := hI.fb.low.size
        have k3 := hI.line.cell 0
        have f3 := hI.line.free 0
        have hfew := hI.few
        have HI := Lib.hid hI
        clear hI
        by_cases h200 : m3 = 200
        · have k0 := HI.out.fb.r0.cell 0
          have k1 := HI.out.fb.r1.cell 0
          have f0 := HI.out.fb.r0.free 0
          have f1 := HI.out.fb.r1.free 0
          have HL := Lib.hid (HI.out.fb.leave (.slice none 0 0) (.int .i64 3))
          have HPL := Lib.hid (show 200 < (pre ++ [x]).length by rw [List.length_append, hml]; simp; omega)
          subst h200
          clear hml hfew f3
          gi_wp2
          obtain ⟨q0, q1, ql, qk, _⟩ := HL.out
          exact ⟨qk.from _, rfl, HPL.out, q0, q1, ql⟩
        · have z200 : ((m3 : Int) == 200) = false := by simp; omega
          have HPU := Lib.hid (fun (Wa w8 : World) (A8 : Option Addr) (c8 : Nat) => HI.out.push (Va := Wa) (v8' := w8) (A8 := A8) (c8 := c8) hw2 x (by omega))
          have hm3 : m3 ≤ 200 := by omega
          obtain ⟨Wa, hWa⟩ : ∃ Wa, Wa = V.alloc (.cells #[v8 x] 5) := ⟨_, rfl⟩
          have hba : Below V.heap.size V Wa := by rw [hWa]; exact (Below.refl _ _).alloc (Nat.le_refl _) _
          have HBA := Lib.hid hba
          have HRA := Lib.hid (show Wa.ownsRow w.heap.size 5 1 (.slice A3 m3 c3) m3 (pre.map v8) from HI.out.row.below hba)
          have hba1 := hba.size
          have hca : ∀ j u, ([v8 x] : List Value)[j]? = some u → Wa.cell? ((⟨V.heap.size, 0, none⟩ : Addr).add j) = some u := by
            intro j u hu
            rw [add_row, hWa]
            exact ((Cel.new V 5 [v8 x]).cell j).trans hu
          have HCA := Lib.hid hca
          have HKA := Lib.hid (show KeepsOthers V Wa by rw [hWa]; exact KeepsOthers.alloc _ _)
          clear hba hca hml hfew h200
          gi_wp2_with ((rw [← hWa]; clear hWa; gi_at_builtin; refine wpListIn_append_own _ rfl _ _ 22 rfl w.heap.size 5 i0 (.int .u8 0) 1 1 Try.underlying22 hi hz0 hz1 hz2 rfl (by decide) _ _ _ rfl HRA.out ⟨V.heap.size, 0, none⟩ 1 1 [v8 x] rfl rfl HCA.out (by intro u hu; rw [List.mem_singleton.1 hu]; rfl) (by unfold maxLen; omega) (by omega) (by omega) ?_; intro v8' w8 ho8 hg8 _; obtain ⟨g8, c8, rfl⟩ := ownsRow_succ ho8; rw [show pre.map v8 ++ [v8 x] = (pre ++ [x]).map v8 by simp] at ho8; obtain ⟨h81, h82, h83, h84⟩ := HPU.out _ _ _ _ HBA.out hg8 ho8; have k8 := h81.cell 0; have f8 := h81.free 0; have H82 := Lib.hid (HKA.out.trans h82); have H83 := Lib.hid h83; have H84 := Lib.hid h84; clear h81 h82 h83 h84 ho8 hg8 k3 f3))
          exact ⟨H82.out.from _, H83.out, _, _, _, H84.out⟩
      case done =>
        rintro D ys V hD rfl ⟨A3, m3, c3, hI⟩ hK
        have HR := Lib.hid (show fill s ns (vs.map V1.s) = .ok T by rw [HE.out, HT.out, if_neg (by have := hI.few; omega)])
        rw [← HT.out] at hI
        have k0 := hI.fb.r0.cell 0
        have k1 := hI.fb.r1.cell 0
        have f0 := hI.fb.r0.free 0
        have f1 := hI.fb.r1.free 0
        have k3 := hI.line.cell 0
        have HI := Lib.hid hI
        have HHK := Lib.hid hK
        have HL := Lib.hid (hI.fb.leave (.slice A3 m3 c3) (.int .i64 0))
        clear hI hK
        gi_wp2
        obtain ⟨q0, q1, ql, qk, qf⟩ := HL.out
        have hK := qk.same D _ HHK.out rfl
        clear k0 k1 k3 f0 f1
        refine ⟨by simp, .inl ⟨_, _, rfl, run_takeDeferred hK, ?_⟩⟩
        have hg := grownBy_putObj' ((V.setCell ⟨w.heap.size, 0, none⟩ (.slice A3 m3 c3)).setCell ⟨w.heap.size + 1, 0, none⟩ (.int .i64 0)) D (.deferred none)
        have hr : ∀ r, some D = some r → ∃ o : Obj, ((V.setCell ⟨w.heap.size, 0, none⟩ (.slice A3 m3 c3)).setCell ⟨w.heap.size + 1, 0, none⟩ (.int .i64 0)).heap[r]? = some o ∧ o.isCells = false := fun r e => by cases e; exact ⟨_, hK, rfl⟩
        have p0 := (q0.own_ hg hr).cell 0
        have p1 := (q1.own_ hg hr).cell 0
        refine ⟨.tuple #[.slice A3 m3 c3, .int .i64 0], ?_, ?_⟩
        · simp [results, Try.f9, go_sem, p0, p1]
        · refine fl_ok (ql.trans (belowK_b (w := w) (Nat.le_refl _) _ D _ _ (by omega) hK rfl rfl)) HR.out (own_own (own_frm HI.out.row qf (fun g hgm => ?_)) hg hr)
          simp at hgm
          rcases hgm with rfl | rfl
          · exact own_ty_ne HI.out.row HI.out.fb.r0 (by decide)
          · exact own_ty_ne HI.out.row HI.out.fb.r1 (by decide)
      case stop =>
        rintro D c pre V hD ⟨r, hr⟩ ⟨rfl, hp, hI⟩ hK
        have HR := Lib.hid (show fill s ns (vs.map V1.s) = .error 3 by
          rw [HE.out, HT.out, ← hr, if_pos (by rw [List.length_append]; omega)])
        gi_wp2
        refine ⟨by simp, .inl ⟨_, _, rfl, run_takeDeferred hK, ?_⟩⟩
        have hg := grownBy_putObj' V D (.deferred none)
        have hrr : ∀ r, some D = some r → ∃ o : Obj, V.heap[r]? = some o ∧ o.isCells = false := fun r e => by cases e; exact ⟨_, hK, rfl⟩
        have p0 := (hI.r0.own_ hg hrr).cell 0
        have p1 := (hI.r1.own_ hg hrr).cell 0
        refine ⟨.tuple #[.slice none 0 0, .int .i64 3], ?_, fl_bad (k := 3) (hI.low.trans (belowK_b (w := w) (Nat.le_refl _) _ D _ _ (by omega) hK rfl rfl)) HR.out⟩
        simp [results, Try.f9, go_sem, p0, p1]
end Go.Proofs.Ytamklllmjppinaa.Vars
